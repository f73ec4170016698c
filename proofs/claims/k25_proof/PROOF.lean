import PyProof.Rows.All
import Wide.All
import OpenK.AllK
import Wide.FinOn
import PyProof.EqAt
import PyProof.EqKinds
import PyProof.TupleCall
import KE.BitLaws
import PySem.Challenge.RW_loopcube_k25_no_pokes
set_option Elab.async false
set_option linter.all false
set_option maxRecDepth 100000
namespace L2
open PySem PySem.Spec PyProof.Rows

abbrev Key := Sum Int Str
def keyIs : Key → Value → Bool
  | .inl k, v => Value.isInt k v
  | .inr x, v => Value.isStrOf x v
def keyH (w : World) : Key → Int
  | .inl k => hashInt k
  | .inr x => hashStr w x
theorem keyIs_shape : ∀ {k : Key} {v : Value}, keyIs k v = true → (∃ i t, k = Sum.inl i ∧ v = Value.int i t) ∨ (∃ x t, k = Sum.inr x ∧ v = Value.str x t)
  | .inl i, v, h => by
    obtain ⟨t, e⟩ := Value.isInt_shape (k := i) (v := v) h
    exact .inl ⟨i, t, rfl, e⟩
  | .inr x, v, h => by
    obtain ⟨t, e⟩ := Value.isStrOf_shape (x := x) (v := v) h
    exact .inr ⟨x, t, rfl, e⟩
theorem keyIs_int (i : Int) (t : Tok) : keyIs (.inl i) (.int i t) = true := by simp [keyIs, Value.isInt]
theorem keyIs_str (x : Str) (t : Tok) : keyIs (.inr x) (.str x t) = true := by simp [keyIs, Value.isStrOf]
theorem key_ll (a b : Int) : decide ((Sum.inl a : Key) = Sum.inl b) = (a == b) := by
  by_cases e : a = b
  · subst e; simp
  · have h : ¬ (Sum.inl a : Key) = Sum.inl b := fun q => e (Sum.inl.inj q)
    rw [decide_eq_false h]
    exact (beq_eq_false_iff_ne.mpr e).symm
theorem key_rr (a b : Str) : decide ((Sum.inr a : Key) = Sum.inr b) = decide (a = b) := by
  by_cases e : a = b
  · subst e; simp
  · have h : ¬ (Sum.inr a : Key) = Sum.inr b := fun q => e (Sum.inr.inj q)
    rw [decide_eq_false h, decide_eq_false e]
theorem key_lr (a : Int) (b : Str) : decide ((Sum.inl a : Key) = Sum.inr b) = false := decide_eq_false (fun q => nomatch q)
theorem key_rl (a : Str) (b : Int) : decide ((Sum.inr a : Key) = Sum.inl b) = false := decide_eq_false (fun q => nomatch q)

def mixKind (prog : Program) (w : World) : PySem.KeyKind prog w Key where
  is := keyIs
  hash := keyH w
  inj := fun v a b ha hb => by
    rcases keyIs_shape ha with ⟨i, t, rfl, rfl⟩ | ⟨x, t, rfl, rfl⟩
    · rcases keyIs_shape hb with ⟨j, u, rfl, e⟩ | ⟨y, u, rfl, e⟩
      · injection e with e1 _; rw [e1]
      · exact nomatch e
    · rcases keyIs_shape hb with ⟨j, u, rfl, e⟩ | ⟨y, u, rfl, e⟩
      · exact nomatch e
      · injection e with e1 _; rw [e1]
  byValue := fun k v h => by
    rcases keyIs_shape h with ⟨i, t, rfl, rfl⟩ | ⟨x, t, rfl, rfl⟩ <;> rfl
  pyHash := fun hv h => by
    rcases keyIs_shape hv with ⟨i, t, rfl, rfl⟩ | ⟨x, t, rfl, rfl⟩
    · exact wpAny_pyHash_int h
    · exact wpAny_pyHash_str h
  eqBool := fun hu hv h => by
    rcases keyIs_shape hu with ⟨i, t, rfl, rfl⟩ | ⟨x, t, rfl, rfl⟩
    · rcases keyIs_shape hv with ⟨j, u, rfl, rfl⟩ | ⟨y, u, rfl, rfl⟩
      · rw [key_ll] at h; exact wpAny_eqBool_int h
      · rw [key_lr] at h; exact SeqAt.EqAt.int_str i t y u _ _ _ _ h
    · rcases keyIs_shape hv with ⟨j, u, rfl, rfl⟩ | ⟨y, u, rfl, rfl⟩
      · rw [key_rl] at h; exact SeqAt.EqAt.str_int x t j u _ _ _ _ h
      · rw [key_rr] at h; exact wpAny_eqBool_str h
  «strs» := fun k x t v h => by
    rcases keyIs_shape h with ⟨i, u, rfl, e⟩ | ⟨y, u, rfl, e⟩
    · exact nomatch e
    · injection e with e1 _
      subst e1
      cases v <;> rfl

theorem mixKind_int (prog : Program) (w : World) (i : Int) (t : Tok) : (mixKind prog w).is (.inl i) (.int i t) = true := keyIs_int i t
theorem mixKind_str (prog : Program) (w : World) (x : Str) (t : Tok) : (mixKind prog w).is (.inr x) (.str x t) = true := keyIs_str x t
end L2

namespace L2
open PySem PySem.Spec PyProof.Rows

inductive V where
  | non | bl (b : Bool) | int (i : Int) | str (x : Str) | byt (b : Array UInt8) | flt (b : UInt64) | ref (a : Addr) | ty (n : String)
  deriving DecidableEq

def RelV : V → Value → Prop
  | .non, u => u = Value.none
  | .bl b, u => u = Value.bool b
  | .int i, u => ∃ t, u = Value.int i t
  | .str x, u => ∃ t, u = Value.str x t
  | .byt b, u => ∃ t, u = Value.bytes b t
  | .flt b, u => ∃ t, u = Value.float b t
  | .ref a, u => u = Value.ref a
  | .ty n, u => u = Value.type n

abbrev Vals : List V → List Value → Prop := Paired RelV
theorem Vals.length {xs : List V} {us : List Value} (r : Vals xs us) : xs.length = us.length := Paired.length r
theorem Vals.get : ∀ {xs : List V} {us : List Value} {i : Nat} {x : V}, Vals xs us → xs[i]? = some x → ∃ u, us[i]? = some u ∧ RelV x u
  | _, _, _, _, .nil, e => by simp at e
  | _, _, 0, _, .cons r _, e => by simp at e; subst e; exact ⟨_, rfl, r⟩
  | _, _, i + 1, x, .cons _ t, e => by
    obtain ⟨u, h1, h2⟩ := Vals.get (i := i) (x := x) t (by simpa using e)
    exact ⟨u, by simpa using h1, h2⟩
theorem Vals.set {x : V} {u : Value} (r : RelV x u) : ∀ {xs : List V} {us : List Value} (i : Nat), Vals xs us → Vals (xs.set i x) (us.set i u)
  | _, _, _, .nil => .nil
  | _, _, 0, .cons _ t => .cons r t
  | _, _, i + 1, .cons q t => .cons q (Vals.set r i t)
theorem Vals.append : ∀ {xs ys : List V} {us ws : List Value}, Vals xs us → Vals ys ws → Vals (xs ++ ys) (us ++ ws)
  | _, _, _, _, .nil, s => s
  | _, _, _, _, .cons r t, s => .cons r (Vals.append t s)
theorem Vals.take : ∀ {xs : List V} {us : List Value} (n : Nat), Vals xs us → Vals (xs.take n) (us.take n)
  | _, _, 0, _ => .nil
  | _, _, _ + 1, .nil => .nil
  | _, _, n + 1, .cons r t => .cons r (Vals.take n t)
theorem Vals.drop : ∀ {xs : List V} {us : List Value} (n : Nat), Vals xs us → Vals (xs.drop n) (us.drop n)
  | _, _, 0, r => r
  | _, _, _ + 1, .nil => .nil
  | _, _, n + 1, .cons _ t => Vals.drop n t
def RelO : Option V → Option Value → Prop
  | some v, some u => RelV v u
  | none, none => True
  | _, _ => False
def KV {κ : Type} : List (κ × V) → List (κ × Value) → Prop := Paired fun (p : κ × V) (q : κ × Value) => p.1 = q.1 ∧ RelV p.2 q.2

def kV : Key → V
  | .inl i => .int i
  | .inr x => .str x

abbrev PKey := Int × Bool
section
variable {P : Program} {w : World} {A : Around} {E : Value → Shared → Prop} {s : Shared}
def IsIB (h : Heap) (k : PKey) (a : Addr) : Prop := ∃ o n t, h.get? a = some o ∧ o.cls = .type "tuple" ∧ o.data = .seq #[.int k.1 t, .bool k.2] n
theorem IsIB.ty {k : PKey} {a : Addr} (x : IsIB s.heap k a) : s.TypeIs (.ref a) "tuple" := by
  obtain ⟨o, _, _, e, c, _⟩ := x
  exact ⟨o, e, c⟩
theorem IsIB.inj {h : Heap} {a : Addr} {x y : PKey} (hx : IsIB h x a) (hy : IsIB h y a) : x = y := by
  obtain ⟨o, n, t, e, _, d⟩ := hx
  obtain ⟨o', n', t', e', _, d'⟩ := hy
  have : o = o' := Option.some.inj (e.symm.trans e')
  subst this
  have z : #[Value.int x.1 t, Value.bool x.2] = #[Value.int y.1 t', Value.bool y.2] := by
    have := d.symm.trans d'
    injection this
  have zl := congrArg Array.toList z
  simp only [List.cons.injEq, Value.int.injEq, Value.bool.injEq, and_true] at zl
  exact Prod.ext zl.1.1 zl.2
theorem IsIB.stays {h h' : Heap} {k : PKey} {a d : Addr} {o : Obj} {es : Array DictEntry} {ep : Nat} (x : IsIB h k a) (ho : h.get? d = some o) (hd : o.data = .dict es ep) (hs : Heap.SameBut d h h') : IsIB h' k a := by
  obtain ⟨o', n, t, e, c, dt⟩ := x
  have ne : a ≠ d := fun z => by
    subst z
    have : o' = o := Option.some.inj (e.symm.trans ho)
    rw [this, hd] at dt; cases dt
  exact ⟨o', n, t, (hs.2 a ne).trans e, c, dt⟩
def hashB (b : Bool) : Int := hashInt (if b then 1 else 0)
def ibHash (k : PKey) : Int := reduceHash (Builtin.Tuple.tupleHashOf [hashInt k.1, hashB k.2])
theorem hash_bool {b : Bool} {Q : Int → Shared → Prop} (h : Q (hashB b) { s with toks := s.toks + 1 }) : wpAny (model P w) A (pyHash (.bool b)) Q E s := by
  have hr := rawHash_range (if b then 1 else 0)
  have hT : s.TypeIs (.bool b) "bool" := rfl
  unfold pyHash
  have hv : [Value.bool b].any Value.onHeap = false := rfl
  refine wpAny_bind ?_
  rw [cRoomFor, if_neg (by rw [hv]; exact Bool.false_ne_true)]; refine wpAny_pure ?_
  refine wpAny_bind (wpAny_specialOf hT F.slot_bool_hash.lookup ?_)
  show wpAny _ _ (if (some (Value.builtin "int.__hash__") == some Value.none) = true then _ else _) Q E s
  rw [if_neg (by rw [beq_builtin_none]; exact Bool.false_ne_true)]
  refine wpAny_bind (wpAny_specialOf hT F.slot_bool_hash.lookup ?_)
  show wpAny _ _ (callSpecialIfBoundUnlessNone? (.bool b) "__hash__" _ >>= _) Q E s
  refine wpAny_bind (wpAny_callSpecialIfBoundUnlessNone?_slot hT F.slot_bool_hash
    (wpAny_call_entry F.slot_bool_hash hT F.entry_int_hash
      (show wpAny _ _ (do ret (← mkInt (rawHash (if b then 1 else 0)))) _ _ s from wpAny_ret_mkInt ?_) (F.args_int_hash_1 _)))
  show wpAny _ _ (if (decide (-(2 : Int) ^ 63 ≤ rawHash (if b then 1 else 0)) && decide (rawHash (if b then 1 else 0) < 2 ^ 63)) = true then _ else _) Q E _
  rw [if_pos (by rw [decide_eq_true hr.1, decide_eq_true hr.2]; rfl)]
  exact wpAny_pure h
theorem ib_hash {k : PKey} {a : Addr} {Q : Int → Shared → Prop} (hu : A.units + 3 < cLine) (hk : IsIB s.heap k a) (h : Q (ibHash k) { s with toks := s.toks + 3 }) : wpAny (model P w) A (pyHash (.ref a)) Q E s := by
  have hT := hk.ty
  obtain ⟨o, n, t, e, _, d⟩ := hk
  unfold pyHash
  refine wpAny_bind (wpAny_cRoomFor_or (.inr (by omega)) (wpAny_bind (wpAny_specialOf hT F.slot_tuple_hash.lookup ?_)))
  show wpAny _ _ (if (some (Value.builtin "tuple.__hash__") == some Value.none) = true then _ else _) _ _ _
  rw [if_neg (by rw [beq_builtin_none]; decide)]
  refine wpAny_bind (wpAny_specialOf hT F.slot_tuple_hash.lookup ?_)
  show wpAny _ _ (callSpecialIfBoundUnlessNone? (.ref a) "__hash__" _ >>= _) _ _ _
  refine wpAny_bind (wpAny_callSpecialIfBoundUnlessNone?_slot hT F.slot_tuple_hash (wpAny_call_entry F.slot_tuple_hash hT F.entry_tuple_hash ?_ (F.args_tuple_hash_1 _)))
  show wpAny _ _ (Builtin.Tuple.tupleItemsOf (.ref a) >>= _) _ _ _
  refine wpAny_bind (wpAny_tupleItemsOf e d (wpAny_bind ?_))
  rw [← Array.forIn_toList]
  let g1 := hashInt k.1
  let g2 := hashB k.2
  refine wpAny_forIn_list _ (fun rest (b : Array Int) s' => (rest = [.int k.1 t, .bool k.2] ∧ b = #[] ∧ s' = s) ∨ (rest = [.bool k.2] ∧ b = #[g1] ∧ s' = { s with toks := s.toks + 1 }) ∨ (rest = [] ∧ b = #[g1, g2] ∧ s' = { s with toks := s.toks + 2 })) _ ?_ ?_ _ _ (.inl ⟨rfl, rfl, rfl⟩)
  · rintro x rest b s' (⟨z, rfl, rfl⟩ | ⟨z, rfl, rfl⟩ | ⟨z, _⟩)
    · cases z
      refine wpAny_bind (wpAny_pyHash_int ?_)
      first
        | exact wpAny_pure (.inr (.inl ⟨rfl, rfl, rfl⟩))
        | exact wpAny_bind (wpAny_pure (wpAny_pure (.inr (.inl ⟨rfl, rfl, rfl⟩))))
    · cases z
      refine wpAny_bind (hash_bool ?_)
      first
        | exact wpAny_pure (.inr (.inr ⟨rfl, rfl, rfl⟩))
        | exact wpAny_bind (wpAny_pure (wpAny_pure (.inr (.inr ⟨rfl, rfl, rfl⟩))))
    · cases z
  · rintro b s' (⟨z, _⟩ | ⟨z, _⟩ | ⟨_, rfl, rfl⟩)
    · cases z
    · cases z
    · show wpAny _ _ (retInt (Builtin.Tuple.tupleHashOf [g1, g2])) _ _ _
      refine wpAny_ret_mkInt ?_
      have e0 : ibHash k = reduceHash (Builtin.Tuple.tupleHashOf [g1, g2]) := rfl
      rw [e0] at h
      unfold reduceHash at h
      show wpAny _ _ (if (decide (-(2 : Int) ^ 63 ≤ Builtin.Tuple.tupleHashOf [g1, g2]) && decide (Builtin.Tuple.tupleHashOf [g1, g2] < 2 ^ 63)) = true then _ else _) _ _ _
      by_cases hr : (decide (-(2 : Int) ^ 63 ≤ Builtin.Tuple.tupleHashOf [g1, g2]) && decide (Builtin.Tuple.tupleHashOf [g1, g2] < 2 ^ 63)) = true
      · rw [if_pos hr]
        rw [if_pos hr] at h
        exact wpAny_pure (by simpa [Nat.add_assoc] using h)
      · rw [if_neg hr]
        rw [if_neg hr] at h
        refine wpAny_bind (wpAny_rule (wpAny_pure ?_))
        simpa [Nat.add_assoc] using h
theorem ib_eq_tree {x y : PKey} {a b : Addr} {R : Fin → Shared → Prop} (hx : IsIB s.heap x a) (hy : IsIB s.heap y b) (h : R (.done (.ret (.bool (decide (x = y))))) s) : wpAny (model P w) A (Builtin.«tuple.__eq__» ⟨[.ref a, .ref b], []⟩) R E s := by
  have hT := hy.ty
  obtain ⟨o, n, t, e, _, d⟩ := hx
  obtain ⟨o', n', t', e', _, d'⟩ := hy
  show wpAny _ _ (isInstance (.ref b) (.type "tuple") >>= _) _ _ s
  refine wpAny_bind (wpAny_isInstance hT isSubtype_tuple_tuple ?_)
  simp only [Bool.not_true, Bool.false_eq_true, if_false]
  refine wpAny_bind (wpAny_tupleItemsOf e d (wpAny_bind (wpAny_tupleItemsOf e' d' (wpAny_bind ?_))))
  refine wpAny_forIn_list _ (fun rest r s' => r.1 = none ∧ s' = s ∧ (rest = [(.int x.1 t, .int y.1 t'), (.bool x.2, .bool y.2)] ∨ (rest = [(.bool x.2, .bool y.2)] ∧ x.1 = y.1) ∨ (rest = [] ∧ x = y))) _ ?_ ?_ _ _ ⟨rfl, rfl, .inl rfl⟩
  · rintro ⟨u, v⟩ rest r s' ⟨hr, rfl, z | ⟨z, e1⟩ | ⟨z, _⟩⟩
    · cases z
      refine wpAny_bind (wpAny_eqBool_int ?_)
      by_cases q1 : x.1 = y.1
      · rw [show (x.1 == y.1) = true by simpa using q1]
        simp only [Bool.not_true, Bool.false_eq_true, if_false]
        exact wpAny_pure ⟨by trivial, by trivial, .inr (.inl ⟨by trivial, q1⟩)⟩
      · rw [show (x.1 == y.1) = false by simpa using q1]
        simp only [Bool.not_false, if_true]
        have : decide (x = y) = false := decide_eq_false fun k => q1 (by rw [k])
        rw [this] at h
        refine wpAny_bind (wpAny_pure (wpAny_pure ?_))
        exact wpAny_pure h
    · cases z
      refine wpAny_bind ((SeqAt.EqAt.bool_bool (A := A) (s := s') x.2 y.2) P w _ _ ?_)
      by_cases q1 : x.2 = y.2
      · rw [show (x.2 == y.2) = true by simpa using q1]
        simp only [Bool.not_true, Bool.false_eq_true, if_false]
        exact wpAny_pure ⟨by trivial, by trivial, .inr (.inr ⟨by trivial, Prod.ext e1 q1⟩)⟩
      · rw [show (x.2 == y.2) = false by simpa using q1]
        simp only [Bool.not_false, if_true]
        have : decide (x = y) = false := decide_eq_false fun k => q1 (by rw [k])
        rw [this] at h
        refine wpAny_bind (wpAny_pure (wpAny_pure ?_))
        exact wpAny_pure h
    · cases z
  · rintro ⟨r1, r2⟩ s' ⟨hr, rfl, z | ⟨z, e1⟩ | ⟨_, exy⟩⟩
    · cases z
    · cases z
    · simp only at hr
      subst hr
      refine wpAny_pure ?_
      rw [decide_eq_true exy] at h
      exact h
theorem ib_eqBool {x y : PKey} {a b : Addr} {Q : Bool → Shared → Prop} (hu : A.units + 3 < cLine) (hx : IsIB s.heap x a) (hy : IsIB s.heap y b) (h : Q (decide (x = y)) s) : wpAny (model P w) A (eqBool (.ref a) (.ref b)) Q E s := by
  unfold eqBool
  try with_reducible refine wpAny_holding ?_
  show wpAny _ _ (if (Value.ref a == Value.ref b) = true then _ else _) _ _ _
  by_cases hab : (Value.ref a == Value.ref b) = true
  · rw [if_pos hab]
    have e : a = b := Value.ref.inj (eq_of_beq hab)
    subst e
    rw [decide_eq_true (hx.inj hy)] at h
    exact wpAny_bind (wpAny_rule (wpAny_pure h))
  · rw [if_neg hab]
    refine wpAny_bind (wpAny_richCompare_same_room (op := .Eq) hx.ty hy.ty F.slot_tuple_eq (wpAny_call_entry F.slot_tuple_eq hx.ty F.entry_tuple_eq ?_ (F.args_tuple_eq_2 _ _)) (by omega))
    exact ib_eq_tree hx hy ⟨_, rfl, (fun e => nomatch e), wpAny_truthy_bool h⟩
theorem ib_quiet {k : PKey} {a : Addr} {Q : Bool → Shared → Prop} (hk : IsIB s.heap k a) (h : Q true s) : wpAny (model P w) A (eqIsQuiet 8 (.ref a)) Q E s := by
  have hT := hk.ty
  obtain ⟨o, m, t, ho, _, hd⟩ := hk
  unfold eqIsQuiet
  refine wpAny_bind (wpAny_specialOf hT F.slot_tuple_eq.lookup ?_)
  show wpAny _ _ (isInstance (.ref a) (.type "tuple") >>= _) _ _ _
  refine wpAny_bind (wpAny_isInstance hT isSubtype_tuple_tuple ?_)
  simp only [Bool.not_true, Bool.false_eq_true, if_false]
  refine wpAny_bind (wpAny_seqItems ho hd (wpAny_bind ?_))
  show wpAny _ _ (forIn #[Value.int k.1 t, Value.bool k.2] _ _) _ _ _
  rw [← Array.forIn_toList]
  refine wpAny_forIn_list _ (fun rest r s' => r.1 = none ∧ s' = s ∧ ∀ v ∈ rest, carriedByValue v = true) _ (fun v rest r s' hyp => ?_) (fun r s' hyp => ?_) _ _ ⟨rfl, rfl, fun v hv => by
    rcases List.mem_cons.mp hv with z | z
    · rw [z]; rfl
    · rw [List.mem_singleton.mp z]; rfl⟩
  · obtain ⟨_, rfl, hall⟩ := hyp
    rw [eqIsQuiet_byValue _ (hall v List.mem_cons_self)]
    refine wpAny_bind (wpAny_pure ?_)
    simp only [Bool.not_true, Bool.false_eq_true, if_false]
    exact wpAny_pure ⟨rfl, rfl, fun u hu' => hall u (List.mem_cons_of_mem _ hu')⟩
  · obtain ⟨r1, r2⟩ := r
    obtain ⟨hr, rfl, _⟩ := hyp
    simp only at hr
    subst hr
    exact wpAny_pure h
def pairKind (P : Program) (w : World) : HeapKind P w PKey where
  is := IsIB
  hash := ibHash
  draws := fun _ => 3
  room := fun A => A.units + 3 < cLine
  inj := fun x y => x.inj y
  keeps := fun x ho hd hs => x.stays ho hd hs
  pyHash := fun hu hk h => ib_hash hu hk h
  eqBool := fun hu x y h => ib_eqBool hu x y h
  quiet := fun hk h => ib_quiet hk h
end
inductive HO where
  /-- a list -/
  | lst (xs : List V)
  /-- a tuple (never changes) -/
  | tup (xs : List V)
  /-- a dict whose keys are ints and texts; one whose keys are tuples of ints and texts (the empty one is both) -/
  | dK (kvs : List (Key × V)) | dT (kvs : List (List Key × V)) | dN (kvs : List (PKey × V))
  /-- a set of ints: its members, its size -/
  | set (S : Int → Bool) (n : Nat)
  /-- an instance of the class at C, its dict at dx, its attributes -/
  | ins (C dx : Addr) (fs : List (Str × V))
  /-- the dict of the instance at x -/
  | own (x : Addr)
  /-- the dict of an exception -/
  | xd (fs : List (Str × V))
  /-- a bound method, f of x -/
  | met (f x : Addr)
  /-- a range object lo, lo + 1, .. below hi -/
  | rng (lo hi : Int)
  /-- a thing that is known to the object (the script; a dict while a loop walks it): read, never written while it is so -/
  | frz (o : Obj) (u : HO)
  /-- a code object's table -/
  | tbl (ps : Array Value)
  /-- any other thing, by what is true of its one object (a def of one's own: SetO a S n := HO.ext fun h => ..) -/
  | ext (φ : Heap → Prop)

abbrev Hp := Addr → Option HO
def upd (H : Hp) (a : Addr) (o : HO) : Hp := fun b => if b = a then some o else H b
theorem upd_same {H : Hp} {a : Addr} {o : HO} : upd H a o a = some o := by unfold upd; rw [if_pos rfl]
theorem upd_ne {H : Hp} {a b : Addr} {o : HO} (h : b ≠ a) : upd H a o b = H b := by unfold upd; rw [if_neg h]
theorem ne_of {H : Hp} {a b : Addr} {o u : HO} (h : H a = some o) (h' : H b = some u) (d : o ≠ u) : a ≠ b := by
  intro e; subst e; rw [h] at h'; exact d (Option.some.inj h')
theorem ne_of_none {H : Hp} {a b : Addr} {o : HO} (h : H a = some o) (h' : H b = none) : a ≠ b := by
  intro e; subst e; rw [h] at h'; cases h'

def KeyN (H : Hp) (k : PKey) (b : Addr) : Prop := H b = some (.tup [.int k.1, .bl k.2])
theorem KeyN.keeps {H H' : Hp} {k : PKey} {b : Addr} (x : KeyN H k b) (ht : ∀ b ys, H b = some (.tup ys) → H' b = some (.tup ys)) : KeyN H' k b := ht _ _ x
section
variable (P : Program) (w : World)
def ObjOk (H : Hp) (h : Heap) (a : Addr) : HO → Prop
  | .lst xs => xs.length ≤ sizeLine ∧ ∃ (its : List Value) (n : Nat), Vals xs its ∧ h.get? a = some { cls := .type "list", data := .seq its.toArray n }
  | .tup xs => xs.length ≤ sizeLine ∧ ∃ its : List Value, Vals xs its ∧ ∃ o, h.get? a = some o ∧ o.cls = .type "tuple" ∧ ∃ n, o.data = .seq its.toArray n ∧ o.dict = none
  | .dK kvs => kvs.length ≤ sizeLine ∧ (a == sysModules) = false ∧ ∃ vs, KV kvs vs ∧ h.DictOf (mixKind P w) a vs
  | .dT kvs => kvs.length ≤ sizeLine ∧ (a == sysModules) = false ∧ ∃ xs : List (List Key × Addr × Value),
      Paired (fun (p : List Key × V) (q : List Key × Addr × Value) => p.1 = q.1 ∧ H q.2.1 = some (.tup (p.1.map kV)) ∧ RelV p.2 q.2.2) kvs xs ∧
      ∃ o es ep, h.get? a = some o ∧ o.ExactDict ∧ o.data = .dict es ep ∧ es.toList = xs.map (entryOfKey (tupleKind (mixKind P w))) ∧ (xs.map (·.1)).Nodup
  | .dN kvs => kvs.length ≤ sizeLine ∧ (a == sysModules) = false ∧ ∃ xs : List (PKey × Addr × Value),
      Paired (fun (p : PKey × V) (q : PKey × Addr × Value) => p.1 = q.1 ∧ KeyN H p.1 q.2.1 ∧ RelV p.2 q.2.2) kvs xs ∧
      ∃ o es ep, h.get? a = some o ∧ o.ExactDict ∧ o.data = .dict es ep ∧ es.toList = xs.map (entryOfKey (pairKind P w)) ∧ (xs.map (·.1)).Nodup
  | .set S n => h.SetOf (intKind P w) a S n
  | .ins C dx fs => H dx = some (.own a) ∧ fs.length ≤ 1000 ∧ dx ≠ a ∧ h.get? a = some (PySem.W.instObj C dx) ∧
      ∃ mA, h.Ns1 dx mA ∧ (∀ f, RelO (fs.lookup f) (mA f)) ∧ PySem.Within mA (fs.map (·.1))
  | .own _ => ∃ o, h.get? a = some o
  | .xd fs => ∃ mA, h.Ns1 a mA ∧ ∀ f, RelO (fs.lookup f) (mA f)
  | .rng lo hi => ∃ t u v, h.get? a = some { cls := .type "range", data := .fields #[.int lo t, .int hi u, .int 1 v] }
  | .frz o u => h.get? a = some o ∧ ObjOk H h a u
  | .tbl ps => h.get? a = some { cls := .none, data := .fields ps }
  | .met f x => h.get? a = some (PySem.W.methodObj (.ref f) (.ref x))
  | .ext φ => φ h ∧ (∃ o, h.get? a = some o) ∧ ∀ h1 h2 : Heap, φ h1 → (∀ o, h1.get? a = some o → h2.get? a = some o) → φ h2
def HOk (H : Hp) (h : Heap) : Prop := ∀ a o, H a = some o → ObjOk P w H h a o
end

section
variable {P : Program} {w : World} {H H' : Hp} {h h' : Heap} {a : Addr} {o : HO}
theorem ObjOk.lt (x : ObjOk P w H h a o) : a < h.objs.size := by
  cases o with
  | lst xs => obtain ⟨_, _, _, _, e⟩ := x; exact Heap.lt_size e
  | tup xs => obtain ⟨_, _, _, _, p, _⟩ := x; exact Heap.lt_size p
  | dK kvs => obtain ⟨_, _, _, _, o, _, _, e, _⟩ := x; exact Heap.lt_size e
  | dT kvs => obtain ⟨_, _, _, _, o, _, _, e, _⟩ := x; exact Heap.lt_size e
  | dN kvs => obtain ⟨_, _, _, _, o, _, _, e, _⟩ := x; exact Heap.lt_size e
  | set S n => obtain ⟨o, _, _, _, e, _⟩ := x; exact Heap.lt_size e
  | ins C dx fs => obtain ⟨_, _, _, e, _⟩ := x; exact Heap.lt_size e
  | own y => obtain ⟨_, e⟩ := x; exact Heap.lt_size e
  | xd fs => obtain ⟨_, ⟨_, _, _, e, _⟩, _⟩ := x; exact Heap.lt_size e
  | rng lo hi => obtain ⟨_, _, _, e⟩ := x; exact Heap.lt_size e
  | frz ob u => obtain ⟨e, _⟩ := x; exact Heap.lt_size e
  | tbl ps => exact Heap.lt_size (show h.get? a = some _ from x)
  | met f y => exact Heap.lt_size (show h.get? a = some _ from x)
  | ext φ => obtain ⟨_, ⟨_, e⟩, _⟩ := x; exact Heap.lt_size e
theorem Paired.mapP {α β : Type} {F G : α → β → Prop} : ∀ {l₁ : List α} {l₂ : List β}, Paired F l₁ l₂ → (∀ a b, F a b → G a b) → Paired G l₁ l₂
  | _, _, .nil, _ => .nil
  | _, _, .cons r t, f => .cons (f _ _ r) (Paired.mapP t f)
theorem ObjOk.stay (x : ObjOk P w H h a o) (k : ∀ b u, (b = a ∨ H b = some (.own a)) → h.get? b = some u → h'.get? b = some u)
    (ho : ∀ b, H b = some (.own a) → H' b = some (.own a)) (ht : ∀ b xs, H b = some (.tup xs) → H' b = some (.tup xs)) : ObjOk P w H' h' a o := by
  induction o with
  | lst xs => obtain ⟨z, its, n, r, e⟩ := x; exact ⟨z, its, n, r, k _ _ (.inl rfl) e⟩
  | tup xs => obtain ⟨z, its, r, ob, e, c⟩ := x; exact ⟨z, its, r, ob, k _ _ (.inl rfl) e, c⟩
  | dK kvs => obtain ⟨z, y, vs, r, ob, es, ep, e, c⟩ := x; exact ⟨z, y, vs, r, ob, es, ep, k _ _ (.inl rfl) e, c⟩
  | dT kvs =>
    obtain ⟨z, y, xs, r, ob, es, ep, e, c⟩ := x
    exact ⟨z, y, xs, Paired.mapP r fun p q z => ⟨z.1, ht _ _ z.2.1, z.2.2⟩, ob, es, ep, k _ _ (.inl rfl) e, c⟩
  | dN kvs =>
    obtain ⟨z, y, xs, r, ob, es, ep, e, c⟩ := x
    exact ⟨z, y, xs, Paired.mapP r fun p q z => ⟨z.1, z.2.1.keeps ht, z.2.2⟩, ob, es, ep, k _ _ (.inl rfl) e, c⟩
  | set S n => obtain ⟨ob, es, ep, t, e, c⟩ := x; exact ⟨ob, es, ep, t, k _ _ (.inl rfl) e, c⟩
  | ins C dx fs =>
    obtain ⟨d, z, ne, e, mA, ⟨od, es, ep, e2, c⟩, r⟩ := x
    exact ⟨ho _ d, z, ne, k _ _ (.inl rfl) e, mA, ⟨od, es, ep, k _ _ (.inr d) e2, c⟩, r⟩
  | own y => obtain ⟨ob, e⟩ := x; exact ⟨ob, k _ _ (.inl rfl) e⟩
  | xd fs => obtain ⟨mA, ⟨od, es, ep, e, c⟩, r⟩ := x; exact ⟨mA, ⟨od, es, ep, k _ _ (.inl rfl) e, c⟩, r⟩
  | rng lo hi => obtain ⟨t, u, v, e⟩ := x; exact ⟨t, u, v, k _ _ (.inl rfl) e⟩
  | frz ob u ih => obtain ⟨e, q⟩ := x; exact ⟨k _ _ (.inl rfl) e, ih q⟩
  | tbl ps =>
    have e : h.get? a = some { cls := .none, data := .fields ps } := x
    show h'.get? a = some { cls := .none, data := .fields ps }
    exact k a _ (.inl rfl) e
  | met f y =>
    have e : h.get? a = some (PySem.W.methodObj (.ref f) (.ref y)) := x
    show h'.get? a = some (PySem.W.methodObj (.ref f) (.ref y))
    exact k a _ (.inl rfl) e
  | ext φ => obtain ⟨p, ⟨o, e⟩, st⟩ := x; exact ⟨st _ _ p fun o q => k _ _ (.inl rfl) q, ⟨o, k _ _ (.inl rfl) e⟩, st⟩
theorem HOk.lt (x : HOk P w H h) (e : H a = some o) : a < h.objs.size := (x a o e).lt
theorem HOk.fresh (x : HOk P w H h) (e : h.objs.size ≤ a) : H a = none := by
  cases q : H a with
  | none => rfl
  | some u => exact absurd (Nat.lt_of_lt_of_le (x.lt q) e) (Nat.lt_irrefl _)
theorem HOk.kept (x : HOk P w H h) (k : ∀ b u, h.get? b = some u → h'.get? b = some u) : HOk P w H h' := fun a o e =>
  (x a o e).stay (fun b u _ q => k b u q) (fun _ q => q) fun _ _ q => q
theorem HOk.laid (x : HOk P w H h) (k : ∀ b u, h.get? b = some u → h'.get? b = some u) (hp : h.objs.size ≤ a) (new : ObjOk P w (upd H a o) h' a o) : HOk P w (upd H a o) h' := fun b u e => by
  have hn := x.fresh hp
  by_cases hb : b = a
  · subst hb; rw [upd_same] at e; cases e; exact new
  · rw [upd_ne hb] at e
    exact (x b u e).stay (fun c v _ q => k c v q) (fun c q => by rw [upd_ne (ne_of_none q hn)]; exact q) fun c xs q => by rw [upd_ne (ne_of_none q hn)]; exact q
end

def Rd (H : Hp) (a : Addr) (u : HO) : Prop := H a = some u ∨ ∃ o, H a = some (.frz o u)
theorem Rd.of {H : Hp} {a : Addr} {u : HO} (h : H a = some u) : Rd H a u := .inl h
theorem Rd.ok {P : Program} {w : World} {H : Hp} {h : Heap} {a : Addr} {u : HO} (r : Rd H a u) (x : HOk P w H h) : ObjOk P w H h a u := by
  rcases r with r | ⟨o, r⟩
  · exact x a u r
  · obtain ⟨_, q⟩ := x a _ r
    exact q
def Mut : Option HO → Prop
  | some (.lst _) => True
  | some (.dK _) => True
  | some (.dT _) => True
  | some (.dN _) => True
  | some (.set _ _) => True
  | some (.ins _ _ _) => True
  | some (.ext _) => True
  | _ => False
section
variable {P : Program} {w : World} {H : Hp} {h h' : Heap} {x e : Addr} {o' : HO}
theorem HOk.write (ok : HOk P w H h) (mu : Mut (H x)) (he : e = x ∨ H e = some (.own x)) (k : ∀ b u, b ≠ e → h.get? b = some u → h'.get? b = some u) (heo : ∃ u, h'.get? e = some u)
    (new : ObjOk P w (upd H x o') h' x o') : HOk P w (upd H x o') h' := fun b u q => by
  have nown : ∀ c y, H c = some (.own y) → c ≠ x := fun c y r z => by subst z; rw [r] at mu; exact mu
  have ntup : ∀ c xs, H c = some (.tup xs) → c ≠ x := fun c xs r z => by subst z; rw [r] at mu; exact mu
  by_cases hb : b = x
  · subst hb; rw [upd_same] at q; cases q; exact new
  · rw [upd_ne hb] at q
    by_cases hbe : b = e
    · have q' : H b = some (.own x) := by
        rcases he with z | z
        · exact absurd (hbe.trans z) hb
        · rw [hbe]; exact z
      rw [q] at q'; cases q'
      obtain ⟨v, hv⟩ := heo
      exact ⟨v, by rw [hbe]; exact hv⟩
    · refine (ok b u q).stay (fun c v hc r => k c v ?_ r) (fun c r => by rw [upd_ne (nown c b r)]; exact r) fun c xs r => by rw [upd_ne (ntup c xs r)]; exact r
      rcases hc with rfl | hc
      · exact hbe
      · rintro rfl
        rcases he with z | z
        · exact nown c b hc z
        · rw [hc] at z; cases z; exact hb rfl
end

structure Un (fs ex : List Addr) (H H' : Hp) (h h' : Heap) : Prop where
  keep : ∀ b o, h.get? b = some o → H b = none → b ∉ fs → b ∉ ex → h'.get? b = some o
  slot : ∀ b o, h.get? b = some o → H b = none → b ∈ fs → b ∉ ex → ∃ sl, h'.get? b = some { o with slots := sl }
  free : ∀ b o, h.get? b = some o → H b = none → b ∉ ex → H' b = none
  there : ∀ b o, h.get? b = some o → b ∉ ex → ∃ o', h'.get? b = some o'
  tups : ∀ b xs, H b = some (.tup xs) → H' b = some (.tup xs)
  frzs : ∀ b o u, H b = some (.frz o u) → H' b = some (.frz o u)
  tbls : ∀ b ps, H b = some (.tbl ps) → ∃ more, H' b = some (.tbl (ps ++ more))
section
variable {fs fs' ex ex' : List Addr} {H H1 H2 : Hp} {h h1 h2 h' : Heap} {a x e : Addr} {o : HO}
theorem Un.any (u : Un fs ex H H1 h h1) {b : Addr} {ob : Obj} (q : h.get? b = some ob) (n : H b = none) (hx : b ∉ ex) : ∃ sl, h1.get? b = some { ob with slots := sl } := by
  by_cases hb : b ∈ fs
  · exact u.slot b ob q n hb hx
  · exact ⟨ob.slots, u.keep b ob q n hb hx⟩
theorem Un.trans (a : Un fs ex H H1 h h1) (b : Un fs ex H1 H2 h1 h2) : Un fs ex H H2 h h2 where
  keep := fun c ob q n hc hx => b.keep c ob (a.keep c ob q n hc hx) (a.free c ob q n hx) hc hx
  slot := fun c ob q n hc hx => by
    obtain ⟨sl, e1⟩ := a.slot c ob q n hc hx
    obtain ⟨sl', e2⟩ := b.slot c _ e1 (a.free c ob q n hx) hc hx
    exact ⟨sl', e2⟩
  free := fun c ob q n hx => by
    obtain ⟨o', e1⟩ := a.there c ob q hx
    exact b.free c o' e1 (a.free c ob q n hx) hx
  there := fun c ob q hx => by
    obtain ⟨o', e1⟩ := a.there c ob q hx
    exact b.there c o' e1 hx
  tups := fun c xs q => b.tups c xs (a.tups c xs q)
  frzs := fun c ob xs q => b.frzs c ob xs (a.frzs c ob xs q)
  tbls := fun c ps q => by
    obtain ⟨m1, e1⟩ := a.tbls c ps q
    obtain ⟨m2, e2⟩ := b.tbls c _ e1
    exact ⟨m1 ++ m2, by rw [e2, Array.append_assoc]⟩
theorem Un.kept (k : ∀ b u, h.get? b = some u → h'.get? b = some u) : Un fs ex H H h h' :=
  ⟨fun b ob q _ _ _ => k b ob q, fun b ob q _ _ _ => ⟨ob.slots, k b ob q⟩, fun _ _ _ n _ => n, fun b ob q _ => ⟨ob, k b ob q⟩, fun _ _ q => q, fun _ _ _ q => q, fun _ ps q => ⟨#[], by rw [q]; simp⟩⟩
theorem Un.refl : Un fs ex H H h h := Un.kept fun _ _ q => q
theorem Un.laid (k : ∀ b u, h.get? b = some u → h'.get? b = some u) (hp : h.objs.size ≤ a) (hn : H a = none) : Un fs ex H (upd H a o) h h' where
  keep := fun b u q _ _ _ => k b u q
  slot := fun b u q _ _ _ => ⟨u.slots, k b u q⟩
  free := fun b u q n _ => by rw [upd_ne (Nat.ne_of_lt (Nat.lt_of_lt_of_le (Heap.lt_size q) hp))]; exact n
  there := fun b u q _ => ⟨u, k b u q⟩
  tups := fun b xs q => by rw [upd_ne (ne_of_none q hn)]; exact q
  frzs := fun b u xs q => by rw [upd_ne (ne_of_none q hn)]; exact q
  tbls := fun b ps q => ⟨#[], by rw [upd_ne (ne_of_none q hn), q]; simp⟩
theorem Un.write (mu : Mut (H x)) (he : e = x ∨ H e = some (.own x)) (k : ∀ b u, b ≠ e → h.get? b = some u → h'.get? b = some u) (heo : ∃ u, h'.get? e = some u) : Un fs ex H (upd H x o) h h' := by
  have hx : ∀ b, H b = none → b ≠ x := fun b n z => by subst z; rw [n] at mu; exact mu
  have hb : ∀ b, H b = none → b ≠ e := fun b n z => by
    subst z
    rcases he with r | r
    · exact hx b n r
    · rw [n] at r; cases r
  have hm : ∀ b u, H b = some u → ¬ Mut (some u) → b ≠ x := fun b u q nm z => by subst z; rw [q] at mu; exact nm mu
  refine ⟨fun b u q n _ _ => k b u (hb b n) q, fun b u q n _ _ => ⟨u.slots, k b u (hb b n) q⟩, fun b u q n _ => by rw [upd_ne (hx b n)]; exact n, fun b u q _ => ?_,
    fun b xs q => by rw [upd_ne (hm b _ q fun z => z)]; exact q, fun b u xs q => by rw [upd_ne (hm b _ q fun z => z)]; exact q, fun b ps q => ⟨#[], by rw [upd_ne (hm b _ q fun z => z), q]; simp⟩⟩
  by_cases hbe : b = e
  · subst hbe; exact heo
  · exact ⟨u, k b u hbe q⟩
theorem Un.mono (u : Un fs ex H H1 h h1) (hs : ∀ b ∈ fs, b ∈ fs') (hx : ∀ b ∈ ex, b ∈ ex') : Un fs' ex' H H1 h h1 :=
  ⟨fun b ob q n hb he => u.keep b ob q n (fun z => hb (hs b z)) fun z => he (hx b z), fun _ _ q n _ he => u.any q n fun z => he (hx _ z), fun b ob q n he => u.free b ob q n fun z => he (hx b z), fun b ob q he => u.there b ob q fun z => he (hx b z), u.tups, u.frzs, u.tbls⟩
end

def trk (h : Heap) (H : Hp) : List Addr := (List.range h.objs.size).filter fun a => (H a).isSome
def hidT (h : Heap) (H : Hp) : Heap := PySem.W.hideAll h (trk h H)
theorem hidT_size (h : Heap) (H : Hp) : (hidT h H).objs.size = h.objs.size := PySem.W.hideAll_size _ _
theorem hidT_get {h : Heap} {H : Hp} {b : Addr} {o : Obj} (e : h.get? b = some o) (n : H b = none) : (hidT h H).get? b = some o :=
  PySem.W.hideAll_get _ e fun hm => by
    have q : (H b).isSome = true := (List.mem_filter.mp hm).2
    rw [n] at q; simp at q
theorem of_hidT {h : Heap} {H : Hp} {b : Addr} {o : Obj} (e : (hidT h H).get? b = some o) : h.get? b = some o ∧ H b = none := by
  have e' : h.get? b = some o := PySem.W.of_hideAll (trk h H) e
  refine ⟨e', ?_⟩
  cases q : H b with
  | none => rfl
  | some x =>
    have hm : b ∈ trk h H := List.mem_filter.mpr ⟨List.mem_range.mpr (Heap.lt_size e'), by simp [q]⟩
    have z : (hidT h H).get? b = none := PySem.W.hideAll_none (trk h H) hm
    rw [z] at e; cases e

def allNews (g h : Heap) (L : Addr) : List (Addr × Obj) := (List.range h.objs.size).filterMap fun a => if a = L ∨ (g.get? a).isSome = true then none else (h.get? a).map fun o => (a, o)
def rest (g h : Heap) (L d : Addr) : List (Addr × Obj) := (allNews g h L).filter fun p => decide (p.1 ≠ d)
end L2

namespace L2
open PySem PySem.Spec PyProof.Rows

structure Mod (K : PySem.W.Frag) (mg : Str → Option Value) (base : Heap) : Prop where
  kin : K.In base
  glob : base.Ns mainGlobals mg
  blt : ∃ mb, base.Ns builtinsNs mb ∧ ∀ x : Str, x ≠ "__name__" → mb x = bootBuiltins x
  nolimit : base.NoLimit

/-- the context: a def's body (or a comprehension's block) running. base: fixed through the whole law; s₀, H₀: the entry; outer: the frames whose slots others may change (a def's callers); stack: all frames that run;
   ex: iterators that were made ahead of the entry and are walked here (a comprehension's); fn: the names whose cells were made at the entry (a def: all; a comprehension's block: its own); calm: not within an except suite; pn: pins that every state bears; xe: what is wanted of an exception that leaves the code -/
structure Cx where
  prog : Program
  w : World
  K : PySem.W.Frag
  mg : Str → Option Value
  base : Heap
  A : Around
  N : List Str
  s_0 : Shared
  H_0 : Hp
  env : Env
  outer : List Env
  stack : List Env
  ex : List Addr
  fn : Str → Bool
  calm : Bool
  pn : List (Addr × Obj)
  xe : Value → Shared → Prop
def frs (l : List Env) : List Addr := l.filterMap (·.frame)
abbrev Cx.fs (X : Cx) : List Addr := frs X.outer

def Vis (sc : Scope) (x : Str) : Prop := sc.names.lookup x = some .local ∨ sc.names.lookup x = some .cell ∨ sc.names.lookup x = some .free
def Loc (sc : Scope) (x : Str) : Prop := sc.names.lookup x = some .local ∨ sc.names.lookup x = some .cell
def Look (env : Env) (h : Heap) (m : Str → Option Value) (x : Str) (u : Value) : Prop :=
  (env.kindOf x = some .local ∧ m x = some u) ∨ ((env.kindOf x = some .cell ∨ env.kindOf x = some .free) ∧ ∃ c, env.cells.lookup x = some c ∧ h.IsCell c (some u))

structure Cx.Ok (X : Cx) : Prop where
  mod : Mod X.K X.mg X.base
  kind : X.env.scope.kind = .function
  glob : X.env.globals = mainGlobals
  blt : X.env.builtins = builtinsNs
  above : X.s_0.heap.objs.size ≤ X.env.locals
  inj : ∀ x y c, X.env.cells.lookup x = some c → X.env.cells.lookup y = some c → x = y
  has : ∀ x, (X.env.kindOf x = some .cell ∨ X.env.kindOf x = some .free) → ∃ c, X.env.cells.lookup x = some c
  cab : ∀ x c, X.fn x = true → X.env.cells.lookup x = some c → X.s_0.heap.objs.size ≤ c
  hd : X.calm = true → X.A.handled = none
  frames : X.A.frames = some X.stack
  stk : X.stack = X.outer ∨ (X.stack = X.env :: X.outer ∧ X.env.frame = some X.env.locals)
  exf : ∀ b ∈ X.ex, b ≠ X.env.locals ∧ ∀ x c, X.env.cells.lookup x = some c → c ≠ b
  bs : ∀ b o, X.base.get? b = some o → X.s_0.heap.get? b = some o ∧ X.H_0 b = none
  bsz : X.base.objs.size ≤ X.s_0.heap.objs.size
  noex : ∀ b o, X.base.get? b = some o → b ∉ X.ex
  exfs : ∀ b ∈ X.ex, b ∉ X.fs
  funs : X.s_0.heap.FunFrames X.base X.outer
  frf : ∀ b ∈ X.fs, X.H_0 b = none

structure Inv (X : Cx) (pins : List (Addr × Obj)) (σ : List (Option V)) (H : Hp) (s : Shared) : Prop where
  ok : X.Ok
  os : s.os = X.s_0.os
  bare : AllBare s.gens
  base : Un X.fs X.ex X.H_0 H X.s_0.heap s.heap
  loc : ∃ m, s.heap.Ns X.env.locals m ∧ ∀ (i : Nat) (x : Str) (v : V), X.N[i]? = some x → σ[i]? = some (some v) → Vis X.env.scope x → ∃ u, RelV v u ∧ Look X.env s.heap m x u
  cell : ∀ x c, X.env.cells.lookup x = some c → ∃ v, s.heap.IsCell c v
  free : H X.env.locals = none
  freeC : ∀ x c, X.env.cells.lookup x = some c → H c = none
  pin : ∀ p ∈ X.pn ++ pins, s.heap.get? p.1 = some p.2 ∧ H p.1 = none ∧ p.1 ≠ X.env.locals ∧ p.1 ∉ X.fs ∧ ∀ v, p.2.data ≠ .cell v
  hok : HOk X.prog X.w H s.heap
  len : σ.length = X.N.length

section
variable {X : Cx} {pins : List (Addr × Obj)} {σ : List (Option V)} {H H' : Hp} {s : Shared} {h' : Heap}

theorem Cx.Ok.nofr (ok : X.Ok) {b : Addr} {o : Obj} (e : X.base.get? b = some o) : b ∉ X.fs := fun hb => by
  have := (ok.funs.mem hb).1
  rw [e] at this; cases this
theorem Inv.bs (I : Inv X pins σ H s) : ∀ b o, X.base.get? b = some o → s.heap.get? b = some o ∧ H b = none := fun b o e =>
  ⟨I.base.keep b o (I.ok.bs b o e).1 (I.ok.bs b o e).2 (I.ok.nofr e) (I.ok.noex b o e), I.base.free b o (I.ok.bs b o e).1 (I.ok.bs b o e).2 (I.ok.noex b o e)⟩
theorem Inv.bk (I : Inv X pins σ H s) : ∀ b o, X.base.get? b = some o → s.heap.get? b = some o := fun b o e => (I.bs b o e).1
theorem Inv.mod (I : Inv X pins σ H s) : Mod X.K X.mg X.base := I.ok.mod
theorem Inv.kIn (I : Inv X pins σ H s) : X.K.In s.heap := I.ok.mod.kin.keeps I.bk
theorem Inv.nolimit (I : Inv X pins σ H s) : s.heap.NoLimit := I.ok.mod.nolimit.keeps I.bk
theorem Inv.fr (I : Inv X pins σ H s) : ∃ m, Fr X.base X.env.locals s.heap m :=
  let ⟨m, hn, _⟩ := I.loc
  ⟨m, hn, I.bk, Nat.le_trans I.ok.bsz I.ok.above⟩
theorem Inv.lt (I : Inv X pins σ H s) : X.env.locals < s.heap.objs.size := let ⟨_, hn, _⟩ := I.loc; hn.lt
theorem Inv.sz (I : Inv X pins σ H s) : X.s_0.heap.objs.size ≤ s.heap.objs.size := Nat.le_trans I.ok.above (Nat.le_of_lt I.lt)
theorem Inv.nofs (I : Inv X pins σ H s) {a : Addr} (h : s.heap.objs.size ≤ a) : a ∉ X.fs := fun hb => by
  obtain ⟨_, o, ho, _⟩ := I.ok.funs.mem hb
  exact absurd (Nat.lt_of_lt_of_le (Heap.lt_size ho) (Nat.le_trans I.sz h)) (Nat.lt_irrefl _)
theorem Inv.cne (I : Inv X pins σ H s) : ∀ x c, X.env.cells.lookup x = some c → c ≠ X.env.locals := fun x c e z => by
  obtain ⟨v, o, ho, hd⟩ := I.cell x c e
  obtain ⟨m, ⟨o', es, ep, ho', hd', _⟩, _⟩ := I.loc
  rw [z, ho'] at ho; cases ho; rw [hd'] at hd; cases hd
theorem Inv.funs (I : Inv X pins σ H s) : s.heap.FunFrames X.base X.outer := by
  have all : ∀ (l : List Env), (∀ b ∈ frs l, b ∈ X.fs) → X.s_0.heap.FunFrames X.base l → s.heap.FunFrames X.base l := by
    intro l
    induction l with
    | nil => intro _ _; trivial
    | cons env r ih =>
      intro hs hl
      obtain ⟨hk, ⟨L, o, hf, hn, ho, hd⟩, hr⟩ := hl
      have hL : L ∈ X.fs := hs L (by unfold frs; rw [List.filterMap_cons, hf]; exact List.mem_cons_self)
      obtain ⟨sl, e⟩ := I.base.slot L o ho (I.ok.frf L hL) hL fun z => I.ok.exfs L z hL
      exact ⟨hk, ⟨L, _, hf, hn, e, hd⟩, ih (fun b hb => hs b (by unfold frs; rw [List.filterMap_cons, hf]; exact List.mem_cons_of_mem _ hb)) hr⟩
  exact all X.outer (fun _ hb => hb) I.ok.funs

theorem Inv.stack (I : Inv X pins σ H s) : s.heap.FunFrames X.base X.stack := by
  rcases I.ok.stk with e | ⟨e, hf⟩
  · rw [e]; exact I.funs
  · rw [e]
    obtain ⟨m, hn, _⟩ := I.loc
    refine .cons (by rw [I.ok.kind]; decide) hf hn ?_ I.funs
    exact Heap.get?_none_of_le (Nat.le_trans I.ok.bsz I.ok.above)
theorem Inv.stkSub (I : Inv X pins σ H s) : ∀ b ∈ frs X.stack, b ∈ X.env.locals :: X.fs := fun b hb => by
  rcases I.ok.stk with e | ⟨e, hf⟩
  · rw [e] at hb; exact List.mem_cons_of_mem _ hb
  · rw [e] at hb
    unfold frs at hb
    rw [List.filterMap_cons, hf] at hb
    exact hb
theorem Inv.stkFree (I : Inv X pins σ H s) : ∀ b ∈ frs X.stack, H b = none := fun b hb => by
  rcases List.mem_cons.mp (I.stkSub b hb) with e | hb
  · rw [e]; exact I.free
  · obtain ⟨_, o, ho, _⟩ := I.ok.funs.mem hb
    exact I.base.free b o ho (I.ok.frf b hb) fun z => I.ok.exfs b z hb

theorem Inv.step {g' : Array GenState} {t' : Nat} {d' : Drawn} {ch : List Addr} (I : Inv X pins σ H s)
    (hch : ∀ b ∈ ch, (b ∈ X.ex ∨ X.s_0.heap.objs.size ≤ b) ∧ b ≠ X.env.locals ∧ (∀ x c, X.env.cells.lookup x = some c → c ≠ b) ∧ ∀ p ∈ X.pn ++ pins, p.1 ≠ b)
    (keep : ∀ b o, b ≠ X.env.locals → b ∉ X.fs → b ∉ ch → s.heap.get? b = some o → H b = none → h'.get? b = some o)
    (slot : ∀ b o, b ≠ X.env.locals → b ∈ X.fs → b ∉ ch → s.heap.get? b = some o → H b = none → ∃ sl, h'.get? b = some { o with slots := sl }) (free : ∀ b o, b ∉ ch → s.heap.get? b = some o → H b = none → H' b = none)
    (there : ∀ b o, b ∉ ch → s.heap.get? b = some o → ∃ o', h'.get? b = some o')
    (tups : ∀ b xs, H b = some (.tup xs) → H' b = some (.tup xs)) (frzs : ∀ b o u, H b = some (.frz o u) → H' b = some (.frz o u)) (tbls : ∀ b ps, H b = some (.tbl ps) → ∃ more, H' b = some (.tbl (ps ++ more)))
    (ns : ∀ m, s.heap.Ns X.env.locals m → h'.Ns X.env.locals m) (hok : HOk X.prog X.w H' h') (hg : AllBare g') :
    Inv X pins σ H' { s with heap := h', gens := g', drawn := d', toks := t' } := by
  have neL : ∀ b o, X.s_0.heap.get? b = some o → b ≠ X.env.locals := fun b o e => Nat.ne_of_lt (Nat.lt_of_lt_of_le (Heap.lt_size e) I.ok.above)
  have neC : ∀ b o, X.s_0.heap.get? b = some o → b ∉ X.ex → b ∉ ch := fun b o e hx hb => by
    rcases (hch b hb).1 with z | z
    · exact hx z
    · exact absurd (Nat.lt_of_lt_of_le (Heap.lt_size e) z) (Nat.lt_irrefl _)
  have cellK : ∀ x c, X.env.cells.lookup x = some c → ∀ v, s.heap.IsCell c v → h'.IsCell c v := fun x c e v ⟨o, ho, hd⟩ => by
    have nch : c ∉ ch := fun z => (hch c z).2.2.1 x c e rfl
    by_cases hc : c ∈ X.fs
    · obtain ⟨sl, q⟩ := slot c o (I.cne x c e) hc nch ho (I.freeC x c e)
      exact ⟨_, q, hd⟩
    · exact ⟨o, keep c o (I.cne x c e) hc nch ho (I.freeC x c e), hd⟩
  refine ⟨I.ok, I.os, hg, ⟨fun b o e n hb hx => ?_, fun b o e n hb hx => ?_, fun b o e n hx => ?_, fun b o e hx => ?_, fun b xs e => tups b xs (I.base.tups b xs e), fun b o xs e => frzs b o xs (I.base.frzs b o xs e), fun b ps e => ?_⟩, ?_, fun x c e => ?_, ?_, fun x c e => ?_, fun p hp => ?_, hok, I.len⟩
  · exact keep b o (neL b o e) hb (neC b o e hx) (I.base.keep b o e n hb hx) (I.base.free b o e n hx)
  · obtain ⟨sl, e1⟩ := I.base.slot b o e n hb hx
    obtain ⟨sl', e2⟩ := slot b _ (neL b o e) hb (neC b o e hx) e1 (I.base.free b o e n hx)
    exact ⟨sl', e2⟩
  · obtain ⟨o', e1⟩ := I.base.there b o e hx
    exact free b o' (neC b o e hx) e1 (I.base.free b o e n hx)
  · obtain ⟨o', e1⟩ := I.base.there b o e hx
    exact there b o' (neC b o e hx) e1
  · obtain ⟨m1, e1⟩ := I.base.tbls b ps e
    obtain ⟨m2, e2⟩ := tbls b _ e1
    exact ⟨m1 ++ m2, by rw [e2, Array.append_assoc]⟩
  · obtain ⟨m, hn, hl⟩ := I.loc
    refine ⟨m, ns m hn, fun i x v e1 e2 e3 => ?_⟩
    obtain ⟨u, r, l⟩ := hl i x v e1 e2 e3
    refine ⟨u, r, ?_⟩
    rcases l with l | ⟨k, c, e, z⟩
    · exact .inl l
    · exact .inr ⟨k, c, e, cellK x c e _ z⟩
  · obtain ⟨v, z⟩ := I.cell x c e
    exact ⟨v, cellK x c e v z⟩
  · obtain ⟨m, ⟨o, _, _, ho, _⟩, _⟩ := I.loc
    exact free _ o (fun z => (hch _ z).2.1 rfl) ho I.free
  · obtain ⟨v, o, ho, hd⟩ := I.cell x c e
    exact free c o (fun z => (hch c z).2.2.1 x c e rfl) ho (I.freeC x c e)
  · obtain ⟨e, n, ne, nf, d⟩ := I.pin p hp
    have nch : p.1 ∉ ch := fun z => (hch p.1 z).2.2.2 p hp rfl
    exact ⟨keep p.1 p.2 ne nf nch e n, free p.1 p.2 nch e n, ne, nf, d⟩
theorem Inv.un {t' : Nat} (I : Inv X pins σ H s) (u : Un X.fs [] H H' s.heap h') (hok : HOk X.prog X.w H' h') : Inv X pins σ H' { s with heap := h', toks := t' } := by
  obtain ⟨m, ⟨o, es, ep, ho, r⟩, _⟩ := id I.loc
  obtain ⟨sl, hL⟩ := u.any ho I.free (by simp)
  exact I.step (g' := s.gens) (d' := s.drawn) (ch := []) (fun _ z => nomatch z) (fun b o _ hb _ e n => u.keep b o e n hb (by simp)) (fun b o _ hb _ e n => u.slot b o e n hb (by simp)) (fun b o _ e n => u.free b o e n (by simp)) (fun b o _ e => u.there b o e (by simp)) u.tups u.frzs u.tbls (fun m' hm => by
    obtain ⟨o', es', ep', ho', r'⟩ := hm
    rw [ho] at ho'; cases ho'
    exact ⟨_, es', ep', hL, r'⟩) hok I.bare
theorem Inv.call {g' : Array GenState} {t' : Nat} {d' : Drawn} {ch : List Addr} (I : Inv X pins σ H s) (u : Un (frs X.stack) ch H H' s.heap h') (hok : HOk X.prog X.w H' h') (hg : AllBare g')
    (hch : ∀ b ∈ ch, (b ∈ X.ex ∨ X.s_0.heap.objs.size ≤ b) ∧ b ≠ X.env.locals ∧ (∀ x c, X.env.cells.lookup x = some c → c ≠ b) ∧ ∀ p ∈ X.pn ++ pins, p.1 ≠ b) :
    Inv X pins σ H' { s with heap := h', gens := g', drawn := d', toks := t' } := by
  obtain ⟨m, ⟨o, es, ep, ho, r⟩, _⟩ := id I.loc
  obtain ⟨sl, hL⟩ := u.any ho I.free fun z => (hch _ z).2.1 rfl
  exact I.step (ch := ch) hch (fun b o hL hb hc e n => u.keep b o e n (fun z => (List.mem_cons.mp (I.stkSub b z)).elim hL hb) hc) (fun b o _ _ hc e n => u.any e n hc) (fun b o hc e n => u.free b o e n hc) (fun b o hc e => u.there b o e hc) u.tups u.frzs u.tbls (fun m' hm => by
    obtain ⟨o', es', ep', ho', r'⟩ := hm
    rw [ho] at ho'; cases ho'
    exact ⟨_, es', ep', hL, r'⟩) hok hg
theorem Inv.turned {t' : Nat} {it : Addr} (I : Inv X pins σ H s) (k : ∀ b o, b ≠ it → s.heap.get? b = some o → h'.get? b = some o) (hn : H it = none) (hL : it ≠ X.env.locals)
    (h1 : it ∈ X.ex ∨ X.s_0.heap.objs.size ≤ it) (h2 : ∀ x c, X.env.cells.lookup x = some c → c ≠ it) (h3 : ∀ p ∈ X.pn ++ pins, p.1 ≠ it) : Inv X pins σ H { s with heap := h', toks := t' } := by
  have nit : ∀ b u, H b = some u → b ≠ it := fun b u e z => by rw [z, hn] at e; cases e
  refine I.step (g' := s.gens) (d' := s.drawn) (ch := [it]) (fun b hb => ?_) (fun b o _ _ hc e _ => k b o (fun z => hc (by simp [z])) e) (fun b o _ _ hc e _ => ⟨o.slots, k b o (fun z => hc (by simp [z])) e⟩) (fun _ _ _ _ n => n)
    (fun b o hc e => ⟨o, k b o (fun z => hc (by simp [z])) e⟩) (fun _ _ e => e) (fun _ _ _ e => e) (fun b ps e => ⟨#[], by rw [e]; simp⟩) (fun m hm => ?_) (fun b u e => ?_) I.bare
  · have e : b = it := by simpa using hb
    subst e
    exact ⟨h1, hL, h2, h3⟩
  · obtain ⟨o, es, ep, ho, r⟩ := hm
    exact ⟨o, es, ep, k _ o (Ne.symm hL) ho, r⟩
  · refine (I.hok b u e).stay (fun c v hc q => k c v ?_ q) (fun _ q => q) fun _ _ q => q
    rcases hc with z | z
    · rw [z]; exact nit b u e
    · exact nit c _ z
theorem Inv.tok (I : Inv X pins σ H s) (t : Nat) : Inv X pins σ H { s with toks := t } := I.un (h' := s.heap) (t' := t) Un.refl I.hok
theorem Inv.kept {t' : Nat} (I : Inv X pins σ H s) (k : ∀ b u, s.heap.get? b = some u → h'.get? b = some u) : Inv X pins σ H { s with heap := h', toks := t' } := I.un (Un.kept k) (I.hok.kept k)
theorem Inv.laid {a : Addr} {o : HO} {t' : Nat} (I : Inv X pins σ H s) (k : ∀ b u, s.heap.get? b = some u → h'.get? b = some u) (hp : s.heap.objs.size ≤ a) (new : ObjOk X.prog X.w (upd H a o) h' a o) :
    Inv X pins σ (upd H a o) { s with heap := h', toks := t' } := I.un (Un.laid k hp (I.hok.fresh hp)) (I.hok.laid k hp new)
theorem Inv.write {x e : Addr} {o : HO} {t' : Nat} (I : Inv X pins σ H s) (mu : Mut (H x)) (he : e = x ∨ H e = some (.own x)) (k : ∀ b u, b ≠ e → s.heap.get? b = some u → h'.get? b = some u) (heo : ∃ u, h'.get? e = some u)
    (new : ObjOk X.prog X.w (upd H x o) h' x o) : Inv X pins σ (upd H x o) { s with heap := h', toks := t' } := I.un (Un.write mu he k heo) (I.hok.write mu he k heo new)
theorem Inv.weak {σ' : List (Option V)} (I : Inv X pins σ H s) (hl : σ'.length = σ.length) (w : ∀ (i : Nat) v, σ'[i]? = some (some v) → σ[i]? = some (some v)) : Inv X pins σ' H s :=
  ⟨I.ok, I.os, I.bare, I.base, let ⟨m, hn, hl'⟩ := I.loc; ⟨m, hn, fun i x v e1 e2 e3 => hl' i x v e1 (w i v e2) e3⟩, I.cell, I.free, I.freeC, I.pin, I.hok, hl.trans I.len⟩
theorem Inv.pins_of {pins' : List (Addr × Obj)} (I : Inv X pins σ H s) (h : ∀ p ∈ pins', s.heap.get? p.1 = some p.2 ∧ H p.1 = none ∧ p.1 ≠ X.env.locals ∧ p.1 ∉ X.fs ∧ ∀ v, p.2.data ≠ .cell v) : Inv X pins' σ H s :=
  ⟨I.ok, I.os, I.bare, I.base, I.loc, I.cell, I.free, I.freeC, fun p hp => (List.mem_append.mp hp).elim (fun z => I.pin p (List.mem_append_left _ z)) (h p), I.hok, I.len⟩

theorem nodup_ix {N : List Str} (hN : N.Nodup) {i j : Nat} {x : Str} (a : N[i]? = some x) (b : N[j]? = some x) : i = j := by
  obtain ⟨h1, e1⟩ := List.getElem?_eq_some_iff.mp a
  obtain ⟨h2, e2⟩ := List.getElem?_eq_some_iff.mp b
  exact (List.getElem_inj hN).mp (e1.trans e2.symm)

theorem store_ok2 {M : Model} {A : Around} {E : Value → Shared → Prop} {i : Nat} {x : Str} {v : V} {u : Value} {Q : Unit → Shared → Prop} (I : Inv X pins σ H s) (hN : X.N.Nodup) (hi : X.N[i]? = some x) (hx : Loc X.env.scope x) (r : RelV v u)
    (h : ∀ s', Inv X pins (σ.set i (some v)) H s' → (∃ a, Heap.SameBut a s.heap s'.heap ∧ (a = X.env.locals ∨ X.env.cells.lookup x = some a)) → Q () s') (hf : X.fn x = true ∨ X.env.scope.names.lookup x = some .local := by first | exact .inl rfl | exact .inr rfl | assumption) : wpAny M A (storeName X.env x u) Q E s := by
  obtain ⟨m, hn, hl⟩ := id I.loc
  have hcls : (X.env.scope.kind == .class || (X.env.scope.kind == .module && X.env.locals != X.env.globals)) = false := by rw [I.ok.kind]; rfl
  have hiσ : i < σ.length := by rw [I.len]; exact (List.getElem?_eq_some_iff.mp hi).1
  have cne := I.cne
  have tracked : ∀ {a : Addr} {h' : Heap}, (∃ o, s.heap.get? a = some o ∧ H a = none) → Heap.SameBut a s.heap h' → HOk X.prog X.w H h' := fun {a h'} ha hs b ob e => by
    obtain ⟨_, _, hfree⟩ := ha
    refine (I.hok b ob e).stay (fun c w' hc q => (hs.2 c ?_).trans q) (fun _ q => q) fun _ _ q => q
    rintro rfl
    rcases hc with rfl | hc
    · rw [hfree] at e; cases e
    · rw [hfree] at hc; cases hc
  rcases hx with hk | hk
  · refine wpAny_storeName_local hk hn (fun h' hn' hs => ?_) hcls
    obtain ⟨oL, _, _, hoL, _⟩ := id hn
    refine h _ ⟨I.ok, I.os, I.bare, ⟨fun b o e n hb hx => ?_, fun b o e n hb hx => ?_, I.base.free, fun b o e hx => ?_, I.base.tups, I.base.frzs, I.base.tbls⟩, ⟨_, hn', fun j y v' e1 e2 e3 => ?_⟩, fun y c e => ?_, I.free, I.freeC, fun p hp => ?_, tracked ⟨oL, hoL, I.free⟩ hs, by simpa using I.len⟩ ⟨_, hs, .inl rfl⟩
    · exact (hs.2 b (Nat.ne_of_lt (Nat.lt_of_lt_of_le (Heap.lt_size e) I.ok.above))).trans (I.base.keep b o e n hb hx)
    · obtain ⟨sl, e1⟩ := I.base.slot b o e n hb hx
      exact ⟨sl, (hs.2 b (Nat.ne_of_lt (Nat.lt_of_lt_of_le (Heap.lt_size e) I.ok.above))).trans e1⟩
    · obtain ⟨o', e1⟩ := I.base.there b o e hx
      exact ⟨o', (hs.2 b (Nat.ne_of_lt (Nat.lt_of_lt_of_le (Heap.lt_size e) I.ok.above))).trans e1⟩
    · by_cases hj : j = i
      · subst hj
        rw [hi] at e1; cases e1
        rw [List.getElem?_set_self hiσ] at e2
        cases e2
        exact ⟨u, r, .inl ⟨hk, by simp⟩⟩
      · rw [List.getElem?_set_ne (Ne.symm hj)] at e2
        obtain ⟨u', r', q⟩ := hl j y v' e1 e2 e3
        refine ⟨u', r', ?_⟩
        rcases q with ⟨k, e⟩ | ⟨k, c, e, z⟩
        · refine .inl ⟨k, ?_⟩
          have : y ≠ x := fun e => hj (nodup_ix hN e1 (e ▸ hi))
          simp [this, e]
        · exact .inr ⟨k, c, e, z.sameBut hs (cne y c e)⟩
    · obtain ⟨w', z⟩ := I.cell y c e
      exact ⟨w', z.sameBut hs (cne y c e)⟩
    · obtain ⟨e, n, ne, nf, d⟩ := I.pin p hp
      exact ⟨(hs.2 p.1 ne).trans e, n, ne, nf, d⟩
  · have hfn : X.fn x = true := by
      rcases hf with z | z
      · exact z
      · rw [z] at hk; cases hk
    obtain ⟨c, hc⟩ := I.ok.has x (.inl hk)
    obtain ⟨w', z⟩ := I.cell x c hc
    refine wpAny_storeName_cell I.ok.kind hk hc z (fun h' hc' hs => ?_)
    obtain ⟨oc, hoc, hocd⟩ := id z
    refine h { s with heap := h' } ⟨I.ok, I.os, I.bare, ⟨fun b o e n hb hx => ?_, fun b o e n hb hx => ?_, I.base.free, fun b o e hx => ?_, I.base.tups, I.base.frzs, I.base.tbls⟩, ⟨m, hn.sameBut hs (Ne.symm (cne x c hc)), fun j y v' e1 e2 e3 => ?_⟩, fun y c' e => ?_, I.free, I.freeC, fun p hp => ?_, tracked ⟨oc, hoc, I.freeC x c hc⟩ hs, by simpa using I.len⟩ ⟨c, hs, .inr hc⟩
    · exact (hs.2 b (Nat.ne_of_lt (Nat.lt_of_lt_of_le (Heap.lt_size e) (I.ok.cab x c hfn hc)))).trans (I.base.keep b o e n hb hx)
    · obtain ⟨sl, e1⟩ := I.base.slot b o e n hb hx
      exact ⟨sl, (hs.2 b (Nat.ne_of_lt (Nat.lt_of_lt_of_le (Heap.lt_size e) (I.ok.cab x c hfn hc)))).trans e1⟩
    · obtain ⟨o', e1⟩ := I.base.there b o e hx
      exact ⟨o', (hs.2 b (Nat.ne_of_lt (Nat.lt_of_lt_of_le (Heap.lt_size e) (I.ok.cab x c hfn hc)))).trans e1⟩
    · by_cases hj : j = i
      · subst hj
        rw [hi] at e1; cases e1
        rw [List.getElem?_set_self hiσ] at e2
        cases e2
        exact ⟨u, r, .inr ⟨.inl hk, c, hc, hc'⟩⟩
      · rw [List.getElem?_set_ne (Ne.symm hj)] at e2
        obtain ⟨u', r', q⟩ := hl j y v' e1 e2 e3
        refine ⟨u', r', ?_⟩
        rcases q with q | ⟨k, c', e, z'⟩
        · exact .inl q
        · refine .inr ⟨k, c', e, z'.sameBut hs ?_⟩
          rintro rfl
          exact hj (nodup_ix hN e1 (I.ok.inj _ _ _ e hc ▸ hi))
    · by_cases hcc : c' = c
      · subst hcc; exact ⟨_, hc'⟩
      · obtain ⟨w2, z2⟩ := I.cell y c' e
        exact ⟨w2, z2.sameBut hs hcc⟩
    · obtain ⟨e, n, ne, nf, d⟩ := I.pin p hp
      refine ⟨(hs.2 p.1 ?_).trans e, n, ne, nf, d⟩
      intro q
      rw [q, hoc] at e
      have q' : oc = p.2 := Option.some.inj e
      exact d w' (by rw [← q']; exact hocd)
theorem store_ok {M : Model} {A : Around} {E : Value → Shared → Prop} {i : Nat} {x : Str} {v : V} {u : Value} {Q : Unit → Shared → Prop} (I : Inv X pins σ H s) (hN : X.N.Nodup) (hi : X.N[i]? = some x) (hx : Loc X.env.scope x) (r : RelV v u)
    (h : ∀ s', Inv X pins (σ.set i (some v)) H s' → Q () s') (hf : X.fn x = true ∨ X.env.scope.names.lookup x = some .local := by first | exact .inl rfl | exact .inr rfl | assumption) : wpAny M A (storeName X.env x u) Q E s :=
  store_ok2 I hN hi hx r (fun s' I' _ => h s' I') hf
theorem Inv.call' {s' : Shared} {ch : List Addr} (I : Inv X pins σ H s) (ho : s'.os = s.os) (u : Un (frs X.stack) ch H H' s.heap s'.heap) (hok : HOk X.prog X.w H' s'.heap) (hg : AllBare s'.gens)
    (hch : ∀ b ∈ ch, (b ∈ X.ex ∨ X.s_0.heap.objs.size ≤ b) ∧ b ≠ X.env.locals ∧ (∀ x c, X.env.cells.lookup x = some c → c ≠ b) ∧ ∀ p ∈ X.pn ++ pins, p.1 ≠ b) : Inv X pins σ H' s' := by
  obtain ⟨h', g', d', t', o'⟩ := s'
  have e : o' = s.os := ho
  subst e
  exact I.call (g' := g') (t' := t') (d' := d') u hok hg hch
end

abbrev XK := Value → Option Addr → Hp → Prop
abbrev St := List (Option V)
abbrev VK := V → Hp → Prop
abbrev TE := St → Hp → VK → Prop
abbrev TT := St → Hp → (Bool → Hp → Prop) → Prop
abbrev TA := St → Hp → (List V → Hp → Prop) → Prop
structure Ends where
  nx : St → Hp → Prop
  rt : VK
  bk : St → Hp → Prop := fun _ _ => False
  ct : St → Hp → Prop := fun _ _ => False
abbrev TS := Ends → St → Hp → Prop

def EP (X : Cx) (pins : List (Addr × Obj)) (σ : St) (Q : VK) (u : Value) (s' : Shared) : Prop := ∃ v H', Inv X pins σ H' s' ∧ RelV v u ∧ Q v H'
def TP (X : Cx) (pins : List (Addr × Obj)) (σ : St) (Q : Bool → Hp → Prop) (b : Bool) (s' : Shared) : Prop := ∃ H', Inv X pins σ H' s' ∧ Q b H'
def AP (X : Cx) (pins : List (Addr × Obj)) (σ : St) (Q : List V → Hp → Prop) (us : List Value) (s' : Shared) : Prop := ∃ vs H', Inv X pins σ H' s' ∧ Vals vs us ∧ Q vs H'
def SP (X : Cx) (pins : List (Addr × Obj)) (D : Ends) (f : Flow) (s' : Shared) : Prop :=
  match f with
  | .next => ∃ σ' H', Inv X pins σ' H' s' ∧ D.nx σ' H'
  | .brk => ∃ σ' H', Inv X pins σ' H' s' ∧ D.bk σ' H'
  | .cont => ∃ σ' H', Inv X pins σ' H' s' ∧ D.ct σ' H'
  | .ret u => ∃ v σ' H', Inv X pins σ' H' s' ∧ RelV v u ∧ D.rt v H'

def PE (X : Cx) (e : Expr) (t : TE) : Prop :=
  ∀ ⦃pins : List (Addr × Obj)⦄ (s : Shared) (σ : St) (H : Hp) (Q : VK), Inv X pins σ H s → t σ H Q → wpAny (model X.prog X.w) X.A (eval e X.env) (EP X pins σ Q) X.xe s
def PT (X : Cx) (e : Expr) (t : TT) : Prop :=
  ∀ ⦃pins : List (Addr × Obj)⦄ (s : Shared) (σ : St) (H : Hp) (Q : Bool → Hp → Prop), Inv X pins σ H s → t σ H Q → wpAny (model X.prog X.w) X.A (isTrue e X.env (eval e X.env)) (TP X pins σ Q) X.xe s
def PW (X : Cx) (e : Expr) (t : TT) : Prop :=
  ∀ ⦃whole : Sem Value⦄ (pins : List (Addr × Obj)) (s : Shared) (σ : St) (H : Hp) (Q : Bool → Hp → Prop), Inv X pins σ H s → t σ H Q → wpAny (model X.prog X.w) X.A (isTrue e X.env whole) (TP X pins σ Q) X.xe s
theorem PW.pt {X : Cx} {e : Expr} {t : TT} (h : PW X e t) : PT X e t := fun pins => h pins
def PA (X : Cx) (es : List Expr) (t : TA) : Prop :=
  ∀ ⦃pos : Pos⦄ (pins : List (Addr × Obj)) (s : Shared) (σ : St) (H : Hp) (Q : List V → Hp → Prop), Inv X pins σ H s → t σ H Q → wpAny (model X.prog X.w) X.A (spliced (backTo pos (starEach es X.env))) (AP X pins σ Q) X.xe s
def PS (X : Cx) (st : Stmt) (t : TS) : Prop :=
  ∀ ⦃pins : List (Addr × Obj)⦄ (s : Shared) (σ : St) (H : Hp) (D : Ends), Inv X pins σ H s → t D σ H → wpAny (model X.prog X.w) X.A (exec st X.env) (SP X pins D) X.xe s
def PSs (X : Cx) (st : List Stmt) (t : TS) : Prop :=
  ∀ ⦃pins : List (Addr × Obj)⦄ (s : Shared) (σ : St) (H : Hp) (D : Ends), Inv X pins σ H s → t D σ H → wpAny (model X.prog X.w) X.A (execs st X.env) (SP X pins D) X.xe s
theorem thn {α : Type} {t : Sem α} {Q Q' : α → Shared → Prop} {M : Model} {A : Around} {E : Value → Shared → Prop} {s : Shared} (h : wpAny M A t Q E s) (hQ : ∀ a s, Q a s → Q' a s) : wpAny M A t Q' E s := wpAny_mono h hQ fun _ _ x => x
end L2

namespace L2
open PySem PySem.Spec PyProof.Rows
section
variable {X : Cx}

def tVar (i : Nat) : TE := fun σ H Q => ∃ v, σ[i]? = some (some v) ∧ Q v H
def tC (v : V) : TE := fun _ H Q => Q v H
theorem pe_var {i : Nat} {x : Str} {pos : Pos} (hN : X.N[i]? = some x) (hv : Vis X.env.scope x) (hd : (x == ("__debug__" : Str)) = false := by decide) (hcd : (x == ("__classdict__" : Str)) = false := by decide) : PE X (.Name x pos) (tVar i) := by
  intro pins s σ H Q I h
  obtain ⟨v, e, h⟩ := h
  obtain ⟨m, hn, hl⟩ := I.loc
  obtain ⟨u, r, l⟩ := hl i x v hN e hv
  have fin : EP X pins σ Q u s := ⟨v, H, I, r, h⟩
  rcases l with ⟨hk, hm⟩ | ⟨hk, c, hc, hcell⟩
  · exact wpAny_Name (wpAny_loadName_local I.ok.kind hk hn hm fin) hd
  · rcases hk with hk | hk
    · exact wpAny_Name (wpAny_loadName_cell I.ok.kind hk hc hcell fin) hd
    · exact wpAny_Name (wpAny_loadName_free I.ok.kind hk hc hcell fin hcd) hd
theorem pe_int {i j pos} : PE X (.Constant (.int i) j pos) (tC (.int i)) := fun _ _ _ H _ I h => wpAny_Constant_int ⟨.int i, H, I.tok _, ⟨_, rfl⟩, h⟩
theorem pe_bl {b j pos} : PE X (.Constant (.bool b) j pos) (tC (.bl b)) := fun _ _ _ H _ I h => Constant_bool ⟨.bl b, H, I, rfl, h⟩
theorem pe_non {j pos} : PE X (.Constant .none j pos) (tC .non) := fun _ _ _ H _ I h => Constant_none ⟨.non, H, I, rfl, h⟩
theorem pe_str {x j pos} : PE X (.Constant (.str x) j pos) (tC (.str x)) := fun _ _ _ H _ I h => Calls.Constant_str ⟨.str x, H, I.tok _, ⟨_, rfl⟩, h⟩

def Gl (X : Cx) (x : Str) : Prop := X.env.kindOf x = some .globalImplicit
theorem ld_glob {E : Value → Shared → Prop} {pins : List (Addr × Obj)} {s : Shared} {σ : St} {H : Hp} {x : Str} {u : Value} {pos : Pos} {Q : Value → Shared → Prop} (I : Inv X pins σ H s) (hg : Gl X x) (hm : X.mg x = some u) (h : Q u s)
    (hd : (x == ("__debug__" : Str)) = false := by decide) : wpAny (model X.prog X.w) X.A (eval (.Name x pos) X.env) Q E s :=
  Calls.Name_function_global I.ok.kind hg (Calls.loadGlobal_global (by rw [I.ok.glob]; exact I.mod.glob.keeps I.bk) hm h) hd
theorem ld_blt {E : Value → Shared → Prop} {pins : List (Addr × Obj)} {s : Shared} {σ : St} {H : Hp} {x : Str} {u : Value} {pos : Pos} {Q : Value → Shared → Prop} (I : Inv X pins σ H s) (hg : Gl X x) (hm : X.mg x = none) (hv : bootBuiltins x = some u) (h : Q u s)
    (hn : x ≠ "__name__" := by decide) (hd : (x == ("__debug__" : Str)) = false := by decide) : wpAny (model X.prog X.w) X.A (eval (.Name x pos) X.env) Q E s := by
  obtain ⟨mb, h1, h2⟩ := I.mod.blt
  exact Calls.Name_function_global I.ok.kind hg (Calls.loadGlobal_builtin (by rw [I.ok.glob]; exact I.mod.glob.keeps I.bk) hm (by rw [I.ok.blt]; exact h1.keeps I.bk) ((h2 x hn).trans hv) h) hd
theorem pe_glob {x : Str} {v : V} {u : Value} {pos : Pos} (hg : Gl X x) (hm : X.mg x = some u) (r : RelV v u) (hd : (x == ("__debug__" : Str)) = false := by decide) : PE X (.Name x pos) (tC v) :=
  fun _ _ _ H _ I h => ld_glob I hg hm ⟨v, H, I, r, h⟩ hd
theorem pe_bltn {x : Str} {v : V} {u : Value} {pos : Pos} (hg : Gl X x) (hm : X.mg x = none) (hv : bootBuiltins x = some u) (r : RelV v u) (hn : x ≠ "__name__" := by decide) (hd : (x == ("__debug__" : Str)) = false := by decide) : PE X (.Name x pos) (tC v) :=
  fun _ _ _ H _ I h => ld_blt I hg hm hv ⟨v, H, I, r, h⟩ hn hd

variable {a b : Expr} {ta tb : TE} {pos : Pos}
def PC (X : Cx) (op : CmpOp) (a b : Expr) (t : TE) : Prop :=
  ∀ ⦃pins : List (Addr × Obj)⦄ (s : Shared) (σ : St) (H : Hp) (Q : VK), Inv X pins σ H s → t σ H Q →
    wpAny (model X.prog X.w) X.A (eval a X.env) (fun v s₁ => wpAny (model X.prog X.w) X.A (eval b X.env) (fun u s₂ => wpAny (model X.prog X.w) X.A (compareOp op v u) (EP X pins σ Q) X.xe s₂) X.xe s₁) X.xe s
theorem nobehind (b : Expr) {op : CmpOp} (h : op ≠ .In) (h2 : op ≠ .NotIn) : behindInMarks op b = false := by
  have e1 : (op == CmpOp.In) = false := by cases op <;> first | rfl | exact absurd rfl h
  have e2 : (op == CmpOp.NotIn) = false := by cases op <;> first | rfl | exact absurd rfl h2
  cases b <;> simp [behindInMarks, e1, e2]
def tB (t : TE) : TT := fun σ H Q => t σ H fun x H1 => ∃ c, x = .bl c ∧ Q c H1
theorem pt_cmp {op : CmpOp} {t : TE} (h : PC X op a b t) (h1 : behindInMarks op b = false := by first | exact nobehind _ (by decide) (by decide) | rfl) : PT X (.Compare a [op] [b] pos) (tB t) := by
  intro pins s σ H Q I hw
  refine wpAny_isTrue_Compare1 (thn (h s σ H _ I hw) fun v s1 h1 => thn h1 fun u s2 h2 => thn h2 fun c s3 ⟨x, H1, I1, r1, q1⟩ => ?_) h1
  obtain ⟨d, rfl, q⟩ := q1
  cases r1
  exact wpAny_truthy_bool ⟨H1, I1, q⟩
theorem pt_val {e : Expr} {t : TE} (h : PE X e t) (he : ∀ whole, isTrue e X.env whole = (do let v ← whole; standAt e.pos; holding [v] (truthy v)) := by intro _; rfl) : PT X e (tB t) := by
  intro pins s σ H Q I hw
  refine isTrue_plain (thn (h s σ H _ I hw) fun v s1 ⟨x, H1, I1, r1, q1⟩ => ?_) (he _)
  obtain ⟨d, rfl, q⟩ := q1
  cases r1
  exact wpAny_truthy_bool ⟨H1, I1, q⟩

variable {tA tB' : TT} {rest : List Expr}
def tOr (t u : TT) : TT := fun σ H Q => t σ H fun c H1 => if c = true then Q true H1 else u σ H1 Q
def tNot (t : TT) : TT := fun σ H Q => t σ H fun c H1 => Q (!c) H1
theorem pw_or1 (ha : PT X a tA) : PW X (.BoolOp .Or [a] pos) tA := by
  intro wh pins s σ H Q I h
  refine isTrue_or (thn (ha s σ H Q I h) fun c s1 e => ?_)
  cases c with
  | false => exact isTrue_or_nil e
  | true => exact e
theorem pw_or (ha : PT X a tA) (hb : PW X (.BoolOp .Or (b :: rest) pos) tB') : PW X (.BoolOp .Or (a :: b :: rest) pos) (tOr tA tB') := by
  intro wh pins s σ H Q I h
  refine isTrue_or (thn (ha s σ H _ I h) fun c s1 ⟨H1, I1, q1⟩ => ?_)
  cases c with
  | true => exact ⟨H1, I1, q1⟩
  | false => exact hb pins s1 σ H1 Q I1 q1
theorem pt_not (ha : PT X a tA) : PT X (.UnaryOp .Not a pos) (tNot tA) := by
  intro pins s σ H Q I h
  exact isTrue_not (ha s σ H (fun c H1 => Q (!c) H1) I h)
def tAndV (ta tb : TE) : TE := fun σ H Q => ta σ H fun x H1 => ∃ c, x = .bl c ∧ if c = true then tb σ H1 Q else Q (.bl false) H1
def tNotV (ta : TE) : TE := fun σ H Q => ta σ H fun x H1 => ∃ c, x = .bl c ∧ Q (.bl (!c)) H1
theorem pe_one {op} {t : TE} (h : PE X a t) : PE X (.BoolOp op [a] pos) t := fun pins s σ H Q I hw => BoolOp_one (h s σ H Q I hw)
theorem pe_and (ha : PE X a ta) (hb : PE X (.BoolOp .And (b :: rest) pos) tb) : PE X (.BoolOp .And (a :: b :: rest) pos) (tAndV ta tb) := by
  intro pins s σ H Q I h
  refine BoolOp_and (thn (ha s σ H _ I h) fun v s1 ⟨x, H1, I1, r1, q1⟩ => ?_)
  obtain ⟨c, rfl, q1⟩ := q1
  cases r1
  refine wpAny_truthy_bool ?_
  cases c with
  | true => exact hb s1 σ H1 Q I1 q1
  | false => exact ⟨.bl false, H1, I1, rfl, q1⟩
theorem pe_not (ha : PE X a ta) : PE X (.UnaryOp .Not a pos) (tNotV ta) := by
  intro pins s σ H Q I h
  refine UnaryOp_ (thn (ha s σ H _ I h) fun v s1 ⟨x, H1, I1, r1, q1⟩ => ?_)
  obtain ⟨c, rfl, q1⟩ := q1
  cases r1
  exact not_of (wpAny_truthy_bool ⟨.bl (!c), H1, I1, rfl, q1⟩)
end
end L2

namespace L2
open PySem PySem.Spec PyProof.Rows

def SqL (K : PySem.W.Frag) (H : Hp) (a : Addr) (xs : List V) : Prop :=
  Rd H a (.lst xs) ∨
    ∃ (o : Obj) (its : Array Value) (n : Nat), K.lookup a = some o ∧ o.cls = .type "list" ∧ o.dict = none ∧ o.data = .seq its n ∧ its.size ≤ sizeLine ∧ Vals xs its.toList
def SqT (K : PySem.W.Frag) (H : Hp) (a : Addr) (xs : List V) : Prop :=
  Rd H a (.tup xs) ∨
    ∃ (o : Obj) (its : Array Value) (n : Nat), K.lookup a = some o ∧ o.cls = .type "tuple" ∧ o.data = .seq its n ∧ its.size ≤ sizeLine ∧ Vals xs its.toList
def absV : Value → Option V
  | .none => some .non
  | .bool b => some (.bl b)
  | .int i _ => some (.int i)
  | .str x _ => some (.str x)
  | .bytes b _ => some (.byt b)
  | .float b _ => some (.flt b)
  | .ref a => some (.ref a)
  | .type n => some (.ty n)
  | _ => none
theorem RelV.abs {x : V} {u : Value} (r : RelV x u) : absV u = some x := by
  cases x with
  | non => cases r; rfl
  | bl _ => cases r; rfl
  | int _ => obtain ⟨t, rfl⟩ := r; rfl
  | str _ => obtain ⟨t, rfl⟩ := r; rfl
  | byt _ => obtain ⟨t, rfl⟩ := r; rfl
  | flt _ => obtain ⟨t, rfl⟩ := r; rfl
  | ref _ => cases r; rfl
  | ty _ => cases r; rfl
theorem RelV.inj {x y : V} {u : Value} (r : RelV x u) (q : RelV y u) : x = y := Option.some.inj (r.abs.symm.trans q.abs)
theorem Vals.inj : ∀ {xs ys : List V} {us : List Value}, Vals xs us → Vals ys us → xs = ys
  | _, _, _, .nil, .nil => rfl
  | _, _, _, .cons r t, .cons r' t' => by rw [r.inj r', Vals.inj t t']
section
variable {X : Cx} {pins : List (Addr × Obj)} {σ : St} {H : Hp} {s : Shared} {a : Addr} {xs ys : List V}
theorem SqL.of {K : PySem.W.Frag} (h : H a = some (.lst xs)) : SqL K H a xs := .inl (.inl h)
theorem SqT.of {K : PySem.W.Frag} (h : H a = some (.tup xs)) : SqT K H a xs := .inl (.inl h)
theorem Inv.list (I : Inv X pins σ H s) (h : SqL X.K H a xs) : ∃ its : List Value, Vals xs its ∧ PlainL s.heap a its.toArray ∧ xs.length ≤ sizeLine := by
  rcases h with h | ⟨o, its, n, hk, hc, hd, hs, hz, r⟩
  · obtain ⟨z, its, n, r, e⟩ := h.ok I.hok
    exact ⟨its, r, ⟨_, n, e, rfl, rfl, rfl⟩, z⟩
  · refine ⟨its.toList, r, ⟨o, n, I.kIn a o hk, hc, hd, by simpa using hs⟩, ?_⟩
    have e := r.length
    simp only [Array.length_toList] at e
    omega
theorem Inv.tuple (I : Inv X pins σ H s) (h : SqT X.K H a xs) : ∃ its : List Value, Vals xs its ∧ IsTup s.heap a its.toArray ∧ xs.length ≤ sizeLine := by
  rcases h with h | ⟨o, its, n, hk, hc, hs, hz, r⟩
  · obtain ⟨z, its, r, ob, p1, p2, n, p3, _⟩ := h.ok I.hok
    exact ⟨its, r, ⟨ob, p1, p2, n, p3⟩, z⟩
  · refine ⟨its.toList, r, ⟨o, I.kIn a o hk, hc, n, by simpa using hs⟩, ?_⟩
    have e := r.length
    simp only [Array.length_toList] at e
    omega
theorem Inv.list_inj (I : Inv X pins σ H s) (h : SqL X.K H a xs) (h' : SqL X.K H a ys) : xs = ys := by
  obtain ⟨its, r, ⟨o, n, e, _, _, d⟩, _⟩ := I.list h
  obtain ⟨its', r', ⟨o', n', e', _, _, d'⟩, _⟩ := I.list h'
  rw [e] at e'; cases e'
  rw [d] at d'
  injection d' with d1 _
  have : its = its' := by simpa using congrArg Array.toList d1
  subst this
  exact r.inj r'
theorem Inv.tuple_inj (I : Inv X pins σ H s) (h : SqT X.K H a xs) (h' : SqT X.K H a ys) : xs = ys := by
  obtain ⟨its, r, ⟨o, e, _, n, d⟩, _⟩ := I.tuple h
  obtain ⟨its', r', ⟨o', e', _, n', d'⟩, _⟩ := I.tuple h'
  rw [e] at e'; cases e'
  rw [d] at d'
  injection d' with d1 _
  have : its = its' := by simpa using congrArg Array.toList d1
  subst this
  exact r.inj r'
end

abbrev Cx.wish (X : Cx) (E : Value → Shared → Prop) : Cx := { X with xe := E }
abbrev Cx.nox (X : Cx) : Cx := X.wish fun _ _ => False
theorem Cx.Ok.wish {X : Cx} (ok : X.Ok) (E : Value → Shared → Prop) : (X.wish E).Ok :=
  ⟨ok.mod, ok.kind, ok.glob, ok.blt, ok.above, ok.inj, ok.has, ok.cab, ok.hd, ok.frames, ok.stk, ok.exf, ok.bs, ok.bsz, ok.noex, ok.exfs, ok.funs, ok.frf⟩
theorem Cx.Ok.unwish {X : Cx} {E : Value → Shared → Prop} (ok : (X.wish E).Ok) : X.Ok :=
  ⟨ok.mod, ok.kind, ok.glob, ok.blt, ok.above, ok.inj, ok.has, ok.cab, ok.hd, ok.frames, ok.stk, ok.exf, ok.bs, ok.bsz, ok.noex, ok.exfs, ok.funs, ok.frf⟩
section
variable {X : Cx} {pins : List (Addr × Obj)} {σ : St} {H : Hp} {s : Shared} {E : Value → Shared → Prop}
theorem Inv.wish (I : Inv X pins σ H s) (E : Value → Shared → Prop) : Inv (X.wish E) pins σ H s := ⟨I.ok.wish E, I.os, I.bare, I.base, I.loc, I.cell, I.free, I.freeC, I.pin, I.hok, I.len⟩
theorem Inv.unwish (I : Inv (X.wish E) pins σ H s) : Inv X pins σ H s := ⟨I.ok.unwish, I.os, I.bare, I.base, I.loc, I.cell, I.free, I.freeC, I.pin, I.hok, I.len⟩
theorem SP.unwish {D : Ends} {f : Flow} {s' : Shared} (h : SP (X.wish E) pins D f s') : SP X pins D f s' := by
  cases f with
  | next => obtain ⟨σ', H', I, q⟩ := h; exact ⟨σ', H', I.unwish, q⟩
  | brk => obtain ⟨σ', H', I, q⟩ := h; exact ⟨σ', H', I.unwish, q⟩
  | cont => obtain ⟨σ', H', I, q⟩ := h; exact ⟨σ', H', I.unwish, q⟩
  | ret u => obtain ⟨v, σ', H', I, r, q⟩ := h; exact ⟨v, σ', H', I.unwish, r, q⟩
theorem PE.nox {e : Expr} {t : TE} (h : PE X.nox e t) : PE X e t := fun pins s σ H Q I hw =>
  wpAny_mono (h s σ H Q (I.wish _) hw) (fun _ _ ⟨v, H', I', r, q⟩ => ⟨v, H', I'.unwish, r, q⟩) fun _ _ z => False.elim z
theorem PT.nox {e : Expr} {t : TT} (h : PT X.nox e t) : PT X e t := fun pins s σ H Q I hw =>
  wpAny_mono (h s σ H Q (I.wish _) hw) (fun _ _ ⟨H', I', q⟩ => ⟨H', I'.unwish, q⟩) fun _ _ z => False.elim z
theorem PSs.nox {st : List Stmt} {t : TS} (h : PSs X.nox st t) : PSs X st t := fun pins s σ H D I hw =>
  wpAny_mono (h s σ H D (I.wish _) hw) (fun _ _ q => q.unwish) fun _ _ z => False.elim z
end

section
variable {X : Cx} {st : Stmt} {rest : List Stmt} {t u : TS} {e : Expr} {te : TE} {pos : Pos}
def tNext : TS := fun D σ H => D.nx σ H
def tSeq (t u : TS) : TS := fun D σ H => t { D with nx := u D } σ H
theorem pss_nil : PSs X [] tNext := fun _ _ σ H _ I h => wpAny_execs_nil ⟨σ, H, I, h⟩
theorem pss_cons (h1 : PS X st t) (h2 : PSs X rest u) : PSs X (st :: rest) (tSeq t u) := by
  intro pins s σ H D I h
  refine wpAny_execs_cons (thn (h1 s σ H { D with nx := u D } I h) fun f s1 q => ?_)
  cases f with
  | next =>
    obtain ⟨σ', H', I', q⟩ := q
    exact h2 s1 σ' H' D I' q
  | ret v => exact q
  | brk => exact q
  | cont => exact q
theorem pss_one (h1 : PS X st t) : PSs X [st] t := by
  intro pins s σ H D I h
  refine wpAny_execs_cons (thn (h1 s σ H D I h) fun f s1 q => ?_)
  cases f with
  | next => exact wpAny_execs_nil q
  | ret v => exact q
  | brk => exact q
  | cont => exact q
theorem Inv.quiet {pins : List (Addr × Obj)} {σ : St} {H : Hp} {s : Shared} (I : Inv X pins σ H s) : interactive X.env = false := by simp [interactive, I.ok.kind]
def tDrop (te : TE) : TS := fun D σ H => te σ H fun _ H1 => D.nx σ H1
theorem ps_expr (he : PE X e te) (hs : swapsWith e none pos.line X.env = pure false := by rfl) : PS X (.Expr e pos) (tDrop te) := by
  intro pins s σ H D I h
  exact wpAny_Expr_any (thn (he s σ H _ I h) fun v s1 ⟨x, H1, I1, r1, q1⟩ => ⟨σ, H1, I1, q1⟩) I.quiet hs
def tRet (te : TE) : TS := fun D σ H => te σ H D.rt
theorem ps_ret (he : PE X e te) : PS X (.Return (some e) pos) (tRet te) := by
  intro pins s σ H D I h
  exact wpAny_Return_some (thn (he s σ H _ I h) fun v s1 ⟨x, H1, I1, r1, q1⟩ => ⟨x, σ, H1, I1, r1, q1⟩)
def tIfS (c : TT) (t u : TS) : TS := fun D σ H => c σ H fun b H1 => if b = true then t D σ H1 else u D σ H1
theorem ps_if {c : Expr} {a b : List Stmt} {tc : TT} (hc : PT X c tc) (ha : PSs X a t) (hb : PSs X b u) : PS X (.If c a b pos) (tIfS tc t u) := by
  intro pins s σ H D I h
  refine wpAny_If (thn (hc s σ H _ I h) fun d s1 ⟨H1, I1, q1⟩ => ?_)
  cases d with
  | true => exact ha s1 σ H1 D I1 q1
  | false => exact hb s1 σ H1 D I1 q1
end

abbrev TG := V → St → Hp → (St → Hp → Prop) → Prop
abbrev TGs := List V → St → Hp → (St → Hp → Prop) → Prop
def PG (X : Cx) (target : Expr) (t : TG) : Prop :=
  ∀ ⦃pins : List (Addr × Obj)⦄ (s : Shared) (σ : St) (H : Hp) (v : V) (u : Value) (Q : St → Hp → Prop), Inv X pins σ H s → RelV v u → t v σ H Q →
    wpAny (model X.prog X.w) X.A (assign target X.env u) (fun _ s' => ∃ σ' H', Inv X pins σ' H' s' ∧ Q σ' H') X.xe s
def PGs (X : Cx) (ts : List Expr) (t : TGs) : Prop :=
  ∀ ⦃pins : List (Addr × Obj)⦄ (s : Shared) (σ : St) (H : Hp) (vs : List V) (us : List Value) (Q : St → Hp → Prop), Inv X pins σ H s → Vals vs us → t vs σ H Q →
    wpAny (model X.prog X.w) X.A (assignInOrder ((assignEach ts X.env).map (·.2)) us) (fun _ s' => ∃ σ' H', Inv X pins σ' H' s' ∧ Q σ' H') X.xe s
abbrev TSet := V → V → V → Hp → (Hp → Prop) → Prop
def PSet (X : Cx) (t : TSet) : Prop :=
  ∀ ⦃pins : List (Addr × Obj)⦄ (s : Shared) (σ : St) (H : Hp) (o i v : V) (ov iv u : Value) (Q : Hp → Prop), Inv X pins σ H s → RelV o ov → RelV i iv → RelV v u → t o i v H Q →
    wpAny (model X.prog X.w) X.A (setItem ov iv u) (fun _ s' => ∃ H', Inv X pins σ H' s' ∧ Q H') X.xe s
section
variable {X : Cx} {pos : Pos}
def gName (i : Nat) : TG := fun v σ H Q => Q (σ.set i (some v)) H
theorem pg_name {i : Nat} {x : Str} (hN : X.N.Nodup) (hi : X.N[i]? = some x) (hx : Loc X.env.scope x) (hf : X.fn x = true ∨ X.env.scope.names.lookup x = some .local := by first | exact .inl rfl | exact .inr rfl | assumption) : PG X (.Name x pos) (gName i) := by
  intro pins s σ H v u Q I r h
  exact wpAny_assign_Name (store_ok I hN hi hx r (fun s' I' => ⟨_, H, I', h⟩) hf)
def gNil : TGs := fun vs σ H Q => vs = [] ∧ Q σ H
def gCons (t : TG) (u : TGs) : TGs := fun vs σ H Q => ∃ v r, vs = v :: r ∧ t v σ H fun σ' H' => u r σ' H' Q
theorem pgs_nil : PGs X [] gNil := by
  intro pins s σ H vs us Q I r h
  obtain ⟨e, h⟩ := h
  subst e
  cases r
  exact assignInOrder_nil ⟨σ, H, I, h⟩
theorem pgs_cons {e : Expr} {es : List Expr} {t : TG} {u : TGs} (h1 : PG X e t) (h2 : PGs X es u)
    (hs : (assignEach (e :: es) X.env).map (·.2) = assign e X.env :: (assignEach es X.env).map (·.2) := by rfl) : PGs X (e :: es) (gCons t u) := by
  intro pins s σ H vs us Q I r h
  obtain ⟨v, vr, e1, h⟩ := h
  subst e1
  cases r with
  | cons r rr =>
    rw [hs]
    refine assignInOrder_cons (thn (h1 s σ H _ _ _ I r h) fun _ s1 ⟨σ1, H1, I1, q1⟩ => ?_)
    exact h2 s1 σ1 H1 _ _ Q I1 rr q1
def gTup (K : PySem.W.Frag) (n : Nat) (t : TGs) : TG := fun v σ H Q => ∃ a xs, v = .ref a ∧ SqT K H a xs ∧ xs.length = n ∧ t xs σ H Q
theorem pg_tup {es : List Expr} {k : Nat} {t : TGs} {n : Nat} (hc : X.calm = true) (h : PGs X es t)
    (hn : (assignEach es X.env).length = n := by rfl) (hst : (assignEach es X.env).findIdx? (·.1) = none := by rfl) : PG X (.Tuple es k pos) (gTup X.K n t) := by
  intro pins s σ H v u Q I r hw
  obtain ⟨a, xs, e1, hq, hl, hw⟩ := hw
  subst e1
  cases r
  obtain ⟨its, rv, ht, hz⟩ := I.tuple hq
  refine assign_Tuple_tuple (I.ok.hd hc) ht (by simp [hn, ← hl, rv.length]) hst fun h' hx => ?_
  have I1 : Inv X pins σ H { s with heap := h' } := I.kept (t' := s.toks) fun b o e => hx b o (Nat.ne_of_lt (Heap.lt_size e)) e
  exact h _ σ H xs _ Q I1 (by simpa using rv) hw
def gSub (to ti : TE) (t : TSet) : TG := fun v σ H Q => to σ H fun o H1 => ti σ H1 fun i H2 => t o i v H2 fun H3 => Q σ H3
theorem pg_sub {o i : Expr} {to ti : TE} {t : TSet} (ho : PE X o to) (hi : PE X i ti) (hs : PSet X t)
    (ha : ∀ v, assign (.Subscript o i pos) X.env v = (do
      let ov ← holding [v] (eval o X.env)
      let iv ← holding [v, ov] (eval i X.env)
      standAt pos
      holding [v, ov, iv] (setItem ov iv v)
      release [v, ov, iv] []) := by intro _; rfl) : PG X (.Subscript o i pos) (gSub to ti t) := by
  intro pins s σ H v u Q I r h
  rw [ha]
  refine wpAny_bind (wpAny_holding (thn (ho s σ H _ I h) fun ov s1 ⟨x, H1, I1, r1, q1⟩ => ?_))
  refine wpAny_bind (wpAny_holding (thn (hi s1 σ H1 _ I1 q1) fun iv s2 ⟨y, H2, I2, r2, q2⟩ => ?_))
  refine wpAny_bind (wpAny_standAt (wpAny_bind (wpAny_holding (thn (hs s2 σ H2 x y v ov iv u _ I2 r1 r2 r q2) fun _ s3 ⟨H3, I3, q3⟩ => ?_))))
  exact wpAny_release ⟨σ, H3, I3, q3⟩
def tAsg (te : TE) (g : TG) : TS := fun D σ H => te σ H fun x H1 => g x σ H1 D.nx
theorem ps_asg {tg e : Expr} {te : TE} {g : TG} (he : PE X e te) (hg : PG X tg g) (hs : swapsWithSole [tg] e pos.line X.env = pure false := by rfl) (hw : swappedStores [tg] e X.env = pure none := by rfl)
    (h1 : (assignEach [tg] X.env).map (·.2) = [assign tg X.env] := by rfl) : PS X (.Assign [tg] e pos) (tAsg te g) := by
  intro pins s σ H D I h
  refine wpAny_Assign_stores (thn (he s σ H _ I h) fun v s1 ⟨x, H1, I1, r1, q1⟩ => ?_) hs hw
  rw [h1]
  exact thn (hg s1 σ H1 x v _ I1 r1 q1) fun _ s2 q => q
theorem ps_set {i : Nat} {x : Str} {e : Expr} {te : TE} {pos' : Pos} (hN : X.N.Nodup) (hi : X.N[i]? = some x) (hx : Loc X.env.scope x) (he : PE X e te) (hs : swapsWith e (some (.Name x pos')) pos.line X.env = pure false := by rfl) (hf : X.fn x = true ∨ X.env.scope.names.lookup x = some .local := by first | exact .inl rfl | exact .inr rfl | assumption) :
    PS X (.Assign [.Name x pos'] e pos) (tAsg te (gName i)) := by
  intro pins s σ H D I h
  refine wpAny_Assign_Name (thn (he s σ H _ I h) fun v s1 ⟨y, H1, I1, r1, q1⟩ => ?_) hs
  exact store_ok I1 hN hi hx r1 (fun s2 I2 => ⟨_, H1, I2, q1⟩) hf
def tPar (i j : Nat) (ta : TA) : TS := fun D σ H => ta σ H fun vs H1 => ∃ v w, vs = [v, w] ∧ D.nx ((σ.set i (some v)).set j (some w)) H1
theorem ps_par {i j : Nat} {x y : Str} {a b : Expr} {ta : TA} {px py pt : Pos} {kt k2 pt2} (hc : X.calm = true) (hN : X.N.Nodup) (hi : X.N[i]? = some x) (hj : X.N[j]? = some y) (hij : i ≠ j)
    (hx : X.env.scope.names.lookup x = some .local) (hy : X.env.scope.names.lookup y = some .local) (ha : PA X [a, b] ta)
    (hw : swappedStores [.Tuple [.Name x px, .Name y py] kt pt] (.Tuple [a, b] k2 pt2) X.env = pure (some [x, y]))
    (hs : swapsWithSole [.Tuple [.Name x px, .Name y py] kt pt] (.Tuple [a, b] k2 pt2) pos.line X.env = pure false := by rfl) :
    PS X (.Assign [.Tuple [.Name x px, .Name y py] kt pt] (.Tuple [a, b] k2 pt2) pos) (tPar i j ta) := by
  intro pins s σ H D I h
  rw [exec_Assign_arm]
  refine wpAny_bind (wpAny_standAt ?_)
  rw [hs]
  refine wpAny_bind (wpAny_pure ?_)
  rw [if_neg (by decide)]
  refine wpAny_bind (Tuple_ (thn (ha pins s σ H _ I h) fun us s1 ⟨vs, H1, I1, r1, q1⟩ => ?_))
  obtain ⟨v, w, e1, q1⟩ := q1
  subst e1
  obtain ⟨u1, u2, rfl, rv, rw'⟩ : ∃ u1 u2, us = [u1, u2] ∧ RelV v u1 ∧ RelV w u2 := by
    cases r1 with
    | cons p q =>
      cases q with
      | cons p' q' =>
        cases q'
        exact ⟨_, _, rfl, p, p'⟩
  refine wpAny_newObj_type ?_ (by show 2 ≤ sizeLine; decide)
  have I2 : Inv X pins σ H1 { s1 with heap := s1.heap.push { cls := .type "tuple", data := .seq [u1, u2].toArray } } := I1.kept (t' := s1.toks) fun b o e => Heap.get?_push_of_some _ e
  rw [hw]
  refine wpAny_bind (wpAny_pure ?_)
  show wpAny (model X.prog X.w) X.A (do rule "assign.swapped-stores"; let items ← unpackItems (.ref s1.heap.objs.size) 2 none; assignInOrder [fun v => bindName X.env y v, fun v => bindName X.env x v] items.reverse; pure Flow.next) _ _ _
  refine wpAny_bind (wpAny_rule (wpAny_bind (unpackItems_tuple (items := #[u1, u2]) (I.ok.hd hc) (IsTup.new s1.heap _) fun h' hx' => ?_)))
  have I3 := I2.kept (h' := h') (t' := s1.toks) fun b o e => hx' b o (Nat.ne_of_lt (Heap.lt_size e)) e
  show wpAny _ _ (assignInOrder [fun v => bindName X.env y v, fun v => bindName X.env x v] [u2, u1] >>= fun _ => pure Flow.next) _ _ _
  refine wpAny_bind (assignInOrder_cons (wpAny_bindName (store_ok I3 hN hj (.inl hy) rw' (fun s2 I4 => ?_) (.inr hy))))
  refine assignInOrder_cons (wpAny_bindName (store_ok I4 hN hi (.inl hx) rv (fun s3 I5 => assignInOrder_nil (wpAny_pure ?_)) (.inr hx)))
  rw [List.set_comm _ _ (Ne.symm hij)] at I5
  exact ⟨_, H1, I5, q1⟩
end

section
variable {X : Cx} {pos : Pos}
def tWhile (c : TT) (tb : TS) : TS := fun D σ H => ∃ W : Nat → St → Hp → Prop, (∃ m, W m σ H) ∧ ∀ m σ H, W m σ H →
  c σ H fun b H1 => if b = true then ∃ N : St → Hp → Prop, (∀ σ' H', N σ' H' → ∃ m', m' < m ∧ W m' σ' H') ∧ tb { D with nx := N, ct := N, bk := D.nx } σ H1 else D.nx σ H1
theorem ps_while {c : Expr} {body : List Stmt} {tc : TT} {tb : TS} (hp : PassesOwn (model X.prog X.w) X.A X.env X.xe) (hc : PT X c tc) (hb : PSs X body tb) : PS X (.While c body [] pos) (tWhile tc tb) := by
  intro pins s σ H D I h
  obtain ⟨W, ⟨m0, w0⟩, turn⟩ := h
  refine wpAny_While (codeAny_whileLoop (fun n s' => ∃ σ' H', Inv X pins σ' H' s' ∧ W n σ' H') ?_ m0 ⟨σ, H, I, w0⟩)
  rintro n s1 ⟨σ1, H1, I1, w1⟩
  refine wpAny_passesOwn hp (thn (hc s1 σ1 H1 _ I1 (turn n σ1 H1 w1)) fun b s2 ⟨H2, I2, q2⟩ => ?_)
  cases b with
  | true =>
    obtain ⟨N, hN, q2⟩ := q2
    rw [if_pos rfl]
    refine wpAny_passesOwn hp (thn (hb s2 σ1 H2 _ I2 q2) fun f s3 q3 => ?_)
    cases f with
    | next =>
      obtain ⟨σ3, H3, I3, n3⟩ := q3
      obtain ⟨m', hm, w3⟩ := hN σ3 H3 n3
      exact ⟨m', hm, σ3, H3, I3, w3⟩
    | cont =>
      obtain ⟨σ3, H3, I3, n3⟩ := q3
      obtain ⟨m', hm, w3⟩ := hN σ3 H3 n3
      exact ⟨m', hm, σ3, H3, I3, w3⟩
    | brk => exact q3
    | ret v => exact q3
  | false =>
    rw [if_neg Bool.false_ne_true]
    exact wpAny_execs_nil ⟨σ1, H2, I2, q2⟩
end

structure It where
  go : Nat → Hp → Prop
  yld : Nat → Hp → V → Hp → Prop
  stop : Nat → Hp → Prop
def FpOk (X : Cx) (pins : List (Addr × Obj)) (H : Hp) (b : Addr) : Prop :=
  H b = none ∧ b ≠ X.env.locals ∧ b ∉ X.fs ∧ (b ∈ X.ex ∨ X.s_0.heap.objs.size ≤ b) ∧ (∀ x c, X.env.cells.lookup x = some c → c ≠ b) ∧ ∀ p ∈ X.pn ++ pins, p.1 ≠ b
theorem Inv.fpOk {X : Cx} {pins : List (Addr × Obj)} {σ : St} {H H' : Hp} {s : Shared} {b : Addr} (I : Inv X pins σ H s) (hb : s.heap.objs.size ≤ b) (hn : H' b = none) : FpOk X pins H' b := by
  refine ⟨hn, Nat.ne_of_gt (Nat.lt_of_lt_of_le I.lt hb), I.nofs hb, .inr (Nat.le_trans I.sz hb), fun x c e z => ?_, fun p hp z => ?_⟩
  · obtain ⟨v, q⟩ := I.cell x c e
    exact absurd (Nat.lt_of_lt_of_le q.lt (by rw [z]; exact hb)) (Nat.lt_irrefl _)
  · exact absurd (Nat.lt_of_lt_of_le (Heap.lt_size (I.pin p hp).1) (by rw [z]; exact hb)) (Nat.lt_irrefl _)
structure Turn (P : Program) (w : World) (K : PySem.W.Frag) (tg : Expr) (J : It) (fp : List Addr) (it : Addr) (tn : Nat → Heap → Prop) : Prop where
  mem : it ∈ fp
  obj : ∀ i h, tn i h → ∀ b ∈ fp, ∃ o, h.get? b = some o ∧ ∀ v, o.data ≠ .cell v
  keep : ∀ i h h', tn i h → (∀ b ∈ fp, ∀ o, h.get? b = some o → h'.get? b = some o) → tn i h'
  item : ∀ (X : Cx), X.prog = P → X.w = w → X.K = K → X.calm = true → ∀ (i : Nat) (pins : List (Addr × Obj)) (s : Shared) (σ : St) (H : Hp) (E : Value → Shared → Prop), Inv X pins σ H s → (∀ b ∈ fp, FpOk X pins H b) → tn i s.heap → J.go i H →
    wpAny (model P w) X.A (pyNext (.ref it)) (fun r s1 => ∃ u, r = some u ∧
      wpAny (model P w) X.A (letOwnedTupleGo tg (.ref it) u) (fun _ s2 => ∃ x H', Inv X pins σ H' s2 ∧ RelV x u ∧ J.yld i H x H' ∧ tn (i + 1) s2.heap ∧ ∀ b ∈ fp, H' b = none) E s1) E s
  done : ∀ (X : Cx), X.prog = P → X.w = w → X.K = K → X.calm = true → ∀ (i : Nat) (pins : List (Addr × Obj)) (s : Shared) (σ : St) (H : Hp) (E : Value → Shared → Prop), Inv X pins σ H s → (∀ b ∈ fp, FpOk X pins H b) → tn i s.heap → J.stop i H →
    wpAny (model P w) X.A (pyNext (.ref it)) (fun r s1 => r = none ∧ Inv X pins σ H s1) E s
  self : ∀ (A : Around) (i : Nat) (s : Shared) (Q : Value → Shared → Prop) (E : Value → Shared → Prop), tn i s.heap → Q (.ref it) s → wpAny (model P w) A (pyIter (.ref it)) Q E s
abbrev TI := St → Hp → (It → Hp → Prop) → Prop
def PIE (X : Cx) (pins : List (Addr × Obj)) (σ : St) (tg : Expr) (R : It → Hp → Prop) (itv : Value) (s2 : Shared) : Prop :=
  ∃ (it : Addr) (fp : List Addr) (tn : Nat → Heap → Prop) (J : It) (H' : Hp), itv = .ref it ∧ Inv X pins σ H' s2 ∧ Turn X.prog X.w X.K tg J fp it tn ∧ tn 0 s2.heap ∧ (∀ b ∈ fp, FpOk X pins H' b) ∧ R J H'
def PI (X : Cx) (tg iter : Expr) (wi : TI) : Prop :=
  ∀ ⦃pins : List (Addr × Obj)⦄ (s : Shared) (σ : St) (H : Hp) (R : It → Hp → Prop), Inv X pins σ H s → wi σ H R →
    wpAny (model X.prog X.w) X.A (eval iter X.env) (fun v s1 => wpAny (model X.prog X.w) X.A (pyIter v) (PIE X pins σ tg R) X.xe s1) X.xe s

theorem go_of {M : Model} {A : Around} {E : Value → Shared → Prop} {s : Shared} {tg : Expr} {it : Addr} {u : Value} {o : Obj} {n : String} {vs : Array Value} {Q : Unit → Shared → Prop} (ho : s.heap.get? it = some o) (hc : o.cls = .type n) (hd : o.data = .fields vs)
    (hn : ["enumerate", "zip", "dict_itemiterator", "dict_reverseitemiterator", "odict_iterator", "itertools.zip_longest", "itertools.pairwise"].contains n = false) (hQ : Q () s) : wpAny M A (letOwnedTupleGo tg (.ref it) u) Q E s := by
  unfold letOwnedTupleGo
  cases tg <;> first
    | exact wpAny_pure hQ
    | (cases u <;> first
        | exact wpAny_pure hQ
        | (refine wpAny_bind (wpAny_load ho ?_)
           rw [hc, hd]
           show wpAny M A (if (["enumerate", "zip", "dict_itemiterator", "dict_reverseitemiterator", "odict_iterator", "itertools.zip_longest", "itertools.pairwise"].contains n && vs[0]? == some (rawInt _)) = true then _ else _) Q E s
           rw [if_neg (by intro h; rw [hn, Bool.false_and] at h; cases h)]
           exact wpAny_pure hQ))

def Itl (K : PySem.W.Frag) (a : Addr) : It :=
  ⟨fun i H => ∃ xs x, SqL K H a xs ∧ xs[i]? = some x, fun i H x H' => H' = H ∧ ∀ xs, SqL K H a xs → xs[i]? = some x, fun i H => ∃ xs, SqL K H a xs ∧ xs.length ≤ i⟩
def Itt (K : PySem.W.Frag) (a : Addr) : It :=
  ⟨fun i H => ∃ xs x, SqT K H a xs ∧ xs[i]? = some x, fun i H x H' => H' = H ∧ ∀ xs, SqT K H a xs → xs[i]? = some x, fun i H => ∃ xs, SqT K H a xs ∧ xs.length ≤ i⟩
def Itr (lo : Int) (n : Nat) : It := ⟨fun i _ => i < n, fun i H x H' => H' = H ∧ x = .int (lo + i), fun i _ => n ≤ i⟩
theorem turn_list {P : Program} {w : World} {K : PySem.W.Frag} {tg : Expr} (a it : Addr) : Turn P w K tg (Itl K a) [it] it (fun i h => h.IsListIter it a i) where
  mem := by simp
  obj := fun i h st b hb => by
    have e : b = it := by simpa using hb
    subst e
    obtain ⟨o, e, c, d⟩ := st
    exact ⟨o, e, fun v z => by rw [d] at z; cases z⟩
  keep := fun i h h' st k => st.at fun o e => k it (by simp) o e
  item := by
    intro X hP hw hK hc i pins s σ H E I hf st hg
    subst hP hw hK
    obtain ⟨xs, x, hq, hx⟩ := hg
    obtain ⟨its, rv, p, hz⟩ := I.list hq
    obtain ⟨u, hu, ru⟩ := rv.get hx
    obtain ⟨f0, f1, f2, f3, f4, f5⟩ := hf it (by simp)
    refine wpAny_pyNext_list_item st p.isList (x := u) (by simpa using hu) fun h' st' sb => ?_
    have I1 : Inv X pins σ H { s with heap := h' } := I.turned (t' := s.toks) (fun b o hb e => (sb.2 b hb).trans e) f0 f1 f3 f4 f5
    obtain ⟨o, e, c, d⟩ := id st'
    exact ⟨u, rfl, go_of (s := { s with heap := h' }) e c d (by decide) ⟨x, H, I1, ru, ⟨rfl, fun ys hy => by rw [I.list_inj hy hq]; exact hx⟩, st', fun b hb => (hf b hb).1⟩⟩
  done := by
    intro X hP hw hK hc i pins s σ H E I hf st hg
    subst hP hw hK
    obtain ⟨xs, hq, hx⟩ := hg
    obtain ⟨its, rv, p, hz⟩ := I.list hq
    obtain ⟨f0, f1, f2, f3, f4, f5⟩ := hf it (by simp)
    have hl := rv.length
    exact wpAny_pyNext_list_end (I.ok.hd hc) st p.isList (by simp; omega) fun h' eb => ⟨rfl, I.turned (t' := s.toks) (fun b o hb e => eb b o hb e) f0 f1 f3 f4 f5⟩
  self := fun _ _ _ _ _ st h => wpAny_pyIter_listiter st h
theorem turn_tuple {P : Program} {w : World} {K : PySem.W.Frag} {tg : Expr} (a it : Addr) : Turn P w K tg (Itt K a) [it] it (fun i h => h.IsTupleIter it a i) where
  mem := by simp
  obj := fun i h st b hb => by
    have e : b = it := by simpa using hb
    subst e
    obtain ⟨o, e, c, d⟩ := st
    exact ⟨o, e, fun v z => by rw [d] at z; cases z⟩
  keep := fun i h h' st k => st.at fun o e => k it (by simp) o e
  item := by
    intro X hP hw hK hc i pins s σ H E I hf st hg
    subst hP hw hK
    obtain ⟨xs, x, hq, hx⟩ := hg
    obtain ⟨its, rv, p, hz⟩ := I.tuple hq
    obtain ⟨u, hu, ru⟩ := rv.get hx
    obtain ⟨f0, f1, f2, f3, f4, f5⟩ := hf it (by simp)
    refine wpAny_pyNext_tuple_item st (show s.heap.IsTuple a its.toArray from p) (x := u) (by simpa using hu) fun h' st' sb => ?_
    have I1 : Inv X pins σ H { s with heap := h' } := I.turned (t' := s.toks) (fun b o hb e => (sb.2 b hb).trans e) f0 f1 f3 f4 f5
    obtain ⟨o, e, c, d⟩ := id st'
    exact ⟨u, rfl, go_of (s := { s with heap := h' }) e c d (by decide) ⟨x, H, I1, ru, ⟨rfl, fun ys hy => by rw [I.tuple_inj hy hq]; exact hx⟩, st', fun b hb => (hf b hb).1⟩⟩
  done := by
    intro X hP hw hK hc i pins s σ H E I hf st hg
    subst hP hw hK
    obtain ⟨xs, hq, hx⟩ := hg
    obtain ⟨its, rv, p, hz⟩ := I.tuple hq
    obtain ⟨f0, f1, f2, f3, f4, f5⟩ := hf it (by simp)
    have hl := rv.length
    exact wpAny_pyNext_tuple_end (I.ok.hd hc) st (show s.heap.IsTuple a its.toArray from p) (by simp; omega) fun h' eb => ⟨rfl, I.turned (t' := s.toks) (fun b o hb e => eb b o hb e) f0 f1 f3 f4 f5⟩
  self := fun _ _ _ _ _ st h => wpAny_pyIter_tupleiter st h
theorem turn_range {P : Program} {w : World} {K : PySem.W.Frag} {tg : Expr} (it : Addr) (lo : Int) (n : Nat) : Turn P w K tg (Itr lo n) [it] it (fun i h => IsRangeIter h it (lo + (i : Nat) * 1) ((n : Int) - (i : Nat)) 1) where
  mem := by simp
  obj := fun i h st b hb => by
    have e : b = it := by simpa using hb
    subst e
    exact ⟨_, st, fun v z => by
      have z' : Data.fields _ = Data.cell v := z
      cases z'⟩
  keep := fun i h h' st k => k it (by simp) _ st
  item := by
    intro X hP hw hK hc i pins s σ H E I hf st hg
    subst hP hw hK
    obtain ⟨f0, f1, f2, f3, f4, f5⟩ := hf it (by simp)
    have W := Walks.range (prog := X.prog) (w := X.w) (I.ok.hd hc) it lo 1 n
    refine W.item i s _ _ hg st fun v h' tk hv st' kk => ?_
    obtain ⟨t, rfl⟩ := hv
    have I1 : Inv X pins σ H { s with heap := h', toks := tk } := I.turned (fun b o hb e => kk b o (by simpa using hb) e) f0 f1 f3 f4 f5
    refine ⟨_, rfl, go_of (s := { s with heap := h', toks := tk }) (n := "range_iterator") st' rfl rfl (by decide) ⟨.int (lo + i), H, I1, ⟨t, ?_⟩, ⟨rfl, rfl⟩, st', fun b hb => (hf b hb).1⟩⟩
    rw [Int.mul_one]
  done := by
    intro X hP hw hK hc i pins s σ H E I hf st hg
    subst hP hw hK
    obtain ⟨f0, f1, f2, f3, f4, f5⟩ := hf it (by simp)
    exact wpAny_pyNext_range_end (I.ok.hd hc) st (by have : n ≤ i := hg; omega) fun h' eb => ⟨rfl, I.turned (t' := s.toks) (fun b o hb e => eb b o hb e) f0 f1 f3 f4 f5⟩
  self := fun _ _ _ _ _ st h => wpAny_pyIter_rangeiter st h
end L2

namespace L2
open PySem PySem.Spec PyProof.Rows
section
variable {X : Cx} {tg : Expr}
def iList (K : PySem.W.Frag) (tl : TE) : TI := fun σ H R => tl σ H fun x H1 => ∃ a, x = .ref a ∧ (∃ xs, SqL K H1 a xs) ∧ R (Itl K a) H1
def iTup (K : PySem.W.Frag) (tl : TE) : TI := fun σ H R => tl σ H fun x H1 => ∃ a, x = .ref a ∧ (∃ xs, SqT K H1 a xs) ∧ R (Itt K a) H1
theorem pi_list {l : Expr} {tl : TE} (hl : PE X l tl) : PI X tg l (iList X.K tl) := by
  intro pins s σ H R I h
  refine thn (hl s σ H _ I h) fun v s1 ⟨x, H1, I1, r1, q1⟩ => ?_
  obtain ⟨a, e, ⟨xs, hq⟩, q⟩ := q1
  subst e
  cases r1
  obtain ⟨its, rv, p, hz⟩ := I1.list hq
  refine wpAny_pyIter_list p.isList ?_
  refine ⟨s1.heap.objs.size, [s1.heap.objs.size], _, _, H1, rfl, I1.kept (t' := s1.toks) fun b o e => Heap.get?_push_of_some _ e, turn_list a _, ⟨_, Heap.get?_push_size _ rfl, rfl, rfl⟩, fun b hb => ?_, q⟩
  have e : b = s1.heap.objs.size := by simpa using hb
  subst e
  exact I1.fpOk (Nat.le_refl _) (I1.hok.fresh (Nat.le_refl _))
theorem pi_tup {l : Expr} {tl : TE} (hl : PE X l tl) : PI X tg l (iTup X.K tl) := by
  intro pins s σ H R I h
  refine thn (hl s σ H _ I h) fun v s1 ⟨x, H1, I1, r1, q1⟩ => ?_
  obtain ⟨a, e, ⟨xs, hq⟩, q⟩ := q1
  subst e
  cases r1
  obtain ⟨its, rv, p, hz⟩ := I1.tuple hq
  refine wpAny_pyIter_tuple (show s1.heap.IsTuple a its.toArray from p) ?_
  refine ⟨s1.heap.objs.size, [s1.heap.objs.size], _, _, H1, rfl, I1.kept (t' := s1.toks) fun b o e => Heap.get?_push_of_some _ e, turn_tuple a _, ⟨_, Heap.get?_push_size _ rfl, rfl, rfl⟩, fun b hb => ?_, q⟩
  have e : b = s1.heap.objs.size := by simpa using hb
  subst e
  exact I1.fpOk (Nat.le_refl _) (I1.hok.fresh (Nat.le_refl _))
theorem range_it {pins : List (Addr × Obj)} {σ : St} {H : Hp} {s : Shared} {R : It → Hp → Prop} {E : Value → Shared → Prop} {lo hi : Int} {t u v : Tok} {tk : Nat} (I : Inv X pins σ H s) (h1 : -(2 ^ 62) ≤ lo) (h2 : lo < 2 ^ 62) (h3 : -(2 ^ 62) ≤ hi) (h4 : hi < 2 ^ 62)
    (q : R (Itr lo (hi - lo).toNat) H) : wpAny (model X.prog X.w) X.A (pyIter (.ref s.heap.objs.size)) (PIE X pins σ tg R) E { s with heap := s.heap.push { cls := .type "range", data := .fields #[.int lo t, .int hi u, .int 1 v] }, toks := tk } := by
  refine wpAny_pyIter_range (IsRange.new ..) (small_one h1 h2 h3 h4) ?_
  have I1 : Inv X pins σ H { s with heap := s.heap.push { cls := .type "range", data := .fields #[.int lo t, .int hi u, .int 1 v] }, toks := tk } := I.kept fun b o e => Heap.get?_push_of_some _ e
  refine ⟨(s.heap.push { cls := .type "range", data := .fields #[.int lo t, .int hi u, .int 1 v] }).objs.size, [(s.heap.push { cls := .type "range", data := .fields #[.int lo t, .int hi u, .int 1 v] }).objs.size], _, _, H, rfl,
    I1.kept (t' := tk) fun b o e => Heap.get?_push_of_some _ e, turn_range _ lo (hi - lo).toNat, ?_, fun b hb => ?_, q⟩
  · have e1 : lo + ((0 : Nat) : Int) * 1 = lo := by simp
    have e2 : (((hi - lo).toNat : Nat) : Int) - ((0 : Nat) : Int) = Builtin.Range.rangeSize lo hi 1 := by rw [rangeSize_one]; split <;> omega
    show IsRangeIter _ _ (lo + ((0 : Nat) : Int) * 1) ((((hi - lo).toNat : Nat) : Int) - ((0 : Nat) : Int)) 1
    rw [e1, e2]
    exact Heap.get?_push_size _ rfl
  · have e : b = (s.heap.push { cls := .type "range", data := .fields #[.int lo t, .int hi u, .int 1 v] }).objs.size := by simpa using hb
    subst e
    exact I1.fpOk (Nat.le_refl _) (I1.hok.fresh (Nat.le_refl _))
def iRng1 (ta : TA) : TI := fun σ H R => ta σ H fun vs H1 => ∃ j : Int, vs = [.int j] ∧ -(2 ^ 62) ≤ j ∧ j < 2 ^ 62 ∧ R (Itr 0 j.toNat) H1
theorem pi_range1 {a : Expr} {ta : TA} {p pos : Pos} (hg : Gl X "range") (hm : X.mg "range" = none) (ha : PA X [a] ta) (hs : starEach [a] X.env = [(false, eval a X.env)] := by rfl) : PI X tg (.Call (.Name "range" p) [a] [] pos) (iRng1 ta) := by
  intro pins s σ H R I h
  refine Call_ (ld_blt I hg hm boot_range (PyProof.Rows.callWith_type1 (thn (ha pins s σ H _ I h) fun us s1 ⟨vs, H1, I1, r1, q1⟩ => ?_) hs rfl))
  obtain ⟨j, e, q1, q2, q⟩ := q1
  subst e
  cases r1 with
  | cons r rr =>
    cases rr
    obtain ⟨t, rfl⟩ := r
    exact call_range_1 (range_it I1 (by omega) (by omega) q1 q2 (by simpa using q))
def tFor (wi : TI) (g : TG) (tb : TS) : TS := fun D σ H => wi σ H fun J H1 => ∃ W : Nat → Nat → St → Hp → Prop, (∃ m, W 0 m σ H1) ∧ ∀ i m σ H, W i m σ H →
  (J.stop i H ∧ D.nx σ H) ∨ (J.go i H ∧ ∃ N : St → Hp → Prop, (∀ σ' H', N σ' H' → ∃ m', m' < m ∧ W (i + 1) m' σ' H') ∧ ∀ x H', J.yld i H x H' → g x σ H' fun σ2 H2 => tb { D with nx := N, ct := N, bk := D.nx } σ2 H2)
def pinsAt (fp : List Addr) (h : Heap) : List (Addr × Obj) := fp.filterMap fun b => (h.get? b).map fun o => (b, o)
theorem mem_pinsAt {fp : List Addr} {h : Heap} {b : Addr} {o : Obj} (hb : b ∈ fp) (e : h.get? b = some o) : (b, o) ∈ pinsAt fp h := List.mem_filterMap.mpr ⟨b, hb, by rw [e]; rfl⟩
theorem of_pinsAt {fp : List Addr} {h : Heap} {p : Addr × Obj} (hp : p ∈ pinsAt fp h) : p.1 ∈ fp ∧ h.get? p.1 = some p.2 := by
  obtain ⟨b, hb, e⟩ := List.mem_filterMap.mp hp
  cases q : h.get? b with
  | none => rw [q] at e; cases e
  | some o =>
    rw [q] at e
    have e' : (b, o) = p := Option.some.inj e
    subst e'
    exact ⟨hb, q⟩
theorem Inv.pinned {pins : List (Addr × Obj)} {σ : St} {H : Hp} {s : Shared} {fp : List Addr} (I : Inv X pins σ H s) (hf : ∀ b ∈ fp, FpOk X pins H b) (ho : ∀ b ∈ fp, ∃ o, s.heap.get? b = some o ∧ ∀ v, o.data ≠ .cell v) : Inv X (pins ++ pinsAt fp s.heap) σ H s :=
  I.pins_of fun p hp => (List.mem_append.mp hp).elim (fun z => I.pin p (List.mem_append_right _ z)) fun z => by
    obtain ⟨hb, e⟩ := of_pinsAt z
    obtain ⟨f0, f1, f2, _⟩ := hf p.1 hb
    obtain ⟨o, e', d⟩ := ho p.1 hb
    rw [e] at e'; cases e'
    exact ⟨e, f0, f1, f2, d⟩
theorem Inv.unpinned {pins pl : List (Addr × Obj)} {σ : St} {H : Hp} {s : Shared} (I : Inv X (pins ++ pl) σ H s) : Inv X pins σ H s := I.pins_of fun p hp => I.pin p (List.mem_append_right _ (List.mem_append_left _ hp))
theorem ps_for {iter : Expr} {body : List Stmt} {wi : TI} {g : TG} {tb : TS} {pos : Pos} (hp : PassesOwn (model X.prog X.w) X.A X.env X.xe) (hc : X.calm = true) (hi : PI X tg iter wi) (hg : PG X tg g) (hb : PSs X body tb)
    (hs : ∀ x, foldedSetIterable iter X.env x = pure x := by intro _; rfl) : PS X (.For tg iter body [] pos) (tFor wi g tb) := by
  intro pins s σ H D I h
  refine wpAny_For (thn (hi s σ H _ I h) fun v s1 h1 => thn h1 fun itv s2 h2 => ?_) hs
  obtain ⟨it, fp, tn, J, H2, e, I2, T, st2, f2, W, ⟨m0, w0⟩, turn⟩ := h2
  subst e
  -- what stays true of the iterator's objects through the loop
  have stat : ∀ {H' : Hp}, (∀ b ∈ fp, H' b = none) → ∀ b ∈ fp, FpOk X pins H' b := fun hn b hb => ⟨hn b hb, (f2 b hb).2⟩
  refine codeAny_forLoop_any (fun n s' => ∃ i σ' H', Inv X pins σ' H' s' ∧ tn i s'.heap ∧ (∀ b ∈ fp, H' b = none) ∧ W i n σ' H') ?_ m0 ⟨0, σ, H2, I2, st2, fun b hb => (f2 b hb).1, w0⟩
  rintro n s3 ⟨i, σ3, H3, I3, st3, fr3, w3⟩
  rcases turn i n σ3 H3 w3 with ⟨stop, qn⟩ | ⟨go, N, hN, step⟩
  · refine wpAny_passesOwn hp (thn (T.done X rfl rfl rfl hc i pins s3 σ3 H3 X.xe I3 (stat fr3) st3 stop) fun r s4 ⟨hr, I4⟩ => ?_)
    subst hr
    exact wpAny_execs_nil ⟨σ3, H3, I4, qn⟩
  · refine wpAny_passesOwn hp (thn (T.item X rfl rfl rfl hc i pins s3 σ3 H3 X.xe I3 (stat fr3) st3 go) fun r s4 ⟨u, hr, h4⟩ => ?_)
    subst hr
    refine wpAny_passesOwn hp (thn h4 fun _ s5 ⟨x, H5, I5, r5, y5, st5, fr5⟩ => ?_)
    have I5' := I5.pinned (stat fr5) (T.obj _ _ st5)
    refine wpAny_passesOwn hp (thn (hg s5 σ3 H5 x u _ I5' r5 (step x H5 y5)) fun _ s6 ⟨σ6, H6, I6, q6⟩ => ?_)
    refine wpAny_passesOwn hp (thn (hb s6 σ6 H6 _ I6 q6) fun f s7 q7 => ?_)
    have again : ∀ {σ7 : St} {H7 : Hp}, Inv X (pins ++ pinsAt fp s5.heap) σ7 H7 s7 → N σ7 H7 → ∃ m, m < n ∧ ∃ i σ' H', Inv X pins σ' H' s7 ∧ tn i s7.heap ∧ (∀ b ∈ fp, H' b = none) ∧ W i m σ' H' := fun {σ7 H7} I7 n7 => by
      obtain ⟨m', hm, w7⟩ := hN σ7 H7 n7
      refine ⟨m', hm, i + 1, σ7, H7, I7.unpinned, T.keep _ _ _ st5 fun b hb o e => (I7.pin (b, o) (List.mem_append_right _ (List.mem_append_right _ (mem_pinsAt hb e)))).1, fun b hb => ?_, w7⟩
      obtain ⟨o, e, d⟩ := T.obj _ _ st5 b hb
      exact (I7.pin (b, o) (List.mem_append_right _ (List.mem_append_right _ (mem_pinsAt hb e)))).2.1
    cases f with
    | next => obtain ⟨σ7, H7, I7, n7⟩ := q7; exact again I7 n7
    | cont => obtain ⟨σ7, H7, I7, n7⟩ := q7; exact again I7 n7
    | brk => obtain ⟨σ7, H7, I7, q7⟩ := q7; exact ⟨σ7, H7, I7.unpinned, q7⟩
    | ret v => obtain ⟨x7, σ7, H7, I7, r7, q7⟩ := q7; exact ⟨x7, σ7, H7, I7.unpinned, r7, q7⟩
end

theorem while_by {c : TT} {tb : TS} {D : Ends} {σ : St} {H : Hp} (Pv : St → Hp → Prop) (μ : St → Hp → Nat) (h0 : Pv σ H)
    (hs : ∀ σ H, Pv σ H → c σ H fun b H1 => if b = true then tb { D with nx := fun σ' H' => Pv σ' H' ∧ μ σ' H' < μ σ H, ct := fun σ' H' => Pv σ' H' ∧ μ σ' H' < μ σ H, bk := D.nx } σ H1 else D.nx σ H1)
    (mono : ∀ σ H Q Q', (∀ b H1, Q b H1 → Q' b H1) → c σ H Q → c σ H Q') : tWhile c tb D σ H := by
  refine ⟨fun m σ H => m = μ σ H ∧ Pv σ H, ⟨_, rfl, h0⟩, ?_⟩
  rintro m σ H ⟨rfl, p⟩
  refine mono σ H _ _ (fun b H1 q => ?_) (hs σ H p)
  cases b with
  | true => exact ⟨_, fun σ' H' ⟨p', l⟩ => ⟨_, l, rfl, p'⟩, q⟩
  | false => exact q
end L2

namespace L2
open PySem PySem.Spec PyProof.Rows

abbrev R2 := V → V → Hp → VK → Prop
def OpR (X : Cx) (f : Value → Value → Sem Value) (r : R2) : Prop :=
  ∀ ⦃pins : List (Addr × Obj)⦄ (s : Shared) (σ : St) (H : Hp) (x y : V) (v u : Value) (Q : VK), Inv X pins σ H s → RelV x v → RelV y u → r x y H Q →
    wpAny (model X.prog X.w) X.A (f v u) (EP X pins σ Q) X.xe s
def UnR (X : Cx) (f : Value → Sem Value) (r : V → Hp → VK → Prop) : Prop :=
  ∀ ⦃pins : List (Addr × Obj)⦄ (s : Shared) (σ : St) (H : Hp) (x : V) (v : Value) (Q : VK), Inv X pins σ H s → RelV x v → r x H Q →
    wpAny (model X.prog X.w) X.A (f v) (EP X pins σ Q) X.xe s
def CallR (X : Cx) (f : Value) (r : List V → Hp → VK → Prop) : Prop :=
  ∀ ⦃pins : List (Addr × Obj)⦄ (s : Shared) (σ : St) (H : Hp) (xs : List V) (us : List Value) (Q : VK), Inv X pins σ H s → Vals xs us → r xs H Q →
    wpAny (model X.prog X.w) X.A (call f us) (EP X pins σ Q) X.xe s
def tOp (r : R2) (ta tb : TE) : TE := fun σ H Q => ta σ H fun x H1 => tb σ H1 fun y H2 => r x y H2 Q
def tUn (r : V → Hp → VK → Prop) (ta : TE) : TE := fun σ H Q => ta σ H fun x H1 => r x H1 Q
def rI (C : Int → Int → Prop) (g : Int → Int → V) : R2 := fun x y H Q => ∃ i j, x = .int i ∧ y = .int j ∧ C i j ∧ Q (g i j) H
def rI0 (g : Int → Int → V) : R2 := fun x y H Q => ∃ i j, x = .int i ∧ y = .int j ∧ Q (g i j) H
def rU (g : Int → V) : V → Hp → VK → Prop := fun x H Q => ∃ i, x = .int i ∧ Q (g i) H

section
variable {X : Cx} {a b c : Expr} {ta tb tc : TE} {pos : Pos}

theorem binT (ha : PE X a ta) (hb : PE X b tb) {pins : List (Addr × Obj)} {s : Shared} {σ : St} {H : Hp} {R : V → V → Hp → Prop} (I : Inv X pins σ H s)
    (h : ta σ H fun x H1 => tb σ H1 fun y H2 => R x y H2) {Q : Value → Shared → Prop} {f : Value → Value → Sem Value}
    (hf : ∀ v u s2 x y H2, Inv X pins σ H2 s2 → RelV x v → RelV y u → R x y H2 → wpAny (model X.prog X.w) X.A (f v u) Q X.xe s2) :
    wpAny (model X.prog X.w) X.A (eval a X.env) (fun v s₁ => wpAny (model X.prog X.w) X.A (eval b X.env) (fun u s₂ => wpAny (model X.prog X.w) X.A (f v u) Q X.xe s₂) X.xe s₁) X.xe s := by
  refine thn (ha s σ H _ I h) fun v s1 ⟨x, H1, I1, r1, q1⟩ => ?_
  refine thn (hb s1 σ H1 _ I1 q1) fun u s2 ⟨y, H2, I2, r2, q2⟩ => ?_
  exact hf v u s2 x y H2 I2 r1 r2 q2

theorem pe_op {op : Operator} {r : R2} (ho : OpR X (binaryOp op) r) (ha : PE X a ta) (hb : PE X b tb) : PE X (.BinOp a op b pos) (tOp r ta tb) := by
  intro pins s σ H Q I h
  exact wpAny_BinOp (binT ha hb I h fun v u s2 x y H2 I2 rx ry q => ho s2 σ H2 x y v u Q I2 rx ry q)
theorem pe_un {op : UnaryOp} {r : V → Hp → VK → Prop} (ho : UnR X (unaryOp op) r) (ha : PE X a ta) : PE X (.UnaryOp op a pos) (tUn r ta) := by
  intro pins s σ H Q I h
  exact UnaryOp_ (thn (ha s σ H _ I h) fun v s1 ⟨x, H1, I1, r1, q1⟩ => ho s1 σ H1 x v Q I1 r1 q1)
theorem opI {f : Value → Value → Sem Value} {C : Int → Int → Prop} {g : Int → Int → Int}
    (rule : ∀ (i j : Int) (t u : Tok) (s : Shared) (Q : Value → Shared → Prop) (E : Value → Shared → Prop), C i j → Q (.int (g i j) s.toks) { s with toks := s.toks + 1 } → wpAny (model X.prog X.w) X.A (f (.int i t) (.int j u)) Q E s) :
    OpR X f (rI C fun i j => .int (g i j)) := by
  intro pins s σ H x y v u Q I rx ry h
  obtain ⟨i, j, rfl, rfl, hc, q⟩ := h
  obtain ⟨t, rfl⟩ := rx
  obtain ⟨t', rfl⟩ := ry
  exact rule i j t t' s _ _ hc ⟨.int (g i j), H, I.tok _, ⟨_, rfl⟩, q⟩
theorem opI0 {f : Value → Value → Sem Value} {g : Int → Int → Int}
    (rule : ∀ (i j : Int) (t u : Tok) (s : Shared) (Q : Value → Shared → Prop) (E : Value → Shared → Prop), Q (.int (g i j) s.toks) { s with toks := s.toks + 1 } → wpAny (model X.prog X.w) X.A (f (.int i t) (.int j u)) Q E s) :
    OpR X f (rI0 fun i j => .int (g i j)) := by
  intro pins s σ H x y v u Q I rx ry h
  obtain ⟨i, j, rfl, rfl, q⟩ := h
  obtain ⟨t, rfl⟩ := rx
  obtain ⟨t', rfl⟩ := ry
  exact rule i j t t' s _ _ ⟨.int (g i j), H, I.tok _, ⟨_, rfl⟩, q⟩
theorem opB0 {f : Value → Value → Sem Value} {g : Int → Int → Bool}
    (rule : ∀ (i j : Int) (t u : Tok) (s : Shared) (Q : Value → Shared → Prop) (E : Value → Shared → Prop), Q (.bool (g i j)) s → wpAny (model X.prog X.w) X.A (f (.int i t) (.int j u)) Q E s) :
    OpR X f (rI0 fun i j => .bl (g i j)) := by
  intro pins s σ H x y v u Q I rx ry h
  obtain ⟨i, j, rfl, rfl, q⟩ := h
  obtain ⟨t, rfl⟩ := rx
  obtain ⟨t', rfl⟩ := ry
  exact rule i j t t' s _ _ ⟨.bl (g i j), H, I, rfl, q⟩

def CPow (i j : Int) : Prop := 0 ≤ j ∧ j ≤ 1000000 ∧ i.natAbs < 2 ^ 64
def CMul (i j : Int) : Prop := (-(2 ^ 64) < i ∧ i < 2 ^ 64) ∨ (-(2 ^ 64) < j ∧ j < 2 ^ 64)
theorem CMul.ok {i j : Int} (h : CMul i j) : IntMulOk i j := by
  rcases h with ⟨h1, h2⟩ | ⟨h1, h2⟩
  · exact .of_left (intBits_le_64 h1 h2)
  · exact .of_right (intBits_le_64 h1 h2)
theorem op_add : OpR X (binaryOp .Add) (rI0 fun i j => .int (i + j)) := opI0 fun _ _ _ _ _ _ _ q => add_int q
theorem op_sub : OpR X (binaryOp .Sub) (rI0 fun i j => .int (i - j)) := opI0 fun _ _ _ _ _ _ _ q => sub_int q
theorem op_mod : OpR X (binaryOp .Mod) (rI (fun _ j => 0 < j) fun i j => .int (i % j)) := opI fun i j _ _ _ _ _ hc q => by
  have h1 : (0 : Int) < j := hc
  exact mod_int' (by omega) (by rw [Int.fmod_eq_emod_of_nonneg i (by omega)]; exact q)
theorem op_pow : OpR X (binaryOp .Pow) (rI CPow fun i j => .int (i ^ j.toNat)) := opI fun _ _ _ _ _ _ _ hc q => pow_int_small hc.1 hc.2.1 hc.2.2 q
theorem unI {f : Value → Sem Value} {g : Int → Int}
    (rule : ∀ (i : Int) (t : Tok) (s : Shared) (Q : Value → Shared → Prop) (E : Value → Shared → Prop), Q (.int (g i) s.toks) { s with toks := s.toks + 1 } → wpAny (model X.prog X.w) X.A (f (.int i t)) Q E s) :
    UnR X f (rU fun i => .int (g i)) := by
  intro pins s σ H x v Q I rx h
  obtain ⟨i, rfl, q⟩ := h
  obtain ⟨t, rfl⟩ := rx
  exact rule i t s _ _ ⟨.int (g i), H, I.tok _, ⟨_, rfl⟩, q⟩
theorem un_neg : UnR X (unaryOp .USub) (rU fun i => .int (-i)) := unI fun _ _ _ _ _ q => neg_int q
end

def scal : V → V → Bool
  | .non, .non => true | .non, .int _ => true | .int _, .non => true | .non, .bl _ => true | .bl _, .non => true | .non, .str _ => true | .str _, .non => true
  | .int _, .int _ => true | .bl _, .bl _ => true | .str _, .str _ => true | .byt _, .byt _ => true
  | .int _, .str _ => true | .str _, .int _ => true | .bl _, .str _ => true | .str _, .bl _ => true
  | _, _ => false
def rEq : R2 := fun x y H Q => scal x y = true ∧ Q (.bl (decide (x = y))) H
def rNe : R2 := fun x y H Q => scal x y = true ∧ Q (.bl (!decide (x = y))) H

theorem dec_int {i j : Int} : decide (V.int i = V.int j) = (i == j) := by
  rw [Bool.eq_iff_iff]
  simp
theorem dec_bl {i j : Bool} : decide (V.bl i = V.bl j) = (i == j) := by
  rw [Bool.eq_iff_iff]
  simp
theorem dec_str {i j : Str} : decide (V.str i = V.str j) = (i == j) := by
  rw [Bool.eq_iff_iff]
  simp
theorem dec_byt {i j : Array UInt8} : decide (V.byt i = V.byt j) = (i.toList == j.toList) := by
  rw [Bool.eq_iff_iff]
  cases i
  cases j
  simp

section
variable {X : Cx} {a b c : Expr} {ta tb tc : TE} {pos : Pos}
theorem fin_bl {pins : List (Addr × Obj)} {σ : St} {H : Hp} {s : Shared} {Q : VK} {k k' : Bool} (I : Inv X pins σ H s) (q : Q (.bl k) H) (e : k = k') : EP X pins σ Q (.bool k') s := by
  subst e
  exact ⟨.bl k, H, I, rfl, q⟩
theorem op_eq : OpR X (compareOp .Eq) rEq := by
  intro pins s σ H x y v u Q I rx ry h
  obtain ⟨hs, q⟩ := h
  cases x with
  | non =>
    cases rx
    cases y with
    | non => cases ry; exact PySem.EqNone.eq_none_none (fin_bl I q (by simp))
    | bl j => cases ry; exact PySem.EqNone.eq_none_bool (fin_bl I q (by simp))
    | int j => obtain ⟨t', rfl⟩ := ry; exact PySem.EqNone.eq_none_int (fin_bl I q (by simp))
    | str j => obtain ⟨t', rfl⟩ := ry; exact PySem.EqNone.eq_none_str (fin_bl I q (by simp))
    | _ => exact absurd (show false = true from hs) Bool.false_ne_true
  | bl i =>
    cases rx
    cases y with
    | non => cases ry; exact PySem.EqNone.eq_bool_none (fin_bl I q (by simp))
    | bl j => cases ry; exact eq_bool (fin_bl I q dec_bl)
    | str j => obtain ⟨t', rfl⟩ := ry; exact PySem.EqMixed.eq_bool_str (fin_bl I q (by simp))
    | _ => exact absurd (show false = true from hs) Bool.false_ne_true
  | int i =>
    obtain ⟨t, rfl⟩ := rx
    cases y with
    | non => cases ry; exact PySem.EqNone.eq_int_none (fin_bl I q (by simp))
    | int j => obtain ⟨t', rfl⟩ := ry; exact eq_int (fin_bl I q dec_int)
    | str j => obtain ⟨t', rfl⟩ := ry; exact PySem.EqMixed.eq_int_str (fin_bl I q (by simp))
    | _ => exact absurd (show false = true from hs) Bool.false_ne_true
  | str i =>
    obtain ⟨t, rfl⟩ := rx
    cases y with
    | non => cases ry; exact PySem.EqNone.eq_str_none (fin_bl I q (by simp))
    | bl j => cases ry; exact PySem.EqMixed.eq_str_bool (fin_bl I q (by simp))
    | int j => obtain ⟨t', rfl⟩ := ry; exact PySem.EqMixed.eq_str_int (fin_bl I q (by simp))
    | str j => obtain ⟨t', rfl⟩ := ry; exact eq_str (fin_bl I q dec_str)
    | _ => exact absurd (show false = true from hs) Bool.false_ne_true
  | byt i =>
    obtain ⟨t, rfl⟩ := rx
    cases y with
    | byt j => obtain ⟨t', rfl⟩ := ry; exact PySem.W.eq_bytes (fin_bl I q dec_byt)
    | _ => exact absurd (show false = true from hs) Bool.false_ne_true
  | _ => cases y <;> exact absurd (show false = true from hs) Bool.false_ne_true
theorem op_ne : OpR X (compareOp .NotEq) rNe := by
  intro pins s σ H x y v u Q I rx ry h
  obtain ⟨hs, q⟩ := h
  cases x with
  | non =>
    cases rx
    cases y with
    | non => cases ry; exact PySem.EqNone.ne_none_none (fin_bl I q (by simp))
    | bl j => cases ry; exact PySem.EqNone.ne_none_bool (fin_bl I q (by simp))
    | int j => obtain ⟨t', rfl⟩ := ry; exact PySem.EqNone.ne_none_int (fin_bl I q (by simp))
    | str j => obtain ⟨t', rfl⟩ := ry; exact PySem.EqNone.ne_none_str (fin_bl I q (by simp))
    | _ => exact absurd (show false = true from hs) Bool.false_ne_true
  | bl i =>
    cases rx
    cases y with
    | non => cases ry; exact PySem.EqNone.ne_bool_none (fin_bl I q (by simp))
    | bl j => cases ry; exact ne_bool (fin_bl I q (congrArg not dec_bl))
    | str j => obtain ⟨t', rfl⟩ := ry; exact PySem.EqMixed.ne_bool_str (fin_bl I q (by simp))
    | _ => exact absurd (show false = true from hs) Bool.false_ne_true
  | int i =>
    obtain ⟨t, rfl⟩ := rx
    cases y with
    | non => cases ry; exact PySem.EqNone.ne_int_none (fin_bl I q (by simp))
    | int j => obtain ⟨t', rfl⟩ := ry; exact ne_int (fin_bl I q (congrArg not dec_int))
    | str j => obtain ⟨t', rfl⟩ := ry; exact PySem.EqMixed.ne_int_str (fin_bl I q (by simp))
    | _ => exact absurd (show false = true from hs) Bool.false_ne_true
  | str i =>
    obtain ⟨t, rfl⟩ := rx
    cases y with
    | non => cases ry; exact PySem.EqNone.ne_str_none (fin_bl I q (by simp))
    | bl j => cases ry; exact PySem.EqMixed.ne_str_bool (fin_bl I q (by simp))
    | int j => obtain ⟨t', rfl⟩ := ry; exact PySem.EqMixed.ne_str_int (fin_bl I q (by simp))
    | str j => obtain ⟨t', rfl⟩ := ry; exact ne_str (fin_bl I q (congrArg not dec_str))
    | _ => exact absurd (show false = true from hs) Bool.false_ne_true
  | byt i =>
    obtain ⟨t, rfl⟩ := rx
    cases y with
    | byt j => obtain ⟨t', rfl⟩ := ry; exact PySem.W.ne_bytes (fin_bl I q (congrArg not dec_byt))
    | _ => exact absurd (show false = true from hs) Bool.false_ne_true
  | _ => cases y <;> exact absurd (show false = true from hs) Bool.false_ne_true

theorem op_lt : OpR X (compareOp .Lt) (rI0 fun i j => .bl (decide (i < j))) := opB0 fun _ _ _ _ _ _ _ q => lt_int q
theorem op_le : OpR X (compareOp .LtE) (rI0 fun i j => .bl (decide (i ≤ j))) := opB0 fun _ _ _ _ _ _ _ q => le_int q
theorem op_gt : OpR X (compareOp .Gt) (rI0 fun i j => .bl (decide (j < i))) := opB0 fun _ _ _ _ _ _ _ q => gt_int q
theorem op_ge : OpR X (compareOp .GtE) (rI0 fun i j => .bl (decide (j ≤ i))) := opB0 fun _ _ _ _ _ _ _ q => ge_int q
theorem op_isN : OpR X (compareOp .Is) (fun x y H Q => y = .non ∧ Q (.bl (decide (x = .non))) H) := by
  intro pins s σ H x y v u Q I rx ry h
  obtain ⟨rfl, q⟩ := h
  cases ry
  refine is_none_gen (fin_bl I q ?_)
  cases x <;> first
    | (cases rx; rfl)
    | (obtain ⟨t, rfl⟩ := rx; rfl)
theorem OpR.or {f : Value → Value → Sem Value} {r r' : R2} (h : OpR X f r) (h' : OpR X f r') : OpR X f (fun x y H Q => r x y H Q ∨ r' x y H Q) := by
  intro pins s σ H x y v u Q I rx ry q
  rcases q with q | q
  · exact h s σ H x y v u Q I rx ry q
  · exact h' s σ H x y v u Q I rx ry q

theorem nomark (b : Expr) {op : CmpOp} (h : op ≠ .In := by decide) (h2 : op ≠ .NotIn := by decide) : behindInMarks op b = false := by
  have e1 : (op == CmpOp.In) = false := by cases op <;> first | rfl | exact absurd rfl h
  have e2 : (op == CmpOp.NotIn) = false := by cases op <;> first | rfl | exact absurd rfl h2
  cases b <;> simp [behindInMarks, e1, e2]
theorem pe_cmpR {op : CmpOp} {r : R2} (ho : OpR X (compareOp op) r) (ha : PE X a ta) (hb : PE X b tb) (hm : behindInMarks op b = false) : PE X (.Compare a [op] [b] pos) (tOp r ta tb) := by
  intro pins s σ H Q I h
  exact wpAny_Compare1 (binT ha hb I h fun v u s2 x y H2 I2 rx ry q => ho s2 σ H2 x y v u Q I2 rx ry q) hm
def tTest (t : TE) : TT := fun σ H Q => t σ H fun x H' => ∃ k, x = .bl k ∧ Q k H'
theorem pt_cmpR {op : CmpOp} {r : R2} (ho : OpR X (compareOp op) r) (ha : PE X a ta) (hb : PE X b tb) (hm : behindInMarks op b = false) : PT X (.Compare a [op] [b] pos) (tTest (tOp r ta tb)) := by
  intro pins s σ H Q I h
  refine wpAny_isTrue_Compare1 (thn (ha s σ H _ I h) fun v s1 ⟨x, H1, I1, r1, q1⟩ => thn (hb s1 σ H1 _ I1 q1) fun u s2 ⟨y, H2, I2, r2, q2⟩ =>
    thn (ho s2 σ H2 x y v u _ I2 r1 r2 q2) fun c s3 ⟨z, H3, I3, r3, k, e, q3⟩ => ?_) hm
  subst e
  cases r3
  exact wpAny_truthy_bool ⟨H3, I3, q3⟩
def tChain (r r' : R2) (ta tb tc : TE) : TE := fun σ H Q => ta σ H fun x H1 => tb σ H1 fun y H2 => r x y H2 fun z H3 => ∃ k, z = .bl k ∧
  (if k = true then tc σ H3 fun w' H4 => r' y w' H4 Q else Q (.bl false) H3)
theorem pe_chain {op op' : CmpOp} {r r' : R2} (ho : OpR X (compareOp op) r) (ho' : OpR X (compareOp op') r') (ha : PE X a ta) (hb : PE X b tb) (hc : PE X c tc)
    (hm : lastMarks [op, op'] [b, c] = false := by with_unfolding_all rfl) : PE X (.Compare a [op, op'] [b, c] pos) (tChain r r' ta tb tc) := by
  intro pins s σ H Q I h
  refine Compare_chain (thn (ha s σ H _ I h) fun v s1 ⟨x, H1, I1, r1, q1⟩ => chain_link (thn (hb s1 σ H1 _ I1 q1) fun u s2 ⟨y, H2, I2, r2, q2⟩ =>
    thn (ho s2 σ H2 x y v u _ I2 r1 r2 q2) fun d s3 ⟨z, H3, I3, r3, k, e, q3⟩ => ?_)) hm
  subst e
  cases r3
  refine wpAny_truthy_bool ?_
  cases k with
  | false => exact ite_ff ⟨.bl false, H3, I3, rfl, q3⟩
  | true => exact ite_tt (chain_last (thn (hc s3 σ H3 _ I3 q3) fun w' s4 ⟨z', H4, I4, r4, q4⟩ => ho' s4 σ H4 y z' u w' Q I4 r2 r4 q4))
theorem line63 : (sizeLine : Nat) < 2 ^ 63 := by rw [sizeLine_eq]; decide
theorem vals1 {x : V} {us : List Value} (r : Vals [x] us) : ∃ u, us = [u] ∧ RelV x u := by
  cases r with
  | cons r1 r2 => cases r2; exact ⟨_, rfl, r1⟩
theorem call_abs : CallR X (.builtin "abs") (fun xs H Q => ∃ i, xs = [.int i] ∧ Q (.int (if i < 0 then -i else i)) H) := by
  intro pins s σ H xs us Q I r h
  obtain ⟨i, rfl, q⟩ := h
  obtain ⟨u, rfl, t, rfl⟩ := vals1 r
  exact call_abs_int fun u tk => ⟨.int (if i < 0 then -i else i), H, I.tok _, ⟨_, rfl⟩, q⟩
theorem call_int1 : CallR X (.type "int") (fun xs H Q => (∃ i, xs = [.int i] ∧ Q (.int i) H) ∨ ∃ k, xs = [.bl k] ∧ Q (.int (if k then 1 else 0)) H) := by
  intro pins s σ H xs us Q I r h
  rcases h with ⟨i, rfl, q⟩ | ⟨k, rfl, q⟩
  · obtain ⟨u, rfl, t, rfl⟩ := vals1 r
    exact call_int_int ⟨.int i, H, I, ⟨_, rfl⟩, q⟩
  · obtain ⟨u, rfl, r1⟩ := vals1 r
    cases r1
    exact call_int_bool ⟨.int (if k then 1 else 0), H, I.tok _, ⟨_, rfl⟩, q⟩
theorem call_str_int : CallR X (.type "str") (fun xs H Q => ∃ i, xs = [.int i] ∧ i.natAbs.log2 < 1920 ∧ Q (.str (toString i)) H) := by
  intro pins s σ H xs us Q I r h
  obtain ⟨i, rfl, hz, q⟩ := h
  obtain ⟨u, rfl, t, rfl⟩ := vals1 r
  exact PySem.P.str_of_int hz ⟨.str _, H, I.tok _, ⟨_, rfl⟩, q⟩
end
end L2

namespace L2
open PySem PySem.Spec PyProof.Rows

structure ObjM (h : Heap) (x dx C : Addr) (mA : Str → Option Value) : Prop where
  obj : h.get? x = some (PySem.W.instObj C dx)
  ns : h.Ns1 dx mA
  ne : dx ≠ x

theorem lookIn_ns {h : Heap} {dx : Addr} {mA : Str → Option Value} (n : h.Ns1 dx mA) : ∃ od, h.get? dx = some od ∧ ∀ name, PySem.W.lookIn name od = some (mA name) := by
  obtain ⟨o, es, ep, ho, hd, hk, _, hm⟩ := n
  refine ⟨o, ho, fun name => ?_⟩
  have e := hm name
  unfold nsFind findBy at e
  rw [← Array.find?_toList] at e
  unfold PySem.W.lookIn
  rw [hd]
  dsimp only
  split
  · rename_i y q
    rw [q] at e
    exact congrArg some e
  · rename_i q
    rw [q] at e
    have a : es.toList.any (·.refKey) = false := by
      rw [List.any_eq_false]
      intro y hy
      obtain ⟨z, t, hkey⟩ := hk y (Array.mem_toList_iff.mp hy)
      simp [DictEntry.refKey, hkey]
    have a' : ¬ es.toList.any (·.refKey) = true := by rw [a]; exact Bool.false_ne_true
    rw [if_neg a']
    exact congrArg some e

theorem ObjM.look {h : Heap} {x dx C : Addr} {mA : Str → Option Value} (I : ObjM h x dx C mA) : ∃ od, PySem.W.InstAt h x (PySem.W.instObj C dx) C (some od) ∧ ∀ name, PySem.W.lookIn name od = some (mA name) :=
  let ⟨od, ho, hl⟩ := lookIn_ns I.ns
  ⟨od, ⟨I.obj, rfl, rfl, ho⟩, hl⟩

section
variable {prog : Program} {w : World} {A : Around} {E : Value → Shared → Prop} {s : Shared} {K : PySem.W.Frag} {x dx C f : Addr} {mA : Str → Option Value} {name : Str} {v : Value}

end

theorem RelO.some_of {v : V} {o : Option Value} (r : RelO (some v) o) : ∃ u, o = some u ∧ RelV v u := by
  cases o with
  | none => exact (show False from r).elim
  | some u => exact ⟨u, rfl, r⟩
section
variable {P : Program} {w : World} {H H' : Hp} {h h' : Heap} {a C dx : Addr} {fs fs' : List (Str × V)}
theorem ins_get (hok : HOk P w H h) (e : H a = some (.ins C dx fs)) : ∃ mA, ObjM h a dx C mA ∧ (∀ f, RelO (fs.lookup f) (mA f)) ∧ PySem.Within mA (fs.map (·.1)) ∧ fs.length ≤ 1000 ∧ H dx = some (.own a) := by
  obtain ⟨d, z, ne, ob, mA, n, r, q⟩ := (show ObjOk P w H h a (.ins C dx fs) from hok a _ e)
  exact ⟨mA, ⟨ob, n, ne⟩, r, q, z, d⟩
end

structure Cls (K : PySem.W.Frag) (C : Addr) : Prop where
  pg : PySem.W.plainGet K C Str.empty = true
  hd : PySem.W.hasDictIn K C = true
  po : PySem.W.plainOver K C = true
  sa : PySem.W.findIn K (.ref C) "__setattr__" = some (some (.builtin "object.__setattr__"))
theorem Cls.get {K : PySem.W.Frag} {C : Addr} (c : Cls K C) (f : Str) : PySem.W.plainGet K C f = true := c.pg
section
variable {X : Cx} {pins : List (Addr × Obj)} {σ : St} {H : Hp} {s : Shared} {a C dx : Addr} {fs : List (Str × V)} {f : Str} {v : V} {A : Around} {E : Value → Shared → Prop}

theorem Inv.made (I : Inv X pins σ H s) : Inv X pins σ (upd (upd H s.heap.objs.size (.own (s.heap.objs.size + 1))) (s.heap.objs.size + 1) (.ins C s.heap.objs.size []))
    { s with heap := (s.heap.push PySem.W.emptyDict).push (PySem.W.instObj C s.heap.objs.size) } := by
  have e1 : (s.heap.push PySem.W.emptyDict).get? s.heap.objs.size = some PySem.W.emptyDict := Heap.get?_push_size s.heap rfl
  have e2 : ((s.heap.push PySem.W.emptyDict).push (PySem.W.instObj C s.heap.objs.size)).get? (s.heap.objs.size + 1) = some (PySem.W.instObj C s.heap.objs.size) := by
    have := Heap.get?_push_size (s.heap.push PySem.W.emptyDict) (o := PySem.W.instObj C s.heap.objs.size) rfl
    rwa [Heap.size_push] at this
  have e3 : (s.heap.push PySem.W.emptyDict).Ns s.heap.objs.size (fun _ => none) := ⟨PySem.W.emptyDict, #[], _, e1, rfl, (fun e he => absurd he (by simp)), fun _ => rfl⟩
  have I1 := I.laid (a := s.heap.objs.size) (o := .own (s.heap.objs.size + 1)) (h' := s.heap.push PySem.W.emptyDict) (t' := s.toks) (fun b u q => Heap.get?_push_of_some _ q) (Nat.le_refl _) ⟨_, e1⟩
  refine I1.laid (a := s.heap.objs.size + 1) (o := .ins C s.heap.objs.size []) (t' := s.toks) (fun b u q => Heap.get?_push_of_some _ q) (Nat.le_of_eq (Heap.size_push _ _)) ?_
  have ne : s.heap.objs.size ≠ s.heap.objs.size + 1 := Nat.ne_of_lt (Nat.lt_succ_self _)
  refine ⟨by rw [upd_ne ne, upd_same], Nat.zero_le _, ne, e2, fun _ => none, (Heap.Ns1.of_empty e3).at fun o q => Heap.get?_push_of_some _ q, fun _ => True.intro, fun y hy => absurd rfl hy⟩

end

section
variable {X : Cx} {o e value : Expr} {f : Str} {pos pos' tpos : Pos} {ta tv : TE}
end

section
variable {X : Cx} {pins : List (Addr × Obj)} {σ : St} {H : Hp} {s : Shared} {A : Around} {E : Value → Shared → Prop} {Q : Value → Shared → Prop} {c : Value} {b : Bool}
inductive TyOf (K : PySem.W.Frag) (H : Hp) : V → Value → Prop where
  | non : TyOf K H .non (.type "NoneType")
  | bl (x : Bool) : TyOf K H (.bl x) (.type "bool")
  | int (i : Int) : TyOf K H (.int i) (.type "int")
  | str (x : Str) : TyOf K H (.str x) (.type "str")
  | flt (x : UInt64) : TyOf K H (.flt x) (.type "float")
  | lst {a : Addr} {xs : List V} (e : H a = some (.lst xs)) : TyOf K H (.ref a) (.type "list")
  | frz {a : Addr} {o : Obj} {xs : List V} (e : H a = some (.frz o (.lst xs))) : TyOf K H (.ref a) (.type "list")
  | tup {a : Addr} {xs : List V} (e : H a = some (.tup xs)) : TyOf K H (.ref a) (.type "tuple")
  | dK {a : Addr} {kvs : List (Key × V)} (e : H a = some (.dK kvs)) : TyOf K H (.ref a) (.type "dict")
  | dT {a : Addr} {kvs : List (List Key × V)} (e : H a = some (.dT kvs)) : TyOf K H (.ref a) (.type "dict")
  | dN {a : Addr} {kvs : List (PKey × V)} (e : H a = some (.dN kvs)) : TyOf K H (.ref a) (.type "dict")
  | ins {a C dx : Addr} {fs : List (Str × V)} (e : H a = some (.ins C dx fs)) (cl : Cls K C) (ha : PySem.W.findIn K (.ref C) "__class__" = some (some (.builtin "object.__class__")))
      (hn : PySem.W.specialIn K (.builtin "object.__class__") "__get__" = some (some (.builtin "getset_descriptor.__get__"))) (htk : PySem.W.takesIn K (.builtin "object.__class__") = some true)
      (hm : PySem.W.mroIn K C (.type "object") = some true) : TyOf K H (.ref a) (.ref C)
theorem isinst_ok {x : V} {u t : Value} (I : Inv X pins σ H s) (rx : RelV x u) (ty : TyOf X.K H x t) (e : PySem.W.kitOne X.K t c = some b) (h : ∀ tk, Q (.bool b) { s with toks := tk }) :
    wpAny (model X.prog X.w) A (call (.builtin "isinstance") [u, c]) Q E s := by
  cases ty with
  | non => cases (show u = Value.none from rx); exact PySem.W.kia_one PySem.W.kitx_none I.kIn True.intro e (fun z => nomatch z) h
  | bl y => cases (show u = Value.bool y from rx); exact PySem.W.kia_one PySem.W.kitx_bool I.kIn True.intro e (fun z => nomatch z) h
  | int i => obtain ⟨t, q⟩ := (show ∃ t, u = Value.int i t from rx); cases q; exact PySem.W.kia_one PySem.W.kitx_int I.kIn True.intro e (fun z => nomatch z) h
  | str y => obtain ⟨t, q⟩ := (show ∃ t, u = Value.str y t from rx); cases q; exact PySem.W.kia_one PySem.W.kitx_str I.kIn True.intro e (fun z => nomatch z) h
  | flt y => obtain ⟨t, q⟩ := (show ∃ t, u = Value.float y t from rx); cases q; exact PySem.W.kia_one PySem.W.kitx_float I.kIn True.intro e (fun z => nomatch z) h
  | @lst a xs ea =>
    cases (show u = Value.ref a from rx)
    obtain ⟨_, _, n, _, h1⟩ := (show ObjOk X.prog X.w H s.heap a (.lst xs) from I.hok a _ ea)
    exact PySem.W.kia_one PySem.W.kitx_list I.kIn ⟨_, h1, rfl⟩ e (fun z => nomatch z) h
  | @frz a ob xs ea =>
    cases (show u = Value.ref a from rx)
    obtain ⟨_, _, _, n, _, h1⟩ := (show ObjOk X.prog X.w H s.heap a (.frz ob (.lst xs)) from I.hok a _ ea)
    exact PySem.W.kia_one PySem.W.kitx_list I.kIn ⟨_, h1, rfl⟩ e (fun z => nomatch z) h
  | @tup a xs ea =>
    cases (show u = Value.ref a from rx)
    obtain ⟨_, _, _, p⟩ := (show ObjOk X.prog X.w H s.heap a (.tup xs) from I.hok a _ ea)
    obtain ⟨o, h1, h2, _⟩ := p
    exact PySem.W.kia_one PySem.W.kitx_tuple I.kIn ⟨o, h1, h2⟩ e (fun z => nomatch z) h
  | @dK a kvs ea =>
    cases (show u = Value.ref a from rx)
    obtain ⟨_, _, vs, _, p⟩ := (show ObjOk X.prog X.w H s.heap a (.dK kvs) from I.hok a _ ea)
    obtain ⟨o, es, ep, h1, h2, _⟩ := p
    exact PySem.W.kia_one PySem.W.kitx_dict I.kIn ⟨o, h1, h2.1⟩ e (fun z => nomatch z) h
  | @dT a kvs ea =>
    cases (show u = Value.ref a from rx)
    obtain ⟨_, _, xs, _, o, es, ep, h1, h2, _⟩ := (show ObjOk X.prog X.w H s.heap a (.dT kvs) from I.hok a _ ea)
    exact PySem.W.kia_one PySem.W.kitx_dict I.kIn ⟨o, h1, h2.1⟩ e (fun z => nomatch z) h
  | @dN a kvs ea =>
    cases (show u = Value.ref a from rx)
    obtain ⟨_, _, xs, _, o, es, ep, h1, h2, _⟩ := (show ObjOk X.prog X.w H s.heap a (.dN kvs) from I.hok a _ ea)
    exact PySem.W.kia_one PySem.W.kitx_dict I.kIn ⟨o, h1, h2.1⟩ e (fun z => nomatch z) h
  | @ins a C dx fs ea cl ha hn htk hm =>
    cases (show u = Value.ref a from rx)
    obtain ⟨mA, O, _⟩ := ins_get I.hok ea
    obtain ⟨od, J, _⟩ := O.look
    exact PySem.W.kia_one (PySem.W.kitx_own (cl.get _) cl.hd ha hn htk hm) I.kIn J e (fun z => nomatch z) h
end
end L2

namespace L2
open PySem PySem.Spec PyProof.Rows

structure Room (k : Nat) (A : Around) : Prop where
  hd : A.handled = none
  dp : A.depth + 3 * k + 5 < recursionLimit
  un : A.units + 16 * k + 200 < cLine
  gd : A.guards = some []
theorem Room.mono {j k : Nat} {A : Around} (r : Room k A) (h : j ≤ k) : Room j A := ⟨r.hd, by have := r.dp; omega, by have := r.un; omega, r.gd⟩
theorem Room.deeper {k : Nat} {A : Around} (r : Room (k + 1) A) (env : Env) : Room k (A.deeper env) :=
  ⟨r.hd, by have := r.dp; show A.depth + 1 + 3 * k + 5 < _; omega, by have := r.un; show A.units + 3 + 16 * k + 200 < _; omega, r.gd⟩
theorem Room.in1 {k : Nat} {A : Around} (r : Room (k + 1) A) : Room k A.in1 :=
  ⟨r.hd, by have := r.dp; show A.depth + 3 * k + 5 < _; omega, by have := r.un; show A.units + 1 + 16 * k + 200 < _; omega, r.gd⟩
theorem Room.depth {k : Nat} {A : Around} (r : Room k A) : A.depth < recursionLimit := by have := r.dp; omega
theorem Room.units {k : Nat} {A : Around} (r : Room k A) : A.units + 64 < cLine := by have := r.un; omega
def tNil : TA := fun _ H Q => Q [] H
def tCons (ta : TE) (tr : TA) : TA := fun σ H Q => ta σ H fun x H1 => tr σ H1 fun xs H2 => Q (x :: xs) H2
section
variable {X : Cx} {e : Expr} {es : List Expr} {te : TE} {t : TA} {pos : Pos}
theorem pa_nil : PA X [] tNil := fun _ _ _ _ H Q I h => Calls.spliced_nil ⟨[], H, I, .nil, h⟩
theorem pa_cons (ha : PE X e te) (hr : PA X es t) (hs : starEach (e :: es) X.env = (false, eval e X.env) :: starEach es X.env := by rfl) : PA X (e :: es) (tCons te t) := by
  intro pos pins s σ H Q I h
  rw [hs]
  show wpAny _ _ (spliced ((false, eval e X.env) :: backTo pos (starEach es X.env))) _ _ s
  refine Calls.spliced_cons (thn (ha s σ H _ I h) fun u s1 ⟨x, H1, I1, r1, q1⟩ => ?_)
  exact thn (hr pins s1 σ H1 _ I1 q1) fun us s2 ⟨xs, H2, I2, r2, q2⟩ => ⟨x :: xs, H2, I2, .cons r1 r2, q2⟩

def tTup (t : TA) : TE := fun σ H Q => t σ H fun xs H1 => xs.length ≤ sizeLine ∧ ∀ p, H1 p = none → Q (.ref p) (upd H1 p (.tup xs))
def tLst (t : TA) : TE := fun σ H Q => t σ H fun xs H1 => xs.length ≤ sizeLine ∧ ∀ p, H1 p = none → Q (.ref p) (upd H1 p (.lst xs))
theorem pe_tup {x1} (h : PA X es t) : PE X (.Tuple es x1 pos) (tTup t) := by
  intro pins s σ H Q I hq
  refine wpAny_Tuple_spliced (thn (h pins s σ H _ I hq) fun us s1 ⟨xs, H1, I1, r, z, q⟩ => ⟨by rw [← r.length]; exact z, ?_⟩)
  have hf : H1 s1.heap.objs.size = none := I1.hok.fresh (Nat.le_refl _)
  refine ⟨.ref s1.heap.objs.size, upd H1 s1.heap.objs.size (.tup xs), I1.laid (t' := s1.toks) (fun b u e => Heap.get?_push_of_some _ e) (Nat.le_refl _) ?_, rfl, q _ hf⟩
  exact ⟨z, us, r, ⟨_, Heap.get?_push_size _ rfl, rfl, _, rfl, rfl⟩⟩
theorem pe_lst (h : PA X es t) : PE X (.List es pos) (tLst t) := by
  intro pins s σ H Q I hq
  refine wpAny_List_spliced (thn (h pins s σ H _ I hq) fun us s1 ⟨xs, H1, I1, r, z, q⟩ => ⟨by rw [← r.length]; exact z, ?_⟩)
  have hf : H1 s1.heap.objs.size = none := I1.hok.fresh (Nat.le_refl _)
  refine ⟨.ref s1.heap.objs.size, upd H1 s1.heap.objs.size (.lst xs), I1.laid (t' := s1.toks) (fun b u e => Heap.get?_push_of_some _ e) (Nat.le_refl _) ?_, rfl, q _ hf⟩
  exact ⟨z, us, 0, r, Heap.get?_push_size _ rfl⟩
end

abbrev Sp := List V → Hp → VK → XK → Prop
abbrev CXT := List Env → Hp → Shared → XK → Value → Shared → Prop

structure Env0 (P : Program) (w : World) (K : PySem.W.Frag) (mg : Str → Option Value) (base : Heap) (A : Around) (outer : List Env) (s : Shared) (H : Hp) : Prop where
  frames : A.frames = some outer
  mod : Mod K mg base
  bs : ∀ b o, base.get? b = some o → s.heap.get? b = some o ∧ H b = none
  bsz : base.objs.size ≤ s.heap.objs.size
  funs : s.heap.FunFrames base outer
  frf : ∀ b ∈ frs outer, H b = none
  hok : HOk P w H s.heap
  bare : AllBare s.gens
def CE (outer : List Env) (P : Program) (w : World) (H : Hp) (s : Shared) (Q : VK) (u : Value) (s' : Shared) : Prop :=
  ∃ v H', s'.os = s.os ∧ AllBare s'.gens ∧ Un (frs outer) [] H H' s.heap s'.heap ∧ HOk P w H' s'.heap ∧ RelV v u ∧ Q v H'
def CR (CX : CXT) (outer : List Env) (P : Program) (w : World) (H : Hp) (s : Shared) (Q : VK) (E : XK) (r : Result) (s' : Shared) : Prop :=
  match r with
  | .ok (.ret u) => CE outer P w H s Q u s'
  | .ok _ => False
  | .error e => CX outer H s E e s'
structure FnOk (P : Program) (w : World) (K : PySem.W.Frag) (mg : Str → Option Value) (base : Heap) (CX : CXT) (k : Nat) (f : Addr) (fd : FuncData) (ps : List Str) (sp : Sp) : Prop where
  len : ∀ vs H Q E, sp vs H Q E → vs.length = ps.length
  run : ∀ (A : Around) (outer : List Env) (s : Shared) (H : Hp) (args : Args) (us : List Value) (vs : List V) (Q : VK) (E : XK), Room k A → Env0 P w K mg base A outer s H → BindsTo s fd args (ps.zip us) → Vals vs us → sp vs H Q E →
    codeAny (model P w) A (.call (.ref f) args) (CR CX outer P w H s Q E) s
theorem FnOk.mono {P : Program} {w : World} {K : PySem.W.Frag} {mg : Str → Option Value} {base : Heap} {CX : CXT} {j k : Nat} {f : Addr} {fd : FuncData} {ps : List Str} {sp : Sp} (F : FnOk P w K mg base CX j f fd ps sp) (h : j ≤ k) :
    FnOk P w K mg base CX k f fd ps sp := ⟨F.len, fun A outer s H args us vs Q E hr => F.run A outer s H args us vs Q E (hr.mono h)⟩
theorem FnOk.imp {P : Program} {w : World} {K : PySem.W.Frag} {mg : Str → Option Value} {base : Heap} {CX : CXT} {k : Nat} {f : Addr} {fd : FuncData} {ps : List Str} {sp sp' : Sp} (F : FnOk P w K mg base CX k f fd ps sp)
    (h : ∀ vs H Q E, sp' vs H Q E → sp vs H Q E) : FnOk P w K mg base CX k f fd ps sp' :=
  ⟨fun vs H Q E q => F.len vs H Q E (h _ _ _ _ q), fun A outer s H args us vs Q E hr he hb hv hs => F.run A outer s H args us vs Q E hr he hb hv (h _ _ _ _ hs)⟩

theorem Env0.in1 {P : Program} {w : World} {K : PySem.W.Frag} {mg : Str → Option Value} {base : Heap} {A : Around} {outer : List Env} {s : Shared} {H : Hp} (e : Env0 P w K mg base A outer s H) :
    Env0 P w K mg base A.in1 outer s H := ⟨e.frames, e.mod, e.bs, e.bsz, e.funs, e.frf, e.hok, e.bare⟩

section
variable {X : Cx} {pins : List (Addr × Obj)} {σ : St} {H : Hp} {s s' : Shared}
theorem Inv.env0 (I : Inv X pins σ H s) : Env0 X.prog X.w X.K X.mg X.base X.A X.stack s H :=
  ⟨I.ok.frames, I.ok.mod, I.bs, Nat.le_trans I.ok.bsz I.sz, I.stack, I.stkFree, I.hok, I.bare⟩
theorem Inv.after {Q : VK} {u : Value} (I : Inv X pins σ H s) (h : CE X.stack X.prog X.w H s Q u s') : EP X pins σ Q u s' := by
  obtain ⟨v, H', os, bare, un, hok, r, q⟩ := h
  obtain ⟨hh, g, d, t, os'⟩ := s'
  obtain rfl : os' = s.os := os
  exact ⟨v, H', I.call (h' := hh) (g' := g) (d' := d) (t' := t) (ch := []) un hok bare (fun b z => absurd z (by simp)), r, q⟩
end

def tCall (sp : Sp) (dvs : List V) (E : XK) (t : TA) : TE := fun σ H Q => t σ H fun vs H1 => sp (vs ++ dvs) H1 Q E
def Binds (K : PySem.W.Frag) (fd : FuncData) (ps : List Str) (ds : List Value) : Prop :=
  ∀ (s : Shared) (us : List Value), K.In s.heap → (us ++ ds).length = ps.length → BindsTo s fd ⟨us, []⟩ (ps.zip (us ++ ds))
theorem Binds.all {K : PySem.W.Frag} {fd : FuncData} {ps : List Str} (h : ∀ us : List Value, us.length = ps.length → bindArgs fd ⟨us, []⟩ = pure (ps.zip us)) : Binds K fd ps [] := fun s us _ hl => by
  rw [List.append_nil] at hl ⊢
  exact .of_eq (h us hl)

def Passes (CX : CXT) (X : Cx) (E : XK) : Prop := ∀ (pins : List (Addr × Obj)) (σ : St) (H : Hp) (s : Shared) (e : Value) (s' : Shared), Inv X pins σ H s → CX X.stack H s E e s' → X.xe e s'

section
variable {X : Cx} {CX : CXT} {k : Nat} {f C : Addr} {fd : FuncData} {ps : List Str} {sp : Sp} {dvs : List V} {ds : List Value} {E : XK} {x m : Str} {p pos apos : Pos} {e o : Expr} {es : List Expr} {ta : TE} {t : TA}

theorem run_fn {pins : List (Addr × Obj)} {σ : St} {H : Hp} {s : Shared} {Q : VK} {us : List Value} {vs : List V} (F : FnOk X.prog X.w X.K X.mg X.base CX k f fd ps sp) (hr : Room k X.A) (hb : Binds X.K fd ps ds) (hd : Vals dvs ds) (hx : Passes CX X E)
    (I : Inv X pins σ H s) (r : Vals vs us) (h : sp (vs ++ dvs) H Q E) : wpAny (model X.prog X.w) X.A (call (.ref f) us) (EP X pins σ Q) X.xe s := by
  have r2 : Vals (vs ++ dvs) (us ++ ds) := r.append hd
  have hl : (us ++ ds).length = ps.length := by rw [← r2.length]; exact F.len _ _ _ _ h
  refine wpAny_call (codeAny_mono (F.run X.A X.stack s H ⟨us, []⟩ (us ++ ds) (vs ++ dvs) Q E hr I.env0 (hb s us I.kIn hl) r2 h) fun r s' hq => ?_)
  cases r with
  | error e => exact hx pins σ H s e s' I hq
  | ok fl =>
    cases fl with
    | ret u => exact I.after hq
    | next => exact False.elim hq
    | brk => exact False.elim hq
    | cont => exact False.elim hq

theorem pe_call (F : FnOk X.prog X.w X.K X.mg X.base CX k f fd ps sp) (hr : Room k X.A) (hg : Gl X x) (hm : X.mg x = some (.ref f)) (hk : PySem.W.keepIn X.K (.ref f) = true) (hb : Binds X.K fd ps ds) (hd : Vals dvs ds) (hx : Passes CX X E)
    (ha : PA X (e :: es) t) (hdb : (x == ("__debug__" : Str)) = false := by decide) (he : starEach (e :: es) X.env = (false, eval e X.env) :: starEach es X.env := by rfl) (hpl : (backTo pos (starEach es X.env)).any (·.1) = false := by rfl) :
    PE X (.Call (.Name x p) (e :: es) [] pos) (tCall sp dvs E t) := by
  intro pins s σ H Q I h
  refine wpAny_Call_Name_kw (ld_glob I hg hm ?_ hdb)
  refine PySem.W.callWith_K (h₀ := X.base) I.ok.mod.kin hk (thn (ha pins s σ H _ I h) fun us s1 ⟨vs, H1, I1, r, q⟩ => ⟨I1.kIn, ?_⟩) he hpl
  exact run_fn F hr hb hd hx I1 r q
structure Mk (K : PySem.W.Frag) (C f : Addr) : Prop where
  makes : PySem.W.makesIn K C = true
  init : PySem.W.findIn K (.ref C) "__init__" = some (some (.ref f))
  fn : PySem.W.isFn K (.ref f) = true
  kp : PySem.W.keepIn K (.ref C) = true

end

section
variable {X : Cx} {CX : CXT} {k : Nat} {f C : Addr} {fd : FuncData} {ps ks : List Str} {sp : Sp} {E : XK} {x m : Str} {p pos apos kpos : Pos} {e o : Expr} {es : List Expr} {kws : List Keyword} {te ta : TE} {t tk : TA} {nm : Option Str}
variable {g : List Value → List Value → List Value} {gV : List V → List V → List V}
end

structure FnScope (N P : List Str) (sc : Scope) : Prop where
  kind : sc.kind = .function
  co : sc.isCoroutine = false
  gen : sc.isGenerator = false
  nd : N.Nodup
  pre : N.take P.length = P
  par : ∀ x ∈ P, sc.names.lookup x = some .local ∨ sc.names.lookup x = some .cell
  nofree : ∀ y ∈ sc.names, y.2 ≠ .free

theorem bindL_out {kindOf : Str → Option NameKind} {x : Str} : ∀ {binds : List (Str × Value)} {m : Str → Option Value}, (∀ v, (x, v) ∉ binds) → bindL kindOf binds m x = m x
  | [], _, _ => rfl
  | (n, v) :: r, m, h => by
    unfold bindL
    rw [bindL_out fun w hw => h w (List.mem_cons_of_mem _ hw)]
    split
    · have : x ≠ n := by rintro rfl; exact h v List.mem_cons_self
      simp [this]
    · rfl
theorem bindC_out {kindOf : Str → Option NameKind} {x : Str} : ∀ {binds : List (Str × Value)} {m : Str → Option Value}, (∀ v, (x, v) ∉ binds) → bindC kindOf binds m x = m x
  | [], _, _ => rfl
  | (n, v) :: r, m, h => by
    unfold bindC
    rw [bindC_out fun w hw => h w (List.mem_cons_of_mem _ hw)]
    split
    · rfl
    · have : x ≠ n := by rintro rfl; exact h v List.mem_cons_self
      simp [this]
theorem bindL_get {kindOf : Str → Option NameKind} {x : Str} {v : Value} : ∀ {P : List Str} {vs : List Value} {i : Nat} {m : Str → Option Value}, P.Nodup → P[i]? = some x → vs[i]? = some v → kindOf x = some .local →
    bindL kindOf (P.zip vs) m x = some v
  | [], _, _, _, _, h, _, _ => by simp at h
  | _ :: _, [], _, _, _, _, h, _ => by simp at h
  | p :: P, w :: vs, 0, m, nd, h1, h2, hk => by
    simp at h1 h2; subst h1; subst h2
    show bindL kindOf ((p, w) :: P.zip vs) m p = _
    unfold bindL
    rw [bindL_out fun v hv => (List.nodup_cons.mp nd).1 (List.of_mem_zip hv).1, if_pos hk]
    simp
  | p :: P, w :: vs, i + 1, m, nd, h1, h2, hk => by
    show bindL kindOf ((p, w) :: P.zip vs) m x = _
    unfold bindL
    exact bindL_get (i := i) (List.nodup_cons.mp nd).2 (by simpa using h1) (by simpa using h2) hk
theorem bindC_get {kindOf : Str → Option NameKind} {x : Str} {v : Value} : ∀ {P : List Str} {vs : List Value} {i : Nat} {m : Str → Option Value}, P.Nodup → P[i]? = some x → vs[i]? = some v → kindOf x ≠ some .local →
    bindC kindOf (P.zip vs) m x = some v
  | [], _, _, _, _, h, _, _ => by simp at h
  | _ :: _, [], _, _, _, _, h, _ => by simp at h
  | p :: P, w :: vs, 0, m, nd, h1, h2, hk => by
    simp at h1 h2; subst h1; subst h2
    show bindC kindOf ((p, w) :: P.zip vs) m p = _
    unfold bindC
    rw [bindC_out fun v hv => (List.nodup_cons.mp nd).1 (List.of_mem_zip hv).1, if_neg hk]
    simp
  | p :: P, w :: vs, i + 1, m, nd, h1, h2, hk => by
    show bindC kindOf ((p, w) :: P.zip vs) m x = _
    unfold bindC
    exact bindC_get (i := i) (List.nodup_cons.mp nd).2 (by simpa using h1) (by simpa using h2) hk

def start (N : List Str) (vs : List V) : St := vs.map some ++ List.replicate (N.length - vs.length) none

def cxOf (CX : CXT) (P : Program) (w : World) (K : PySem.W.Frag) (mg : Str → Option Value) (base : Heap) (N : List Str) (qual : Str) (scope : Scope) (f : Addr) (cd : Value) (A : Around) (outer : List Env) (s : Shared) (H : Hp) (E : XK) : Cx where
  prog := P
  w := w
  K := K
  mg := mg
  base := base
  A := A.deeper (envOfC qual scope s.heap.objs.size f cd)
  N := N
  s_0 := s
  H_0 := H
  env := envOfC qual scope s.heap.objs.size f cd
  outer := outer
  stack := envOfC qual scope s.heap.objs.size f cd :: outer
  ex := []
  calm := true
  fn := fun _ => true
  pn := []
  xe := fun e s' => wpAny (model P w) (A.deeper (envOfC qual scope s.heap.objs.size f cd)) (leaving (envOfC qual scope s.heap.objs.size f cd) e) (fun _ s'' => CX outer H s E e s'') (fun e' s'' => CX outer H s E e' s'') s'

theorem cell_has {sc : Scope} {n : Nat} {x : Str} (h : sc.names.lookup x = some .cell) : ∃ c, (cellsFrom n sc.names []).lookup x = some c := by
  have q := PySem.W.cellsFrom_some sc.names n [] (.inl h)
  exact Option.isSome_iff_exists.mp q

theorem inv_start {CX : CXT} {P : Program} {w : World} {K : PySem.W.Frag} {mg : Str → Option Value} {base : Heap} {N ps : List Str} {qual : Str} {scope : Scope} {f : Addr} {cd : Value} {A : Around} {outer : List Env} {s s1 : Shared} {H : Hp} {E : XK} {us : List Value} {vs : List V}
    (S : FnScope N ps scope) (hd : A.handled = none) (e0 : Env0 P w K mg base A outer s H) (hl : vs.length = ps.length) (r : Vals vs us)
    (x : InCallC s s.heap.objs.size (bindL (envOfC qual scope s.heap.objs.size f cd).kindOf (ps.zip us) fun _ => none) (cellsFrom (s.heap.objs.size + 1) scope.names []) (bindC (envOfC qual scope s.heap.objs.size f cd).kindOf (ps.zip us) fun _ => none) s1) :
    Inv (cxOf CX P w K mg base N qual scope f cd A outer s H E) [] (start N vs) H s1 := by
  have hpl : ps.length ≤ N.length := by have := congrArg List.length S.pre; rw [List.length_take] at this; omega
  obtain ⟨h1, tk, rfl, hk⟩ := x.done
  have noA : ∀ b : Addr, b ∉ (cxOf CX P w K mg base N qual scope f cd A outer s H E).ex := fun b z => absurd (show b ∈ ([] : List Addr) from z) (by simp)
  refine ⟨⟨e0.mod, S.kind, rfl, rfl, Nat.le_refl _, fun y z c h1 h2 => ?_, fun y hy => ?_, fun y c _ h => ?_, fun _ => hd, Around.frames_deeper e0.frames, .inr ⟨rfl, rfl⟩, fun b z => absurd z (noA b), e0.bs, e0.bsz, fun b _ _ => noA b, fun b z => absurd z (noA b), e0.funs, e0.frf⟩,
    rfl, e0.bare, Un.kept hk, ⟨_, x.toInCall.ns, fun i y v h1 h2 h3 => ?_⟩, fun y c h => ⟨_, x.cell y c h⟩, e0.hok.fresh (Nat.le_refl _), fun y c h => ?_, fun p hp => absurd (show p ∈ ([] : List (Addr × Obj)) from hp) (by simp), e0.hok.kept hk, ?_⟩
  · exact name_of_addr x.apart (PySem.mem_of_lookup h1) (PySem.mem_of_lookup h2)
  · have hy : scope.names.lookup y = some .cell ∨ scope.names.lookup y = some .free := hy
    rcases hy with hy | hy
    · exact cell_has hy
    · exact absurd rfl (S.nofree _ (PySem.mem_of_lookup hy))
  · exact Nat.le_of_lt (x.above y c (PySem.mem_of_lookup h))
  · have hi : i < vs.length := by
      unfold start at h2
      by_cases hi : i < vs.length
      · exact hi
      · rw [List.getElem?_append_right (by simpa using hi)] at h2
        rw [List.getElem?_replicate] at h2
        split at h2 <;> cases h2
    have ha : vs[i]? = some v := by
      unfold start at h2
      rw [List.getElem?_append_left (by simpa using hi), List.getElem?_map] at h2
      cases e : vs[i]? with
      | none => rw [e] at h2; cases h2
      | some a => rw [e] at h2; cases h2; rfl
    obtain ⟨u, hu, rv⟩ := r.get ha
    have hp : ps[i]? = some y := by
      rw [← S.pre, List.getElem?_take_of_lt (by omega)]; exact h1
    have ndP : ps.Nodup := by rw [← S.pre]; exact S.nd.sublist (List.take_sublist _ _)
    refine ⟨u, rv, ?_⟩
    rcases S.par y (List.mem_of_getElem? hp) with k | k
    · exact .inl ⟨k, bindL_get ndP hp hu k⟩
    · obtain ⟨c, e⟩ := cell_has (n := s.heap.objs.size + 1) k
      refine .inr ⟨.inl k, c, e, ?_⟩
      have q := x.cell y c e
      rw [bindC_get ndP hp hu (by show scope.names.lookup y ≠ _; rw [k]; decide)] at q
      exact q
  · exact e0.hok.fresh (Nat.le_of_lt (x.above y c (PySem.mem_of_lookup h)))
  · unfold start
    show _ = N.length
    rw [List.length_append, List.length_map, List.length_replicate]
    omega

theorem fn_of {CX : CXT} {P : Program} {w : World} {K : PySem.W.Frag} {mg : Str → Option Value} {base : Heap} {k : Nat} {f : Addr} {name qual : Str} {params : Arguments} {body : List Stmt} {scope : Scope} {dV kV doc pm cdv ct oc : Value} {an od : Option Addr}
    {osl : Array (Option Value)} {N ps : List Str} {sp : Sp} (lk : K.lookup f = some ⟨oc, od, .func (PySem.W.fnOf name qual params body scope dV kV doc pm an cdv ct), osl⟩) (hcd : PySem.W.codeIn K cdv qual = true) (S : FnScope N ps scope)
    (len : ∀ vs H Q E, sp vs H Q E → vs.length = ps.length)
    (hbody : ∀ (A : Around) (outer : List Env) (s : Shared) (H : Hp) (vs : List V) (Q : VK) (E : XK), Room k (A.deeper (envOfC qual scope s.heap.objs.size f cdv)) → sp vs H Q E →
      ∃ t, PSs (cxOf CX P w K mg base N qual scope f cdv A outer s H E) body t ∧ t { nx := fun _ H' => Q .non H', rt := Q } (start N vs) H) :
    FnOk P w K mg base CX (k + 1) f (PySem.W.fnOf name qual params body scope dV kV doc pm an cdv ct) ps sp := by
  refine ⟨len, fun A outer s H args us vs Q E hr e0 hb r hsp => ?_⟩
  have hl := len _ _ _ _ hsp
  have KX : K.In s.heap := e0.mod.kin.keeps fun b o e => (e0.bs b o e).1
  have lim : s.heap.NoLimit := e0.mod.nolimit.keeps fun b o e => (e0.bs b o e).1
  have hkind : ∀ y ∈ ps.zip us, scope.names.lookup y.1 = some .local ∨ (scope.names.lookup y.1 = some .cell ∧ ((cellsFrom (s.heap.objs.size + 1) scope.names []).lookup y.1).isSome = true) := fun ⟨n, v⟩ hy => by
    rcases S.par n (List.of_mem_zip hy).1 with q | q
    · exact .inl q
    · exact .inr ⟨q, PySem.W.cellsFrom_some _ _ _ (.inl q)⟩
  refine codeAny_call_function hr.depth (KX _ _ lk) rfl S.co S.gen rfl (PySem.W.codeRec_of KX hcd) (hb _ _ _ _ ?_)
  refine wpAny_newFunctionEnv_cells S.kind hkind fun env he s1 x => ?_
  subst he
  refine ⟨lim.keeps x.toInCall.keep, codeAny_func ?_⟩
  obtain ⟨t, ht, hq⟩ := hbody A outer s H vs Q E (hr.deeper _) hsp
  have I : Inv (cxOf CX P w K mg base N qual scope f cdv A outer s H E) [] (start N vs) H s1 := inv_start S hr.hd e0 hl r x
  refine wpAny_mono (ht s1 (start N vs) H _ I hq) (fun fl s' hs => ?_) fun e s' hs => hs
  have fin : ∀ {σ' : St} {H' : Hp} {v : V} {u : Value}, Inv (cxOf CX P w K mg base N qual scope f cdv A outer s H E) [] σ' H' s' → RelV v u → Q v H' → CE outer P w H s Q u s' :=
    fun {σ' H' v u} J rv q => ⟨v, H', J.os, J.bare, J.base, J.hok, rv, q⟩
  cases fl with
  | ret u =>
    obtain ⟨v, σ', H', J, rv, q⟩ := hs
    exact fin J rv q
  | next =>
    obtain ⟨σ', H', J, q⟩ := hs
    exact fin (v := V.non) (u := Value.none) J rfl q
  | brk =>
    obtain ⟨_, _, _, q⟩ := hs
    exact False.elim q
  | cont =>
    obtain ⟨_, _, _, q⟩ := hs
    exact False.elim q
end L2

namespace L2
open PySem PySem.Spec PyProof.Rows
section
variable {X : Cx} {x : Str} {p pos : Pos} {e : Expr} {es : List Expr} {t : TA} {id T : String} {r : List V → Hp → VK → Prop}

def tCB (r : List V → Hp → VK → Prop) (t : TA) : TE := fun σ H Q => t σ H fun vs H1 => r vs H1 Q
theorem pe_callB (hc : CallR X (.builtin id) r) (hg : Gl X x) (hm : X.mg x = none) (hv : bootBuiltins x = some (.builtin id)) (ha : PA X (e :: es) t) (hn : x ≠ "__name__" := by decide) (hdb : (x == ("__debug__" : Str)) = false := by decide)
    (he : starEach (e :: es) X.env = (false, eval e X.env) :: starEach es X.env := by rfl) (hpl : (backTo pos (starEach es X.env)).any (·.1) = false := by rfl) : PE X (.Call (.Name x p) (e :: es) [] pos) (tCB r t) := by
  intro pins s σ H Q I h
  refine wpAny_Call_Name_kw (ld_blt I hg hm hv ?_ hn hdb)
  exact PyProof.Rows.callWith_builtin1 (thn (ha pins s σ H _ I h) fun us s1 ⟨vs, H1, I1, r1, q1⟩ => hc s1 σ H1 vs us Q I1 r1 q1) he hpl
theorem pe_callTy (hc : CallR X (.type T) r) (hg : Gl X x) (hm : X.mg x = none) (hv : bootBuiltins x = some (.type T)) (ha : PA X (e :: es) t) (hn : x ≠ "__name__" := by decide) (hdb : (x == ("__debug__" : Str)) = false := by decide)
    (he : starEach (e :: es) X.env = (false, eval e X.env) :: starEach es X.env := by rfl) (hpl : (backTo pos (starEach es X.env)).any (·.1) = false := by rfl) : PE X (.Call (.Name x p) (e :: es) [] pos) (tCB r t) := by
  intro pins s σ H Q I h
  refine wpAny_Call_Name_kw (ld_blt I hg hm hv ?_ hn hdb)
  exact PyProof.Rows.callWith_type1 (thn (ha pins s σ H _ I h) fun us s1 ⟨vs, H1, I1, r1, q1⟩ => hc s1 σ H1 vs us Q I1 r1 q1) he hpl
end
end L2

namespace HT
open PySem PyProof.Rows

def lexLt : List Int → List Int → Bool
  | [], [] => false
  | [], _ :: _ => true
  | _ :: _, [] => false
  | x :: xs, y :: ys => if x = y then lexLt xs ys else decide (x < y)
section
open PySem.SeqAt
open PySem.AutoSeq1 (wpAny_loadPart')
open PySem.MeetsSeq PySem.MeetsSeq2 PySem.MeetsSeq3

end

section
variable {prog : Program} {w : World} {A : Around} {E : Value → Shared → Prop} {s : Shared}

theorem cat_tup {t b : Addr} {vs ws : List Value} {Q : Value → Shared → Prop} (ht : IsTup s.heap t vs.toArray) (hb : IsTup s.heap b ws.toArray) (hv : vs ≠ [])
    (h1 : ws = [] → Q (.ref t) s) (h2 : ws ≠ [] → Q (.ref s.heap.objs.size) { s with heap := s.heap.push { cls := .type "tuple", data := .seq (vs ++ ws).toArray } })
    (hsz : vs.length + ws.length ≤ sizeLine) : wpAny (model prog w) A (binaryOp .Add (.ref t) (.ref b)) Q E s := by
  obtain ⟨⟨cls, dd, data, sl⟩, ho, hc, n, hd⟩ := id ht
  obtain ⟨⟨cls2, dd2, data2, sl2⟩, ho2, hc2, n2, hd2⟩ := id hb
  simp only at hc hd hc2 hd2
  subst hc hd hc2 hd2
  have e : vs.toArray ++ ws.toArray = (vs ++ ws).toArray := by simp
  by_cases hw : ws = []
  · exact concat_meets ⟨_, ho, rfl⟩ ⟨_, ho2, rfl⟩ noFill_tuple_add seq_tuple_add PySem.F.slot_tuple_add PySem.F.entry_tuple_add (PySem.F.args_tuple_add_2 _ _)
      (tuple_addW1 t b vs.toArray ws.toArray n n2 dd dd2 sl sl2 (by simpa using hv) (by simp [hw])) ⟨ho, ho2, h1 hw⟩
  · refine concat_meets ⟨_, ho, rfl⟩ ⟨_, ho2, rfl⟩ noFill_tuple_add seq_tuple_add PySem.F.slot_tuple_add PySem.F.entry_tuple_add (PySem.F.args_tuple_add_2 _ _)
      (tuple_addW2 t b vs.toArray ws.toArray n n2 dd dd2 sl sl2 (by simpa using hv) (by simpa using hw) (by rw [List.size_toArray, List.size_toArray]; exact hsz)) ⟨ho, ho2, ?_⟩
    rw [e]
    exact h2 hw

def sIx (n d : Nat) : Option Int → Nat
  | none => d
  | some v => if v < 0 then (v + (n : Int)).toNat else min v.toNat n
theorem sIx_le (n d : Nat) (hd : d ≤ n) (o : Option Int) : sIx n d o ≤ n := by
  cases o with
  | none => exact hd
  | some v =>
    show (if v < 0 then (v + (n : Int)).toNat else min v.toNat n) ≤ n
    by_cases hv : v < 0
    · rw [if_pos hv]; omega
    · rw [if_neg hv]; exact Nat.min_le_right _ _
theorem clip_eq (v : Int) (n d : Nat) : (if v < 0 then max (v + (n : Int)) 0 else min v (n : Int)) = ((sIx n d (some v) : Nat) : Int) := by
  show (if v < 0 then max (v + (n : Int)) 0 else min v (n : Int)) = (((if v < 0 then (v + (n : Int)).toNat else min v.toNat n) : Nat) : Int)
  by_cases hv : v < 0
  · simp only [if_pos hv]; omega
  · simp only [if_neg hv]; omega
theorem adjust_gen (lo hi : Option Int) (n : Nat) : Builtin.Slice.sliceAdjust lo hi 1 (n : Int) = (((sIx n 0 lo : Nat) : Int), ((sIx n n hi : Nat) : Int)) := by
  have h1 : ¬ ((1 : Int) < 0) := by omega
  unfold Builtin.Slice.sliceAdjust
  simp only [h1, if_false]
  refine Prod.ext ?_ ?_
  · cases lo with
    | none => rfl
    | some v => exact clip_eq v n 0
  · cases hi with
    | none => rfl
    | some v => exact clip_eq v n n
theorem places_gen (i j : Nat) : Builtin.Slice.slicePlaces (i : Int) (j : Int) 1 = j - i := by
  unfold Builtin.Slice.slicePlaces
  have h1 : (1 : Int) > 0 := by omega
  simp only [h1, if_true, Int.ediv_one]
  split <;> omega
theorem slicePart_ {v : Value} {o : Option Int} {Q : Option Int → Shared → Prop} (p : IsPart v o) (h : Q o s) : wpAny (model prog w) A (Builtin.Slice.slicePartIndex v) Q E s := by
  cases p with
  | none => exact slicePart_none h
  | int i t => exact slicePart_int h
theorem sliceApplied_gen {sl : Addr} {vl vu : Value} {lo hi : Option Int} {n : Nat} {Q : Int × Int × Nat → Shared → Prop} (hs : s.heap.IsSliceOf sl vl vu .none) (pl : IsPart vl lo) (pu : IsPart vu hi)
    (h : Q (((sIx n 0 lo : Nat) : Int), 1, sIx n n hi - sIx n 0 lo) s) : wpAny (model prog w) A (Builtin.Slice.sliceApplied (.ref sl) (pure (n : Int))) Q E s := by
  obtain ⟨os, hos, hcs, hds⟩ := id hs
  unfold Builtin.Slice.sliceApplied Builtin.Slice.sliceFields
  refine wpAny_bind (wpAny_bind (wpAny_field hos hds (x := vl) rfl (wpAny_bind (wpAny_field hos hds (x := vu) rfl (wpAny_bind (wpAny_field hos hds (x := .none) rfl (wpAny_pure ?_)))))))
  refine wpAny_bind (slicePart_none ?_)
  show wpAny _ _ (if ((1 : Int) == 0) = true then _ else _) _ _ s
  rw [if_neg (by decide)]
  refine wpAny_bind (slicePart_ pl (wpAny_bind (slicePart_ pu (wpAny_bind (wpAny_pure ?_)))))
  show wpAny _ _ (match Builtin.Slice.sliceAdjust lo hi 1 (n : Int) with | (lo, hi) => pure (lo, (1 : Int), Builtin.Slice.slicePlaces lo hi 1)) _ _ s
  rw [adjust_gen lo hi n]
  show wpAny _ _ (pure (((sIx n 0 lo : Nat) : Int), (1 : Int), Builtin.Slice.slicePlaces ((sIx n 0 lo : Nat) : Int) ((sIx n n hi : Nat) : Int) 1)) _ _ s
  rw [places_gen]
  exact wpAny_pure h
theorem pick_gen (xs : Array Value) (i k : Nat) : ((List.range k).filterMap fun (m : Nat) => xs[((i : Int) + (m : Int) * 1).toNat]?).toArray = ((xs.toList.drop i).take k).toArray := by
  have e : (fun (m : Nat) => xs[((i : Int) + (m : Int) * 1).toNat]?) = fun m => xs[i + m]? := by
    funext m
    have : ((i : Int) + (m : Int) * 1).toNat = i + m := by omega
    rw [this]
  rw [e]
  have := pick_run xs i k
  rw [List.filterMap_map] at this
  have e2 : ((fun x => xs[x]?) ∘ fun x => i + x) = fun m => xs[i + m]? := rfl
  rw [e2] at this
  rw [this]

theorem getItem_tuple_cut {t sl : Addr} {items : Array Value} {vl vu : Value} {lo hi : Option Int} {Q : Value → Shared → Prop} (ht : IsTup s.heap t items) (hs : s.heap.IsSliceOf sl vl vu .none) (pl : IsPart vl lo) (pu : IsPart vu hi)
    (hw : ¬ (sIx items.size 0 lo = 0 ∧ sIx items.size items.size hi = items.size))
    (h : Q (.ref s.heap.objs.size) { s with heap := s.heap.push { cls := .type "tuple", data := .seq ((items.toList.drop (sIx items.size 0 lo)).take (sIx items.size items.size hi - sIx items.size 0 lo)).toArray } })
    (hsz : items.size ≤ sizeLine) : wpAny (model prog w) A (getItem (.ref t) (.ref sl)) Q E s := by
  have htake : sizeOk (.seq ((items.toList.drop (sIx items.size 0 lo)).take (sIx items.size items.size hi - sIx items.size 0 lo)).toArray) := by
    show ((items.toList.drop (sIx items.size 0 lo)).take (sIx items.size items.size hi - sIx items.size 0 lo)).toArray.size ≤ sizeLine
    rw [List.size_toArray, List.length_take, List.length_drop, Array.length_toList]
    omega
  have hj : sIx items.size items.size hi ≤ items.size := sIx_le _ _ (Nat.le_refl _) hi
  obtain ⟨os, hos, hcs, hds⟩ := id hs
  have hTs : s.TypeIs (.ref sl) "slice" := ⟨os, hos, hcs⟩
  unfold getItem
  try with_reducible refine wpAny_holding ?_
  first | refine wpAny_bind (wpAny_pure ?_) | skip
  refine wpAny_bind (wpAny_sequenceKey ht.typeIs (by decide) ?_)
  refine wpAny_bind (wpAny_callSpecial?_slot (name := Str.ofString "__getitem__") ht.typeIs PyProof.Rows.slot_tuple_getitem
    (wpAny_call_entry PyProof.Rows.slot_tuple_getitem ht.typeIs entry_tuple_getitem ?_ (args_tuple_getitem _ _)))
  show wpAny _ _ (Builtin.Tuple.tupleItemsOf (.ref t) >>= _) _ _ s
  refine wpAny_bind (tupleItemsOf_ ht ?_)
  refine wpAny_bind (wpAny_typeOf hTs ?_)
  rw [if_pos (by decide)]
  refine wpAny_bind (sliceApplied_gen hs pl pu ?_)
  have hno : ¬ ((((sIx items.size 0 lo : Nat) : Int) == 0 && (1 : Int) == 1 && (sIx items.size items.size hi - sIx items.size 0 lo) == items.size) = true) := by
    intro q
    rw [Bool.and_eq_true, Bool.and_eq_true] at q
    have q1 : ((sIx items.size 0 lo : Nat) : Int) = 0 := eq_of_beq q.1.1
    have q2 : sIx items.size items.size hi - sIx items.size 0 lo = items.size := eq_of_beq q.2
    exact hw ⟨by omega, by omega⟩
  show wpAny _ _ (if (((sIx items.size 0 lo : Nat) : Int) == 0 && (1 : Int) == 1 && (sIx items.size items.size hi - sIx items.size 0 lo) == items.size) = true then _ else _) _ _ s
  rw [if_neg hno, pick_gen]
  first
    | exact wpAny_bind (m := Builtin.Tuple.tupleExact _) (wpAny_newObj_type (wpAny_pure ⟨_, rfl, wpAny_pure h⟩) htake)
    | exact wpAny_bind (m := Builtin.Tuple.tupleExact _) (wpAny_newObj_type (wpAny_bind (wpAny_pure (wpAny_pure ⟨_, rfl, wpAny_pure h⟩))) htake)
    | exact wpAny_bind (wpAny_bind (m := Builtin.Tuple.tupleExact _) (wpAny_newObj_type (wpAny_pure (wpAny_pure ⟨_, rfl, wpAny_pure h⟩)) htake))
    | exact wpAny_bind (wpAny_bind (m := Builtin.Tuple.tupleExact _) (wpAny_newObj_type (wpAny_pure ⟨_, rfl, wpAny_pure h⟩) htake))
end
end HT

namespace L2
open PySem PySem.Spec PyProof.Rows

abbrev TO := St → Hp → (Option Int → Hp → Prop) → Prop
def PO (X : Cx) (e : Option Expr) (t : TO) : Prop :=
  ∀ ⦃pins : List (Addr × Obj)⦄ (s : Shared) (σ : St) (H : Hp) (Q : Option Int → Hp → Prop), Inv X pins σ H s → t σ H Q →
    wpAny (model X.prog X.w) X.A (evalPart e X.env) (fun u s' => ∃ o H', Inv X pins σ H' s' ∧ IsPart u o ∧ Q o H') X.xe s
def tNoPart : TO := fun _ H Q => Q none H
def tPart (t : TE) : TO := fun σ H Q => t σ H fun x H1 => ∃ i, x = .int i ∧ Q (some i) H1

section
variable {X : Cx} {e : Expr} {te : TE} {lo hi : Option Expr} {tl th : TO} {pos p2 : Pos}

theorem po_none : PO X none tNoPart := by
  intro pins s σ H Q I h
  rw [evalPart_none]
  exact wpAny_pure ⟨none, H, I, .none, h⟩
theorem po_some (h : PE X e te) : PO X (some e) (tPart te) := by
  intro pins s σ H Q I hw
  rw [evalPart_some]
  refine thn (h s σ H _ I hw) fun u s1 ⟨x, H1, I1, r1, q1⟩ => ?_
  obtain ⟨i, rfl, q⟩ := q1
  obtain ⟨t, rfl⟩ := r1
  exact ⟨some i, H1, I1, .int i t, q⟩

def SlR (X : Cx) (r : V → Option Int → Option Int → Hp → VK → Prop) : Prop :=
  ∀ ⦃pins : List (Addr × Obj)⦄ (s : Shared) (σ : St) (H : Hp) (x : V) (v vl vu : Value) (lo hi : Option Int) (sl : Addr) (Q : VK), Inv X pins σ H s → RelV x v → s.heap.IsSliceOf sl vl vu .none → IsPart vl lo → IsPart vu hi → r x lo hi H Q →
    ∃ T id, typeLookup (.type T) "__getitem__" = pure (some (.builtin id)) ∧ s.TypeIs v T ∧ wpAny (model X.prog X.w) X.A (getItem v (.ref sl)) (EP X pins σ Q) X.xe s
theorem SlR.or {r r' : V → Option Int → Option Int → Hp → VK → Prop} (h : SlR X r) (h' : SlR X r') : SlR X (fun x lo hi H Q => r x lo hi H Q ∨ r' x lo hi H Q) := by
  intro pins s σ H x v vl vu lo hi sl Q I rx hs pl pu q
  rcases q with q | q
  · exact h s σ H x v vl vu lo hi sl Q I rx hs pl pu q
  · exact h' s σ H x v vl vu lo hi sl Q I rx hs pl pu q
def tSl (r : V → Option Int → Option Int → Hp → VK → Prop) (te : TE) (tl th : TO) : TE := fun σ H Q => te σ H fun x H1 => tl σ H1 fun l H2 => th σ H2 fun u H3 => r x l u H3 Q
theorem pe_slice {r : V → Option Int → Option Int → Hp → VK → Prop} (hr : SlR X r) (he : PE X e te) (hl : PO X lo tl) (hu : PO X hi th) : PE X (.Subscript e (.Slice lo hi none p2) pos) (tSl r te tl th) := by
  intro pins s σ H Q I h
  refine Subscript_ (thn (he s σ H _ I h) fun v s1 ⟨x, H1, I1, r1, q1⟩ => ?_)
  refine wpAny_Slice (thn (hl s1 σ H1 _ I1 q1) fun vl s2 ⟨l, H2, I2, pl, q2⟩ => thn (hu s2 σ H2 _ I2 q2) fun vu s3 ⟨u, H3, I3, pu, q3⟩ => ?_)
  rw [evalPart_none]
  refine wpAny_pure ?_
  have I4 : Inv X pins σ H3 { s3 with heap := s3.heap.push { cls := .type "slice", data := .fields #[vl, vu, .none] } } := I3.kept (t' := s3.toks) fun b ob q => Heap.get?_push_of_some _ q
  obtain ⟨T, id, hT, ht, hg⟩ := hr { s3 with heap := s3.heap.push { cls := .type "slice", data := .fields #[vl, vu, .none] } } σ H3 x v vl vu l u s3.heap.objs.size Q I4 r1 (Heap.IsSliceOf.new ..) pl pu q3
  show wpAny (model X.prog X.w) X.A (subscriptTail e (.Slice lo hi none p2) v (.ref s3.heap.objs.size)) (EP X pins σ Q) X.xe { s3 with heap := s3.heap.push { cls := .type "slice", data := .fields #[vl, vu, .none] } }
  exact tail_any (ops := [.ref s3.heap.objs.size, v]) ht hT hg (by with_unfolding_all rfl)

def cutV (xs : List V) (lo hi : Option Int) : List V := (xs.drop (HT.sIx xs.length 0 lo)).take (HT.sIx xs.length xs.length hi - HT.sIx xs.length 0 lo)
theorem cutV_length (xs : List V) (lo hi : Option Int) : (cutV xs lo hi).length ≤ xs.length := by
  unfold cutV
  rw [List.length_take, List.length_drop]
  omega
def rSlT (K : PySem.W.Frag) : V → Option Int → Option Int → Hp → VK → Prop := fun x lo hi H Q => ∃ a xs, x = .ref a ∧ SqT K H a xs ∧
  ¬ (HT.sIx xs.length 0 lo = 0 ∧ HT.sIx xs.length xs.length hi = xs.length) ∧ ∀ p, H p = none → Q (.ref p) (upd H p (.tup (cutV xs lo hi)))
theorem sl_tup : SlR X (rSlT X.K) := by
  intro pins s σ H x v vl vu lo hi sl Q I rx hs pl pu h
  obtain ⟨a, xs, rfl, hx, hw, q⟩ := h
  cases rx
  obtain ⟨its, r, ht, hz⟩ := I.tuple hx
  have hlen : its.toArray.size = xs.length := by rw [List.size_toArray]; exact r.length.symm
  refine ⟨"tuple", _, PyProof.Rows.slot_tuple_getitem.lookup, ht.typeIs, ?_⟩
  refine HT.getItem_tuple_cut ht hs pl pu (by rw [hlen]; exact hw) ?_ (by rw [hlen]; exact hz)
  rw [hlen]
  refine ⟨.ref s.heap.objs.size, _, I.laid (t' := s.toks) (o := .tup (cutV xs lo hi)) (fun b ob q => Heap.get?_push_of_some _ q) (Nat.le_refl _) ?_, rfl, q _ (I.hok.fresh (Nat.le_refl _))⟩
  exact ⟨Nat.le_trans (cutV_length xs lo hi) hz, _, (r.drop (HT.sIx xs.length 0 lo)).take (HT.sIx xs.length xs.length hi - HT.sIx xs.length 0 lo), ⟨_, Heap.get?_push_size _ rfl, rfl, _, rfl, rfl⟩⟩

def rCatT (K : PySem.W.Frag) : R2 := fun x y H Q => ∃ a b xs ys, x = .ref a ∧ y = .ref b ∧ SqT K H a xs ∧ SqT K H b ys ∧ xs ≠ [] ∧ xs.length + ys.length ≤ sizeLine ∧
  (ys = [] → Q (.ref a) H) ∧ (ys ≠ [] → ∀ p, H p = none → Q (.ref p) (upd H p (.tup (xs ++ ys))))
theorem Vals.nil_iff {xs : List V} {us : List Value} (r : Vals xs us) : us = [] ↔ xs = [] := by
  cases r with
  | nil => simp
  | cons _ _ => simp
theorem op_catT : OpR X (binaryOp .Add) (rCatT X.K) := by
  intro pins s σ H x y v u Q I rx ry h
  obtain ⟨a, b, xs, ys, rfl, rfl, ha, hb, hx, hz, q1, q2⟩ := h
  cases rx
  cases ry
  obtain ⟨its, r1, p1, _⟩ := I.tuple ha
  obtain ⟨its2, r2, p2, _⟩ := I.tuple hb
  refine HT.cat_tup p1 p2 (fun z => hx (r1.nil_iff.mp z)) (fun z => ⟨.ref a, H, I, rfl, q1 (r2.nil_iff.mp z)⟩) (fun z => ?_) (by rw [← r1.length, ← r2.length]; exact hz)
  refine ⟨.ref s.heap.objs.size, _, I.laid (t' := s.toks) (o := .tup (xs ++ ys)) (fun b ob q => Heap.get?_push_of_some _ q) (Nat.le_refl _) ?_, rfl, q2 (fun w => z (r2.nil_iff.mpr w)) _ (I.hok.fresh (Nat.le_refl _))⟩
  exact ⟨by rw [List.length_append]; exact hz, _, r1.append r2, ⟨_, Heap.get?_push_size _ rfl, rfl, _, rfl, rfl⟩⟩
end
end L2

namespace L2
open PySem PySem.Spec PyProof.Rows

def ixN (n : Nat) (i : Int) : Option Nat := if 0 ≤ i then (if i < n then some i.toNat else none) else if -(n : Int) ≤ i then some (i + n).toNat else none
def atI {α : Type} (xs : List α) (i : Int) : Option α := (ixN xs.length i).bind fun j => xs[j]?
theorem ixN_seq {n : Nat} {i : Int} {j : Nat} (h : ixN n i = some j) : seqIndex? i n = some j ∧ j < n ∧ -(n : Int) ≤ i ∧ i < n := by
  unfold ixN at h
  by_cases h0 : 0 ≤ i
  · rw [if_pos h0] at h
    by_cases h1 : i < n
    · rw [if_pos h1] at h
      have e : i.toNat = j := Option.some.inj h
      exact ⟨by rw [seqIndex_of h0 h1, e], by omega, by omega, h1⟩
    · rw [if_neg h1] at h; cases h
  · rw [if_neg h0] at h
    by_cases h1 : -(n : Int) ≤ i
    · rw [if_pos h1] at h
      have e : (i + n).toNat = j := Option.some.inj h
      exact ⟨by rw [seqIndex_neg (by omega) h1, e], by omega, h1, by omega⟩
    · rw [if_neg h1] at h; cases h
theorem atI_get {α : Type} {xs : List α} {i : Int} {v : α} (h : atI xs i = some v) : ∃ j, seqIndex? i xs.length = some j ∧ xs[j]? = some v ∧ j < xs.length ∧ -(xs.length : Int) ≤ i ∧ i < xs.length := by
  unfold atI at h
  cases e : ixN xs.length i with
  | none => rw [e] at h; cases h
  | some j =>
    rw [e] at h
    obtain ⟨h1, h2, h3, h4⟩ := ixN_seq e
    exact ⟨j, h1, h, h2, h3, h4⟩
theorem atI_nat {α : Type} {xs : List α} {j : Nat} {v : α} (h : xs[j]? = some v) : atI xs (j : Int) = some v := by
  have hj : j < xs.length := (List.getElem?_eq_some_iff.mp h).1
  have e : ixN xs.length (j : Int) = some j := by
    unfold ixN
    rw [if_pos (by omega), if_pos (by omega)]; simp
  unfold atI; rw [e]; exact h
theorem atI_last {α : Type} (xs : List α) (v : α) : atI (xs ++ [v]) (-1) = some v := by
  have hl : (xs ++ [v]).length = xs.length + 1 := by simp
  have e : ixN (xs ++ [v]).length (-1) = some xs.length := by
    unfold ixN
    rw [hl, if_neg (by decide), if_pos (by omega)]
    congr 1
    omega
  unfold atI
  rw [e]
  show (xs ++ [v])[xs.length]? = some v
  simp

def PlainIx (b : Expr) : Prop := ∀ o i, subscripted b false o i = operate [o, i] (getItem o i)
def IxR (X : Cx) (r : R2) : Prop :=
  ∀ (value slice : Expr) (pins : List (Addr × Obj)) (s : Shared) (σ : St) (H : Hp) (x y : V) (v u : Value) (Q : VK), Inv X pins σ H s → RelV x v → RelV y u → r x y H Q →
    subscripted slice false v u = operate [v, u] (getItem v u) → wpAny (model X.prog X.w) X.A (subscriptTail value slice v u) (EP X pins σ Q) X.xe s
def MtR (X : Cx) (id : String) (r : V → List V → Hp → VK → Prop) : Prop :=
  ∀ ⦃pins : List (Addr × Obj)⦄ (s : Shared) (σ : St) (H : Hp) (x : V) (xs : List V) (v : Value) (us : List Value) (Q : VK), Inv X pins σ H s → RelV x v → Vals xs us → r x xs H Q →
    wpAny (model X.prog X.w) X.A (call (.builtin id) (v :: us)) (EP X pins σ Q) X.xe s
section
variable {X : Cx} {a b : Expr} {ta tb : TE} {pos : Pos}
theorem IxR.or {r r' : R2} (h : IxR X r) (h' : IxR X r') : IxR X (fun x y H Q => r x y H Q ∨ r' x y H Q) := by
  intro value slice pins s σ H x y v u Q I rx ry q hs
  rcases q with q | q
  · exact h value slice pins s σ H x y v u Q I rx ry q hs
  · exact h' value slice pins s σ H x y v u Q I rx ry q hs
theorem MtR.or {id : String} {r r' : V → List V → Hp → VK → Prop} (h : MtR X id r) (h' : MtR X id r') : MtR X id (fun x xs H Q => r x xs H Q ∨ r' x xs H Q) := by
  intro pins s σ H x xs v us Q I rx rs q
  rcases q with q | q
  · exact h s σ H x xs v us Q I rx rs q
  · exact h' s σ H x xs v us Q I rx rs q
theorem pe_ix {r : R2} (hr : IxR X r) (ha : PE X a ta) (hb : PE X b tb) (hs : PlainIx b) : PE X (.Subscript a b pos) (tOp r ta tb) := by
  intro pins s σ H Q I h
  exact Subscript_ (binT ha hb I h fun v u s2 x y H2 I2 rx ry q => hr a b pins s2 σ H2 x y v u Q I2 rx ry q (hs _ _))

def rIxL (K : PySem.W.Frag) : R2 := fun x y H Q => ∃ p xs i v, x = .ref p ∧ y = .int i ∧ SqL K H p xs ∧ atI xs i = some v ∧ Q v H
def rIxT (K : PySem.W.Frag) : R2 := fun x y H Q => ∃ p xs i v, x = .ref p ∧ y = .int i ∧ SqT K H p xs ∧ atI xs i = some v ∧ Q v H
theorem ix_list : IxR X (rIxL X.K) := by
  intro value slice pins s σ H x y v u Q I rx ry h hs
  obtain ⟨p, xs, i, z, rfl, rfl, hq, he, q⟩ := h
  cases rx
  obtain ⟨t, rfl⟩ := ry
  obtain ⟨its, r, pl, hz⟩ := I.list hq
  obtain ⟨j, h1, h2, h3, h4, h5⟩ := atI_get he
  obtain ⟨w, ew, rw'⟩ := r.get h2
  have hl := r.length
  have hn := line63
  have fin : EP X pins σ Q w s := ⟨z, H, I, rw', q⟩
  by_cases h0 : 0 ≤ i
  · have hj : i.toNat = j := by
      rw [seqIndex_of h0 h5] at h1
      exact Option.some.inj h1
    exact item_listR pl.isList h0 (by omega) (by rw [hj]; simpa using ew) fin hs
  · have hj : (i + (its.toArray.size : Int)).toNat = j := by
      rw [seqIndex_neg (by omega) h4] at h1
      rw [List.size_toArray, ← hl]
      exact Option.some.inj h1
    exact subscriptTail_builtinR (x := w) pl.isList.typeIs slot_list_getitem.lookup
      (wpAny_getItem_list_neg (Q := fun r s' => r = w ∧ EP X pins σ Q r s') pl.isList (by omega) (by rw [List.size_toArray] <;> omega) (by omega) (by rw [hj]; simpa using ew) ⟨rfl, fin⟩) hs
theorem ix_tup : IxR X (rIxT X.K) := by
  intro value slice pins s σ H x y v u Q I rx ry h hs
  obtain ⟨p, xs, i, z, rfl, rfl, hq, he, q⟩ := h
  cases rx
  obtain ⟨t, rfl⟩ := ry
  obtain ⟨its, r, pl, hz⟩ := I.tuple hq
  obtain ⟨j, h1, h2, h3, h4, h5⟩ := atI_get he
  obtain ⟨w, ew, rw'⟩ := r.get h2
  have hl := r.length
  have hn := line63
  have fin : EP X pins σ Q w s := ⟨z, H, I, rw', q⟩
  exact subscriptTail_builtinR (x := w) pl.typeIs slot_tuple_getitem.lookup
    (getItem_tuple (j := j) (Q := fun r s' => r = w ∧ EP X pins σ Q r s') pl (by omega) (by omega) (by rw [List.size_toArray, ← hl]; exact h1) (by simpa using ew) ⟨rfl, fin⟩) hs
theorem mapSeq_set (its : List Value) (n j : Nat) (u : Value) : Obj.mapSeq (·.setIfInBounds j u) { cls := .type "list", data := .seq its.toArray n } = { cls := .type "list", data := .seq (its.set j u).toArray n } := by
  simp [Obj.mapSeq]
theorem Inv.lst {pins : List (Addr × Obj)} {σ : St} {H : Hp} {s : Shared} {p : Addr} {xs : List V} (I : Inv X pins σ H s) (h : H p = some (.lst xs)) :
    ∃ (its : List Value) (n : Nat), Vals xs its ∧ s.heap.get? p = some { cls := .type "list", data := .seq its.toArray n } ∧ xs.length ≤ sizeLine := by
  obtain ⟨z, its, n, r, e⟩ := I.hok p _ h
  exact ⟨its, n, r, e, z⟩
theorem Inv.lstUpd {pins : List (Addr × Obj)} {σ : St} {H : Hp} {s : Shared} {p : Addr} {xs ys : List V} {its its' : List Value} {n n' : Nat} {f : Obj → Obj} (I : Inv X pins σ H s) (h : H p = some (.lst xs))
    (ho : s.heap.get? p = some { cls := .type "list", data := .seq its.toArray n }) (hf : f { cls := .type "list", data := .seq its.toArray n } = { cls := .type "list", data := .seq its'.toArray n' }) (r : Vals ys its') (hz : ys.length ≤ sizeLine) (t : Nat) :
    Inv X pins σ (upd H p (.lst ys)) { s with heap := s.heap.update p f, toks := t } := by
  have e : (s.heap.update p f).get? p = some { cls := .type "list", data := .seq its'.toArray n' } := by
    rw [Heap.get?_update_self f ho (by rw [hf] <;> rfl), hf]
  refine I.write (x := p) (e := p) (by rw [h]; trivial) (.inl rfl) (fun b u hb q => (Heap.get?_update_other _ _ (Ne.symm hb)).trans q) ⟨_, e⟩ ?_
  exact ⟨hz, its', n', r, e⟩
def rSetL : V → V → V → Hp → (Hp → Prop) → Prop := fun o i v H Q => ∃ p xs k j, o = .ref p ∧ i = .int k ∧ H p = some (.lst xs) ∧ ixN xs.length k = some j ∧ Q (upd H p (.lst (xs.set j v)))
theorem set_list : PSet X rSetL := by
  intro pins s σ H o i v ov iv u Q I ro ri rv h
  obtain ⟨p, xs, k, j, rfl, rfl, hp, hj, q⟩ := h
  cases ro
  obtain ⟨t, rfl⟩ := ri
  obtain ⟨its, n, r, ho, hz⟩ := I.lst hp
  obtain ⟨h1, h2, h3, h4⟩ := ixN_seq hj
  have hl := r.length
  have hn := line63
  have I' : Inv X pins σ (upd H p (.lst (xs.set j v))) { s with heap := s.heap.update p (Obj.mapSeq (·.setIfInBounds j u)) } :=
    I.lstUpd hp ho (mapSeq_set its n j u) (r.set rv j) (by rw [List.length_set]; exact hz) s.toks
  by_cases h0 : 0 ≤ k
  · have hk : k.toNat = j := by
      rw [seqIndex_of h0 h4] at h1
      exact Option.some.inj h1
    exact PySem.W.ki_setAt ho h0 (by omega) (by rw [List.size_toArray, ← hl]; exact h4) (by rw [hk]; exact ⟨_, I', q⟩)
  · have hk : (k + (its.toArray.size : Int)).toNat = j := by
      rw [seqIndex_neg (by omega) h3] at h1
      rw [List.size_toArray, ← hl]
      exact Option.some.inj h1
    exact PySem.W.ki_setBack ho (by omega) (by rw [List.size_toArray, ← hl]; exact h3) (by omega) (by rw [hk]; exact ⟨_, I', q⟩)

def flatV : V → Bool
  | .non => true
  | .bl _ => true
  | .int _ => true
  | .str _ => true
  | _ => false
def eqV : V → V → Bool
  | .non, .non => true
  | .bl a, .bl b => a == b
  | .bl a, .int b => (if a then 1 else 0) == b
  | .int a, .bl b => a == (if b then 1 else 0)
  | .int a, .int b => a == b
  | .str a, .str b => a == b
  | _, _ => false
theorem eqAt_V {A : Around} {s : Shared} {y x : V} {u v : Value} (ry : RelV y u) (rx : RelV x v) (fy : flatV y = true) (fx : flatV x = true) : SeqAt.EqAt A s u v (eqV y x) := by
  cases y with
  | non =>
    cases ry
    cases x with
    | non => cases rx; exact SeqAt.EqAt.same _
    | bl b => cases rx; exact SeqAt.EqAt.none_bool b
    | int b => obtain ⟨t, rfl⟩ := rx; exact SeqAt.EqAt.none_int b t
    | str b => obtain ⟨t, rfl⟩ := rx; exact SeqAt.EqAt.none_str b t
    | _ => exact absurd (show false = true from fx) Bool.false_ne_true
  | bl a =>
    cases ry
    cases x with
    | non => cases rx; exact SeqAt.EqAt.bool_none a
    | bl b => cases rx; exact SeqAt.EqAt.bool_bool a b
    | int b => obtain ⟨t, rfl⟩ := rx; exact SeqAt.EqAt.bool_int a b t
    | str b => obtain ⟨t, rfl⟩ := rx; exact SeqAt.EqAt.bool_str a b t
    | _ => exact absurd (show false = true from fx) Bool.false_ne_true
  | int a =>
    obtain ⟨t', rfl⟩ := ry
    cases x with
    | non => cases rx; exact SeqAt.EqAt.int_none a t'
    | bl b => cases rx; exact SeqAt.EqAt.int_bool a t' b
    | int b => obtain ⟨t, rfl⟩ := rx; exact SeqAt.EqAt.int_int a t' b t
    | str b => obtain ⟨t, rfl⟩ := rx; exact SeqAt.EqAt.int_str a t' b t
    | _ => exact absurd (show false = true from fx) Bool.false_ne_true
  | str a =>
    obtain ⟨t', rfl⟩ := ry
    cases x with
    | non => cases rx; exact SeqAt.EqAt.str_none a t'
    | bl b => cases rx; exact SeqAt.EqAt.str_bool a t' b
    | int b => obtain ⟨t, rfl⟩ := rx; exact SeqAt.EqAt.str_int a t' b t
    | str b => obtain ⟨t, rfl⟩ := rx; exact SeqAt.EqAt.str_str a t' b t
    | _ => exact absurd (show false = true from fx) Bool.false_ne_true
  | _ => exact absurd (show false = true from fy) Bool.false_ne_true
def eqU (x : V) (u : Value) : Bool := match u with
  | .none => eqV .non x
  | .bool b => eqV (.bl b) x
  | .int i _ => eqV (.int i) x
  | .str z _ => eqV (.str z) x
  | _ => false
theorem eqU_of {x y : V} {u : Value} (r : RelV y u) (f : flatV y = true) : eqU x u = eqV y x := by
  cases y with
  | non => cases r; rfl
  | bl b => cases r; rfl
  | int i => obtain ⟨t, rfl⟩ := r; rfl
  | str z => obtain ⟨t, rfl⟩ := r; rfl
  | _ => exact absurd (show false = true from f) Bool.false_ne_true
theorem any_eqU {x : V} : ∀ {xs : List V} {us : List Value}, Vals xs us → xs.all flatV = true → us.any (eqU x) = xs.any fun y => eqV y x
  | _, _, .nil, _ => rfl
  | y :: xs, u :: us, .cons r t, f => by
    rw [List.all_cons, Bool.and_eq_true] at f
    rw [List.any_cons, List.any_cons, eqU_of r f.1, any_eqU t f.2]
theorem mem_eqAt {A : Around} {s : Shared} {x : V} {v : Value} (rx : RelV x v) (fx : flatV x = true) : ∀ {xs : List V} {us : List Value}, Vals xs us → xs.all flatV = true → ∀ u ∈ us, SeqAt.EqAt A s u v (eqU x u)
  | _, _, .nil, _ => fun u hu => by cases hu
  | y :: xs, u :: us, .cons r t, f => fun u' hu => by
    rw [List.all_cons, Bool.and_eq_true] at f
    rcases List.mem_cons.mp hu with rfl | hu
    · rw [eqU_of r f.1]; exact eqAt_V r rx f.1 fx
    · exact mem_eqAt rx fx t f.2 u' hu
def inV (x : V) (xs : List V) : Bool := xs.any fun y => eqV y x
def rIn (K : PySem.W.Frag) (neg : Bool) : R2 := fun x y H Q => ∃ p xs, y = .ref p ∧ (SqL K H p xs ∨ SqT K H p xs) ∧ flatV x = true ∧ xs.all flatV = true ∧ Q (.bl (if neg then !inV x xs else inV x xs)) H
theorem op_in_seq : OpR X (compareOp .In) (rIn X.K false) := by
  intro pins s σ H x y v u Q I rx ry h
  obtain ⟨p, xs, rfl, hq, fx, fs, q⟩ := h
  cases ry
  rcases hq with hq | hq
  · obtain ⟨its, r, pl, hz⟩ := I.list hq
    refine SeqAt.in_listAt (eqU x) pl.isList (fun w hw => mem_eqAt rx fx r fs w (by simpa using hw)) ⟨.bl _, H, I, rfl, ?_⟩
    rw [show its.toArray.any (eqU x) = its.any (eqU x) by simp, any_eqU r fs]
    exact q
  · obtain ⟨its, r, pl, hz⟩ := I.tuple hq
    refine SeqAt.in_tupleAt (eqU x) pl (fun w hw => mem_eqAt rx fx r fs w (by simpa using hw)) ⟨.bl _, H, I, rfl, ?_⟩
    rw [show its.toArray.any (eqU x) = its.any (eqU x) by simp, any_eqU r fs]
    exact q
theorem op_notIn_seq : OpR X (compareOp .NotIn) (rIn X.K true) := by
  intro pins s σ H x y v u Q I rx ry h
  obtain ⟨p, xs, rfl, hq, fx, fs, q⟩ := h
  cases ry
  rcases hq with hq | hq
  · obtain ⟨its, r, pl, hz⟩ := I.list hq
    refine SeqAt.notIn_listAt (eqU x) pl.isList (fun w hw => mem_eqAt rx fx r fs w (by simpa using hw)) ⟨.bl _, H, I, rfl, ?_⟩
    rw [show its.toArray.any (eqU x) = its.any (eqU x) by simp, any_eqU r fs]
    exact q
  · obtain ⟨its, r, pl, hz⟩ := I.tuple hq
    refine SeqAt.notIn_tupleAt (eqU x) pl (fun w hw => mem_eqAt rx fx r fs w (by simpa using hw)) ⟨.bl _, H, I, rfl, ?_⟩
    rw [show its.toArray.any (eqU x) = its.any (eqU x) by simp, any_eqU r fs]
    exact q
theorem call_len_seq : CallR X (.builtin "len") (fun xs H Q => ∃ p ys, xs = [.ref p] ∧ (SqL X.K H p ys ∨ SqT X.K H p ys) ∧ Q (.int ys.length) H) := by
  intro pins s σ H xs us Q I r h
  obtain ⟨p, ys, rfl, hq, q⟩ := h
  obtain ⟨u, rfl, rx⟩ := vals1 r
  cases rx
  have hn := line63
  rcases hq with hq | hq
  · obtain ⟨its, r', pl, hz⟩ := I.list hq
    have hlen := r'.length
    exact Calls.call_len_list pl.isList (by simp only [List.size_toArray] <;> omega) ⟨.int ys.length, H, I.tok _, ⟨s.toks + 1, by rw [List.size_toArray, hlen]⟩, q⟩
  · obtain ⟨its, r', pl, hz⟩ := I.tuple hq
    have hlen := r'.length
    exact len_tuple pl (by simp only [List.size_toArray] <;> omega) ⟨.int ys.length, H, I.tok _, ⟨s.toks + 1, by rw [List.size_toArray, hlen]⟩, q⟩
theorem CallR.or {f : Value} {r r' : List V → Hp → VK → Prop} (h : CallR X f r) (h' : CallR X f r') : CallR X f (fun xs H Q => r xs H Q ∨ r' xs H Q) := by
  intro pins s σ H xs us Q I rs q
  rcases q with q | q
  · exact h s σ H xs us Q I rs q
  · exact h' s σ H xs us Q I rs q
theorem call_list_of : CallR X (.type "list") (fun xs H Q => ∃ p ys, xs = [.ref p] ∧ (SqL X.K H p ys ∨ SqT X.K H p ys) ∧ ∀ l, H l = none → Q (.ref l) (upd H l (.lst ys))) := by
  intro pins s σ H xs us Q I r h
  obtain ⟨p, ys, rfl, hq, q⟩ := h
  obtain ⟨u, rfl, rx⟩ := vals1 r
  cases rx
  have fin : ∀ (its : List Value), Vals ys its → ys.length ≤ sizeLine → ∀ (h' : Heap) (c' : Nat), (∀ b o', s.heap.get? b = some o' → h'.get? b = some o') →
      h'.get? s.heap.objs.size = some { cls := .type "list", dict := none, data := .seq its.toArray c', slots := #[] } → EP X pins σ Q (.ref s.heap.objs.size) { s with heap := h' } := fun its r' hz h' c' kp e =>
    ⟨.ref s.heap.objs.size, _, I.laid (t' := s.toks) kp (Nat.le_refl _) (show ObjOk X.prog X.w _ h' _ (.lst ys) from ⟨hz, its, c', r', e⟩), rfl, q _ (I.hok.fresh (Nat.le_refl _))⟩
  rcases hq with hq | hq
  · obtain ⟨its, r', pl, hz⟩ := I.list hq
    have hlen := r'.length
    obtain ⟨o, ho, hc, n, hd⟩ := pl.isList
    exact call_list_seq p (.inl rfl) ho hc hd (fun h' c' kp e => fin its r' hz h' c' kp e) (by simp only [List.size_toArray] <;> omega)
  · obtain ⟨its, r', pl, hz⟩ := I.tuple hq
    have hlen := r'.length
    obtain ⟨o, ho, hc, n, hd⟩ := pl
    exact call_list_seq p (.inr rfl) ho hc hd (fun h' c' kp e => fin its r' hz h' c' kp e) (by simp only [List.size_toArray] <;> omega)
theorem call_tuple_of : CallR X (.type "tuple") (fun xs H Q => ∃ p ys, xs = [.ref p] ∧ ((SqL X.K H p ys ∧ ∀ l, H l = none → Q (.ref l) (upd H l (.tup ys))) ∨ (SqT X.K H p ys ∧ Q (.ref p) H))) := by
  intro pins s σ H xs us Q I r h
  obtain ⟨p, ys, rfl, h⟩ := h
  obtain ⟨u, rfl, rx⟩ := vals1 r
  cases rx
  rcases h with ⟨hq, q⟩ | ⟨hq, q⟩
  · obtain ⟨its, r', pl, hz⟩ := I.list hq
    have hlen := r'.length
    refine call_tuple_list pl.isList (fun h' kp => ?_) (by simp only [List.size_toArray] <;> omega)
    have I1 : Inv X pins σ H { s with heap := h' } := I.kept (t' := s.toks) kp
    have I2 : Inv X pins σ (upd H h'.objs.size (.tup ys)) { s with heap := h'.push { cls := .type "tuple", data := .seq its.toArray } } :=
      I1.laid (t' := s.toks) (fun b o e => Heap.get?_push_of_some _ e) (Nat.le_refl _) (show ObjOk X.prog X.w _ _ _ (.tup ys) from ⟨hz, its, r', ⟨_, Heap.get?_push_size _ rfl, rfl, _, rfl, rfl⟩⟩)
    exact ⟨.ref h'.objs.size, _, I2, rfl, q _ (I1.hok.fresh (Nat.le_refl _))⟩
  · obtain ⟨its, r', pl, hz⟩ := I.tuple hq
    exact call_tuple_same pl ⟨.ref p, H, I, rfl, q⟩

def tyV (K : PySem.W.Frag) (T : String) (x : V) (H : Hp) : Prop := match x with
  | .str _ => T = "str"
  | .int _ => T = "int"
  | .ref p => (T = "list" ∧ ∃ xs, SqL K H p xs) ∨ (T = "tuple" ∧ ∃ o, K.lookup p = some o ∧ o.cls = .type "tuple" ∧ o.dict = none) ∨
      (T = "dict" ∧ ((∃ kvs, H p = some (.dK kvs)) ∨ (∃ kvs, H p = some (.dT kvs)) ∨ ∃ kvs, H p = some (.dN kvs))) ∨ (T = "set" ∧ ∃ S n, H p = some (.set S n))
  | _ => False
theorem tyV_is {pins : List (Addr × Obj)} {σ : St} {H : Hp} {s : Shared} {T : String} {x : V} {v : Value} (I : Inv X pins σ H s) (r : RelV x v) (ty : tyV X.K T x H) :
    s.TypeIs v T ∧ ∀ a, v = .ref a → ∃ ob, s.heap.get? a = some ob ∧ ob.dict = none := by
  cases x with
  | str z =>
    obtain ⟨t, rfl⟩ := r
    cases (show T = "str" from ty)
    exact ⟨typeIs_str s z t, fun _ e => nomatch e⟩
  | int i =>
    obtain ⟨t, rfl⟩ := r
    cases (show T = "int" from ty)
    exact ⟨typeIs_int s i t, fun _ e => nomatch e⟩
  | ref p =>
    cases r
    rcases ty with ⟨rfl, xs, hq⟩ | ⟨rfl, o, hk, hc, hd⟩ | ⟨rfl, hk⟩ | ⟨rfl, S, n, hk⟩
    · obtain ⟨its, _, pl, _⟩ := I.list hq
      refine ⟨pl.isList.typeIs, fun a e => ?_⟩
      cases e
      obtain ⟨o, n, e, c, hd, _⟩ := pl
      exact ⟨o, e, hd⟩
    · refine ⟨⟨o, I.kIn p o hk, hc⟩, fun a e => ?_⟩
      cases e
      exact ⟨o, I.kIn _ o hk, hd⟩
    · have z : ∃ o, s.heap.get? p = some o ∧ o.ExactDict := by
        rcases hk with ⟨kvs, hk⟩ | ⟨kvs, hk⟩ | ⟨kvs, hk⟩
        · obtain ⟨_, _, _, _, o, _, _, e, ex, _⟩ := I.hok p _ hk
          exact ⟨o, e, ex⟩
        · obtain ⟨_, _, _, _, o, _, _, e, ex, _⟩ := I.hok p _ hk
          exact ⟨o, e, ex⟩
        · obtain ⟨_, _, _, _, o, _, _, e, ex, _⟩ := I.hok p _ hk
          exact ⟨o, e, ex⟩
      obtain ⟨o, e, ex⟩ := z
      refine ⟨⟨o, e, ex.1⟩, fun a e2 => ?_⟩
      cases e2
      exact ⟨o, e, ex.2.1⟩
    · obtain ⟨o, _, _, _, e, ex, _⟩ := I.hok p _ hk
      refine ⟨⟨o, e, ex.1⟩, fun a e2 => ?_⟩
      cases e2
      exact ⟨o, e, ex.2.1⟩
  | _ => exact False.elim ty
def tBM (K : PySem.W.Frag) (T : String) (r : V → List V → Hp → VK → Prop) (to : TE) (t : TA) : TE := fun σ H Q => to σ H fun x H1 => tyV K T x H1 ∧ t σ H1 fun xs H2 => r x xs H2 Q
variable {o e : Expr} {es : List Expr} {to : TE} {t : TA} {name : Str} {apos cpos : Pos} {T id : String} {r : V → List V → Hp → VK → Prop}
theorem pe_bm (pa : PlainAttrs T) (slot : Slot T name id) (hty : typeOf (.builtin id) = pure (.type "method_descriptor")) (hm : MtR X id r) (ho : PE X o to) (ha : PA X (e :: es) t)
    (hbase : attributeBase o name X.env (eval o X.env) = eval o X.env := by rfl)
    (hfew : ((backTo cpos (starEach (e :: es) X.env)).all (fun x => !x.1) && (backToKw cpos (keywordEach [] X.env)).all (fun x => x.1.isSome)
      && decide ((e :: es).length + ([] : List Keyword).length + (if ([] : List Keyword).isEmpty then 0 else 1) < 30)) = true := by rfl)
    (hline : (apos.endLine == cpos.line) = true := by rfl) (hs : starEach (e :: es) X.env = (false, eval e X.env) :: starEach es X.env := by rfl) (hplain : (backTo cpos (starEach es X.env)).any (·.1) = false := by rfl) :
    PE X (.Call (.Attribute o name apos) (e :: es) [] cpos) (tBM X.K T r to t) := by
  intro pins s σ H Q I h
  refine wpAny_Call_method_late hbase hfew hline rfl (thn (ho s σ H _ I h) fun v s1 ⟨x, H1, I1, r1, ty, q1⟩ => ?_)
  obtain ⟨h1, h2⟩ := tyV_is I1 r1 ty
  refine ⟨T, id, pa, slot, hty, h1, h2, ?_⟩
  have hA := ha (pos := cpos) pins s1 σ H1 _ I1 q1
  rw [hs] at hA ⊢
  refine Calls.callWith_builtin (by show (false || (backTo cpos (starEach es X.env)).any (·.1)) = false; rw [hplain] <;> rfl) (Calls.evalArgs_plain ?_)
  exact thn hA fun us s2 ⟨vs, H2, I2, r2, q2⟩ => hm s2 σ H2 x vs v us Q I2 r1 r2 q2
/- xs.append(e), list.index on a module's tuple .. are MtR facts of 06m -/
end
end L2

namespace L2
open PySem PySem.Spec PyProof.Rows

def MtM (X : Cx) (id : String) (r : V → List V → Hp → VK → Prop) : Prop :=
  ∀ ⦃pins : List (Addr × Obj)⦄ (s : Shared) (σ : St) (H : Hp) (x : V) (xs : List V) (v : Value) (us : List Value) (Q : VK), Inv X pins σ H s → RelV x v → Vals xs us → r x xs H Q →
    wpAny (model X.prog X.w) X.A (call (.builtin id) (v :: us)) (EP X pins σ Q) X.xe s

theorem Vals.one : ∀ {x : V} {us : List Value}, Vals [x] us → ∃ u, us = [u] ∧ RelV x u
  | _, _, .cons r .nil => ⟨_, rfl, r⟩
theorem Vals.two : ∀ {x y : V} {us : List Value}, Vals [x, y] us → ∃ u v, us = [u, v] ∧ RelV x u ∧ RelV y v
  | _, _, _, .cons r (.cons q .nil) => ⟨_, _, rfl, r, q⟩
theorem Vals.zero : ∀ {us : List Value}, Vals [] us → us = []
  | _, .nil => rfl
theorem Vals.eraseIdx : ∀ {xs : List V} {us : List Value} (i : Nat), Vals xs us → Vals (xs.eraseIdx i) (us.eraseIdx i)
  | _, _, _, .nil => .nil
  | _, _, 0, .cons _ t => t
  | _, _, i + 1, .cons r t => .cons r (Vals.eraseIdx i t)
theorem Vals.reverse {xs : List V} {us : List Value} (h : Vals xs us) : Vals xs.reverse us.reverse := by
  induction h with
  | nil => exact .nil
  | cons r t ih => rw [List.reverse_cons, List.reverse_cons]; exact Vals.append ih (.cons r .nil)
theorem len_erase {α : Type} : ∀ (l : List α) (i : Nat), (l.eraseIdx i).length ≤ l.length
  | [], _ => Nat.le_refl _
  | _ :: _, 0 => Nat.le_succ _
  | _ :: r, i + 1 => Nat.succ_le_succ (len_erase r i)
section
variable {X : Cx} {pins : List (Addr × Obj)} {σ : St} {H : Hp} {s : Shared} {l b : Addr} {xs ys zs : List V}

theorem Inv.lset {its its' : List Value} {n : Nat} {f : Array Value → Array Value} {t' : Nat} (I : Inv X pins σ H s) (hH : H l = some (.lst xs))
    (e : s.heap.get? l = some { cls := .type "list", data := .seq its.toArray n }) (hf : f its.toArray = its'.toArray) (hv : Vals ys its') (hz : ys.length ≤ sizeLine) :
    Inv X pins σ (upd H l (.lst ys)) { s with heap := s.heap.update l (Obj.mapSeq f), toks := t' } := by
  have q := PySem.IsL.update e f
  rw [hf] at q
  refine I.write (x := l) (e := l) (by rw [hH]; exact trivial) (.inl rfl) (fun b' u hb hu => (Heap.get?_update_other s.heap (Obj.mapSeq f) (Ne.symm hb)).trans hu) ⟨_, q⟩ ?_
  exact ⟨hz, its', _, hv, q⟩
theorem Inv.lnew {its : List Value} {t' : Nat} (I : Inv X pins σ H s) (hv : Vals ys its) (hz : ys.length ≤ sizeLine) :
    Inv X pins σ (upd H s.heap.objs.size (.lst ys)) { s with heap := s.heap.push { cls := .type "list", data := .seq its.toArray }, toks := t' } :=
  I.laid (fun _ _ q => Heap.get?_push_of_some _ q) (Nat.le_refl _) ⟨hz, its, 0, hv, Heap.get?_push_size _ rfl⟩
theorem Inv.fresh (I : Inv X pins σ H s) : H s.heap.objs.size = none := I.hok.fresh (Nat.le_refl _)
theorem Inv.lstM (I : Inv X pins σ H s) (hH : H l = some (.lst xs)) : xs.length ≤ sizeLine ∧ ∃ (its : List Value) (n : Nat), Vals xs its ∧ xs.length = its.length ∧ s.heap.get? l = some { cls := .type "list", data := .seq its.toArray n } := by
  obtain ⟨z, its, n, r, e⟩ := I.hok l _ hH
  exact ⟨z, its, n, r, r.length, e⟩

end

section
variable {X : Cx}

def rAppend : V → List V → Hp → VK → Prop := fun x vs H Q => ∃ l xs y, x = .ref l ∧ vs = [y] ∧ H l = some (.lst xs) ∧ xs.length < sizeLine ∧ Q .non (upd H l (.lst (xs ++ [y])))
theorem mt_append : MtM X "list.append" rAppend := by
  intro pins s σ H x vs v us Q I rx rv h
  obtain ⟨l, xs, y, rfl, rfl, hH, hz, q⟩ := h
  cases rx
  obtain ⟨u, rfl, ru⟩ := rv.one
  obtain ⟨z, its, n, r, hl, e⟩ := I.lstM hH
  refine call_meets F.slot_list_append ⟨_, e, rfl⟩ F.entry_list_append (F.args_list_append_2 _ _) (PySem.list_append l its.toArray n u (by rw [List.size_toArray]; omega)) ⟨e, ?_⟩
  refine ⟨.non, _, I.lset (its' := its ++ [u]) hH e (by simp) (r.append (.cons ru .nil)) ?_, rfl, q⟩
  rw [List.length_append, List.length_singleton]
  omega

def rPopAt : V → List V → Hp → VK → Prop := fun x vs H Q => ∃ l xs i k y, x = .ref l ∧ vs = [.int i] ∧ H l = some (.lst xs) ∧ -(2 ^ 63) ≤ i ∧ i < 2 ^ 63 ∧ seqIndex? i xs.length = some k ∧ xs[k]? = some y ∧ Q y (upd H l (.lst (xs.eraseIdx k)))
theorem mt_popAt : MtM X "list.pop" rPopAt := by
  intro pins s σ H x vs v us Q I rx rv h
  obtain ⟨l, xs, i, k, y, rfl, rfl, hH, h1, h2, hk, hy, q⟩ := h
  cases rx
  obtain ⟨u, rfl, ru⟩ := rv.one
  obtain ⟨t, rfl⟩ := ru
  obtain ⟨z, its, n, r, hl, e⟩ := I.lstM hH
  obtain ⟨w, hw, rw'⟩ := r.get hy
  refine call_meets F.slot_list_pop ⟨_, e, rfl⟩ F.entry_list_pop (F.args_list_pop_2 _ _)
    (MeetsSeq.list_pop_at l its.toArray n i t k w (fitsIndex_both h1 h2) (by rw [List.size_toArray, ← hl]; exact hk) (by rw [← Array.getElem?_toList]; exact hw) (by rw [List.size_toArray]; omega)) ⟨e, ?_⟩
  refine ⟨y, _, I.lset (its' := its.eraseIdx k) hH e ?_ (r.eraseIdx k) ?_, rw', q⟩
  · show its.toArray.eraseIdxIfInBounds k = (its.eraseIdx k).toArray
    rw [List.eraseIdxIfInBounds_toArray]
  · have := len_erase xs k
    omega

def rCat : R2 := fun x y H Q => ∃ l b xs zs, x = .ref l ∧ y = .ref b ∧ H l = some (.lst xs) ∧ H b = some (.lst zs) ∧ xs.length + zs.length ≤ sizeLine ∧ ∀ p, H p = none → Q (.ref p) (upd H p (.lst (xs ++ zs)))
theorem op_cat : OpR X (binaryOp .Add) rCat := by
  intro pins s σ H x y v u Q I rx ry h
  obtain ⟨l, b, xs, zs, rfl, rfl, hH, hB, hz, q⟩ := h
  cases rx
  cases ry
  obtain ⟨z, its, n, r, hl, e⟩ := I.lstM hH
  obtain ⟨z2, its2, n2, r2, hl2, e2⟩ := I.lstM hB
  refine PySem.P.add_list e e2 ?_ (by rw [List.size_toArray, List.size_toArray]; omega)
  have ea : its.toArray ++ its2.toArray = (its ++ its2).toArray := by simp
  rw [ea]
  exact ⟨.ref _, _, I.lnew (t' := s.toks) (r.append r2) (by rw [List.length_append]; omega), rfl, q _ I.fresh⟩
end

section
variable {prog : Program} {w : World} {A : Around} {E : Value → Shared → Prop} {s : Shared}
end

section
variable {X : Cx}
end
end L2

namespace L2
open PySem PySem.Spec PyProof.Rows

theorem Vals.ints : ∀ {ns : List Int} {us : List Value}, Vals (ns.map V.int) us → IntsAre us ns
  | [], us, h => by
    rw [List.map_nil] at h
    cases h
    exact IntsAre.nil
  | n :: ns, us, h => by
    rw [List.map_cons] at h
    cases h with
    | cons r t =>
      obtain ⟨k, rfl⟩ := r
      exact IntsAre.cons n k (Vals.ints t)
theorem vals_of_ints : ∀ {us : List Value} {ns : List Int}, IntsAre us ns → Vals (ns.map V.int) us
  | _, _, .nil => by rw [List.map_nil]; exact Paired.nil
  | _, _, .cons n t h => by rw [List.map_cons]; exact Paired.cons (show RelV (V.int n) (Value.int n t) from ⟨t, rfl⟩) (vals_of_ints h)
theorem Vals.strs : ∀ {xs : List Str} {us : List Value}, Vals (xs.map V.str) us → StrsAre us xs
  | [], us, h => by
    rw [List.map_nil] at h
    cases h
    exact StrsAre.nil
  | x :: xs, us, h => by
    rw [List.map_cons] at h
    cases h with
    | cons r t =>
      obtain ⟨k, rfl⟩ := r
      exact StrsAre.cons x k (Vals.strs t)
theorem Vals.bls : ∀ {bs : List Bool} {us : List Value}, Vals (bs.map V.bl) us → us = bs.map Value.bool
  | [], us, h => by
    rw [List.map_nil] at h
    cases h
    rfl
  | b :: bs, us, h => by
    rw [List.map_cons] at h
    cases h with
    | cons r t =>
      cases r
      rw [Vals.bls t, List.map_cons]
theorem Vals.ref1 {a : Addr} {us : List Value} (r : Vals [V.ref a] us) : us = [Value.ref a] := by
  cases r with
  | cons r t =>
    cases t
    cases r
    rfl
section
variable {prog : Program} {w : World} {A : Around} {E : Value → Shared → Prop} {s : Shared} {l : Addr} {its : List Value} {ns : List Int} {Q : Value → Shared → Prop}
end

section
variable {X : Cx}
end

section
variable {X : Cx}
end

section
variable {X : Cx}
end

theorem iter_any {prog : Program} {w : World} {A : Around} {E : Value → Shared → Prop} {s : Shared} {l : Addr} {items : Array Value} {Q : Value → Shared → Prop} (hl : s.heap.IsList l items)
    (h : ∀ s₂ : Shared, s₂ = { s with heap := s.heap.push { cls := .type "list_iterator", data := .fields #[.ref l, .int 0 0] } } →
      (s₂.heap.IsListIter s.heap.objs.size l 0 ∧ s₂.heap.IsList l items) → l ≠ s.heap.objs.size → Q (.ref s.heap.objs.size) s₂) : wpAny (model prog w) A (pyIter (.ref l)) Q E s := by
  have hlt : l < s.heap.objs.size := by obtain ⟨_, e, _⟩ := hl; exact Heap.lt_size e
  exact wpAny_pyIter_list hl (h _ rfl ⟨⟨_, Heap.get?_push_size _ rfl, rfl, rfl⟩, hl.push _⟩ (Nat.ne_of_lt hlt))
theorem truth_bools {prog : Program} {w : World} {A : Around} {bs : List Bool} {its : List Value} (e : its = bs.map Value.bool) :
    TruthOf prog w A (fun i v => its.toArray[i]? = some v) (fun i => bs.getD i false) := fun i v s Q E hv hq => by
  have hv' : its[i]? = some v := by simpa using hv
  rw [e, List.getElem?_map] at hv'
  obtain ⟨b, hb, rfl⟩ := Option.map_eq_some_iff.mp hv'
  have hg : bs.getD i false = b := by rw [List.getD_eq_getElem?_getD, hb] <;> rfl
  have hq' : Q (bs.getD i false) s := hq
  rw [hg] at hq'
  exact wpAny_truthy_bool hq'
theorem all_range : ∀ bs : List Bool, (List.range bs.length).all (fun i => bs.getD i false) = bs.all id
  | [] => rfl
  | b :: bs => by
    rw [List.length_cons, List.range_succ_eq_map, List.all_cons, List.all_map, List.all_cons, ← all_range bs]
    all_goals rfl
section
variable {X : Cx}
def rAll (K : PySem.W.Frag) : List V → Hp → VK → Prop := fun vs H Q => ∃ (a : Addr) (bs : List Bool), vs = [V.ref a] ∧ SqL K H a (bs.map V.bl) ∧ Q (.bl (bs.all id)) H
theorem cr_all (hc : X.calm = true) : CallR X (.builtin "all") (rAll X.K) := by
  intro pins s σ H vs us Q I r h
  obtain ⟨a, bs, rfl, hs, q⟩ := h
  obtain ⟨its, rv, hl, _⟩ := I.list hs
  rw [Vals.ref1 r]
  have hb := rv.bls
  refine call_all_walk (iter_any hl.isList fun s₂ e2 st hne => ?_)
  subst e2
  refine ⟨_, _, _, _, _, _, _, rfl, Walks.list (A := X.A.in1) (I.ok.hd hc) _ a hne its.toArray, st, truth_bools hb, fun h' tk hk => ?_⟩
  refine ⟨.bl _, H, I.kept fun b o eo => hk b o (fun hmem => ?_) (Heap.get?_push_of_some _ eo), ?_, q⟩
  · rcases List.mem_cons.mp hmem with e1 | hmem
    · exact absurd (e1 ▸ Heap.lt_size eo) (Nat.lt_irrefl _)
    · cases hmem
  · show Value.bool _ = Value.bool _
    rw [← all_range, hb, List.size_toArray, List.length_map]
end

mutual
inductive Dp (K : PySem.W.Frag) (H : Hp) : V → PyData → Prop
  | non : Dp K H .non .none
  | bl (b : Bool) : Dp K H (.bl b) (.bool b)
  | int (i : Int) : Dp K H (.int i) (.int i)
  | str (x : Str) : Dp K H (.str x) (.str x)
  | lst {a : Addr} {xs : List V} {ds : List PyData} : SqL K H a xs → DpAll K H xs ds → Dp K H (.ref a) (.list ds)
  | tup {a : Addr} {xs : List V} {ds : List PyData} : SqT K H a xs → DpAll K H xs ds → Dp K H (.ref a) (.tuple ds)
inductive DpAll (K : PySem.W.Frag) (H : Hp) : List V → List PyData → Prop
  | nil : DpAll K H [] []
  | cons {v : V} {vs : List V} {d : PyData} {ds : List PyData} : Dp K H v d → DpAll K H vs ds → DpAll K H (v :: vs) (d :: ds)
end
section
variable {X : Cx} {pins : List (Addr × Obj)} {σ : St} {H : Hp} {s : Shared}
mutual
theorem Dp.reads (I : Inv X pins σ H s) : ∀ (d : PyData) (v : V) (u : Value), Dp X.K H v d → RelV v u → ∃ as, Reads s.heap u d as
  | .none, _, _, h, r => by
    cases h
    cases r
    exact ⟨_, Reads.none⟩
  | .bool b, _, _, h, r => by
    cases h
    cases r
    exact ⟨_, Reads.bool b⟩
  | .int i, _, _, h, r => by
    cases h
    obtain ⟨t, rfl⟩ := r
    exact ⟨_, Reads.int i t⟩
  | .str x, _, _, h, r => by
    cases h
    obtain ⟨t, rfl⟩ := r
    exact ⟨_, Reads.str x t⟩
  | .list ds, _, _, h, r => by
    cases h with
    | lst hs ha =>
      cases r
      obtain ⟨its, rv, ⟨o, n, ho, hc, _, hd⟩, _⟩ := I.list hs
      obtain ⟨as, hr⟩ := Dp.readsAll I ds _ its ha rv
      exact ⟨_, Reads.list ho hc hd hr⟩
  | .tuple ds, _, _, h, r => by
    cases h with
    | tup hs ha =>
      cases r
      obtain ⟨its, rv, ⟨o, ho, hc, n, hd⟩, _⟩ := I.tuple hs
      obtain ⟨as, hr⟩ := Dp.readsAll I ds _ its ha rv
      exact ⟨_, Reads.tuple ho hc hd hr⟩
  | .dict _, _, _, h, _ => by cases h
theorem Dp.readsAll (I : Inv X pins σ H s) : ∀ (ds : List PyData) (vs : List V) (us : List Value), DpAll X.K H vs ds → Vals vs us → ∃ as, ReadsAll s.heap us ds as
  | [], _, _, h, r => by
    cases h
    cases r
    exact ⟨_, ReadsAll.nil⟩
  | d :: ds, _, _, h, r => by
    cases h with
    | cons h1 h2 =>
      cases r with
      | cons r1 r2 =>
        obtain ⟨as, q1⟩ := Dp.reads I d _ _ h1 r1
        obtain ⟨bs, q2⟩ := Dp.readsAll I ds _ _ h2 r2
        exact ⟨_, ReadsAll.cons q1 q2⟩
end
end
section
variable {X : Cx}
def rEqD (K : PySem.W.Frag) : R2 := fun x y H Q => ∃ d e, Dp K H x d ∧ Dp K H y e ∧ SeqAt.shaped d = true ∧ SeqAt.shaped e = true ∧ Q (.bl (PyData.eqv d e)) H
def rNeD (K : PySem.W.Frag) : R2 := fun x y H Q => ∃ d e, Dp K H x d ∧ Dp K H y e ∧ SeqAt.shaped d = true ∧ SeqAt.shaped e = true ∧ Q (.bl (!PyData.eqv d e)) H
theorem op_eqD (hu : X.A.units + 64 < cLine) : OpR X (compareOp .Eq) (rEqD X.K) := by
  intro pins s σ H x y v u Q I rx ry h
  obtain ⟨d, e, hd, he, sd, se, q⟩ := h
  obtain ⟨as, r1⟩ := Dp.reads I d x v hd rx
  obtain ⟨bs, r2⟩ := Dp.reads I e y u he ry
  exact SeqAt.compareEq_shaped r1 r2 sd se hu ⟨.bl _, H, I, rfl, q⟩
theorem op_neD (hu : X.A.units + 64 < cLine) : OpR X (compareOp .NotEq) (rNeD X.K) := by
  intro pins s σ H x y v u Q I rx ry h
  obtain ⟨d, e, hd, he, sd, se, q⟩ := h
  obtain ⟨as, r1⟩ := Dp.reads I d x v hd rx
  obtain ⟨bs, r2⟩ := Dp.reads I e y u he ry
  exact SeqAt.compareNe_shaped r1 r2 sd se hu ⟨.bl _, H, I, rfl, q⟩
end
end L2

namespace L2
open PySem PySem.Spec PyProof.Rows
abbrev CellAt (h : Heap) (c : Addr) (v : Option Value) : Prop := h.IsCell c v
def relS (scope sc : Scope) : Scope :=
  { scope with names := scope.names.map fun (n, k) => if (k == .free && sc.kind == .function && sc.names.lookup n == some .cell) then (n, .cell) else (n, k) }

def cloFrom (cells : List (Str × Addr)) : List (Str × NameKind) → List (Str × Addr) → List (Str × Addr)
  | [], acc => acc
  | (n, k) :: r, acc => if k == .free then cloFrom cells r ((n, (cells.lookup n).getD 0) :: acc) else cloFrom cells r acc

theorem closure_loop (env : Env) (f : Str × NameKind → List (Str × Addr) → Sem (ForInStep (List (Str × Addr))))
    (hf : ∀ n k c, f (n, k) c = if k == .free then (do let a ← cellOf env n; pure (.yield ((n, a) :: c))) else pure (.yield c)) :
    ∀ (names : List (Str × NameKind)) (acc : List (Str × Addr)), (∀ y ∈ names, y.2 = .free → ∃ c, env.cells.lookup y.1 = some c) → forIn names acc f = pure (cloFrom env.cells names acc)
  | [], acc, _ => by rw [List.forIn_nil]; rfl
  | (n, k) :: r, acc, h => by
    rw [List.forIn_cons, hf]
    have ih := fun acc => closure_loop env f hf r acc fun y hy => h y (List.mem_cons_of_mem _ hy)
    unfold cloFrom
    by_cases hk : (k == NameKind.free) = true
    · rw [if_pos hk, if_pos hk]
      obtain ⟨c, hc⟩ := h (n, k) List.mem_cons_self (by simpa using hk)
      have e : cellOf env n = pure c := by unfold cellOf; rw [hc]
      rw [e]
      have e2 : (env.cells.lookup n).getD 0 = c := by rw [hc]; rfl
      rw [e2]
      exact ih _
    · rw [if_neg hk, if_neg hk]
      exact ih _
theorem closure_ok {scope : Scope} {env : Env} (h : ∀ y ∈ scope.names, y.2 = .free → ∃ c, env.cells.lookup y.1 = some c) : closureFor scope env = pure (cloFrom env.cells scope.names []) := by
  simp only [closureFor]
  rw [closure_loop env _ (fun n k c => rfl) scope.names [] h]
  rfl

theorem mem_lookup {α : Type} : ∀ {l : List (Str × α)} {n : Str} {c : α}, (n, c) ∈ l → ∃ c', l.lookup n = some c'
  | (k, v) :: r, n, c, h => by
    rw [List.lookup_cons]
    cases hb : n == k with
    | true => exact ⟨_, rfl⟩
    | false =>
      rcases List.mem_cons.mp h with e | h
      · cases e; simp at hb
      · exact mem_lookup h

theorem cloFrom_mem {cells : List (Str × Addr)} : ∀ {names : List (Str × NameKind)} {acc : List (Str × Addr)} {n : Str} {c : Addr}, (n, c) ∈ cloFrom cells names acc → (n, c) ∈ acc ∨ ((n, .free) ∈ names ∧ c = (cells.lookup n).getD 0)
  | [], _, _, _, h => .inl h
  | (m, k) :: r, acc, n, c, h => by
    unfold cloFrom at h
    split at h
    · rename_i hk
      have hk : k = .free := by simpa using hk
      rcases cloFrom_mem h with h | ⟨h1, h2⟩
      · rcases List.mem_cons.mp h with e | h
        · cases e; exact .inr ⟨hk ▸ List.mem_cons_self, rfl⟩
        · exact .inl h
      · exact .inr ⟨List.mem_cons_of_mem _ h1, h2⟩
    · rcases cloFrom_mem h with h | ⟨h1, h2⟩
      · exact .inl h
      · exact .inr ⟨List.mem_cons_of_mem _ h1, h2⟩
theorem cloFrom_acc {cells : List (Str × Addr)} : ∀ {names : List (Str × NameKind)} {acc : List (Str × Addr)} {p : Str × Addr}, p ∈ acc → p ∈ cloFrom cells names acc
  | [], _, _, h => h
  | (m, k) :: r, acc, p, h => by
    unfold cloFrom
    split
    · exact cloFrom_acc (List.mem_cons_of_mem _ h)
    · exact cloFrom_acc h
theorem cloFrom_has {cells : List (Str × Addr)} : ∀ {names : List (Str × NameKind)} {acc : List (Str × Addr)} {n : Str}, (n, .free) ∈ names → (n, (cells.lookup n).getD 0) ∈ cloFrom cells names acc
  | (m, k) :: r, acc, n, h => by
    unfold cloFrom
    rcases List.mem_cons.mp h with e | h
    · cases e
      exact cloFrom_acc List.mem_cons_self
    · split
      · exact cloFrom_has h
      · exact cloFrom_has h

theorem cells_mem : ∀ {names : List (Str × NameKind)} {h : Heap} {acc : List (Str × Addr)} {x : Str} {c : Addr}, (x, c) ∈ cellsFrom h.objs.size names acc →
    (x, c) ∈ acc ∨ ((x, .cell) ∈ names ∧ h.objs.size ≤ c ∧ CellAt (pushCells h names) c none)
  | [], _, _, _, _, h => .inl h
  | (n, k) :: r, h, acc, x, c, hm => by
    unfold cellsFrom at hm
    unfold pushCells
    split at hm
    · rename_i hk
      rw [if_pos hk]
      have hk : k = .cell := by simpa using hk
      rw [← Heap.size_push h { cls := .type "cell", data := .cell none }] at hm
      rcases cells_mem hm with hm | ⟨h1, h2, h3⟩
      · rcases List.mem_cons.mp hm with e | hm
        · cases e
          exact .inr ⟨hk ▸ List.mem_cons_self, Nat.le_refl _, _, pushCells_keeps r _ _ _ (Heap.get?_push_size _ rfl), rfl⟩
        · exact .inl hm
      · rw [Heap.size_push] at h2
        exact .inr ⟨List.mem_cons_of_mem _ h1, Nat.le_of_succ_le h2, h3⟩
    · rename_i hk
      rw [if_neg hk]
      rcases cells_mem hm with hm | ⟨h1, h2, h3⟩
      · exact .inl hm
      · exact .inr ⟨List.mem_cons_of_mem _ h1, h2, h3⟩
theorem cells_acc : ∀ {names : List (Str × NameKind)} {n : Nat} {acc : List (Str × Addr)} {p : Str × Addr}, p ∈ acc → p ∈ cellsFrom n names acc
  | [], _, _, _, h => h
  | (m, k) :: r, n, acc, p, h => by
    unfold cellsFrom
    split
    · exact cells_acc (List.mem_cons_of_mem _ h)
    · exact cells_acc h
theorem cells_has : ∀ {names : List (Str × NameKind)} {n : Nat} {acc : List (Str × Addr)} {x : Str}, (x, .cell) ∈ names → ∃ c, (x, c) ∈ cellsFrom n names acc
  | (m, k) :: r, n, acc, x, h => by
    unfold cellsFrom
    rcases List.mem_cons.mp h with e | h
    · cases e
      exact ⟨n, cells_acc List.mem_cons_self⟩
    · split
      · exact cells_has h
      · exact cells_has h
theorem cells_inj : ∀ {names : List (Str × NameKind)} {h : Heap} {acc : List (Str × Addr)} {x y : Str} {c : Addr}, (∀ p ∈ acc, p.2 < h.objs.size) → (∀ x y c, (x, c) ∈ acc → (y, c) ∈ acc → x = y) →
    (x, c) ∈ cellsFrom h.objs.size names acc → (y, c) ∈ cellsFrom h.objs.size names acc → x = y
  | [], _, _, _, _, _, _, hi, h1, h2 => hi _ _ _ h1 h2
  | (n, k) :: r, h, acc, x, y, c, hl, hi, h1, h2 => by
    unfold cellsFrom at h1 h2
    split at h1
    · rename_i hk
      rw [if_pos hk] at h2
      rw [← Heap.size_push h { cls := .type "cell", data := .cell none }] at h1 h2
      refine cells_inj (h := h.push _) (fun p hp => ?_) (fun x y c a b => ?_) h1 h2
      · rw [Heap.size_push]
        rcases List.mem_cons.mp hp with rfl | hp
        · exact Nat.lt_succ_self _
        · exact Nat.lt_succ_of_lt (hl p hp)
      · rcases List.mem_cons.mp a with e | a <;> rcases List.mem_cons.mp b with e' | b
        · cases e; cases e'; rfl
        · cases e; exact absurd (hl _ b) (Nat.lt_irrefl _)
        · cases e'; exact absurd (hl _ a) (Nat.lt_irrefl _)
        · exact hi _ _ _ a b
    · rename_i hk
      rw [if_neg hk] at h2
      exact cells_inj hl hi h1 h2

theorem newEnv_comp {M : Model} {A : Around} {E : Value → Shared → Prop} {s : Shared} {scope : Scope} {globals : Addr} {closure : List (Str × Addr)} {qual : Str} {func : Option Addr} {code : Value} {around : Env} {builtins : Addr} {Q : Env → Shared → Prop}
    (h : Q (newEnv scope s.heap.objs.size globals (cellsFrom (s.heap.objs.size + 1) scope.names closure) qual func code (some around) builtins)
      { s with heap := pushCells (s.heap.push { cls := .type "dict", data := .dict #[] }) scope.names }) :
    wpAny M A (newFunctionEnv scope globals closure [] qual func code (some around) builtins) Q E s := by
  simp only [newFunctionEnv, Option.isSome_some, if_true]
  refine wpAny_bind (wpAny_alloc ?_)
  refine wpAny_bind (wpAny_layCells _ (fun n k c => rfl) scope.names closure _ _ ?_)
  rw [show ({ s with heap := s.heap.push { cls := .type "dict", data := .dict #[] } } : Shared).heap.objs.size = s.heap.objs.size + 1 from Heap.size_push ..]
  rw [List.forIn_nil]
  exact wpAny_bind (wpAny_pure (wpAny_pure h))

theorem lookup_relS {sc : Scope} : ∀ {names : List (Str × NameKind)} {x : Str} {k : NameKind},
    (names.map fun (n, k) => if (k == NameKind.free && sc.kind == .function && sc.names.lookup n == some .cell) then (n, NameKind.cell) else (n, k)).lookup x = some k →
    ∃ k', names.lookup x = some k' ∧ (k = k' ∨ (k' = .free ∧ k = .cell))
  | [], _, _, h => by simp at h
  | (n, k₀) :: r, x, k, h => by
    have ih := @lookup_relS sc r x k
    have h' : List.lookup x ((if (k₀ == NameKind.free && sc.kind == .function && sc.names.lookup n == some .cell) = true then (n, NameKind.cell) else (n, k₀)) :: (r.map _)) = some k := h
    cases hx : x == n with
    | true =>
      simp only [List.lookup_cons, hx]
      by_cases hc : (k₀ == NameKind.free && sc.kind == .function && sc.names.lookup n == some .cell) = true
      · rw [if_pos hc] at h'
        simp only [List.lookup_cons, hx] at h'
        cases h'
        simp only [Bool.and_eq_true, beq_iff_eq] at hc
        exact ⟨k₀, rfl, .inr ⟨hc.1.1, rfl⟩⟩
      · rw [if_neg hc] at h'
        simp only [List.lookup_cons, hx] at h'
        cases h'
        exact ⟨_, rfl, .inl rfl⟩
    | false =>
      simp only [List.lookup_cons, hx]
      by_cases hc : (k₀ == NameKind.free && sc.kind == .function && sc.names.lookup n == some .cell) = true
      · rw [if_pos hc] at h'
        simp only [List.lookup_cons, hx] at h'
        exact ih h'
      · rw [if_neg hc] at h'
        simp only [List.lookup_cons, hx] at h'
        exact ih h'
structure BlkOk (N : List Str) (sc scope : Scope) (own : List (Str × Nat)) : Prop where
  kind : scope.kind = .function
  uniq : ∀ y ∈ scope.names, scope.names.lookup y.1 = some y.2
  ix : ∀ p ∈ own, N[p.2]? = some p.1
  free : ∀ y ∈ scope.names, y.2 = .free → sc.names.lookup y.1 = some .cell ∨ sc.names.lookup y.1 = some .free
  own : ∀ y ∈ scope.names, y.2 = .local ∨ y.2 = .cell → y.1 ∈ own.map (·.1) ∨ y.1 ∉ N
def wipe (σ : St) : List Nat → St
  | [] => σ
  | v :: vs => (wipe σ vs).set v none
theorem wipe_length (σ : St) : ∀ vs : List Nat, (wipe σ vs).length = σ.length
  | [] => rfl
  | v :: vs => by unfold wipe; rw [List.length_set, wipe_length σ vs]
theorem wipe_some {σ : St} {i : Nat} {x : V} : ∀ {vs : List Nat}, (wipe σ vs)[i]? = some (some x) → σ[i]? = some (some x) ∧ i ∉ vs
  | [], h => ⟨h, by simp⟩
  | v :: vs, h => by
    unfold wipe at h
    by_cases hi : v = i
    · subst hi
      by_cases hv : v < (wipe σ vs).length
      · rw [List.getElem?_set_self hv] at h; cases h
      · rw [List.getElem?_eq_none (by simpa using hv)] at h; cases h
    · rw [List.getElem?_set_ne hi] at h
      obtain ⟨h1, h2⟩ := wipe_some h
      exact ⟨h1, by simp only [List.mem_cons, not_or]; exact ⟨fun e => hi e.symm, h2⟩⟩

abbrev Cx.blk (X : Cx) (s : Shared) (H : Hp) (scope : Scope) (cenv : Env) (fp : List Addr) : Cx := { X with s_0 := s, H_0 := H, env := cenv, outer := X.stack, ex := fp, fn := fun x => scope.names.lookup x == some .cell, pn := [], xe := fun _ _ => False }
section
variable {X : Cx} {pins : List (Addr × Obj)} {σ : St} {H : Hp} {s : Shared}
theorem block_start {scope : Scope} {own : List (Str × Nat)} {fp : List Addr} (I : Inv X pins σ H s) (ok : BlkOk X.N X.env.scope scope own) (hN : X.N.Nodup) (hfp : ∀ b ∈ fp, FpOk X pins H b ∧ b < s.heap.objs.size) :
    Inv (X.blk s H scope (compEnvC scope (cellsFrom (s.heap.objs.size + 1) scope.names (cloFrom X.env.cells scope.names [])) s.heap.objs.size X.env) fp) [] (wipe σ (own.map (·.2))) H { s with heap := pushCells (s.heap.push { cls := .type "dict", data := .dict #[] }) scope.names } := by
  have hfree : ∀ y ∈ scope.names, y.2 = .free → ∃ c, X.env.cells.lookup y.1 = some c := fun y hy e => by
    rcases ok.free y hy e with k | k
    · exact I.ok.has _ (.inl k)
    · exact I.ok.has _ (.inr k)
  generalize hcenv : compEnvC scope (cellsFrom (s.heap.objs.size + 1) scope.names (cloFrom X.env.cells scope.names [])) s.heap.objs.size X.env = cenv
  have kp : ∀ b o, s.heap.get? b = some o → (pushCells (s.heap.push { cls := .type "dict", data := .dict #[] }) scope.names).get? b = some o := fun b o e => pushCells_keeps _ _ _ _ (Heap.get?_push_of_some _ e)
  have hL : cenv.locals = s.heap.objs.size := by rw [← hcenv]; rfl
  have hcl : cenv.cells = cellsFrom (s.heap.objs.size + 1) scope.names (cloFrom X.env.cells scope.names []) := by rw [← hcenv]; rfl
  have hsc : cenv.scope = relS scope X.env.scope := by rw [← hcenv]; rfl
  rw [← Heap.size_push s.heap { cls := .type "dict", data := .dict #[] }] at hcl
  have cm : ∀ {y c}, (y, c) ∈ cloFrom X.env.cells scope.names [] → X.env.cells.lookup y = some c ∧ c < s.heap.objs.size := fun {y c} hm => by
    rcases cloFrom_mem hm with hm | ⟨h1, rfl⟩
    · cases hm
    · obtain ⟨c, hc⟩ := hfree _ h1 rfl
      rw [hc]
      obtain ⟨w, z⟩ := I.cell _ _ hc
      exact ⟨rfl, z.lt⟩
  have mem : ∀ {y c}, cenv.cells.lookup y = some c → (X.env.cells.lookup y = some c ∧ c < s.heap.objs.size) ∨ (s.heap.objs.size + 1 ≤ c ∧ CellAt (pushCells (s.heap.push { cls := .type "dict", data := .dict #[] }) scope.names) c none) := fun {y c} e => by
    rw [hcl] at e
    rcases cells_mem (PySem.mem_of_lookup e) with hm | ⟨_, h2, h3⟩
    · exact .inl (cm hm)
    · rw [Heap.size_push] at h2; exact .inr ⟨h2, h3⟩
  have look : ∀ {y}, scope.names.lookup y = some .free → ∃ c, cenv.cells.lookup y = some c ∧ X.env.cells.lookup y = some c := fun {y} hl => by
    have hy : (y, NameKind.free) ∈ scope.names := PySem.mem_of_lookup hl
    obtain ⟨c', e'⟩ := mem_lookup (cells_acc (names := scope.names) (n := (s.heap.push { cls := .type "dict", data := .dict #[] }).objs.size) (cloFrom_has (cells := X.env.cells) (acc := []) hy))
    rw [← hcl] at e'
    refine ⟨c', e', ?_⟩
    rw [hcl] at e'
    rcases cells_mem (PySem.mem_of_lookup e') with hm | ⟨h1, _, _⟩
    · exact (cm hm).1
    · have := ok.uniq _ h1
      rw [hl] at this; cases this
  have okB : (X.blk s H scope cenv fp).Ok := by
    refine ⟨I.ok.mod, by show cenv.scope.kind = _; rw [hsc]; exact ok.kind, by show cenv.globals = _; rw [← hcenv]; exact I.ok.glob, by show cenv.builtins = _; rw [← hcenv]; exact I.ok.blt, by show s.heap.objs.size ≤ cenv.locals; rw [hL]; exact Nat.le_refl _,
      fun y z c e1 e2 => ?_, fun y hy => ?_, fun y c z e => ?_, I.ok.hd, I.ok.frames, .inl rfl, fun b hb => ⟨?_, fun y c e z => ?_⟩, I.bs, Nat.le_trans I.ok.bsz I.sz, fun b o e hb => ?_, fun b hb z => ?_, I.stack, I.stkFree⟩
    · have e1 : cenv.cells.lookup y = some c := e1
      have e2 : cenv.cells.lookup z = some c := e2
      rw [hcl] at e1 e2
      refine cells_inj (fun p hp => ?_) (fun y z c a b => I.ok.inj y z c (cm a).1 (cm b).1) (PySem.mem_of_lookup e1) (PySem.mem_of_lookup e2)
      rw [Heap.size_push]
      exact Nat.lt_succ_of_lt (cm (y := p.1) (c := p.2) hp).2
    · show ∃ c, cenv.cells.lookup y = some c
      have key : ∀ k, cenv.kindOf y = some k → (k = .cell ∨ k = .free) → ∃ c, cenv.cells.lookup y = some c := fun k hk hk' => by
        unfold Env.kindOf at hk
        rw [hsc] at hk
        obtain ⟨k', e, r⟩ := lookup_relS hk
        have : k' = .cell ∨ k' = .free := by
          rcases r with rfl | ⟨rfl, _⟩
          · exact hk'
          · exact .inr rfl
        rcases this with rfl | rfl
        · obtain ⟨c, hm⟩ := cells_has (n := (s.heap.push { cls := .type "dict", data := .dict #[] }).objs.size) (acc := cloFrom X.env.cells scope.names []) (PySem.mem_of_lookup e)
          obtain ⟨c', e'⟩ := mem_lookup hm
          exact ⟨c', by rw [hcl]; exact e'⟩
        · obtain ⟨c, h1, _⟩ := look e
          exact ⟨c, h1⟩
      rcases hy with hy | hy
      · exact key _ hy (.inl rfl)
      · exact key _ hy (.inr rfl)
    · have z : (scope.names.lookup y == some NameKind.cell) = true := z
      have z : scope.names.lookup y = some .cell := by simpa using z
      have e : cenv.cells.lookup y = some c := e
      rw [hcl] at e
      rcases cells_mem (PySem.mem_of_lookup e) with hm | ⟨_, h2, _⟩
      · rcases cloFrom_mem hm with hm | ⟨h1, _⟩
        · cases hm
        · have q := ok.uniq _ h1
          rw [z] at q; cases q
      · rw [Heap.size_push] at h2
        exact Nat.le_of_succ_le h2
    · show b ≠ cenv.locals
      rw [hL]; exact Nat.ne_of_lt (hfp b hb).2
    · have e : cenv.cells.lookup y = some c := e
      rcases mem e with ⟨h1, _⟩ | ⟨h1, _⟩
      · exact (hfp b hb).1.2.2.2.2.1 y c h1 z
      · have h2 : s.heap.objs.size + 1 ≤ b := by rw [← z]; exact h1
        exact absurd (Nat.lt_of_lt_of_le (hfp b hb).2 (Nat.le_of_succ_le h2)) (Nat.lt_irrefl _)
    · rcases (hfp b hb).1.2.2.2.1 with z | z
      · exact I.ok.noex b o e z
      · exact absurd (Nat.lt_of_lt_of_le (Heap.lt_size e) (Nat.le_trans I.ok.bsz z)) (Nat.lt_irrefl _)
    · rcases List.mem_cons.mp (I.stkSub b z) with z | z
      · exact (hfp b hb).1.2.1 z
      · exact (hfp b hb).1.2.2.1 z
  refine ⟨okB, rfl, I.bare, Un.kept kp, ⟨fun _ => none, ?_, fun i y av e1 e2 e3 => ?_⟩, fun y c e => ?_, ?_, fun y c e => ?_, fun p hp => ?_, I.hok.kept kp, by rw [wipe_length]; exact I.len⟩
  · show Heap.Ns _ cenv.locals _
    rw [hL]
    exact Heap.Ns.keeps (Heap.Ns.new ..) fun b o e => pushCells_keeps _ _ _ _ e
  · obtain ⟨e2, hne⟩ := wipe_some e2
    have hfr : scope.names.lookup y = some .free ∧ (cenv.kindOf y = some .cell ∨ cenv.kindOf y = some .free) := by
      have key : ∀ k, cenv.scope.names.lookup y = some k → k = .local ∨ k = .cell ∨ k = .free → scope.names.lookup y = some .free ∧ (cenv.kindOf y = some .cell ∨ cenv.kindOf y = some .free) := fun k hk hk' => by
        have hk0 := hk
        rw [hsc] at hk
        obtain ⟨k', e, r⟩ := lookup_relS hk
        have no : ¬ (k' = .local ∨ k' = .cell) := fun hh => by
          rcases ok.own _ (PySem.mem_of_lookup e) hh with e' | e'
          · obtain ⟨p, hp, hpy⟩ := List.mem_map.mp e'
            have e3 := ok.ix p hp
            have : p.1 = y := hpy
            rw [this] at e3
            exact hne (List.mem_map.mpr ⟨p, hp, nodup_ix hN e3 e1⟩)
          · exact e' (List.mem_of_getElem? e1)
        rcases r with rfl | ⟨rfl, rfl⟩
        · rcases hk' with rfl | rfl | rfl
          · exact absurd (.inl rfl) no
          · exact absurd (.inr rfl) no
          · exact ⟨e, .inr hk0⟩
        · exact ⟨e, .inl hk0⟩
      have e3 : Vis cenv.scope y := e3
      rcases e3 with e3 | e3 | e3
      · exact key _ e3 (.inl rfl)
      · exact key _ e3 (.inr (.inl rfl))
      · exact key _ e3 (.inr (.inr rfl))
    obtain ⟨m, hn, hl⟩ := I.loc
    have hvis : Vis X.env.scope y := (ok.free _ (PySem.mem_of_lookup hfr.1) rfl).elim (fun k => .inr (.inl k)) (fun k => .inr (.inr k))
    obtain ⟨w, r, q⟩ := hl i y av e1 e2 hvis
    refine ⟨w, r, .inr ⟨hfr.2, ?_⟩⟩
    obtain ⟨c, h1, h2⟩ := look hfr.1
    rcases q with ⟨k, _⟩ | ⟨_, c', e', z⟩
    · have k : X.env.scope.names.lookup y = some .local := k
      rcases ok.free _ (PySem.mem_of_lookup hfr.1) rfl with k' | k' <;> rw [show X.env.scope.names.lookup y = _ from k'] at k <;> cases k
    · rw [h2] at e'; cases e'
      exact ⟨c, h1, z.keeps kp⟩
  · have e : cenv.cells.lookup y = some c := e
    rcases mem e with ⟨h1, _⟩ | ⟨_, z⟩
    · obtain ⟨w, z⟩ := I.cell y c h1
      exact ⟨w, z.keeps kp⟩
    · exact ⟨_, z⟩
  · show H cenv.locals = none
    rw [hL]; exact I.hok.fresh (Nat.le_refl _)
  · have e : cenv.cells.lookup y = some c := e
    rcases mem e with ⟨h1, _⟩ | ⟨h1, _⟩
    · exact I.freeC y c h1
    · exact I.hok.fresh (Nat.le_of_succ_le h1)
  · exact absurd (show p ∈ ([] : List (Addr × Obj)) ++ [] from hp) (by simp)

theorem app_ok {E : Value → Shared → Prop} {D : Addr} {xs : List V} {y : V} {v : Value} {Q : Value → Shared → Prop} (I : Inv X pins σ H s) (hD : H D = some (.lst xs)) (hz : xs.length < sizeLine) (r : RelV y v)
    (h : ∀ s', Inv X pins σ (upd H D (.lst (xs ++ [y]))) s' → Q .none s') : wpAny (model X.prog X.w) X.A (call (.builtin "list.append") [.ref D, v]) Q E s := by
  obtain ⟨hz', its, n, ri, e⟩ := I.hok D _ hD
  have hl := ri.length
  refine append_at (hsz := by rw [List.size_toArray]; omega) e fun h' sb ho' => ?_
  refine h { s with heap := h' } (I.write (t' := s.toks) (by rw [hD]; trivial) (.inl rfl) (fun b u hb q => (sb.2 b hb).trans q) ⟨_, ho'⟩ ⟨by rw [List.length_append]; exact hz, its ++ [v], n + 1, ri.append (.cons r .nil), ?_⟩)
  rw [ho']
  simp

def PTs (X : Cx) (ifs : List Expr) (t : TT) : Prop :=
  ∀ ⦃pins : List (Addr × Obj)⦄ (s : Shared) (σ : St) (H : Hp) (Q : Bool → Hp → Prop), Inv X pins σ H s → t σ H Q →
    wpAny (model X.prog X.w) X.A (forIn ifs true fun c r => if r = true then do let ok ← isTrue c X.env (eval c X.env); pure (ForInStep.yield ok) else pure (ForInStep.yield r)) (TP X pins σ Q) X.xe s
def tYes : TT := fun _ H Q => Q true H
theorem pts_nil : PTs X [] tYes := fun _ _ _ H _ I h => wpAny_tests_nil ⟨H, I, h⟩
theorem pts_one {c : Expr} {t : TT} (h : PT X c t) : PTs X [c] t := fun pins s σ H Q I hw => wpAny_tests_one (h s σ H Q I hw)
end

theorem thnF {α : Type} {t : Sem α} {Q Q' : α → Shared → Prop} {M : Model} {A : Around} {E : Value → Shared → Prop} {s : Shared} (h : wpAny M A t Q (fun _ _ => False) s) (hQ : ∀ a s, Q a s → Q' a s) : wpAny M A t Q' E s := wpAny_mono h hQ fun _ _ z => False.elim z

theorem compLoop_any {prog : Program} {w : World} {A : Around} {R : Result → Shared → Prop} {s : Shared} {elt target iter : Expr} {ifs : List Expr} {scope : Scope} {pos : Pos} {it acc : Value} {env : Env} (I : Nat → Shared → Prop)
    (turn : ∀ n s, I n s → wpAny (model prog w) A (pyNext it) (fun r s₁ => match r with
      | none => R (.ok .next) s₁
      | some v => wpAny (model prog w) A (letOwnedTupleGo target it v) (fun _ s₁' => wpAny (model prog w) A (assign target env v) (fun _ s₂ =>
          wpAny (model prog w) A (forIn ifs true fun c r => if r = true then do let ok ← isTrue c env (eval c env); pure (ForInStep.yield ok) else pure (ForInStep.yield r)) (fun ok s₃ =>
            if ok = true then wpAny (model prog w) A (eval elt env) (fun x s₄ =>
              wpAny (model prog w) A (call (.builtin "list.append") [acc, x]) (fun _ s₅ => ∃ m, m < n ∧ I m s₅) (notedBy (model prog w) A env fun e s' => R (.error e) s') s₄) (notedBy (model prog w) A env fun e s' => R (.error e) s') s₃
            else ∃ m, m < n ∧ I m s₃) (notedBy (model prog w) A env fun e s' => R (.error e) s') s₂) (notedBy (model prog w) A env fun e s' => R (.error e) s') s₁') (notedBy (model prog w) A env fun e s' => R (.error e) s') s₁) (notedBy (model prog w) A env fun e s' => R (.error e) s') s)
    (n : Nat) (h : I n s) :
    codeAny (model prog w) A (.compLoop (.ListComp elt [⟨target, iter, ifs, 0⟩] scope pos) 0 it acc env) R s := by
  refine codeAny_loop rfl I (fun n s hI => ?_) n h
  show wpAny _ A ((compTurn (.ListComp elt [⟨target, iter, ifs, 0⟩] scope pos) 0 it acc env).onRaise (fun x => do noteFrame x env; theTreesLotGoes x)) _ _ s
  refine wpAny_noted ?_
  rw [compTurn_list]
  refine wpAny_bind (wpAny_standAt (wpAny_bind (wpAny_mono (turn n s hI) (fun r s₁ h₁ => ?_) fun _ _ h' => h')))
  cases r with
  | none => exact wpAny_pure h₁
  | some v =>
    refine wpAny_bind (wpAny_mono h₁ (fun _ s₁' h₁' => ?_) fun _ _ h' => h')
    refine wpAny_bind (wpAny_mono h₁' (fun _ s₂ h₂ => wpAny_bind (wpAny_mono h₂ (fun ok s₃ h₃ => ?_) fun _ _ h' => h')) fun _ _ h' => h')
    cases ok with
    | false => exact wpAny_pure ⟨rfl, h₃⟩
    | true =>
      exact wpAny_bind (wpAny_bind (wpAny_mono h₃ (fun x s₄ h₄ => wpAny_bind (wpAny_mono h₄ (fun _ s₅ h₅ => wpAny_pure (wpAny_pure ⟨rfl, h₅⟩)) fun _ _ h' => h')) fun _ _ h' => h'))

section
variable {X : Cx}
def tLc (wi : TI) (g : TG) (tt : TT) (te : TE) (vs : List Nat) : TE := fun σ H Q => wi σ H fun J H1 => ∀ D, H1 D = none → ∃ W : Nat → Nat → Hp → Prop, (∃ m, W 0 m (upd H1 D (.lst []))) ∧ ∀ i m H, W i m H →
  (J.stop i H ∧ Q (.ref D) H) ∨ (J.go i H ∧ ∃ Nx : Hp → Prop, (∀ H', Nx H' → ∃ m', m' < m ∧ W (i + 1) m' H') ∧ ∀ x H', J.yld i H x H' → g x (wipe σ vs) H' fun σ2 H2 => wipe σ2 vs = wipe σ vs ∧ tt σ2 H2 fun b H3 =>
    if b = true then te σ2 H3 fun y H4 => ∃ acc, H4 D = some (.lst acc) ∧ acc.length < sizeLine ∧ Nx (upd H4 D (.lst (acc ++ [y]))) else Nx H3)
theorem lc_coreI {pins : List (Addr × Obj)} {s : Shared} {σ : St} {H : Hp} {Q : VK} {elt tg iter : Expr} {ifs : List Expr} {scope : Scope} {own : List (Str × Nat)} {pos pos' : Pos} {wi : TI} {g : TG} {tt : TT} {te : TE} {use : Option (Value → Sem Unit)} {Qf : Value → Shared → Prop}
    (hc : X.calm = true) (hN : X.N.Nodup) (I : Inv X pins σ H s) (hi : PI X tg iter wi) (ok : BlkOk X.N X.env.scope scope own)
    (hg : ∀ (s : Shared) (H : Hp) (C : Addr) (cl : List (Str × Addr)) (fp : List Addr), PG (X.blk s H scope (compEnvC scope cl C X.env) fp) tg g) (ht : ∀ (s : Shared) (H : Hp) (C : Addr) (cl : List (Str × Addr)) (fp : List Addr), PTs (X.blk s H scope (compEnvC scope cl C X.env) fp) ifs tt)
    (he : ∀ (s : Shared) (H : Hp) (C : Addr) (cl : List (Str × Addr)) (fp : List Addr), (∃ pins σ, Inv X pins σ H s ∧ ∀ b ∈ fp, FpOk X pins H b) → PE (X.blk s H scope (compEnvC scope cl C X.env) fp) elt te) (hs : ∀ x, foldedSetIterable iter X.env x = pure x)
    (h : tLc wi g tt te (own.map (·.2)) σ H Q)
    (hRR : ∀ D C s' m H', Inv X pins σ H' s' → Q (.ref D) H' → s'.heap.Ns C m → FpOk X pins H' C → compPost (model X.prog X.w) X.A X.xe use Qf (.ref D) C (.ok .next) s') :
    wpAny (model X.prog X.w) X.A (comprehension (.ListComp elt [⟨tg, iter, ifs, 0⟩] scope pos) scope X.env pos' (newList []) false (eval iter X.env) use) Qf X.xe s := by
  have hfree : ∀ y ∈ scope.names, y.2 = .free → ∃ c, X.env.cells.lookup y.1 = some c := fun y hy e => by
    rcases ok.free y hy e with k | k
    · exact I.ok.has _ (.inl k)
    · exact I.ok.has _ (.inr k)
  refine wpAny_comprehension_free (use := use) rfl hs (closure_ok hfree) ok.kind (fun y hy e => by rw [ok.uniq y hy, e])
    (thn (hi s σ H _ I h) fun xv s1 hx => thn hx fun itv s2 h2 => ?_)
  obtain ⟨it, fp, tn, J, H2, e, I2, T, st2, f2, q⟩ := h2
  subst e
  refine wpAny_newObj_type (newEnv_comp ?_) (by show 0 ≤ sizeLine; decide)
  generalize hD : s2.heap.objs.size = D
  have hDn : H2 D = none := I2.hok.fresh (Nat.le_of_eq hD)
  obtain ⟨W, ⟨m0, w0⟩, turn⟩ := q D hDn
  -- the new list
  generalize hs3 : ({ s2 with heap := s2.heap.push { cls := .type "list", data := .seq ([] : List Value).toArray } } : Shared) = s3
  have I3 : Inv X pins σ (upd H2 D (.lst [])) s3 := by
    rw [← hs3]
    refine I2.laid (t' := s2.toks) (fun b o e => Heap.get?_push_of_some _ e) (Nat.le_of_eq hD) ⟨Nat.zero_le _, [], 0, .nil, ?_⟩
    rw [← hD]
    exact Heap.get?_push_size _ rfl
  have h3 : s3.heap = s2.heap.push { cls := .type "list", data := .seq ([] : List Value).toArray } := by rw [← hs3]
  have sz : ∀ b ∈ fp, b < s2.heap.objs.size := fun b hb => by
    obtain ⟨o, e, _⟩ := T.obj _ _ st2 b hb
    exact Heap.lt_size e
  have f3 : ∀ b ∈ fp, FpOk X pins (upd H2 D (.lst [])) b ∧ b < s3.heap.objs.size := fun b hb => by
    have hlt := sz b hb
    refine ⟨⟨?_, (f2 b hb).2⟩, by rw [h3, Heap.size_push]; exact Nat.lt_succ_of_lt hlt⟩
    rw [upd_ne (by rw [← hD]; exact Nat.ne_of_lt hlt)]
    exact (f2 b hb).1
  have st3 : tn 0 s3.heap := T.keep _ _ _ st2 fun b _ o e => by rw [h3]; exact Heap.get?_push_of_some _ e
  have I4 := block_start I3 ok hN f3
  have pg := hg s3 (upd H2 D (.lst [])) s3.heap.objs.size (cellsFrom (s3.heap.objs.size + 1) scope.names (cloFrom X.env.cells scope.names [])) fp
  have pt := ht s3 (upd H2 D (.lst [])) s3.heap.objs.size (cellsFrom (s3.heap.objs.size + 1) scope.names (cloFrom X.env.cells scope.names [])) fp
  have pe := he s3 (upd H2 D (.lst [])) s3.heap.objs.size (cellsFrom (s3.heap.objs.size + 1) scope.names (cloFrom X.env.cells scope.names [])) fp ⟨pins, σ, I3, fun b hb => (f3 b hb).1⟩
  show codeAny _ _ (.compStart (.ListComp elt [⟨tg, iter, ifs, 0⟩] scope pos) 0 (.ref it) (.ref D) (compEnvC scope (cellsFrom (s3.heap.objs.size + 1) scope.names (cloFrom X.env.cells scope.names [])) s3.heap.objs.size X.env)) (compPost (model X.prog X.w) X.A X.xe use Qf (.ref D) s3.heap.objs.size) { s3 with heap := pushCells (s3.heap.push { cls := .type "dict", data := .dict #[] }) scope.names }
  have nfp : ∀ b ∈ fp, (upd H2 D (.lst [])) b = none := fun b hb => (f3 b hb).1.1
  generalize hce : compEnvC scope (cellsFrom (s3.heap.objs.size + 1) scope.names (cloFrom X.env.cells scope.names [])) s3.heap.objs.size X.env = ce at I4 pg pt pe ⊢
  have cL : ce.locals = s3.heap.objs.size := by subst hce; rfl
  generalize hH3 : upd H2 D (.lst []) = H3 at I3 I4 pg pt pe w0 nfp f3
  generalize hs4 : ({ s3 with heap := pushCells (s3.heap.push { cls := .type "dict", data := .dict #[] }) scope.names } : Shared) = s4 at I4 ⊢
  have st4 : tn 0 s4.heap := T.keep _ _ _ st3 fun b _ o e => by rw [← hs4]; exact pushCells_keeps _ _ _ _ (Heap.get?_push_of_some _ e)
  have stat : ∀ {σ' : St} {H' : Hp} {s' : Shared}, Inv (X.blk s3 H3 scope ce fp) [] σ' H' s' → (∀ b ∈ fp, H' b = none) → ∀ b ∈ fp, FpOk (X.blk s3 H3 scope ce fp) [] H' b := fun {σ' H' s'} I' hn b hb =>
    ⟨hn b hb, (I'.ok.exf b hb).1, I'.ok.exfs b hb, .inl hb, fun x c e => (I'.ok.exf b hb).2 x c e, fun p hp => absurd (show p ∈ ([] : List (Addr × Obj)) ++ [] from hp) (by simp)⟩
  have loop : codeAny (model X.prog X.w) X.A (.compLoop (.ListComp elt [⟨tg, iter, ifs, 0⟩] scope pos) 0 (.ref it) (.ref D) ce) (compPost (model X.prog X.w) X.A X.xe use Qf (.ref D) s3.heap.objs.size) s4 := by
    refine compLoop_any (fun n s' => ∃ i H', Inv (X.blk s3 H3 scope ce fp) [] (wipe σ (own.map (·.2))) H' s' ∧ tn i s'.heap ∧ (∀ b ∈ fp, H' b = none) ∧ W i n H') ?_ m0 ⟨0, H3, I4, st4, nfp, w0⟩
    rintro n s5 ⟨i, H5, I5, st5, n5, w5⟩
    rcases turn i n H5 w5 with ⟨stop, qq⟩ | ⟨go, Nx, hNx, step⟩
    · have td := T.done (X.blk s3 H3 scope ce fp) rfl rfl rfl hc i [] s5 _ H5 (fun _ _ => False) I5 (stat I5 n5) st5 stop
      refine thnF td fun r s6 ⟨hr, I6⟩ => ?_
      subst hr
      -- back in the def's context
      have I7 : Inv X pins σ H5 s6 := I3.call' (ch := fp) I6.os I6.base I6.hok I6.bare fun b hb => ⟨(f3 b hb).1.2.2.2.1, (f3 b hb).1.2.1, (f3 b hb).1.2.2.2.2.1, (f3 b hb).1.2.2.2.2.2⟩
      have nC : H5 s3.heap.objs.size = none := by
        have z : H5 ce.locals = none := I6.free
        rw [cL] at z
        exact z
      obtain ⟨m, hn, _⟩ := I6.loc
      have hn : s6.heap.Ns ce.locals m := hn
      rw [cL] at hn
      exact hRR D s3.heap.objs.size s6 m H5 I7 qq hn (I3.fpOk (Nat.le_refl _) nC)
    · have ti := T.item (X.blk s3 H3 scope ce fp) rfl rfl rfl hc i [] s5 _ H5 (fun _ _ => False) I5 (stat I5 n5) st5 go
      refine thnF ti fun r s6 ⟨u, hr, h6⟩ => ?_
      subst hr
      refine thnF h6 fun _ s7 ⟨x, H7, I7, r7, y7, st7, n7⟩ => ?_
      have I7' := I7.pinned (stat I7 n7) (T.obj _ _ st7)
      refine thnF (pg s7 _ H7 x u _ I7' r7 (step x H7 y7)) fun _ s8 ⟨σ8, H8, I8, hw8, q8⟩ => ?_
      refine thnF (pt s8 σ8 H8 _ I8 q8) fun b s9 ⟨H9, I9, q9⟩ => ?_
      -- the turn's end
      have fin : ∀ {s' : Shared} {H' : Hp}, Inv (X.blk s3 H3 scope ce fp) ([] ++ pinsAt fp s7.heap) σ8 H' s' → Nx H' → ∃ m, m < n ∧ ∃ i H', Inv (X.blk s3 H3 scope ce fp) [] (wipe σ (own.map (·.2))) H' s' ∧ tn i s'.heap ∧ (∀ b ∈ fp, H' b = none) ∧ W i m H' := fun {s' H'} I' nx => by
        obtain ⟨m', hm, w'⟩ := hNx H' nx
        have pin' : ∀ b ∈ fp, ∀ o, s7.heap.get? b = some o → s'.heap.get? b = some o ∧ H' b = none := fun b hb o e =>
          let z := I'.pin (b, o) (List.mem_append_right _ (List.mem_append_right _ (mem_pinsAt hb e)))
          ⟨z.1, z.2.1⟩
        have hl : (wipe σ (own.map (·.2))).length = σ8.length := by rw [← hw8, wipe_length]
        refine ⟨m', hm, i + 1, H', (I'.unpinned (pins := [])).weak hl (fun j v e => ?_), T.keep _ _ _ st7 fun b hb o e => (pin' b hb o e).1, fun b hb => ?_, w'⟩
        · rw [← hw8] at e
          exact (wipe_some e).1
        · obtain ⟨o, e, _⟩ := T.obj _ _ st7 b hb
          exact (pin' b hb o e).2
      cases b with
      | false =>
        simp only [Bool.false_eq_true, if_false] at q9 ⊢
        exact fin I9 q9
      | true =>
        simp only [if_true] at q9 ⊢
        refine thnF (pe s9 σ8 H9 _ I9 q9) fun z s10 ⟨yv, H10, I10, r10, acc, hD10, hz10, nx⟩ => ?_
        exact app_ok (X := X.blk s3 H3 scope ce fp) I10 hD10 hz10 r10 fun s11 I11 => fin I11 nx
  exact codeAny_compStart_list loop (T.self X.A 0 _ _ _ st4 loop)
theorem lc_core {pins : List (Addr × Obj)} {s : Shared} {σ : St} {H : Hp} {Q : VK} {elt tg iter : Expr} {ifs : List Expr} {scope : Scope} {own : List (Str × Nat)} {pos pos' : Pos} {wi : TI} {g : TG} {tt : TT} {te : TE} {use : Option (Value → Sem Unit)} {Qf : Value → Shared → Prop}
    (hc : X.calm = true) (hN : X.N.Nodup) (I : Inv X pins σ H s) (hi : PI X tg iter wi) (ok : BlkOk X.N X.env.scope scope own)
    (hg : ∀ (s : Shared) (H : Hp) (C : Addr) (cl : List (Str × Addr)) (fp : List Addr), PG (X.blk s H scope (compEnvC scope cl C X.env) fp) tg g) (ht : ∀ (s : Shared) (H : Hp) (C : Addr) (cl : List (Str × Addr)) (fp : List Addr), PTs (X.blk s H scope (compEnvC scope cl C X.env) fp) ifs tt)
    (he : ∀ (s : Shared) (H : Hp) (C : Addr) (cl : List (Str × Addr)) (fp : List Addr), PE (X.blk s H scope (compEnvC scope cl C X.env) fp) elt te) (hs : ∀ x, foldedSetIterable iter X.env x = pure x)
    (h : tLc wi g tt te (own.map (·.2)) σ H Q)
    (hRR : ∀ D C s' m H', Inv X pins σ H' s' → Q (.ref D) H' → s'.heap.Ns C m → FpOk X pins H' C → compPost (model X.prog X.w) X.A X.xe use Qf (.ref D) C (.ok .next) s') :
    wpAny (model X.prog X.w) X.A (comprehension (.ListComp elt [⟨tg, iter, ifs, 0⟩] scope pos) scope X.env pos' (newList []) false (eval iter X.env) use) Qf X.xe s :=
  lc_coreI hc hN I hi ok hg ht (fun s H C cl fp _ => he s H C cl fp) hs h hRR
theorem pe_lc {elt tg iter : Expr} {ifs : List Expr} {scope : Scope} {own : List (Str × Nat)} {pos : Pos} {wi : TI} {g : TG} {tt : TT} {te : TE} (hc : X.calm = true) (hN : X.N.Nodup) (hi : PI X tg iter wi) (ok : BlkOk X.N X.env.scope scope own)
    (hg : ∀ (s : Shared) (H : Hp) (C : Addr) (cl : List (Str × Addr)) (fp : List Addr), PG (X.blk s H scope (compEnvC scope cl C X.env) fp) tg g) (ht : ∀ (s : Shared) (H : Hp) (C : Addr) (cl : List (Str × Addr)) (fp : List Addr), PTs (X.blk s H scope (compEnvC scope cl C X.env) fp) ifs tt)
    (he : ∀ (s : Shared) (H : Hp) (C : Addr) (cl : List (Str × Addr)) (fp : List Addr), PE (X.blk s H scope (compEnvC scope cl C X.env) fp) elt te) (hs : ∀ x, foldedSetIterable iter X.env x = pure x := by intro _; rfl) :
    PE X (.ListComp elt [⟨tg, iter, ifs, 0⟩] scope pos) (tLc wi g tt te (own.map (·.2))) := by
  intro pins s σ H Q I h
  rw [eval_ListComp]
  refine lc_core hc hN I hi ok hg ht he hs h fun D C s' m H' I' q hn f => ⟨m, hn, fun h'' sb => ?_⟩
  obtain ⟨f0, f1, f2, f3, f4, f5⟩ := f
  exact ⟨.ref D, H', I'.turned (t' := s'.toks) (fun b o hb e => (sb.2 b hb).trans e) f0 f1 f3 f4 f5, rfl, q⟩
theorem ps_setLc {i : Nat} {y : Str} {py : Pos} {elt tg iter : Expr} {ifs : List Expr} {scope : Scope} {own : List (Str × Nat)} {pos spos : Pos} {wi : TI} {g : TG} {tt : TT} {te : TE} (hc : X.calm = true) (hN : X.N.Nodup) (hy : X.N[i]? = some y) (hyl : X.env.scope.names.lookup y = some .local)
    (hsw : swapsWith (.ListComp elt [⟨tg, iter, ifs, 0⟩] scope pos) (some (.Name y py)) spos.line X.env = pure true) (hi : PI X tg iter wi) (ok : BlkOk X.N X.env.scope scope own)
    (hg : ∀ (s : Shared) (H : Hp) (C : Addr) (cl : List (Str × Addr)) (fp : List Addr), PG (X.blk s H scope (compEnvC scope cl C X.env) fp) tg g) (ht : ∀ (s : Shared) (H : Hp) (C : Addr) (cl : List (Str × Addr)) (fp : List Addr), PTs (X.blk s H scope (compEnvC scope cl C X.env) fp) ifs tt)
    (he : ∀ (s : Shared) (H : Hp) (C : Addr) (cl : List (Str × Addr)) (fp : List Addr), PE (X.blk s H scope (compEnvC scope cl C X.env) fp) elt te) (hs : ∀ x, foldedSetIterable iter X.env x = pure x := by intro _; rfl) :
    PS X (.Assign [.Name y py] (.ListComp elt [⟨tg, iter, ifs, 0⟩] scope pos) spos) (tAsg (tLc wi g tt te (own.map (·.2))) (gName i)) := by
  intro pins s σ H D I h
  rw [exec_Assign_Name_used _ _ _ _ hsw]
  refine wpAny_bind (wpAny_standAt (wpAny_bind ?_))
  show wpAny _ X.A (do let _ ← comprehension (.ListComp elt [⟨tg, iter, ifs, 0⟩] scope pos) scope X.env (firstIterPos [⟨tg, iter, ifs, 0⟩] pos) (newList []) false (eval iter X.env) (some (assign (.Name y py) X.env))) _ _ s
  have h : tLc wi g tt te (own.map (·.2)) σ H (fun x H1 => gName i x σ H1 D.nx) := h
  refine wpAny_bind (thn (lc_core (Qf := fun _ s' => SP X pins D .next s') hc hN I hi ok hg ht he hs h fun L C s' m H' I' q hn f => ?_) fun _ s' hq => wpAny_pure (wpAny_pure hq))
  show wpAny _ _ (assign (.Name y py) X.env (.ref L)) _ _ _
  refine wpAny_assign_Name (store_ok2 (v := V.ref L) I' hN hy (.inl hyl) rfl (fun s2 I2 ⟨a, sb, ha⟩ => ?_) (.inr hyl))
  obtain ⟨f0, f1, f2, f3, f4, f5⟩ := f
  have haC : C ≠ a := by
    rcases ha with z | z
    · rw [z]; exact f1
    · exact fun e => f4 y a z e.symm
  refine ⟨m, hn.sameBut sb haC, fun h3 sb3 => ?_⟩
  exact ⟨_, H', I2.turned (t' := s2.toks) (fun b o hb e => (sb3.2 b hb).trans e) f0 f1 f3 f4 f5, q⟩
theorem sw_true {elt : Expr} {gs : List Comprehension} {scope : Scope} {pos py : Pos} {y : Str} {l : Nat} {env : Env} (hk : env.scope.kind = .function) (hy : env.scope.names.lookup y = some .local) (hl : (py.line == pos.line) = true)
    (ha : (scope.names.any fun (n, k) => n == y && (k == .local || k == .cell)) = false) : swapsWith (.ListComp elt gs scope pos) (some (.Name y py)) l env = pure true := by
  have ky : env.kindOf y = some .local := hy
  have hb : env.blockKind = .function := by unfold Env.blockKind; rw [hk]; rfl
  unfold swapsWith
  simp only [hb, ky, ha, Expr.pos, hl]
  rfl
end

def blkC (N : List Str) (sc scope : Scope) (own : List (Str × Nat)) : Bool :=
  (match scope.kind with | .function => true | _ => false) && (scope.names.all fun y => decide (scope.names.lookup y.1 = some y.2)) && (own.all fun p => decide (N[p.2]? = some p.1)) &&
    (scope.names.all fun y => match y.2 with
      | .free => (match sc.names.lookup y.1 with | some .cell => true | some .free => true | _ => false)
      | .local => decide (y.1 ∈ own.map (·.1)) || decide (y.1 ∉ N)
      | .cell => decide (y.1 ∈ own.map (·.1)) || decide (y.1 ∉ N)
      | _ => true)
theorem blkOk_by {N : List Str} {sc scope : Scope} {own : List (Str × Nat)} (h : blkC N sc scope own = true) : BlkOk N sc scope own := by
  unfold blkC at h
  simp only [Bool.and_eq_true, List.all_eq_true, decide_eq_true_eq] at h
  obtain ⟨⟨⟨h1, h2⟩, h3⟩, h4⟩ := h
  refine ⟨?_, h2, h3, fun y hy e => ?_, fun y hy e => ?_⟩
  · split at h1
    · assumption
    · cases h1
  · have q := h4 y hy
    simp only [e] at q
    split at q <;> first | exact .inl (by assumption) | exact .inr (by assumption) | cases q
  · have q := h4 y hy
    rcases e with e | e <;> (simp only [e, Bool.or_eq_true, decide_eq_true_eq] at q; exact q)
end L2

namespace L2
open PySem PySem.Spec PyProof.Rows

section
variable {prog : Program} {w : World} {A : Around} {R : Result → Shared → Prop} {s : Shared} {elt t0 i0 t1 i1 : Expr} {ifs0 ifs1 : List Expr} {scope : Scope} {pos : Pos} {it acc : Value} {env : Env}
end

section
variable {X : Cx}
end
end L2

namespace L2
open PySem PySem.Spec PyProof.Rows

section
variable {κ : Type} [DecidableEq κ]
def valV (kvs : List (κ × V)) (k : κ) : Option V := (kvs.find? fun kv => decide (kv.1 = k)).map (·.2)
def putK (kvs : List (κ × V)) (k : κ) (v : V) : List (κ × V) :=
  if (kvs.any fun kv => decide (kv.1 = k)) = true then kvs.map (fun kv => if kv.1 = k then (kv.1, v) else kv) else kvs ++ [(k, v)]
def dropK (kvs : List (κ × V)) (k : κ) : List (κ × V) := kvs.filter fun kv => decide (kv.1 ≠ k)

theorem valV_pos {p : κ × V} {r : List (κ × V)} {k : κ} (e : p.1 = k) : valV (p :: r) k = some p.2 := by simp [valV, List.find?_cons, e]
theorem valV_neg {p : κ × V} {r : List (κ × V)} {k : κ} (e : ¬ p.1 = k) : valV (p :: r) k = valV r k := by simp [valV, List.find?_cons, e]
theorem valV_any (k : κ) : ∀ kvs : List (κ × V), (kvs.any fun kv => decide (kv.1 = k)) = (valV kvs k).isSome
  | [] => rfl
  | p :: r => by
    rw [List.any_cons]
    by_cases e : p.1 = k
    · simp only [valV_pos e, decide_eq_true e, Bool.true_or, Option.isSome_some]
    · rw [valV_neg e, decide_eq_false e, Bool.false_or]; exact valV_any k r
theorem valV_map (k j : κ) (y : V) : ∀ kvs : List (κ × V), valV (kvs.map fun kv => if kv.1 = k then (kv.1, y) else kv) j = (valV kvs j).map fun x => if j = k then y else x
  | [] => rfl
  | p :: r => by
    have ih := valV_map k j y r
    rw [List.map_cons]
    by_cases h : p.1 = k
    · rw [if_pos h]
      by_cases e : p.1 = j
      · rw [valV_pos (p := (p.1, y)) e, valV_pos e, Option.map_some, if_pos (e.symm.trans h)]
      · rw [valV_neg (p := (p.1, y)) e, valV_neg e, ih]
    · rw [if_neg h]
      by_cases e : p.1 = j
      · rw [valV_pos (p := p) e, valV_pos e, Option.map_some, if_neg (fun z => h (e.trans z))]
      · rw [valV_neg (p := p) e, valV_neg e, ih]
theorem valV_snoc (k j : κ) (y : V) : ∀ kvs : List (κ × V), valV kvs k = none → valV (kvs ++ [(k, y)]) j = if j = k then some y else valV kvs j
  | [], _ => by
    by_cases e : k = j
    · rw [if_pos e.symm]; exact valV_pos (p := (k, y)) e
    · rw [if_neg (fun z => e z.symm)]; exact valV_neg (p := (k, y)) e
  | p :: r, hn => by
    rw [List.cons_append]
    have hk : ¬ p.1 = k := fun z => by rw [valV_pos z] at hn; cases hn
    rw [valV_neg hk] at hn
    have ih := valV_snoc k j y r hn
    by_cases e : p.1 = j
    · rw [valV_pos e, valV_pos e, if_neg (fun z => hk (e.trans z))]
    · rw [valV_neg e, valV_neg e, ih]
theorem valV_put (kvs : List (κ × V)) (k j : κ) (y : V) : valV (putK kvs k y) j = if j = k then some y else valV kvs j := by
  unfold putK
  by_cases a : (kvs.any fun kv => decide (kv.1 = k)) = true
  · rw [if_pos a, valV_map]
    rw [valV_any] at a
    by_cases e : j = k
    · obtain ⟨x, hx⟩ := Option.isSome_iff_exists.mp a
      rw [if_pos e, e, hx, Option.map_some, if_pos rfl]
    · rw [if_neg e]
      cases valV kvs j with
      | none => rfl
      | some x => rw [Option.map_some, if_neg e]
  · rw [if_neg a]
    refine valV_snoc k j y kvs ?_
    rw [valV_any] at a
    cases q : valV kvs k with
    | none => rfl
    | some x => rw [q] at a; exact (a rfl).elim
theorem length_putK (kvs : List (κ × V)) (k : κ) (v : V) : (putK kvs k v).length ≤ kvs.length + 1 := by
  unfold putK
  split
  · rw [List.length_map]; omega
  · rw [List.length_append, List.length_cons, List.length_nil]; omega
theorem putK_new {kvs : List (κ × V)} {k : κ} (v : V) (h : valV kvs k = none) : putK kvs k v = kvs ++ [(k, v)] := by
  unfold putK
  rw [valV_any, h]
  exact if_neg (by decide)

theorem RelO.isSome_eq {o : Option V} {u : Option Value} (r : RelO o u) : o.isSome = u.isSome := by
  cases o with
  | none => cases u with
    | none => rfl
    | some _ => exact (show False from r).elim
  | some _ => cases u with
    | none => exact (show False from r).elim
    | some _ => rfl
theorem RelO.getD {o : Option V} {u : Option Value} {d : V} {d' : Value} (r : RelO o u) (rd : RelV d d') : RelV (o.getD d) (u.getD d') := by
  cases o with
  | none => cases u with
    | none => exact rd
    | some _ => exact (show False from r).elim
  | some _ => cases u with
    | none => exact (show False from r).elim
    | some _ => exact r

theorem KV.val {kvs : List (κ × V)} {vs : List (κ × Value)} (r : KV kvs vs) (k : κ) : RelO (valV kvs k) (valueAt vs k) := by
  unfold KV at r
  induction r with
  | nil => exact True.intro
  | @cons p q ps qs h t ih =>
    obtain ⟨h1, h2⟩ := h
    by_cases e : p.1 = k
    · have e' : q.1 = k := h1.symm.trans e
      have b : valueAt (q :: qs) k = some q.2 := by simp [valueAt, List.find?_cons, e']
      rw [valV_pos e, b]; exact h2
    · have e' : ¬ q.1 = k := fun z => e (h1.trans z)
      have b : valueAt (q :: qs) k = valueAt qs k := by simp [valueAt, List.find?_cons, e']
      rw [valV_neg e, b]; exact ih
theorem KV.any {kvs : List (κ × V)} {vs : List (κ × Value)} (r : KV kvs vs) (k : κ) : (kvs.any fun kv => decide (kv.1 = k)) = vs.any fun kv => decide (kv.1 = k) := by
  unfold KV at r
  induction r with
  | nil => rfl
  | cons h t ih => rw [List.any_cons, List.any_cons, ih, h.1]
theorem KV.repl {kvs : List (κ × V)} {vs : List (κ × Value)} (r : KV kvs vs) (k : κ) {y : V} {u : Value} (ry : RelV y u) :
    KV (kvs.map fun kv => if kv.1 = k then (kv.1, y) else kv) (vs.map fun kv => if kv.1 = k then (kv.1, u) else kv) := by
  unfold KV at r ⊢
  induction r with
  | nil => exact .nil
  | @cons p q ps qs h t ih =>
    rw [List.map_cons, List.map_cons]
    refine .cons ?_ ih
    obtain ⟨h1, h2⟩ := h
    by_cases e : p.1 = k
    · rw [if_pos e, if_pos (h1.symm.trans e)]; exact ⟨h1, ry⟩
    · rw [if_neg e, if_neg (fun z => e (h1.trans z))]; exact ⟨h1, h2⟩
theorem KV.put {kvs : List (κ × V)} {vs : List (κ × Value)} (r : KV kvs vs) (k : κ) {y : V} {u : Value} (ry : RelV y u) : KV (putK kvs k y) (stored vs k u) := by
  unfold putK stored
  rw [r.any k]
  by_cases e : (vs.any fun kv => decide (kv.1 = k)) = true
  · rw [if_pos e, if_pos e]; exact r.repl k ry
  · rw [if_neg e, if_neg e]; exact Paired.snoc r ⟨rfl, ry⟩
theorem KV.drop {kvs : List (κ × V)} {vs : List (κ × Value)} (r : KV kvs vs) (k : κ) : KV (dropK kvs k) (without vs k) := by
  unfold KV at r ⊢
  unfold dropK without
  induction r with
  | nil => exact .nil
  | @cons p q ps qs h t ih =>
    obtain ⟨h1, h2⟩ := h
    rw [List.filter_cons, List.filter_cons]
    by_cases e : p.1 = k
    · have a : ¬ decide (p.1 ≠ k) = true := by simp [e]
      have b : ¬ decide (q.1 ≠ k) = true := by simp [h1.symm.trans e]
      rw [if_neg a, if_neg b]; exact ih
    · have e' : ¬ q.1 = k := fun z => e (h1.trans z)
      have a : decide (p.1 ≠ k) = true := by simp [e]
      have b : decide (q.1 ≠ k) = true := by simp [e']
      rw [if_pos a, if_pos b]; exact .cons ⟨h1, h2⟩ ih
theorem KV.keys {kvs : List (κ × V)} {vs : List (κ × Value)} (r : KV kvs vs) : kvs.map (·.1) = vs.map (·.1) := by
  unfold KV at r
  induction r with
  | nil => rfl
  | cons h t ih => rw [List.map_cons, List.map_cons, ih, h.1]
theorem KV.length {kvs : List (κ × V)} {vs : List (κ × Value)} (r : KV kvs vs) : kvs.length = vs.length := Paired.length r
end


theorem kV_is {P : Program} {w : World} {k : Key} {u : Value} (r : RelV (kV k) u) : (mixKind P w).is k u = true := by
  cases k with
  | inl i => obtain ⟨t, e⟩ := (show ∃ t, u = Value.int i t from r); subst e; exact mixKind_int P w i t
  | inr x => obtain ⟨t, e⟩ := (show ∃ t, u = Value.str x t from r); subst e; exact mixKind_str P w x t
theorem items_are {P : Program} {w : World} : ∀ {ks : List Key} {us : List Value}, Vals (ks.map kV) us → ItemsAre (mixKind P w) ks us
  | [], _, r => by rw [List.map_nil] at r; cases r; exact .nil
  | k :: ks, _, r => by
    rw [List.map_cons] at r
    cases r with
    | cons h t => exact .cons (kV_is h) (items_are t)

abbrev KT (H : Hp) : List (List Key × V) → List (List Key × Addr × Value) → Prop := Paired fun p q => p.1 = q.1 ∧ H q.2.1 = some (.tup (p.1.map kV)) ∧ RelV p.2 q.2.2
theorem KT.val {H : Hp} {kvs : List (List Key × V)} {xs : List (List Key × Addr × Value)} (r : KT H kvs xs) (k : List Key) : RelO (valV kvs k) ((atKey xs k).map (·.2)) := by
  induction r with
  | nil => exact True.intro
  | @cons p q ps qs h t ih =>
    obtain ⟨h1, _, h2⟩ := h
    by_cases e : p.1 = k
    · have e' : q.1 = k := h1.symm.trans e
      have b : atKey (q :: qs) k = some q.2 := by simp [atKey, List.find?_cons, e']
      rw [valV_pos e, b]; exact h2
    · have e' : ¬ q.1 = k := fun z => e (h1.trans z)
      have b : atKey (q :: qs) k = atKey qs k := by simp [atKey, List.find?_cons, e']
      rw [valV_neg e, b]; exact ih
theorem KT.repl {H : Hp} {kvs : List (List Key × V)} {xs : List (List Key × Addr × Value)} (r : KT H kvs xs) (k : List Key) {y : V} {u : Value} (ry : RelV y u) :
    KT H (kvs.map fun kv => if kv.1 = k then (kv.1, y) else kv) (xs.map (putAt k u)) := by
  induction r with
  | nil => exact .nil
  | @cons p q ps qs h t ih =>
    rw [List.map_cons, List.map_cons]
    refine .cons ?_ ih
    obtain ⟨h1, h2, h3⟩ := h
    unfold putAt
    by_cases e : p.1 = k
    · rw [if_pos e, if_pos (h1.symm.trans e)]; exact ⟨h1, h2, ry⟩
    · rw [if_neg e, if_neg (fun z => e (h1.trans z))]; exact ⟨h1, h2, h3⟩
theorem KT.put {H : Hp} {kvs : List (List Key × V)} {xs : List (List Key × Addr × Value)} (r : KT H kvs xs) (k : List Key) {b : Addr} {y : V} {u : Value} (hb : H b = some (.tup (k.map kV))) (ry : RelV y u) :
    KT H (putK kvs k y) (storedH xs k b u) := by
  have e : (kvs.any fun kv => decide (kv.1 = k)) = (atKey xs k).isSome := by
    rw [valV_any, (r.val k).isSome_eq, Option.isSome_map]
  unfold putK storedH
  rw [e]
  by_cases q : (atKey xs k).isSome = true
  · rw [if_pos q, if_pos q]; exact r.repl k ry
  · rw [if_neg q, if_neg q]; exact Paired.snoc r ⟨rfl, hb, ry⟩
theorem KT.keeps {H H' : Hp} {kvs : List (List Key × V)} {xs : List (List Key × Addr × Value)} (r : KT H kvs xs) (ht : ∀ b ys, H b = some (.tup ys) → H' b = some (.tup ys)) : KT H' kvs xs :=
  Paired.mapP r fun _ _ z => ⟨z.1, ht _ _ z.2.1, z.2.2⟩

abbrev KN (H : Hp) : List (PKey × V) → List (PKey × Addr × Value) → Prop := Paired fun p q => p.1 = q.1 ∧ KeyN H p.1 q.2.1 ∧ RelV p.2 q.2.2
theorem KN.val {H : Hp} {kvs : List (PKey × V)} {xs : List (PKey × Addr × Value)} (r : KN H kvs xs) (k : PKey) : RelO (valV kvs k) ((atKey xs k).map (·.2)) := by
  induction r with
  | nil => exact True.intro
  | @cons p q ps qs h t ih =>
    obtain ⟨h1, _, h2⟩ := h
    by_cases e : p.1 = k
    · have e' : q.1 = k := h1.symm.trans e
      have b : atKey (q :: qs) k = some q.2 := by simp [atKey, List.find?_cons, e']
      rw [valV_pos e, b]; exact h2
    · have e' : ¬ q.1 = k := fun z => e (h1.trans z)
      have b : atKey (q :: qs) k = atKey qs k := by simp [atKey, List.find?_cons, e']
      rw [valV_neg e, b]; exact ih
theorem KN.repl {H : Hp} {kvs : List (PKey × V)} {xs : List (PKey × Addr × Value)} (r : KN H kvs xs) (k : PKey) {y : V} {u : Value} (ry : RelV y u) :
    KN H (kvs.map fun kv => if kv.1 = k then (kv.1, y) else kv) (xs.map (putAt k u)) := by
  induction r with
  | nil => exact .nil
  | @cons p q ps qs h t ih =>
    rw [List.map_cons, List.map_cons]
    refine .cons ?_ ih
    obtain ⟨h1, h2, h3⟩ := h
    unfold putAt
    by_cases e : p.1 = k
    · rw [if_pos e, if_pos (h1.symm.trans e)]; exact ⟨h1, h2, ry⟩
    · rw [if_neg e, if_neg (fun z => e (h1.trans z))]; exact ⟨h1, h2, h3⟩
theorem KN.put {H : Hp} {kvs : List (PKey × V)} {xs : List (PKey × Addr × Value)} (r : KN H kvs xs) (k : PKey) {b : Addr} {y : V} {u : Value} (hb : KeyN H k b) (ry : RelV y u) :
    KN H (putK kvs k y) (storedH xs k b u) := by
  have e : (kvs.any fun kv => decide (kv.1 = k)) = (atKey xs k).isSome := by
    rw [valV_any, (r.val k).isSome_eq, Option.isSome_map]
  unfold putK storedH
  rw [e]
  by_cases q : (atKey xs k).isSome = true
  · rw [if_pos q, if_pos q]; exact r.repl k ry
  · rw [if_neg q, if_neg q]; exact Paired.snoc r ⟨rfl, hb, ry⟩
theorem KN.keeps {H H' : Hp} {kvs : List (PKey × V)} {xs : List (PKey × Addr × Value)} (r : KN H kvs xs) (ht : ∀ b ys, H b = some (.tup ys) → H' b = some (.tup ys)) : KN H' kvs xs :=
  Paired.mapP r fun _ _ z => ⟨z.1, z.2.1.keeps ht, z.2.2⟩

section
variable {P : Program} {w : World} {H : Hp} {h : Heap} {a : Addr}
theorem rd_of {u : HO} (ok : HOk P w H h) (e : Rd H a u) : ObjOk P w H h a u := e.ok ok
theorem dk_rd {kvs : List (Key × V)} (ok : HOk P w H h) (e : Rd H a (.dK kvs)) : kvs.length ≤ sizeLine ∧ (a == sysModules) = false ∧ ∃ vs, KV kvs vs ∧ h.DictOf (mixKind P w) a vs :=
  show ObjOk P w H h a (.dK kvs) from rd_of ok e
theorem dk_of {kvs : List (Key × V)} (ok : HOk P w H h) (e : H a = some (.dK kvs)) : kvs.length ≤ sizeLine ∧ (a == sysModules) = false ∧ ∃ vs, KV kvs vs ∧ h.DictOf (mixKind P w) a vs := dk_rd ok (.inl e)
theorem key_of {ks : List Key} (ok : HOk P w H h) (e : H a = some (.tup (ks.map kV))) : (tupleKind (mixKind P w)).is h ks a := by
  obtain ⟨_, its, r, o, h1, h2, n, h3, _⟩ := (show ObjOk P w H h a (.tup (ks.map kV)) from ok a _ e)
  exact ⟨o, its.toArray, n, h1, h2, h3, by simpa using items_are r⟩
theorem dt_rd {kvs : List (List Key × V)} (ok : HOk P w H h) (e : Rd H a (.dT kvs)) : kvs.length ≤ sizeLine ∧ (a == sysModules) = false ∧
    ∃ xs, KT H kvs xs ∧ h.DictOfH (tupleKind (mixKind P w)) a xs := by
  obtain ⟨z, y, xs, r, o, es, ep, h1, h2, h3, h4, h5⟩ := (show ObjOk P w H h a (.dT kvs) from rd_of ok e)
  refine ⟨z, y, xs, r, o, es, ep, h1, h2, h3, h4, fun x hx => ?_, h5⟩
  have all : ∀ {l : List (List Key × V)} {m : List (List Key × Addr × Value)}, KT H l m → ∀ x ∈ m, (tupleKind (mixKind P w)).is h x.1 x.2.1 := by
    intro l m q
    induction q with
    | nil => intro x hx; exact nomatch hx
    | @cons p q ps qs hq t ih =>
      intro x hx
      rcases List.mem_cons.mp hx with e | hx
      · subst e
        exact key_of ok (by rw [← hq.1]; exact hq.2.1)
      · exact ih x hx
  exact all r x hx
theorem dt_of {kvs : List (List Key × V)} (ok : HOk P w H h) (e : H a = some (.dT kvs)) : kvs.length ≤ sizeLine ∧ (a == sysModules) = false ∧
    ∃ xs, KT H kvs xs ∧ h.DictOfH (tupleKind (mixKind P w)) a xs := dt_rd ok (.inl e)
theorem keyN_of {k : PKey} (ok : HOk P w H h) (e : KeyN H k a) : (pairKind P w).is h k a := by
  obtain ⟨_, its, r, o, g1, g2, n, g3, _⟩ := (show ObjOk P w H h a (.tup [.int k.1, .bl k.2]) from ok a _ e)
  cases r with
  | cons r1 r2 => cases r2 with
    | cons r2 r3 =>
      cases r3
      obtain ⟨t, r1⟩ := r1
      subst r1
      have r2 := r2.symm
      subst r2
      exact ⟨o, n, t, g1, g2, g3⟩
theorem dn_rd {kvs : List (PKey × V)} (ok : HOk P w H h) (e : Rd H a (.dN kvs)) : kvs.length ≤ sizeLine ∧ (a == sysModules) = false ∧
    ∃ xs, KN H kvs xs ∧ h.DictOfH (pairKind P w) a xs := by
  obtain ⟨z, y, xs, r, o, es, ep, h1, h2, h3, h4, h5⟩ := (show ObjOk P w H h a (.dN kvs) from rd_of ok e)
  refine ⟨z, y, xs, r, o, es, ep, h1, h2, h3, h4, fun x hx => ?_, h5⟩
  have all : ∀ {l : List (PKey × V)} {m : List (PKey × Addr × Value)}, KN H l m → ∀ x ∈ m, (pairKind P w).is h x.1 x.2.1 := by
    intro l m q
    induction q with
    | nil => intro x hx; exact nomatch hx
    | @cons p q ps qs hq t ih =>
      intro x hx
      rcases List.mem_cons.mp hx with e | hx
      · subst e
        exact keyN_of ok (by rw [← hq.1]; exact hq.2.1)
      · exact ih x hx
  exact all r x hx
theorem dn_of {kvs : List (PKey × V)} (ok : HOk P w H h) (e : H a = some (.dN kvs)) : kvs.length ≤ sizeLine ∧ (a == sysModules) = false ∧
    ∃ xs, KN H kvs xs ∧ h.DictOfH (pairKind P w) a xs := dn_rd ok (.inl e)
end

def DGet (H : Hp) (a : Addr) (y : V) (r : Option V) : Prop :=
  (∃ kvs k, Rd H a (.dK kvs) ∧ y = kV k ∧ r = valV kvs k) ∨ (∃ kvs k b, Rd H a (.dT kvs) ∧ y = .ref b ∧ H b = some (.tup (k.map kV)) ∧ r = valV kvs k) ∨ ∃ kvs k b, Rd H a (.dN kvs) ∧ y = .ref b ∧ KeyN H k b ∧ r = valV kvs k
def DPut (H : Hp) (a : Addr) (y v : V) (H' : Hp) : Prop :=
  (∃ kvs k, H a = some (.dK kvs) ∧ y = kV k ∧ kvs.length < sizeLine ∧ H' = upd H a (.dK (putK kvs k v))) ∨
  (∃ kvs k b, H a = some (.dT kvs) ∧ y = .ref b ∧ H b = some (.tup (k.map kV)) ∧ kvs.length < sizeLine ∧ H' = upd H a (.dT (putK kvs k v))) ∨
  ∃ kvs k b, H a = some (.dN kvs) ∧ y = .ref b ∧ KeyN H k b ∧ kvs.length < sizeLine ∧ H' = upd H a (.dN (putK kvs k v))
theorem DGet.k {H : Hp} {a : Addr} {kvs : List (Key × V)} {k : Key} (e : H a = some (.dK kvs)) : DGet H a (kV k) (valV kvs k) := .inl ⟨kvs, k, .inl e, rfl, rfl⟩
theorem DGet.t {H : Hp} {a b : Addr} {kvs : List (List Key × V)} {k : List Key} (e : H a = some (.dT kvs)) (eb : H b = some (.tup (k.map kV))) : DGet H a (.ref b) (valV kvs k) := .inr (.inl ⟨kvs, k, b, .inl e, rfl, eb, rfl⟩)
theorem DGet.n {H : Hp} {a b : Addr} {kvs : List (PKey × V)} {k : PKey} (e : H a = some (.dN kvs)) (eb : KeyN H k b) : DGet H a (.ref b) (valV kvs k) := .inr (.inr ⟨kvs, k, b, .inl e, rfl, eb, rfl⟩)
theorem DPut.k {H : Hp} {a : Addr} {kvs : List (Key × V)} {k : Key} {v : V} (e : H a = some (.dK kvs)) (hl : kvs.length < sizeLine) : DPut H a (kV k) v (upd H a (.dK (putK kvs k v))) := .inl ⟨kvs, k, e, rfl, hl, rfl⟩
theorem DPut.t {H : Hp} {a b : Addr} {kvs : List (List Key × V)} {k : List Key} {v : V} (e : H a = some (.dT kvs)) (eb : H b = some (.tup (k.map kV))) (hl : kvs.length < sizeLine) :
    DPut H a (.ref b) v (upd H a (.dT (putK kvs k v))) := .inr (.inl ⟨kvs, k, b, e, rfl, eb, hl, rfl⟩)
theorem DPut.n {H : Hp} {a b : Addr} {kvs : List (PKey × V)} {k : PKey} {v : V} (e : H a = some (.dN kvs)) (eb : KeyN H k b) (hl : kvs.length < sizeLine) : DPut H a (.ref b) v (upd H a (.dN (putK kvs k v))) := .inr (.inr ⟨kvs, k, b, e, rfl, eb, hl, rfl⟩)


section
variable {X : Cx} {pins : List (Addr × Obj)} {σ : St} {H : Hp} {s : Shared} {a : Addr} {y v : V} {u r : Value} {o : Option V} {A : Around} {E : Value → Shared → Prop}

theorem Inv.big (I : Inv X pins σ H s) : sysModules < s.heap.objs.size := by
  have h : mainGlobals < s.heap.objs.size := (I.mod.glob.keeps I.bk).lt
  exact Nat.lt_trans (by decide) h

theorem d_getItem {Q : Value → Shared → Prop} (hu : A.units + 4 < cLine) (I : Inv X pins σ H s) (g : DGet H a y (some v)) (ry : RelV y u) (h : ∀ w' s', Inv X pins σ H s' → RelV v w' → Q w' s') :
    wpAny (model X.prog X.w) A (getItem (.ref a) u) Q E s := by
  rcases g with ⟨kvs, k, e, ey, l⟩ | ⟨kvs, k, b, e, ey, eb, l⟩ | ⟨kvs, k, b, e, ey, eb, l⟩
  · subst ey
    obtain ⟨z, hd, vs, rel, dd⟩ := dk_rd I.hok e
    obtain ⟨w', hw, rw'⟩ := RelO.some_of (v := v) (o := valueAt vs k) (by rw [l]; exact rel.val k)
    exact wpAny_getItem_of (kV_is ry) dd.mapOf hw (h w' _ (I.tok _) rw')
  · subst ey
    cases (show u = Value.ref b from ry)
    obtain ⟨z, hd, xs, rel, dd⟩ := dt_rd I.hok e
    obtain ⟨w', hw, rw'⟩ := RelO.some_of (v := v) (o := (atKey xs k).map (·.2)) (by rw [l]; exact rel.val k)
    obtain ⟨p, hp, hp2⟩ := Option.map_eq_some_iff.mp hw
    refine wpAny_getItem_heap (tupleKind_room_in1 (Nat.lt_of_le_of_lt (Nat.add_le_add_left (by decide) _) hu)) (key_of I.hok eb) dd hp ?_
    rw [hp2]
    exact h w' _ (I.tok _) rw'
  · subst ey
    cases (show u = Value.ref b from ry)
    obtain ⟨z, hd, xs, rel, dd⟩ := dn_rd I.hok e
    obtain ⟨w', hw, rw'⟩ := RelO.some_of (v := v) (o := (atKey xs k).map (·.2)) (by rw [l]; exact rel.val k)
    obtain ⟨p, hp, hp2⟩ := Option.map_eq_some_iff.mp hw
    refine wpAny_getItem_heap ((show A.units + 1 + 3 < cLine from hu)) (keyN_of I.hok eb) dd hp ?_
    rw [hp2]
    exact h w' _ (I.tok _) rw'
theorem d_notIn {Q : Value → Shared → Prop} (hu : A.units + 4 < cLine) (I : Inv X pins σ H s) (g : DGet H a y o) (ry : RelV y u) (h : ∀ s', Inv X pins σ H s' → Q (.bool (!o.isSome)) s') :
    wpAny (model X.prog X.w) A (compareOp .NotIn u (.ref a)) Q E s := by
  rcases g with ⟨kvs, k, e, ey, l⟩ | ⟨kvs, k, b, e, ey, eb, l⟩ | ⟨kvs, k, b, e, ey, eb, l⟩
  · subst ey
    obtain ⟨z, hd, vs, rel, dd⟩ := dk_rd I.hok e
    refine wpAny_notIn_of (kV_is ry) hd dd.mapOf ?_
    rw [← (rel.val k).isSome_eq, ← l]
    exact h _ (I.tok _)
  · subst ey
    cases (show u = Value.ref b from ry)
    obtain ⟨z, hd, xs, rel, dd⟩ := dt_rd I.hok e
    refine wpAny_notIn_heap (tupleKind_room_in1 (Nat.lt_of_le_of_lt (Nat.add_le_add_left (by decide) _) hu)) (key_of I.hok eb) hd dd ?_
    have q := (rel.val k).isSome_eq
    rw [Option.isSome_map] at q
    rw [← q, ← l]
    exact h _ (I.tok _)
  · subst ey
    cases (show u = Value.ref b from ry)
    obtain ⟨z, hd, xs, rel, dd⟩ := dn_rd I.hok e
    refine wpAny_notIn_heap ((show A.units + 1 + 3 < cLine from hu)) (keyN_of I.hok eb) hd dd ?_
    have q := (rel.val k).isSome_eq
    rw [Option.isSome_map] at q
    rw [← q, ← l]
    exact h _ (I.tok _)
theorem d_write {h' : Heap} {t' : Nat} {ob : HO} (I : Inv X pins σ H s) (mu : Mut (H a)) (hs : Heap.SameBut a s.heap h') (he : ∃ q, h'.get? a = some q) (new : ObjOk X.prog X.w (upd H a ob) h' a ob) :
    Inv X pins σ (upd H a ob) { s with heap := h', toks := t' } :=
  I.write (x := a) (e := a) mu (.inl rfl) (fun b q hb z => (hs.2 b hb).trans z) he new
theorem dk_new {P : Program} {w : World} {H' : Hp} {h' : Heap} {kvs : List (Key × V)} {vs : List (Key × Value)} (z : kvs.length ≤ sizeLine) (hd : (a == sysModules) = false) (rel : KV kvs vs) (dd : h'.DictOf (mixKind P w) a vs) :
    ObjOk P w H' h' a (.dK kvs) := ⟨z, hd, vs, rel, dd⟩
theorem d_setItem {H' : Hp} {Q : Unit → Shared → Prop} (hu : A.units + 4 < cLine) (I : Inv X pins σ H s) (g : DPut H a y v H') (ry : RelV y u) (rv : RelV v r) (h : ∀ s', Inv X pins σ H' s' → Q () s') :
    wpAny (model X.prog X.w) A (setItem (.ref a) u r) Q E s := by
  rcases g with ⟨kvs, k, e, ey, l, eH⟩ | ⟨kvs, k, b, e, ey, eb, l, eH⟩ | ⟨kvs, k, b, e, ey, eb, l, eH⟩
  · subst ey eH
    obtain ⟨z, hd, vs, rel, dd⟩ := dk_of I.hok e
    have hz : vs.length ≤ sizeLine := by rw [← rel.length]; exact z
    have hl : (putK kvs k v).length ≤ sizeLine := by have := length_putK kvs k v; omega
    refine wpAny_setItem_pairs (hsz := hz) (kV_is ry) dd fun h' dd' hs => h _ ?_
    have he : ∃ q, h'.get? a = some q := let ⟨q, _, _, hq, _⟩ := dd'; ⟨q, hq⟩
    exact d_write I (by rw [e]; exact True.intro) hs he (dk_new hl hd (rel.put k rv) dd')
  · subst ey eH
    cases (show u = Value.ref b from ry)
    obtain ⟨z, hd, xs, rel, dd⟩ := dt_of I.hok e
    have hz : xs.length ≤ sizeLine := by rw [← Paired.length rel]; exact z
    have hl : (putK kvs k v).length ≤ sizeLine := by have := length_putK kvs k v; omega
    refine wpAny_setItem_heap (hsz := hz) (tupleKind_room_in1 (Nat.lt_of_le_of_lt (Nat.add_le_add_left (by decide) _) hu)) (key_of I.hok eb) dd fun h' dd' hs => h _ ?_
    obtain ⟨q, es, ep, hq, h2, h3, h4, _, h5⟩ := dd'
    refine d_write I (by rw [e]; exact True.intro) hs ⟨q, hq⟩ ⟨hl, hd, _, (rel.put k eb rv).keeps fun c ys ec => ?_, q, es, ep, hq, h2, h3, h4, h5⟩
    rw [upd_ne (ne_of ec e (fun z => nomatch z))]
    exact ec
  · subst ey eH
    cases (show u = Value.ref b from ry)
    obtain ⟨z, hd, xs, rel, dd⟩ := dn_of I.hok e
    have hz : xs.length ≤ sizeLine := by rw [← Paired.length rel]; exact z
    have hl : (putK kvs k v).length ≤ sizeLine := by have := length_putK kvs k v; omega
    refine wpAny_setItem_heap (hsz := hz) ((show A.units + 1 + 3 < cLine from hu)) (keyN_of I.hok eb) dd fun h' dd' hs => h _ ?_
    obtain ⟨q, es, ep, hq, h2, h3, h4, _, h5⟩ := dd'
    refine d_write I (by rw [e]; exact True.intro) hs ⟨q, hq⟩ ⟨hl, hd, _, (rel.put k eb rv).keeps fun c ys ec => ?_, q, es, ep, hq, h2, h3, h4, h5⟩
    rw [upd_ne (ne_of ec e (fun z => nomatch z))]
    exact ec
end

section
variable {X : Cx} {pins : List (Addr × Obj)} {σ : St} {H : Hp} {s : Shared} {a : Addr} {kvs : List (Key × V)} {k : Key} {u : Value} {A : Around} {E : Value → Shared → Prop}
theorem d_len {Q : Value → Shared → Prop} (I : Inv X pins σ H s) (e : Rd H a (.dK kvs)) (h : ∀ t s', Inv X pins σ H s' → Q (.int kvs.length t) s') : wpAny (model X.prog X.w) A (call (.builtin "len") [.ref a]) Q E s := by
  obtain ⟨z, hd, vs, rel, dd⟩ := dk_rd I.hok e
  refine call_len_dict hd dd (by rw [← rel.length]; rw [sizeLine_eq] at z; omega) ?_
  rw [← rel.length]
  exact h _ _ (I.tok _)
end


def NoSl (i : Expr) : Prop := ∀ ov iv, subscripted i false ov iv = operate [ov, iv] (getItem ov iv)
theorem subD_of {prog : Program} {w : World} {A : Around} {E : Value → Shared → Prop} {s : Shared} {env : Env} {value slice : Expr} {pos : Pos} {T id : String} {Q : Value → Shared → Prop}
    (hl : typeLookup (.type T) "__getitem__" = pure (some (.builtin id))) (hs : NoSl slice)
    (h : wpAny (model prog w) A (eval value env) (fun o s₁ => wpAny (model prog w) A (eval slice env) (fun i s₂ => s₂.TypeIs o T ∧ wpAny (model prog w) A (getItem o i) Q E s₂) E s₁) E s) :
    wpAny (model prog w) A (eval (.Subscript value slice pos) env) Q E s := by
  refine Subscript_ (wpAny_mono h (fun o s₁ h₁ => wpAny_mono h₁ (fun i s₂ h₂ => ?_) fun _ _ x => x) fun _ _ x => x)
  obtain ⟨hT, h₂⟩ := h₂
  unfold subscriptTail
  refine wpAny_bind ?_
  rw [getitemInPython_of_ne hT.not_modules]
  refine wpAny_bind (wpAny_specialOf hT hl ?_)
  have fin : wpAny (model prog w) A (subscripted slice false o i) (fun r s₃ => wpAny (model prog w) A (letTemporaryGo value o r >>= fun _ => pure r) Q E s₃) E s₂ := by
    rw [hs o i]
    exact wpAny_operating (wpAny_mono h₂ (fun r s₃ h₃ => wpAny_bind (wpAny_letTemporaryGo (wpAny_pure h₃))) fun _ _ x => x)
  first
    | exact wpAny_pure (wpAny_bind fin)
    | exact wpAny_bind (wpAny_pure (wpAny_bind fin))
    | exact wpAny_bind fin

theorem dict_typeIs {X : Cx} {pins : List (Addr × Obj)} {σ : St} {H : Hp} {s : Shared} {a : Addr} {y : V} {o : Option V} (I : Inv X pins σ H s) (g : DGet H a y o) : s.TypeIs (.ref a) "dict" := by
  rcases g with ⟨kvs, k, e, _, _⟩ | ⟨kvs, k, b, e, _, _, _⟩ | ⟨kvs, k, b, e, _, _, _⟩
  · obtain ⟨_, _, vs, _, dd⟩ := dk_rd I.hok e
    exact dd.typeIs
  · obtain ⟨_, _, xs, _, dd⟩ := dt_rd I.hok e
    exact dd.typeIs
  · obtain ⟨_, _, xs, _, dd⟩ := dn_rd I.hok e
    exact dd.typeIs
def tDGet (td ty : TE) : TE := fun σ H Q => td σ H fun x H1 => ty σ H1 fun y H2 => ∃ a v, x = .ref a ∧ DGet H2 a y (some v) ∧ Q v H2
def tDNotIn (ty td : TE) : TE := fun σ H Q => ty σ H fun y H1 => td σ H1 fun x H2 => ∃ a o, x = .ref a ∧ DGet H2 a y o ∧ Q (.bl (!o.isSome)) H2
def sDPut (td ty tv : TE) : TS := fun D σ H => tv σ H fun v H1 => td σ H1 fun x H2 => ty σ H2 fun y H3 => ∃ a H4, x = .ref a ∧ DPut H3 a y v H4 ∧ D.nx σ H4
section
variable {X : Cx} {o i e value : Expr} {pos pos' tpos : Pos} {td ty tv : TE}
theorem pe_dget (hu : X.A.units + 4 < cLine) (ho : PE X o td) (hi : PE X i ty) (hs : NoSl i) : PE X (.Subscript o i pos) (tDGet td ty) := by
  intro pins s σ H Q I h
  refine subD_of PySem.F.slot_dict_getitem.lookup hs (thn (ho s σ H _ I h) fun u s1 ⟨x, H1, I1, rx, q1⟩ => thn (hi s1 σ H1 _ I1 q1) fun iv s2 ⟨y, H2, I2, ry, a, v, ex, g, q2⟩ => ?_)
  subst ex
  obtain rfl : u = Value.ref a := rx
  exact ⟨dict_typeIs I2 g, d_getItem hu I2 g ry fun w' s3 I3 rw' => ⟨v, H2, I3, rw', q2⟩⟩
theorem pc_dnotin (hu : X.A.units + 4 < cLine) (hi : PE X i ty) (ho : PE X o td) : PC X .NotIn i o (tDNotIn ty td) := by
  intro pins s σ H Q I h
  refine thn (hi s σ H _ I h) fun iv s1 ⟨y, H1, I1, ry, q1⟩ => thn (ho s1 σ H1 _ I1 q1) fun u s2 ⟨x, H2, I2, rx, a, ov, ex, g, q2⟩ => ?_
  subst ex
  obtain rfl : u = Value.ref a := rx
  exact d_notIn hu I2 g ry fun s3 I3 => ⟨.bl (!ov.isSome), H2, I3, rfl, q2⟩
theorem ps_dput (hu : X.A.units + 4 < cLine) (ho : PE X o td) (hi : PE X i ty) (hv : PE X value tv) (hs : swapsWith value (some (.Subscript o i pos')) pos.line X.env = pure false) :
    PS X (.Assign [.Subscript o i pos'] value pos) (sDPut td ty tv) := by
  intro pins s σ H D I h
  refine wpAny_Assign_Subscript (thn (hv s σ H _ I h) fun r s1 ⟨v, H1, I1, rv, q1⟩ => thn (ho s1 σ H1 _ I1 q1) fun u s2 ⟨x, H2, I2, rx, q2⟩ => thn (hi s2 σ H2 _ I2 q2) fun iv s3 ⟨y, H3, I3, ry, a, H4, ex, g, q3⟩ => ?_) hs
  subst ex
  obtain rfl : u = Value.ref a := rx
  exact d_setItem hu I3 g ry rv fun s4 I4 => ⟨σ, H4, I4, q3⟩
end


theorem dk_empty {P : Program} {w : World} {H : Hp} (h : Heap) (hb : sysModules < h.objs.size) : ObjOk P w H (h.push { cls := .type "dict", data := .dict #[] }) h.objs.size (.dK []) :=
  ⟨Nat.zero_le _, beq_eq_false_iff_ne.mpr (Ne.symm (Nat.ne_of_lt hb)), [], .nil, Heap.DictOf.new h⟩
theorem dn_empty {P : Program} {w : World} {H : Hp} (h : Heap) (hb : sysModules < h.objs.size) : ObjOk P w H (h.push { cls := .type "dict", data := .dict #[] }) h.objs.size (.dN []) :=
  ⟨Nat.zero_le _, beq_eq_false_iff_ne.mpr (Ne.symm (Nat.ne_of_lt hb)), [], .nil, _, #[], 0, Heap.get?_push_size _ rfl, ⟨rfl, rfl, rfl⟩, rfl, rfl, List.nodup_nil⟩
def tDNewK : TE := fun _ H Q => ∀ p, H p = none → Q (.ref p) (upd H p (.dK []))
def tDNewN : TE := fun _ H Q => ∀ p, H p = none → Q (.ref p) (upd H p (.dN []))
section
variable {X : Cx} {pos : Pos}
theorem pe_dnewK : PE X (.Dict [] [] pos) tDNewK := fun pins s σ H Q I h =>
  wpAny_Dict_empty ⟨.ref s.heap.objs.size, _, I.laid (a := s.heap.objs.size) (o := .dK []) (t' := s.toks) (fun _ _ q => Heap.get?_push_of_some _ q) (Nat.le_refl _) (dk_empty s.heap I.big), rfl, h _ (I.hok.fresh (Nat.le_refl _))⟩
theorem pe_dnewN : PE X (.Dict [] [] pos) tDNewN := fun pins s σ H Q I h =>
  wpAny_Dict_empty ⟨.ref s.heap.objs.size, _, I.laid (a := s.heap.objs.size) (o := .dN []) (t' := s.toks) (fun _ _ q => Heap.get?_push_of_some _ q) (Nat.le_refl _) (dn_empty s.heap I.big), rfl, h _ (I.hok.fresh (Nat.le_refl _))⟩
end

def tPairs : List (TE × TE) → St → Hp → (List (V × V) → Hp → Prop) → Prop
  | [], _, H, Q => Q [] H
  | (tk, tv) :: r, σ, H, Q => tk σ H fun x H1 => tv σ H1 fun y H2 => tPairs r σ H2 fun ps H3 => Q ((x, y) :: ps) H3
abbrev VV : List (V × V) → List (Value × Value) → Prop := Paired fun p q => RelV p.1 q.1 ∧ RelV p.2 q.2
def PPs (X : Cx) (pos : Pos) (keys : List (Option Expr)) (values : List Expr) (trs : List (TE × TE)) : Prop :=
  ∀ ⦃pins : List (Addr × Obj)⦄ (s : Shared) (σ : St) (H : Hp) (Q : List (V × V) → Hp → Prop), Inv X pins σ H s → tPairs trs σ H Q →
    wpAny (model X.prog X.w) X.A (evalPairs (pairTrees keys values X.env pos)) (fun vs s' => ∃ ps H', Inv X pins σ H' s' ∧ VV ps vs ∧ Q ps H') X.xe s
theorem pps_nil {X : Cx} {pos : Pos} : PPs X pos [] [] [] := fun pins s σ H Q I h => pairTrees_nil_walk ⟨[], H, I, .nil, h⟩
theorem pps_cons {X : Cx} {pos : Pos} {k v : Expr} {ks : List (Option Expr)} {vs : List Expr} {tk tv : TE} {trs : List (TE × TE)} (hk : PE X k tk) (hv : PE X v tv) (hr : PPs X pos ks vs trs) :
    PPs X pos (some k :: ks) (v :: vs) ((tk, tv) :: trs) := fun pins s σ H Q I h =>
  pairTrees_cons_walk (thn (hk s σ H _ I h) fun u s1 ⟨x, H1, I1, rx, q1⟩ => thn (hv s1 σ H1 _ I1 q1) fun w2 s2 ⟨y, H2, I2, ry, q2⟩ =>
    thn (hr s2 σ H2 _ I2 q2) fun ws s3 ⟨ps, H3, I3, rel, q3⟩ => ⟨(x, y) :: ps, H3, I3, .cons ⟨rx, ry⟩ rel, q3⟩)

def mergeK (kvs more : List (Key × V)) : List (Key × V) := more.foldl (fun acc kv => putK acc kv.1 kv.2) kvs
theorem KV.merge : ∀ {more : List (Key × V)} {rs : List (Key × Value)} {kvs : List (Key × V)} {vs : List (Key × Value)}, KV more rs → KV kvs vs → KV (mergeK kvs more) (merged vs rs) := by
  intro more rs kvs vs r
  unfold KV at r
  induction r generalizing kvs vs with
  | nil => intro q; exact q
  | @cons p q ps qs h t ih =>
    intro r0
    have e : KV (putK kvs p.1 p.2) (stored vs q.1 q.2) := by
      have := r0.put p.1 h.2
      rw [← h.1]; exact this
    exact ih e
theorem length_mergeK : ∀ (more kvs : List (Key × V)), (mergeK kvs more).length ≤ kvs.length + more.length
  | [], kvs => by show kvs.length ≤ kvs.length + 0; omega
  | p :: r, kvs => by
    have h1 := length_mergeK r (putK kvs p.1 p.2)
    have h2 := length_putK kvs p.1 p.2
    show (mergeK (putK kvs p.1 p.2) r).length ≤ _
    rw [List.length_cons]; omega
theorem carries_of {P : Program} {w : World} : ∀ {kvs : List (Key × V)} {ws : List (Value × Value)}, VV (kvs.map fun kv => (kV kv.1, kv.2)) ws → ∃ rs, Carries (mixKind P w) ws rs ∧ KV kvs rs
  | [], _, r => by rw [List.map_nil] at r; cases r; exact ⟨[], True.intro, .nil⟩
  | p :: kvs, _, r => by
    rw [List.map_cons] at r
    cases r with
    | @cons a b as bs h t =>
      obtain ⟨rs, c, q⟩ := carries_of (P := P) (w := w) t
      obtain ⟨b1, b2⟩ := b
      exact ⟨(p.1, b2) :: rs, ⟨kV_is h.1, rfl, c⟩, .cons ⟨rfl, h.2⟩ q⟩
def tDisp (trs : List (TE × TE)) : TE := fun σ H Q => ∀ p, H p = none → tPairs trs σ (upd H p (.dK [])) fun ps H2 => H2 p = some (.dK []) ∧ ∃ kvs : List (Key × V), ps = kvs.map (fun kv => (kV kv.1, kv.2)) ∧ kvs.length ≤ 15 ∧ Q (.ref p) (upd H2 p (.dK (mergeK [] kvs)))
theorem pe_disp {X : Cx} {pos : Pos} {keys : List (Option Expr)} {values : List Expr} {trs : List (TE × TE)} (h : PPs X pos keys values trs) (hall : keys.all (·.isSome) = true) (hl : keys.length = values.length) (h0 : keys ≠ [])
    (h15 : keys.length ≤ 15) : PE X (.Dict keys values pos) (tDisp trs) := by
  intro pins s σ H Q I q
  have hn := I.hok.fresh (Nat.le_refl s.heap.objs.size)
  have I1 := I.laid (a := s.heap.objs.size) (o := .dK []) (h' := s.heap.push { cls := .type "dict", data := .dict #[] }) (t' := s.toks) (fun _ _ q => Heap.get?_push_of_some _ q) (Nat.le_refl _) (dk_empty s.heap I.big)
  refine wpAny_Dict_walk (knd := mixKind X.prog X.w) hall hl h0 h15 (thn (h _ σ _ _ I1 (q _ hn)) fun ws s2 ⟨ps, H2, I2, rel, e, kvs, ep, lk, q2⟩ => ?_)
  subst ep
  obtain ⟨rs, c, rk⟩ := carries_of (P := X.prog) (w := X.w) rel
  obtain ⟨z, hd, vs0, r0, dd⟩ := dk_of I2.hok e
  cases r0
  refine ⟨rs, c, dd, fun h' dd' hs => ⟨.ref s.heap.objs.size, _, ?_, rfl, q2⟩⟩
  have hz : (mergeK [] kvs).length ≤ sizeLine := by
    have h1 := length_mergeK kvs []
    rw [List.length_nil] at h1
    rw [sizeLine_eq]; omega
  have he : ∃ q, h'.get? s.heap.objs.size = some q := let ⟨q, _, _, hq, _⟩ := dd'; ⟨q, hq⟩
  exact d_write I2 (by rw [e]; exact True.intro) hs he (dk_new hz hd (rk.merge .nil) dd')


structure M2 (X : Cx) (o : Expr) (m : Str) (apos : Pos) (e f : Expr) (cpos : Pos) : Prop where
  base : attributeBase o m X.env (eval o X.env) = eval o X.env
  few : ((backTo cpos (starEach [e, f] X.env)).all (fun x => !x.1) && (backToKw cpos (keywordEach [] X.env)).all (fun x => x.1.isSome)
    && decide (([e, f] : List Expr).length + ([] : List Keyword).length + (if ([] : List Keyword).isEmpty then 0 else 1) < 30)) = true
  line : (apos.endLine == cpos.line) = true
  trees : backTo cpos (starEach [e, f] X.env) = [(false, eval e X.env), (false, eval f X.env)]

def IsD (H : Hp) (a : Addr) : Prop := (∃ kvs, Rd H a (.dK kvs)) ∨ (∃ kvs, Rd H a (.dT kvs)) ∨ ∃ kvs, Rd H a (.dN kvs)
theorem isD_at {X : Cx} {pins : List (Addr × Obj)} {σ : St} {H : Hp} {s : Shared} {a : Addr} (I : Inv X pins σ H s) (d : IsD H a) :
    s.TypeIs (.ref a) "dict" ∧ (∀ b, Value.ref a = .ref b → ∃ ob, s.heap.get? b = some ob ∧ ob.dict = none) ∧ (a == sysModules) = false := by
  rcases d with ⟨kvs, e⟩ | ⟨kvs, e⟩ | ⟨kvs, e⟩
  · obtain ⟨_, hd, vs, _, dd⟩ := dk_rd I.hok e
    refine ⟨dd.typeIs, fun b q => ?_, hd⟩
    cases q
    obtain ⟨ob, _, _, h1, h2, _⟩ := dd
    exact ⟨ob, h1, h2.2.1⟩
  · obtain ⟨_, hd, xs, _, dd⟩ := dt_rd I.hok e
    refine ⟨dd.typeIs, fun b q => ?_, hd⟩
    cases q
    obtain ⟨ob, _, _, h1, h2, _⟩ := dd
    exact ⟨ob, h1, h2.2.1⟩
  · obtain ⟨_, hd, xs, _, dd⟩ := dn_rd I.hok e
    refine ⟨dd.typeIs, fun b q => ?_, hd⟩
    cases q
    obtain ⟨ob, _, _, h1, h2, _⟩ := dd
    exact ⟨ob, h1, h2.2.1⟩

section
variable {X : Cx} {pins : List (Addr × Obj)} {σ : St} {H : Hp} {s : Shared} {a : Addr} {y d : V} {u r : Value} {o : Option V} {A : Around} {E : Value → Shared → Prop}
theorem d_get2 {Q : Value → Shared → Prop} (hu : A.units + 4 < cLine) (I : Inv X pins σ H s) (g : DGet H a y o) (ry : RelV y u) (rd : RelV d r) (h : ∀ w' s', Inv X pins σ H s' → RelV (o.getD d) w' → Q w' s') :
    wpAny (model X.prog X.w) A (call (.builtin "dict.get") [.ref a, u, r]) Q E s := by
  rcases g with ⟨kvs, k, e, ey, l⟩ | ⟨kvs, k, b, e, ey, eb, l⟩ | ⟨kvs, k, b, e, ey, eb, l⟩
  · subst ey
    obtain ⟨z, hd, vs, rel, dd⟩ := dk_rd I.hok e
    refine call_meetsIn PySem.F.slot_dict_get dd.typeIs PySem.F.entry_dict_get (PySem.F.args_dict_get_3 _ _ _) (meets_dict_get_default (mixKind X.prog X.w) a (kV_is ry) hd r) ⟨_, dd.mapOf, h _ _ (I.tok _) ?_⟩
    rw [l]
    exact (rel.val k).getD rd
  · subst ey
    cases (show u = Value.ref b from ry)
    obtain ⟨z, hd, xs, rel, dd⟩ := dt_rd I.hok e
    refine call_meetsIn PySem.F.slot_dict_get dd.typeIs PySem.F.entry_dict_get (PySem.F.args_dict_get_3 _ _ _) (meetsH_dict_get_default (tupleKind (mixKind X.prog X.w)) a b hd r) ⟨tupleKind_room_in1 (Nat.lt_of_le_of_lt (Nat.add_le_add_left (by decide) _) hu), k, xs, key_of I.hok eb, dd, h _ _ (I.tok _) ?_⟩
    rw [l]
    exact (rel.val k).getD rd
  · subst ey
    cases (show u = Value.ref b from ry)
    obtain ⟨z, hd, xs, rel, dd⟩ := dn_rd I.hok e
    refine call_meetsIn PySem.F.slot_dict_get dd.typeIs PySem.F.entry_dict_get (PySem.F.args_dict_get_3 _ _ _) (meetsH_dict_get_default (pairKind X.prog X.w) a b hd r) ⟨(show A.units + 1 + 3 < cLine from hu), k, xs, keyN_of I.hok eb, dd, h _ _ (I.tok _) ?_⟩
    rw [l]
    exact (rel.val k).getD rd
end

def tDGet2 (td ty tx : TE) : TE := fun σ H Q => td σ H fun x H1 => ∃ a, x = .ref a ∧ IsD H1 a ∧ ty σ H1 fun y H2 => tx σ H2 fun z H3 => ∃ o, DGet H3 a y o ∧ Q (o.getD z) H3
section
variable {X : Cx} {o e f : Expr} {apos cpos : Pos} {td ty tx : TE}
theorem pe_dget2 (hu : X.A.units + 4 < cLine) (ho : PE X o td) (he : PE X e ty) (hf : PE X f tx) (m : M2 X o "get" apos e f cpos) : PE X (.Call (.Attribute o "get" apos) [e, f] [] cpos) (tDGet2 td ty tx) := by
  intro pins s σ H Q I h
  refine wpAny_Call_method m.base m.few m.line PySem.F.plainAttrs_dict PySem.F.slot_dict_get PySem.F.type_dict_get (thn (ho s σ H _ I h) fun u s1 ⟨x, H1, I1, rx, a, ex, d, q1⟩ => ?_)
  subst ex
  obtain rfl : u = Value.ref a := rx
  obtain ⟨t1, t2, _⟩ := isD_at I1 d
  refine ⟨t1, t2, ?_⟩
  rw [m.trees]
  refine Calls.callWith_builtin rfl (Calls.evalArgs_plain (Calls.spliced_cons (thn (he s1 σ H1 _ I1 q1) fun iv s2 ⟨y, H2, I2, ry, q2⟩ =>
    Calls.spliced_cons (thn (hf s2 σ H2 _ I2 q2) fun fv s3 ⟨z, H3, I3, rz, ov, g, q3⟩ => Calls.spliced_nil ?_))))
  exact d_get2 hu I3 g ry rz fun w' s4 I4 rw' => ⟨_, H3, I4, rw', q3⟩
end

section
variable {X : Cx} {pins : List (Addr × Obj)} {σ : St} {H : Hp} {s : Shared} {a : Addr} {kvs : List (Key × V)} {A : Around} {E : Value → Shared → Prop}
end


section
variable {X : Cx} {pins : List (Addr × Obj)} {σ : St} {H : Hp} {s : Shared} {a : Addr} {y : V} {u : Value} {A : Around} {E : Value → Shared → Prop}
end
end L2

namespace L2
open PySem PySem.Spec PyProof.Rows

section
variable {prog : Program} {w : World} {A : Around} {E : Value → Shared → Prop}
end

section
variable {X : Cx}
end
end L2

namespace L2
open PySem PySem.Spec PyProof.Rows

section
variable {X : Cx} {pins : List (Addr × Obj)} {σ : St} {H : Hp} {s : Shared} {h' : Heap}
theorem Inv.turnedNew {t' : Nat} {ch : List Addr} {T : Addr} {ob : HO} (I : Inv X pins σ H s) (k : ∀ b o, b ∉ ch → s.heap.get? b = some o → h'.get? b = some o) (hf : ∀ b ∈ ch, FpOk X pins H b) (hT : s.heap.objs.size ≤ T)
    (new : ObjOk X.prog X.w (upd H T ob) h' T ob) : Inv X pins σ (upd H T ob) { s with heap := h', toks := t' } := by
  have hn : H T = none := I.hok.fresh hT
  have nit : ∀ b u, H b = some u → b ∉ ch := fun b u e z => by
    have q := (hf b z).1
    rw [q] at e; cases e
  refine I.step (g' := s.gens) (d' := s.drawn) (ch := ch) (fun b hb => ⟨(hf b hb).2.2.2.1, (hf b hb).2.1, (hf b hb).2.2.2.2.1, (hf b hb).2.2.2.2.2⟩) (fun b o _ _ hc e _ => k b o hc e) (fun b o _ _ hc e _ => ⟨o.slots, k b o hc e⟩)
    (fun b o _ e n => ?_) (fun b o hc e => ⟨o, k b o hc e⟩) (fun b xs e => ?_) (fun b o u e => ?_) (fun b ps e => ⟨#[], ?_⟩) (fun m hm => ?_) (fun b u e => ?_) I.bare
  · rw [upd_ne (Nat.ne_of_lt (Nat.lt_of_lt_of_le (Heap.lt_size e) hT))]; exact n
  · rw [upd_ne (ne_of_none e hn)]; exact e
  · rw [upd_ne (ne_of_none e hn)]; exact e
  · rw [upd_ne (ne_of_none e hn), e]; simp
  · obtain ⟨o, es, ep, ho, r⟩ := hm
    exact ⟨o, es, ep, k _ o (fun z => (hf _ z).2.1 rfl) ho, r⟩
  · by_cases hb : b = T
    · subst hb
      rw [upd_same] at e
      cases e
      exact new
    · rw [upd_ne hb] at e
      refine (I.hok b u e).stay (fun c v hc q => k c v ?_ q) (fun c q => by rw [upd_ne (ne_of_none q hn)]; exact q) fun c xs q => by rw [upd_ne (ne_of_none q hn)]; exact q
      rcases hc with z | z
      · rw [z]; exact nit b u e
      · exact nit c _ z

end
section
variable {X : Cx}
end

def RgC (i j c : Int) (n : Nat) : Prop := c ≠ 0 ∧ c.natAbs < 1073741824 ∧ Builtin.Range.small i j c = true ∧ Builtin.Range.rangeSize i j c = n
theorem RgC.neg {i j : Int} (ha : -(2 ^ 62) ≤ i) (ha' : i < 2 ^ 62) (hb : -(2 ^ 62) ≤ j) (hb' : j < 2 ^ 62) : RgC i j (-1) (i - j).toNat :=
  ⟨by decide, by decide, PySem.W.small_down ha ha' hb hb', PySem.W.rangeSize_downNat i j⟩
section
variable {X : Cx} {tg : Expr}
end
section
variable {X : Cx} {tg : Expr}
end

section
variable {prog : Program} {w : World} {A : Around} {E : Value → Shared → Prop} {s : Shared}
end

theorem paired_get {α β : Type} {G : α → β → Prop} {l₁ : List α} {l₂ : List β} (h : Paired G l₁ l₂) : ∀ {i : Nat} {a : α}, l₁[i]? = some a → ∃ b, l₂[i]? = some b ∧ G a b := by
  induction h with
  | nil => intro i a e; simp at e
  | @cons a b l₁ l₂ r t ih =>
    intro i a' e
    cases i with
    | zero =>
      simp only [List.getElem?_cons_zero, Option.some.injEq] at e
      subst e
      exact ⟨b, rfl, r⟩
    | succ j =>
      simp only [List.getElem?_cons_succ] at e ⊢
      exact ih e
section
variable {X : Cx} {pins : List (Addr × Obj)} {σ : St} {H : Hp} {s : Shared} {d : Addr} {o : Obj}
end

section
variable {P : Program} {w : World} {K : PySem.W.Frag} {tg : Expr} {d : Addr} {o : Obj} {es : Array DictEntry} {ep : Nat}
end

section
variable {X : Cx} {tg e : Expr} {td : TE} {apos cpos : Pos}
end

def Ite (K : PySem.W.Frag) (a : Addr) : It :=
  ⟨fun i H => ∃ (xs : List V) (x : V), SqL K H a xs ∧ xs[i]? = some x, fun i H v H' => ∃ T x, v = .ref T ∧ H T = none ∧ H' = upd H T (.tup [.int (i : Nat), x]) ∧ ∀ xs, SqL K H a xs → xs[i]? = some x, fun i H => ∃ xs : List V, SqL K H a xs ∧ xs.length ≤ i⟩
theorem turn_enum {P : Program} {w : World} {K : PySem.W.Frag} {elts : List Expr} {kk : Nat} {tpos : Pos} (a e it : Addr) :
    Turn P w K (.Tuple elts kk tpos) (Ite K a) [e, it] e (fun i h => (∃ old, IsEnum h e it ((i : Nat) : Int) old) ∧ h.IsListIter it a i ∧ e ≠ it) where
  mem := by simp
  obj := fun i h st b hb => by
    obtain ⟨⟨old, he⟩, ⟨o, ho, hc, hd⟩, _⟩ := st
    have e' : b = e ∨ b = it := by simpa using hb
    rcases e' with z | z
    · rw [z]; exact ⟨_, he, fun v q => nomatch q⟩
    · rw [z]; exact ⟨o, ho, fun v q => by rw [hd] at q; cases q⟩
  keep := fun i h h' st k => let ⟨⟨old, he⟩, hi, hne⟩ := st; ⟨⟨old, k e (by simp) _ he⟩, hi.at fun o q => k it (by simp) o q, hne⟩
  item := by
    intro X hP hw hK hc i pins s σ H E I hf st hg
    subst hP hw hK
    obtain ⟨⟨old, he⟩, hit, hne⟩ := st
    obtain ⟨xs, x, hq, hx⟩ := hg
    obtain ⟨its, rv, p, hz⟩ := I.list hq
    obtain ⟨u, hu, ru⟩ := rv.get hx
    have hel : e < s.heap.objs.size := Heap.lt_size he
    have hil : it < s.heap.objs.size := by obtain ⟨_, q, _⟩ := hit; exact Heap.lt_size q
    refine wpAny_pyNext_enum_item he hit p.isList (x := u) (by simpa using hu) hne fun h' ho hit' hT hsz hk => ?_
    refine ⟨_, rfl, wpAny_letOwnedTupleGo_enum (s := { s with heap := h', toks := s.toks + 1 }) ho fun h'' he' sb => ?_⟩
    have hT2 : h''.get? s.heap.objs.size = some { cls := .type "tuple", data := .seq #[.int i s.toks, u] } := (sb.2 _ (Nat.ne_of_gt hel)).trans hT
    have new : ObjOk X.prog X.w (upd H s.heap.objs.size (.tup [.int (i : Nat), x])) h'' s.heap.objs.size (.tup [.int (i : Nat), x]) :=
      ⟨by show 2 ≤ sizeLine; decide, [.int i s.toks, u], .cons ⟨_, rfl⟩ (.cons ru .nil), ⟨_, hT2, rfl, _, rfl, rfl⟩⟩
    have I1 : Inv X pins σ (upd H s.heap.objs.size (.tup [.int (i : Nat), x])) { s with heap := h'', toks := s.toks + 1 } :=
      I.turnedNew (ch := [e, it]) (fun b ob hb q => (sb.2 b (fun z => hb (by simp [z]))).trans (hk b ob (fun z => hb (by simp [z])) (fun z => hb (by simp [z])) q)) hf (Nat.le_refl _) new
    refine ⟨.ref s.heap.objs.size, _, I1, rfl, ⟨_, x, rfl, I.hok.fresh (Nat.le_refl _), rfl, fun ys hy => by rw [I.list_inj hy hq]; exact hx⟩, ⟨⟨u, ?_⟩, hit'.at fun o q => (sb.2 it (Ne.symm hne)).trans q, hne⟩, fun b hb => ?_⟩
    · have e1 : ((i + 1 : Nat) : Int) = (i : Int) + 1 := by omega
      rw [e1]; exact he'
    · have hb' : b < s.heap.objs.size := by
        have e' : b = e ∨ b = it := by simpa using hb
        rcases e' with z | z
        · rw [z]; exact hel
        · rw [z]; exact hil
      rw [upd_ne (Nat.ne_of_lt hb')]
      exact (hf b hb).1
  done := by
    intro X hP hw hK hc i pins s σ H E I hf st hg
    subst hP hw hK
    obtain ⟨⟨old, he⟩, hit, hne⟩ := st
    obtain ⟨xs, hq, hx⟩ := hg
    obtain ⟨its, rv, p, hz⟩ := I.list hq
    obtain ⟨f0, f1, f2, f3, f4, f5⟩ := hf it (by simp)
    have hl := rv.length
    exact wpAny_pyNext_enum_end (I.ok.hd hc) he hit p.isList (by simp; omega) fun h' eb => ⟨rfl, I.turned (t' := s.toks) (fun b o hb q => eb b o hb q) f0 f1 f3 f4 f5⟩
  self := fun A i s Q E st h => let ⟨⟨_, he⟩, _⟩ := st; wpAny_pyIter_enum he h
def iEnum (K : PySem.W.Frag) (ta : TA) : TI := fun σ H R => ta σ H fun vs H1 => ∃ a xs, vs = [.ref a] ∧ SqL K H1 a xs ∧ R (Ite K a) H1
theorem pi_enum {X : Cx} {e : Expr} {ta : TA} {p pos tpos : Pos} {elts : List Expr} {kk : Nat} (hg : Gl X "enumerate") (hm : X.mg "enumerate" = none) (ha : PA X [e] ta) (hs : starEach [e] X.env = [(false, eval e X.env)] := by rfl) :
    PI X (.Tuple elts kk tpos) (.Call (.Name "enumerate" p) [e] [] pos) (iEnum X.K ta) := by
  intro pins s σ H R I h
  refine Call_ (ld_blt I hg hm boot_enumerate (PyProof.Rows.callWith_type1 (thn (ha pins s σ H _ I h) fun us s1 ⟨vs, H1, I1, r1, q1⟩ => ?_) hs rfl))
  obtain ⟨a, xs, ex, hq, q⟩ := q1
  subst ex
  cases r1 with
  | cons r rr =>
    cases rr
    cases r
    obtain ⟨its, rv, p', hz⟩ := I1.list hq
    refine call_enumerate_list p'.isList fun h' he hit hsz hk => wpAny_pyIter_enum he ?_
    have I2 : Inv X pins σ H1 { s1 with heap := h' } := I1.kept (t' := s1.toks) hk
    refine ⟨s1.heap.objs.size + 1, [s1.heap.objs.size + 1, s1.heap.objs.size], _, _, H1, rfl, I2, turn_enum a (s1.heap.objs.size + 1) s1.heap.objs.size, ⟨⟨.none, he⟩, hit, Nat.succ_ne_self _⟩, fun b hb => ?_, q⟩
    have e' : b = s1.heap.objs.size + 1 ∨ b = s1.heap.objs.size := by simpa using hb
    have hle : s1.heap.objs.size ≤ b := by
      rcases e' with z | z
      · rw [z]; exact Nat.le_add_right _ _
      · rw [z]; exact Nat.le_refl _
    exact I1.fpOk hle (I1.hok.fresh hle)
end L2

section 
namespace Bits
open PySem PyProof.Rows

end Bits
end 

section 
namespace TL
open PySem PySem.Builtin PySem.Builtin.Str PySem.StrLaws

abbrev tl (x : Str) : List Nat := x.cps.toList
def pre (S l : List Nat) : Bool := l.take S.length == S
def par (S : List Nat) : List Nat → List Nat → Option (List Nat × List Nat)
  | _, [] => none
  | acc, c :: r => if pre S (c :: r) = true then some (acc, (c :: r).drop S.length) else par S (acc ++ [c]) r

end TL
end 

namespace L2
open PySem PySem.Spec PyProof.Rows

section
variable {X : Cx} {pins : List (Addr × Obj)} {σ : St} {H : Hp} {s : Shared} {Q : VK}
end

section
variable {X : Cx}

end

section
variable {X : Cx} {o e : Expr} {to te : TE}
end
end L2

namespace L2
open PySem PySem.Spec PyProof.Rows

section
variable {X : Cx}
end

theorem IsPart.raw {v : Value} {o : Option Int} (p : IsPart v o) : ∃ l : Option (Int × Tok), v = partValue l ∧ l.map (·.1) = o := by
  cases p with
  | none => exact ⟨none, rfl, rfl⟩
  | int i t => exact ⟨some (i, t), rfl, rfl⟩

end L2

namespace Att
open PySem PySem.W PySem.Calls PyProof.Rows

theorem ints_of_wellAll {P : Params} {h : Heap} : ∀ (ns : List Int) (vs : List Value), WellAll P h vs (ns.map WData.int) → IntsAre vs ns := by
  intro ns
  induction ns with
  | nil =>
    intro vs w
    rw [List.map_nil] at w
    cases w
    exact .nil
  | cons n ns ih =>
    intro vs w
    rw [List.map_cons] at w
    cases w with
    | cons a b =>
      cases a
      exact .cons _ _ (ih _ b)

theorem script_of {l : OpenLaw} {n : Nat} (hn : l.most = some n) {P : Params} {h : Heap} {args : List WData} {vals : List Value}
    (hpre : l.row.toRowW.claim.pre args = true) (hwl : WellAll P h vals args) :
    ∃ a vs ns, vals = [Value.ref a] ∧ args = [WData.list (ns.map WData.int)] ∧ h.get? a = some { cls := .type "list", data := .seq vs.toArray } ∧ IntsAre vs ns ∧ ns.length ≤ n := by
  have hsh : WShape.hasAll [] args [.list .int] = true := (pre_splitW hpre).1
  have hc : l.pre.holds [] { args := args } = true := (pre_splitW hpre).2
  obtain ⟨d, r, rfl, h1, h2⟩ := hasAllW_cons hsh
  obtain rfl := hasAllW_nil h2
  obtain ⟨xs, rfl, h3⟩ := hasW_list h1
  obtain ⟨ns, rfl⟩ := items_int h3
  have hlen : ns.length ≤ n := by
    unfold OpenLaw.pre at hc
    have h4 : (WTm.not (.lt (.lit (.int (n : Int))) (.len (.arg 0)))).holds [] { args := [.list (ns.map .int)] } = true := by
      have h4 := (holds_andW hc).1
      rw [hn] at h4
      exact h4
    have h5 := condW_of h4 (w_not (w_lt w_lit (w_len_list (w_arg rfl))))
    rw [List.length_map] at h5
    refine Nat.le_of_not_lt fun q => ?_
    have q' : (n : Int) < ((ns.length : Nat) : Int) := by omega
    first
      | (rw [decide_eq_true q'] at h5; exact absurd h5 (by decide))
      | (simp at h5; omega)
  cases hwl with
  | cons w1 w2 =>
    cases w2
    cases w1 with
    | list ho hall => exact ⟨_, _, ns, rfl, rfl, ho, ints_of_wellAll ns _ hall, hlen⟩

theorem post_true (l : OpenLaw) (args : List WData) : l.row.toRowW.claim.post args (.bool true) args = true :=
  postW_of (r := l.row.toRowW) (X := (true == true))
    (show WShape.has [] (.bool true) .bool = true by first | rfl | decide | simp [WShape.has, WShape.arms, WShape.armsAll])
    (show (WTm.eq .res (.lit (.bool true))).value [] { args := args, res := some (.bool true), after := args } = some (.bool (true == true)) from w_eq_bool (w_res rfl) w_lit) rfl

theorem attach_call {l : OpenLaw} {n : Nat} {q : Program} {loose : List Str} {XP : (Str → Option Value) → Heap → Prop} {YP : World → Heap → Prop} {d : DefRec}
    (hn : l.most = some n) (hdf : d.params.defaults = [])
    (call : ∀ (w : World) (s₀ s₁ : Shared) (mg mb : Str → Option Value) (fa : Addr) (o : Obj) (pm cd doc : Value) (a : Addr) (vs : List Value) (ns : List Int),
      Ground q loose [] XP w s₀ mg mb s₁.heap → YP w s₁.heap →
      s₁.heap.get? fa = some o → o.data = .func (docDef d.name d.params d.body d.scope pm cd doc) → s₁.heap.CodeRec cd d.name → mg d.name = some (.ref fa) →
      s₁.heap.get? a = some { cls := .type "list", data := .seq vs.toArray } → IntsAre vs ns → ns.length ≤ n → s₁.gens = #[] →
      codeAny (model l.prog w) callerA (.call (.ref fa) ⟨[.ref a], []⟩) (fun r s' => r = .ok (.ret (.bool true)) ∧ OldK s₁.heap s'.heap ∧ s'.os = s₁.os ∧ AllBare s'.gens) s₁) :
    WalkO q loose XP YP l.row.toRowW d [] (fun f vs => PySem.call f vs) := by
  intro w s₀ s₁ mg mb G Y fa o pm cd doc dV kV ho hd hcd hD hmg hg args vals as hpre hlay hrd hwl hlo
  obtain rfl : dV = .none := Dflts.none hD hdf
  obtain rfl : kV = .none := Dflts.noKw hD
  obtain ⟨a, vs, ns, rfl, rfl, hobj, hints, hlen⟩ := script_of hn hpre hwl
  refine enter_call (codeAny_mono (call w s₀ s₁ mg mb fa o pm cd doc a vs ns G Y ho (fd_plain hd) hcd hmg hobj hints hlen hg) fun r s' hq => ?_)
  obtain ⟨rfl, h2, h3, h4⟩ := hq
  exact ⟨.inl ⟨.bool true, .bool true, [], rfl, fun _ => rfl, .bool true, post_true l _, fun _ => ⟨List.Pairwise.nil, fun _ hm => (nomatch hm)⟩⟩, h2, h3, h4⟩

section
variable {prog : Program} {w : World} {A : Around} {E : Value → Shared → Prop} {s : Shared} {K : Frag}

end
end Att

namespace L2
open PySem PySem.Spec PyProof.Rows

theorem vals_ints : ∀ {vs : List Value} {ns : List Int}, IntsAre vs ns → Vals (ns.map V.int) vs
  | _, _, .nil => .nil
  | _, _, .cons n t h => .cons ⟨t, rfl⟩ (vals_ints h)

end L2

namespace L2
open PySem PySem.Spec PyProof.Rows

end L2

namespace L2
open PySem PySem.Spec PyProof.Rows

def defArgs (s : Stmt) : Arguments := match s with
  | .FunctionDef _ a _ _ _ _ _ _ _ _ => a
  | _ => { posonlyargs := [], args := [], vararg := none, kwonlyargs := [], kw_defaults := [], kwarg := none, defaults := [] }
def defBody (s : Stmt) : List Stmt := match s with
  | .FunctionDef _ _ b _ _ _ _ _ _ _ => b
  | _ => []
def defScope (s : Stmt) : Scope := match s with
  | .FunctionDef _ _ _ _ _ _ sc _ _ _ => sc
  | _ => { kind := .function, names := [], isGenerator := false, isCoroutine := false }

abbrev CX0 : CXT := fun _ _ _ _ _ _ => False
abbrev E0 : XK := fun _ _ _ => False
theorem pass0 {X : Cx} : Passes CX0 X E0 := fun _ _ _ _ _ _ _ h => h.elim

structure Fun (K : PySem.W.Frag) (x qual : Str) (st : Stmt) (f : Addr) (fd : FuncData) : Prop where
  ex : ∃ (oc : Value) (od : Option Addr) (kV doc pm : Value) (an : Option Addr) (cdv ct : Value) (osl : Array (Option Value)),
    fd = PySem.W.fnOf x qual (defArgs st) (defBody st) (defScope st) .none kV doc pm an cdv ct ∧ K.lookup f = some ⟨oc, od, .func fd, osl⟩ ∧ PySem.W.codeIn K cdv qual = true
  kp : PySem.W.keepIn K (.ref f) = true
section
variable {P : Program} {w : World} {K : PySem.W.Frag} {mg : Str → Option Value} {base : Heap}
theorem Fun.ok {x qual : Str} {st : Stmt} {f : Addr} {fd : FuncData} {N ps : List Str} {k : Nat} {sp : Sp} (F : Fun K x qual st f fd) (S : FnScope N ps (defScope st)) (len : ∀ vs H Q E, sp vs H Q E → vs.length = ps.length)
    (hbody : ∀ (cdv : Value) (A : Around) (outer : List Env) (s : Shared) (H : Hp) (vs : List V) (Q : VK) (E : XK), Room k (A.deeper (envOfC qual (defScope st) s.heap.objs.size f cdv)) → sp vs H Q E →
      ∃ t, PSs (cxOf CX0 P w K mg base N qual (defScope st) f cdv A outer s H E).nox (defBody st) t ∧ t { nx := fun _ H' => Q .non H', rt := Q } (start N vs) H) : FnOk P w K mg base CX0 (k + 1) f fd ps sp := by
  obtain ⟨oc, od, kV, doc, pm, an, cdv, ct, osl, rfl, lk, hcd⟩ := F.ex
  refine fn_of lk hcd S len fun A outer s H vs Q E hr hsp => ?_
  obtain ⟨t, h, q⟩ := hbody cdv A outer s H vs Q E hr hsp
  exact ⟨t, h.nox, q⟩
theorem Fun.binds {x qual : Str} {st : Stmt} {f : Addr} {fd : FuncData} {ps : List Str} (F : Fun K x qual st f fd)
    (h : ∀ (kV doc pm : Value) (an : Option Addr) (cdv ct : Value) (us : List Value), us.length = ps.length → bindArgs (PySem.W.fnOf x qual (defArgs st) (defBody st) (defScope st) .none kV doc pm an cdv ct) ⟨us, []⟩ = pure (ps.zip us)) : Binds K fd ps [] := by
  obtain ⟨oc, od, kV, doc, pm, an, cdv, ct, osl, rfl, lk, hcd⟩ := F.ex
  exact .all (h kV doc pm an cdv ct)
theorem fun_mk {x qual : Str} {st : Stmt} {f : Addr} {oc : Value} {od an : Option Addr} {osl : Array (Option Value)} {kV doc pm cdv ct : Value} (l : K.lookup f = some ⟨oc, od, .func (PySem.W.fnOf x qual (defArgs st) (defBody st) (defScope st) .none kV doc pm an cdv ct), osl⟩)
    (c : PySem.W.codeIn K cdv qual = true) (k : PySem.W.keepIn K (.ref f) = true) : Fun K x qual st f (PySem.W.fnOf x qual (defArgs st) (defBody st) (defScope st) .none kV doc pm an cdv ct) := ⟨⟨oc, od, kV, doc, pm, an, cdv, ct, osl, rfl, l, c⟩, k⟩
end
theorem hu_of {A : Around} {k : Nat} (hr : Room k A) : A.units + 4 < cLine := Nat.lt_of_le_of_lt (Nat.add_le_add_left (by decide : 4 ≤ 64) _) hr.units
section
variable {X : Cx}
theorem pv (i : Nat) {x : Str} {pos : Pos} (hN : X.N[i]? = some x := by rfl) (hv : Vis X.env.scope x := by first | exact Or.inl rfl | exact Or.inr (Or.inl rfl) | exact Or.inr (Or.inr rfl)) (hd : (x == ("__debug__" : Str)) = false := by decide)
    (hcd : (x == ("__classdict__" : Str)) = false := by decide) : PE X (.Name x pos) (tVar i) := pe_var hN hv hd hcd
theorem call_lenD : CallR X (.builtin "len") (fun xs H Q => ∃ a kvs, xs = [V.ref a] ∧ H a = some (.dK kvs) ∧ Q (.int kvs.length) H) := by
  intro pins s σ H xs us Q I r h
  obtain ⟨a, kvs, rfl, ha, q⟩ := h
  obtain ⟨u, rfl, ru⟩ := vals1 r
  cases ru
  exact d_len I (.inl ha) fun t s' I' => ⟨.int kvs.length, H, I', ⟨t, rfl⟩, q⟩
end

theorem iteF {A B : Prop} (h : B) : if false = true then A else B := by
  rw [if_neg Bool.false_ne_true]
  exact h
theorem iteT {A B : Prop} (h : A) : if true = true then A else B := by
  rw [if_pos rfl]
  exact h
theorem ite2 {c A B : Prop} [Decidable c] (h1 : c → A) (h2 : ¬ c → B) : if c then A else B := by
  by_cases h : c
  · rw [if_pos h]
    exact h1 h
  · rw [if_neg h]
    exact h2 h
def Same (H H' : Hp) : Prop := ∀ b o, H b = some o → H' b = some o
theorem Same.refl (H : Hp) : Same H H := fun _ _ h => h
theorem Same.trans {H H1 H2 : Hp} (a : Same H H1) (b : Same H1 H2) : Same H H2 := fun c o h => b c o (a c o h)
theorem Same.free {H H' : Hp} (e : Same H H') {l : Addr} (h : H' l = Option.none) : H l = Option.none := by
  cases q : H l with
  | none => rfl
  | some o =>
    rw [e l o q] at h
    cases h
theorem Same.seq {K : PySem.W.Frag} {H H' : Hp} {a : Addr} {xs : List V} (e : Same H H') (h : SqL K H a xs) : SqL K H' a xs := by
  rcases h with (h | ⟨o, h⟩) | h
  · exact .inl (.inl (e _ _ h))
  · exact .inl (.inr ⟨o, e _ _ h⟩)
  · exact .inr h

section
variable {κ : Type} [DecidableEq κ]
end
theorem at_of {xs : List V} {z : Int} {j : Nat} {v : V} (e : z = (j : Int)) (h : xs[j]? = some v) : atI xs z = some v := by
  rw [e]
  exact atI_nat h
theorem Same.made {H H1 : Hp} {x dx C : Addr} (nx : H x = Option.none) (nd : H dx = Option.none) (k : ∀ b o, (upd (upd H dx (.own x)) x (.ins C dx [])) b = some o → b ≠ x → H1 b = some o) : Same H H1 := fun b o e =>
  k b o (by rw [upd_ne (ne_of_none e nx), upd_ne (ne_of_none e nd)]; exact e) (ne_of_none e nx)
end L2

set_option maxHeartbeats 8000000
namespace PySem
end PySem

namespace L2
open PySem PySem.Spec PyProof.Rows
section
variable {X : Cx} {pins : List (Addr × Obj)} {σ : St} {H : Hp} {s : Shared}
theorem Inv.gens (I : Inv X pins σ H s) {g' : Array GenState} (hg : AllBare g') : Inv X pins σ H { s with gens := g' } :=
  ⟨I.ok, I.os, hg, I.base, I.loc, I.cell, I.free, I.freeC, I.pin, I.hok, I.len⟩
end
def lamLine : Nat := 135
def tabS (seen : List (Nat × Nat)) (P : Addr) (h : Heap) : Prop := ∃ ps, h.get? P = some { cls := .none, data := .fields ps } ∧ TriplesOk ps.toList ∧ ∀ pos : Pos, lamLine ≤ pos.line → (pos.line, pos.col) ∉ seen → codeAmong pos ps.toList = none
def TabS (seen : List (Nat × Nat)) (P : Addr) : HO := .ext (tabS seen P)
abbrev Tab (P : Addr) : HO := TabS [] P
theorem tab_ok {seen : List (Nat × Nat)} {p : Program} {w : World} {H : Hp} {h : Heap} {P : Addr} (x : tabS seen P h) : ObjOk p w H h P (TabS seen P) := by
  refine ⟨x, ?_, fun h1 h2 ⟨ps, e, t⟩ k => ⟨ps, k _ e, t⟩⟩
  obtain ⟨ps, e, _⟩ := x
  exact ⟨_, e⟩
def codeTab (K : PySem.W.Frag) (cdv : Value) (P : Addr) : Bool := match cdv with
  | .ref c => (match K.lookup c with
    | some ⟨.type t, _, .fields vs, _⟩ => (match vs.getD 11 .none, vs.getD 18 .none, vs.getD 7 .none, vs.getD 9 .none, vs.getD 10 .none with
      | .ref P', .str _ _, .int _ _, .bool _, .int _ _ => t == "code" && P' == P && c != P && vs[11]? == some (.ref P)
      | _, _, _, _, _ => false)
    | _ => false)
  | _ => false
abbrev Cx.gen (X : Cx) (s : Shared) (H : Hp) (A' : Around) (cenv : Env) (fp : List Addr) : Cx :=
  { X with s_0 := s, H_0 := H, env := cenv, outer := X.stack, stack := cenv :: X.stack, A := A', ex := fp, fn := fun _ => false, pn := [], xe := fun _ _ => False }
end L2
namespace L2
open PySem PySem.Spec PyProof.Rows
abbrev GE (elt : Expr) (x : Str) (px : Pos) (iter : Expr) (scope : Scope) (pos : Pos) : Expr := .GeneratorExp elt [⟨.Name x px, iter, [], 0⟩] scope pos
abbrev Ag (A : Around) (ge : Expr) (it : Addr) (cenv : Env) : Around := (A.in1.in1).over (.compLoop ge 0 (.ref it) .none cenv) []
theorem Room.gen {k : Nat} {A : Around} {elt : Expr} {x : Str} {px : Pos} {iter : Expr} {scope : Scope} {pos : Pos} {it : Addr} {cenv : Env} (r : Room (k + 1) A) : Room k (Ag A (GE elt x px iter scope pos) it cenv) := by
  have h1 := r.dp
  have h2 := r.un
  refine ⟨r.hd, ?_, ?_, r.gd⟩
  · show A.depth + 0 + 1 + 3 * k + 5 < recursionLimit
    omega
  · show A.units + 1 + 1 + 0 + 3 + 16 * k + 200 < cLine
    omega
section
variable {X : Cx} {elt iter : Expr} {x : Str} {px gpos : Pos} {scope : Scope} {te : TE}

structure BMain (mg : Str → Option Value) (base : Heap) : Prop where
  ex : ∃ bm ob, mg "__builtins__" = some (.ref bm) ∧ bm ≠ builtinsNs ∧ base.get? bm = some ob ∧ ob.cls = .type "module" ∧ ob.dict = some builtinsNs ∧ ob.data = .plain

end
end L2
namespace Tb
def sm : Nat → (Nat → Int) → Int
  | 0, _ => 0
  | n + 1, f => sm n f + f n
def row (w : Nat) (f : Nat → Int) : List Int := (List.range w).map f
def mk (h w : Nat) (f : Nat → Nat → Int) : List (List Int) := (List.range h).map fun i => row w (f i)
def step (tot : List Int) (p : Int × List Int) : List Int := if p.1 = 0 then tot else List.zipWith (fun a b => a + p.1 * b) tot p.2
def times (d : Nat) (r : List Int) (rows : List (List Int)) : List Int := (r.zip rows).foldl step (List.replicate d 0)
def one (i j : Nat) : Int := if i = j then 1 else 0
def Bd (M h w : Nat) (f : Nat → Nat → Int) : Prop := ∀ i, i < h → ∀ j, j < w → (f i j).natAbs ≤ M
theorem Bd.mono {M N h w : Nat} {f : Nat → Nat → Int} (a : Bd M h w f) (e : M ≤ N) : Bd N h w f := fun i hi j hj => Nat.le_trans (a i hi j hj) e
end Tb
namespace L2
open PySem PySem.Spec PyProof.Rows
def SameX (D : Addr) (H H' : Hp) : Prop := ∀ b o, b ≠ D → H b = some o → H' b = some o
theorem SameX.refl (D : Addr) (H : Hp) : SameX D H H := fun _ _ _ e => e
theorem SameX.trans {D : Addr} {H H1 H2 : Hp} (a : SameX D H H1) (b : SameX D H1 H2) : SameX D H H2 := fun c o n e => b c o n (a c o n e)
theorem SameX.upd {D : Addr} {H : Hp} {o : HO} : SameX D H (L2.upd H D o) := fun b u n e => by rw [upd_ne n]; exact e
theorem Same.x {D : Addr} {H H' : Hp} (h : Same H H') : SameX D H H' := fun b o _ e => h b o e
theorem SameX.same {D : Addr} {H H' : Hp} (h : SameX D H H') (n : H D = none) : Same H H' := fun b o e => h b o (ne_of_none e n) e
theorem Same.new {p : Addr} {H : Hp} {o : HO} (n : H p = none) : Same H (upd H p o) := fun b u e => by rw [upd_ne (ne_of_none e n)]; exact e
theorem SameX.free {D : Addr} {H H' : Hp} (h : SameX D H H') {c : Addr} (n : H' c = none) (hc : c ≠ D) : H c = none := by
  cases q : H c with
  | none => rfl
  | some o => rw [h c o hc q] at n; cases n

def CP {α : Type} (F : Hp → V → α → Prop) (out : Nat → α) (H1 : Hp) (D : Addr) (i : Nat) (H : Hp) : Prop := ∃ acc, SameX D H1 H ∧ H D = some (.lst acc) ∧ Paired (F H) acc ((List.range i).map out)
def Stab {α : Type} (D : Addr) (F : Hp → V → α → Prop) : Prop := ∀ H H' v a, SameX D H H' → F H v a → F H' v a
section
variable {α : Type} {F : Hp → V → α → Prop} {out : Nat → α} {H1 H H4 : Hp} {D : Addr} {i : Nat}
theorem CP.start : CP F out H1 D 0 (upd H1 D (.lst [])) := ⟨[], .upd, upd_same, .nil⟩
theorem CP.next (stab : Stab D F) (hi : i < sizeLine) (c : CP F out H1 D i H) (h : SameX D H H4) (hD : H4 D = H D) {y : V} (f : F H4 y (out i)) :
    ∃ acc, H4 D = some (.lst acc) ∧ acc.length < sizeLine ∧ CP F out H1 D (i + 1) (upd H4 D (.lst (acc ++ [y]))) := by
  obtain ⟨acc, s, d, p⟩ := c
  have hl : acc.length = i := by rw [p.length]; simp
  refine ⟨acc, hD.trans d, by omega, acc ++ [y], (s.trans h).trans .upd, upd_same, ?_⟩
  rw [List.range_succ, List.map_append]
  exact (Paired.mono (fun v a z => stab _ _ _ _ (h.trans .upd) z) p).snoc (stab _ _ _ _ .upd f)
theorem CP.lst (c : CP F out H1 D i H) : ∃ acc, H D = some (.lst acc) := let ⟨acc, _, d, _⟩ := c; ⟨acc, d⟩
theorem CP.same (c : CP F out H1 D i H) : SameX D H1 H := let ⟨_, s, _, _⟩ := c; s
end
theorem for_by {J : It} {n : Nat} {g : TG} {tb : TS} {σ : St} {H1 : Hp} {D : Ends} (Pv : Nat → St → Hp → Prop) (h0 : Pv 0 σ H1) (go : ∀ i σ H, i < n → Pv i σ H → J.go i H) (stop : ∀ σ H, Pv n σ H → J.stop n H)
    (hs : ∀ i σ H, i < n → Pv i σ H → ∀ x H', J.yld i H x H' → g x σ H' fun σ2 H2 => tb { D with nx := Pv (i + 1), ct := Pv (i + 1), bk := D.nx } σ2 H2) (hd : ∀ σ H, Pv n σ H → D.nx σ H) :
    ∃ W : Nat → Nat → St → Hp → Prop, (∃ m, W 0 m σ H1) ∧ ∀ i m σ H, W i m σ H →
      (J.stop i H ∧ D.nx σ H) ∨ (J.go i H ∧ ∃ N : St → Hp → Prop, (∀ σ' H', N σ' H' → ∃ m', m' < m ∧ W (i + 1) m' σ' H') ∧ ∀ x H', J.yld i H x H' → g x σ H' fun σ2 H2 => tb { D with nx := N, ct := N, bk := D.nx } σ2 H2) := by
  refine ⟨fun i m σ H => m = n - i ∧ i ≤ n ∧ Pv i σ H, ⟨n, by simp, Nat.zero_le _, h0⟩, ?_⟩
  rintro i m σ H ⟨rfl, hi, p⟩
  by_cases hlt : i < n
  · exact .inr ⟨go i σ H hlt p, Pv (i + 1), fun σ' H' p' => ⟨n - (i + 1), by omega, rfl, hlt, p'⟩, fun x H' y => hs i σ H hlt p x H' y⟩
  · have e : i = n := by omega
    subst e
    exact .inl ⟨stop σ H p, hd σ H p⟩

abbrev Any : Addr → Prop := fun _ => True
def IsN (N : Addr → Prop) (H : Hp) (v : V) (r : List Int) : Prop := ∃ c, v = .ref c ∧ N c ∧ H c = some (.lst (r.map V.int))
def RowsN (N : Addr → Prop) (H : Hp) (b : Addr) (rows : List (List Int)) : Prop := ∃ us, N b ∧ H b = some (.lst us) ∧ Paired (IsN N H) us rows
def TbN (N : Addr → Prop) (H : Hp) (v : V) (h w : Nat) (f : Nat → Nat → Int) : Prop := ∃ a b, v = .ref a ∧ N a ∧ H a = some (.tup [.int h, .int w, .ref b]) ∧ RowsN N H b (Tb.mk h w f)
section
variable {N N' : Addr → Prop} {H H' : Hp}
theorem IsN.to {v : V} {r : List Int} (x : IsN N H v r) (hn : ∀ c, N c → N' c) (hs : ∀ c o, N c → H c = some o → H' c = some o) : IsN N' H' v r :=
  let ⟨c, e, n, q⟩ := x; ⟨c, e, hn c n, hs c _ n q⟩
theorem RowsN.to {b : Addr} {rows : List (List Int)} (x : RowsN N H b rows) (hn : ∀ c, N c → N' c) (hs : ∀ c o, N c → H c = some o → H' c = some o) : RowsN N' H' b rows :=
  let ⟨us, n, q, p⟩ := x; ⟨us, hn b n, hs b _ n q, Paired.mono (fun v r z => z.to hn hs) p⟩
theorem TbN.to {v : V} {h w : Nat} {f : Nat → Nat → Int} (x : TbN N H v h w f) (hn : ∀ c, N c → N' c) (hs : ∀ c o, N c → H c = some o → H' c = some o) : TbN N' H' v h w f :=
  let ⟨a, b, e, n, q, r⟩ := x; ⟨a, b, e, hn a n, hs a _ n q, r.to hn hs⟩
theorem TbN.same {v : V} {h w : Nat} {f : Nat → Nat → Int} (x : TbN N H v h w f) (s : Same H H') : TbN N H' v h w f := x.to (fun _ n => n) fun c o _ q => s c o q
theorem TbN.any {v : V} {h w : Nat} {f : Nat → Nat → Int} (x : TbN N H v h w f) : TbN Any H v h w f := x.to (fun _ _ => trivial) fun _ _ _ q => q
theorem RowsN.same {b : Addr} {rows : List (List Int)} (x : RowsN N H b rows) (s : Same H H') : RowsN N H' b rows := x.to (fun _ n => n) fun c o _ q => s c o q
theorem IsN.same {v : V} {r : List Int} (x : IsN N H v r) (s : Same H H') : IsN N H' v r := x.to (fun _ n => n) fun c o _ q => s c o q
theorem IsN.stab {D : Addr} (hN : ∀ c, N c → c ≠ D) : Stab D (IsN N) := fun H H' v a s x => x.to (fun _ n => n) fun c o n q => s c o (hN c n) q
theorem RowsN.get {b : Addr} {rows : List (List Int)} {us : List V} {i : Nat} {v : V} (p : Paired (IsN N H) us rows) (e : us[i]? = some v) : ∃ r, rows[i]? = some r ∧ IsN N H v r := by
  induction p generalizing i with
  | nil => simp at e
  | cons h t ih =>
    cases i with
    | zero => simp at e; subst e; exact ⟨_, rfl, h⟩
    | succ i => exact ih (by simpa using e)
end
theorem Paired.getL {α β : Type} {F : α → β → Prop} {us : List α} {rows : List β} {i : Nat} {r : β} (p : Paired F us rows) (e : rows[i]? = some r) : ∃ v, us[i]? = some v ∧ F v r := by
  induction p generalizing i with
  | nil => simp at e
  | cons h t ih =>
    cases i with
    | zero => simp at e; subst e; exact ⟨_, rfl, h⟩
    | succ i => exact ih (by simpa using e)
theorem Paired.getR {α β : Type} {F : α → β → Prop} {us : List α} {rows : List β} {i : Nat} {v : α} (p : Paired F us rows) (e : us[i]? = some v) : ∃ r, rows[i]? = some r ∧ F v r := by
  induction p generalizing i with
  | nil => simp at e
  | cons h t ih =>
    cases i with
    | zero => simp at e; subst e; exact ⟨_, rfl, h⟩
    | succ i => exact ih (by simpa using e)

def rowsD (rows : List (List Int)) : List PyData := rows.map fun r => .list (r.map .int)
def tbD (h w : Nat) (f : Nat → Nat → Int) : PyData := .tuple [.int h, .int w, .list (rowsD (Tb.mk h w f))]
theorem dpInts {K : PySem.W.Frag} {H : Hp} : ∀ r : List Int, DpAll K H (r.map V.int) (r.map PyData.int)
  | [] => .nil
  | i :: r => .cons (.int i) (dpInts r)
theorem dpRows {K : PySem.W.Frag} {N : Addr → Prop} {H : Hp} {us : List V} {rows : List (List Int)} (p : Paired (IsN N H) us rows) : DpAll K H us (rowsD rows) := by
  induction p with
  | nil => exact .nil
  | cons h t ih =>
    obtain ⟨c, rfl, _, q⟩ := h
    exact .cons (.lst (SqL.of q) (dpInts _)) ih
theorem TbN.dp {K : PySem.W.Frag} {N : Addr → Prop} {H : Hp} {v : V} {h w : Nat} {f : Nat → Nat → Int} (x : TbN N H v h w f) : Dp K H v (tbD h w f) := by
  obtain ⟨a, b, rfl, _, q, us, _, q2, p⟩ := x
  exact .tup (SqT.of q) (.cons (.int _) (.cons (.int _) (.cons (.lst (SqL.of q2) (dpRows p)) .nil)))
theorem lay_ints : ∀ r : List Int, PyData.canLayAll0 (r.map PyData.int) = true
  | [] => rfl
  | i :: r => by simp [PyData.canLayAll0, PyData.canLay0, lay_ints r]
theorem dep_ints : ∀ r : List Int, PyData.depthAll (r.map PyData.int) = 0
  | [] => rfl
  | i :: r => by simp [PyData.depthAll, PyData.depth, dep_ints r]
theorem eqv_same {d e : PyData} (hd : SeqAt.shaped d = true) (h : d = e) : PyData.eqv d e = true := by
  subst h; exact SeqAt.eqv_refl d (SeqAt.canLay_of_shaped hd)
def CMulB (i j : Int) : Prop := i.natAbs < 2 ^ 10000 ∧ j.natAbs < 2 ^ 10000
theorem bits_le {i : Int} {n : Nat} (h : i.natAbs < 2 ^ n) : Builtin.Int.intBits i ≤ n := by
  unfold Builtin.Int.intBits
  split
  · exact Nat.zero_le _
  · rename_i z
    have hz : i.natAbs ≠ 0 := fun e => z (by simp [Int.natAbs_eq_zero.mp e])
    exact (Nat.log2_lt hz).mpr h
theorem mulB_ok {i j : Int} (h : CMulB i j) : IntMulOk i j := by
  have h1 := bits_le h.1
  have h2 := bits_le h.2
  unfold IntMulOk
  have z : Builtin.Int.intTooBig ((Builtin.Int.intBits i : Int) + (Builtin.Int.intBits j : Int)) = false := by
    unfold Builtin.Int.intTooBig
    have e : bitsLine = 134217728 := by decide
    rw [e]
    simp only [gt_iff_lt, decide_eq_false_iff_not]
    omega
  intro q
  simp only [Bool.and_eq_true] at q
  have q2 := q.2
  first
    | (rw [z] at q2; cases q2)
    | (simp only [← Int.natCast_add] at z q2; rw [z] at q2; cases q2)
theorem op_mulB {X : Cx} : OpR X (binaryOp .Mult) (rI CMulB fun i j => .int (i * j)) := opI fun _ _ _ _ _ _ _ hc q => mul_int q (mulB_ok hc)

def rIsi (K : PySem.W.Frag) : List V → Hp → VK → Prop := fun xs H Q => ∃ x t n b, xs = [x, .ty n] ∧ TyOf K H x t ∧ PySem.W.kitOne K t (.type n) = some b ∧ Q (.bl b) H
theorem cr_isi {X : Cx} : CallR X (.builtin "isinstance") (rIsi X.K) := by
  intro pins s σ H xs us Q I r h
  obtain ⟨x, t, n, b, rfl, ty, e, q⟩ := h
  cases r with
  | cons r1 r2 => cases r2 with
    | cons r2 r3 =>
      cases r3
      obtain rfl := (show _ = Value.type n from r2)
      exact isinst_ok I r1 ty e fun tk => ⟨.bl b, H, I.tok tk, rfl, q⟩
theorem kit_ii (K : PySem.W.Frag) : PySem.W.kitOne K (.type "int") (.type "int") = some true := by rfl
theorem kit_ib (K : PySem.W.Frag) : PySem.W.kitOne K (.type "int") (.type "bool") = some false := by kernel_rfl
end L2
namespace L2
open PySem PySem.Spec PyProof.Rows
def Cal (P : Program) (w : World) (K : PySem.W.Frag) (mg : Str → Option Value) (base : Heap) (k : Nat) (x : Str) (ps : List Str) (sp : Sp) : Prop :=
  ∃ f fd, FnOk P w K mg base CX0 k f fd ps sp ∧ mg x = some (.ref f) ∧ PySem.W.keepIn K (.ref f) = true ∧ Binds K fd ps []
theorem pe_cal {X : Cx} {k : Nat} {x : Str} {ps : List Str} {sp : Sp} {p pos : Pos} {e : Expr} {es : List Expr} {t : TA} (C : Cal X.prog X.w X.K X.mg X.base k x ps sp) (hr : Room k X.A) (hg : Gl X x) (ha : PA X (e :: es) t)
    (hdb : (x == ("__debug__" : Str)) = false := by decide) (he : starEach (e :: es) X.env = (false, eval e X.env) :: starEach es X.env := by rfl) (hpl : (backTo pos (starEach es X.env)).any (·.1) = false := by rfl) :
    PE X (.Call (.Name x p) (e :: es) [] pos) (tCall sp [] E0 t) := by
  obtain ⟨f, fd, G, hm, kp, b⟩ := C
  exact pe_call G hr hg hm kp b .nil pass0 ha hdb he hpl
theorem Cal.mono {P : Program} {w : World} {K : PySem.W.Frag} {mg : Str → Option Value} {base : Heap} {j k : Nat} {x : Str} {ps : List Str} {sp : Sp} (C : Cal P w K mg base j x ps sp) (h : j ≤ k) : Cal P w K mg base k x ps sp := by
  obtain ⟨f, fd, G, r⟩ := C
  exact ⟨f, fd, G.mono h, r⟩
structure FT (K : PySem.W.Frag) (mg : Str → Option Value) (x : Str) (st : Stmt) (ps : List Str) (f : Addr) (fd : FuncData) : Prop where
  fn : Fun K x x st f fd
  mg : mg x = some (.ref f)
  bd : Binds K fd ps []
section
variable {P : Program} {w : World} {K : PySem.W.Frag} {mg : Str → Option Value} {base : Heap}
theorem FT.cal {x : Str} {st : Stmt} {ps : List Str} {f : Addr} {fd : FuncData} {N : List Str} {k : Nat} {sp : Sp} (F : FT K mg x st ps f fd) (S : FnScope N ps (defScope st)) (len : ∀ vs H Q E, sp vs H Q E → vs.length = ps.length)
    (hbody : ∀ (A : Around) (outer : List Env) (s : Shared) (H : Hp) (vs : List V) (Q : VK) (E : XK), Room k (A.deeper (envOfC x (defScope st) s.heap.objs.size f fd.code)) → sp vs H Q E →
      ∃ t, PSs (cxOf CX0 P w K mg base N x (defScope st) f fd.code A outer s H E).nox (defBody st) t ∧ t { nx := fun _ H' => Q .non H', rt := Q } (start N vs) H) : Cal P w K mg base (k + 1) x ps sp := by
  refine ⟨f, fd, ?_, F.mg, F.fn.kp, F.bd⟩
  obtain ⟨oc, od, kV, doc, pm, an, cdv, ct, osl, rfl, lk, hcd⟩ := F.fn.ex
  refine fn_of lk hcd S len fun A outer s H vs Q E hr hsp => ?_
  obtain ⟨t, h, q⟩ := hbody A outer s H vs Q E hr hsp
  exact ⟨t, h.nox, q⟩
end
section
variable {X : Cx}
theorem pe_isi {n : String} {x : Str} {e : Expr} {ta : TE} {p p2 pos : Pos} (hg : Gl X "isinstance") (hm : X.mg "isinstance" = none) (ha : PE X e ta) (hgT : Gl X x) (hmT : X.mg x = none) (hv : bootBuiltins x = some (.type n)) (hn : x ≠ "__name__" := by decide) (hd : (x == ("__debug__" : Str)) = false := by decide)
    (he : starEach [e, .Name x p2] X.env = (false, eval e X.env) :: starEach [.Name x p2] X.env := by rfl) :
    PE X (.Call (.Name "isinstance" p) [e, .Name x p2] [] pos) (tCB (rIsi X.K) (tCons ta (tCons (tC (.ty n)) tNil))) :=
  pe_callB cr_isi hg hm (by decide +kernel) (pa_cons ha (pa_cons (pe_bltn hgT hmT hv rfl hn hd) pa_nil) he) (by decide) (by decide) he (by rfl)
theorem pe_len {e : Expr} {ta : TE} {p pos : Pos} (hg : Gl X "len") (hm : X.mg "len" = none) (ha : PE X e ta) (he : starEach [e] X.env = (false, eval e X.env) :: starEach [] X.env := by rfl) :
    PE X (.Call (.Name "len" p) [e] [] pos) (tCB (fun xs H Q => ∃ p ys, xs = [.ref p] ∧ (SqL X.K H p ys ∨ SqT X.K H p ys) ∧ Q (.int ys.length) H) (tCons ta tNil)) :=
  pe_callB call_len_seq hg hm PySem.boot_len (pa_cons ha pa_nil he) (by decide) (by decide) he (by rfl)
end
end L2
namespace L2
open PySem PySem.Spec PyProof.Rows
section
variable {prog : Program} {w : World} {A : Around} {E : Value → Shared → Prop} {s : Shared}
end
end L2
namespace L2
open PySem PySem.Spec PyProof.Rows
def TabsIn (h : Heap) (H : Hp) : Prop := ∀ c b, h.TableAt c b #[] → H b = some (Tab b)
open Classical in
noncomputable def entryH (h : Heap) (a : Addr) (o : Option HO) : Hp := fun b => if b = a ∧ o.isSome then o else if ∃ c, h.TableAt c b #[] then some (Tab b) else none
theorem law_callC {P : Program} {w : World} {K : PySem.W.Frag} {mg mb : Str → Option Value} {k : Nat} {fa a : Addr} {nm x : Str} {sp : Sp} {s₁ : Shared} {vs : List Value} {ns : List Int}
    (KX : K.In s₁.heap) (hKc : PySem.W.kb_classed K = true) (hns : s₁.heap.Ns mainGlobals mg) (hb : s₁.heap.Ns builtinsNs mb) (hbb : ∀ x : Str, x ≠ "__name__" → mb x = bootBuiltins x) (hlim : s₁.heap.NoLimit) (hg : s₁.gens = #[]) (hbm : BMain mg s₁.heap)
    (ha : s₁.heap.get? a = some { cls := .type "list", data := .seq vs.toArray }) (hi : IntsAre vs ns) (hl : ns.length ≤ sizeLine) (hr : Room k callerA)
    (hfa : mg nm = some (.ref fa)) (F : ∀ base : Heap, K.In base → base.Ns mainGlobals mg → BMain mg base → Cal P w K mg base k nm [x] sp)
    (hsp : ∀ H : Hp, TabsIn s₁.heap H → SqL K H a (ns.map V.int) → sp [.ref a] H (fun v H' => v = .bl true ∧ Same H H') fun _ _ _ => False)
    :
    codeAny (model P w) callerA (.call (.ref fa) ⟨[.ref a], []⟩) (fun r s' => r = .ok (.ret (.bool true)) ∧ OldK s₁.heap s'.heap ∧ s'.os = s₁.os ∧ AllBare s'.gens) s₁ := by
  have rv := vals_ints hi
  have lenV := hi.length
  have core : ∀ H : Hp, TabsIn s₁.heap H → SqL K H a (ns.map V.int) → HOk P w H s₁.heap → (∀ b o, H b = some o → (b = a ∧ ∃ ob xs, o = .frz ob (.lst xs)) ∨ (o = Tab b ∧ ∃ c, s₁.heap.TableAt c b #[])) → (H a ≠ none → K.lookup a = none) →
      codeAny (model P w) callerA (.call (.ref fa) ⟨[.ref a], []⟩) (fun r s' => r = .ok (.ret (.bool true)) ∧ OldK s₁.heap s'.heap ∧ s'.os = s₁.os ∧ AllBare s'.gens) s₁ := by
    intro H hT hS hok hA hK
    have base_of : ∀ {b : Addr} {o : Obj}, s₁.heap.get? b = some o → H b = none → (hidT s₁.heap H).get? b = some o := fun e n => hidT_get e n
    have noA : ∀ {b : Addr} {o : Obj} {es : Array DictEntry} {ep : Nat}, s₁.heap.get? b = some o → o.data = .dict es ep → H b = none := fun {b o es ep} e d => by
      cases q : H b with
      | none => rfl
      | some u =>
        rcases hA b u q with ⟨e', _⟩ | ⟨_, c, t⟩
        · subst e'
          rw [ha] at e; cases e
          have d' : Data.seq vs.toArray _ = Data.dict es ep := d
          cases d'
        · rw [t.2] at e; cases e
          have d' : Data.fields _ = Data.dict es ep := d
          cases d'
    have nsK : ∀ {b : Addr} {m : Str → Option Value}, s₁.heap.Ns b m → (hidT s₁.heap H).Ns b m := fun {b m} ⟨o, es, ep, e, d, r⟩ => ⟨o, es, ep, base_of e (noA e d), d, r⟩
    have hKb : K.In (hidT s₁.heap H) := fun b o e => base_of (KX b o e) (by
      cases q : H b with
      | none => rfl
      | some u =>
        rcases hA b u q with ⟨e', _⟩ | ⟨_, c, t⟩
        · subst e'
          rw [hK (by rw [q]; simp)] at e; cases e
        · have e1 := KX b o e
          rw [t.2] at e1
          cases e1
          have z := List.all_eq_true.mp hKc _ (PySem.W.kb_mem e)
          simp only [Bool.or_eq_true, decide_eq_true_eq, beq_iff_eq, ne_eq, not_true_eq_false, false_or] at z
          rcases z with z | z
          · subst z
            obtain ⟨mc, ⟨o', es, ep, e', d, _⟩, _⟩ := hlim
            rw [t.2] at e'; cases e'; cases d
          · subst z
            obtain ⟨o', es, ep, e', d, _⟩ := hns
            rw [t.2] at e'; cases e'; cases d)
    have hM : Mod K mg (hidT s₁.heap H) := ⟨hKb, nsK hns, ⟨mb, nsK hb, hbb⟩, let ⟨mc, h1, h2⟩ := hlim; ⟨mc, nsK h1, h2⟩⟩
    have hB : BMain mg (hidT s₁.heap H) := by
      obtain ⟨bm, ob, b1, b2, b3, b4, b5, b6⟩ := hbm.ex
      refine ⟨bm, ob, b1, b2, base_of b3 ?_, b4, b5, b6⟩
      cases q : H bm with
      | none => rfl
      | some u =>
        rcases hA bm u q with ⟨e', _⟩ | ⟨_, c, t⟩
        · subst e'
          rw [ha] at b3; cases b3
          have z : Value.type "list" = Value.type "module" := b4
          simp at z
        · rw [t.2] at b3; cases b3
          have z : Value.none = Value.type "module" := b4
          simp at z
    have e0 : Env0 P w K mg (hidT s₁.heap H) callerA [] s₁ H := ⟨rfl, hM, fun b o e => of_hidT e, Nat.le_of_eq (hidT_size _ _), trivial, fun b hb => absurd (show b ∈ ([] : List Addr) from hb) (by simp), hok, .of_eq hg⟩
    obtain ⟨f', fd, G, hm', kp, bd⟩ := F _ hKb (nsK hns) hB
    have ef : f' = fa := by rw [hfa] at hm'; cases hm'; rfl
    subst ef
    refine codeAny_mono (G.run callerA [] s₁ H ⟨[.ref a], []⟩ [.ref a] [.ref a] _ _ hr e0 (bd s₁ [.ref a] KX rfl) (.cons rfl .nil) (hsp H hT hS)) fun r s' h => ?_
    cases r with
    | error e => exact False.elim h
    | ok fl =>
      cases fl with
      | next => exact False.elim h
      | brk => exact False.elim h
      | cont => exact False.elim h
      | ret u =>
        obtain ⟨v, H', os, bare, un, hok', r', q, hTT⟩ := h
        have q' : v = .bl true := q
        subst q'
        obtain rfl : u = Value.bool true := r'
        refine ⟨rfl, ⟨fun b o e => ?_, fun b o e => ?_⟩, os, bare⟩
        · cases q : H b with
          | none => exact .inl (un.keep b o e q (by intro z; exact absurd (show b ∈ ([] : List Addr) from z) (by simp)) (by simp))
          | some u =>
            rcases hA b u q with ⟨_, ob, xs, z⟩ | ⟨z, c, t⟩
            · subst z
              have z2 := un.frzs b ob _ q
              obtain ⟨e1, _⟩ := hok b _ q
              obtain ⟨e2, _⟩ := hok' b _ z2
              rw [e] at e1; cases e1
              exact .inl e2
            · subst z
              obtain ⟨⟨ps, e2, _⟩, _, _⟩ := hok' b _ (hTT b _ q)
              rw [t.2] at e; cases e
              exact .inr (.inl ⟨t.isCodeTable, rfl, #[], ps, rfl, by rw [e2]; simp⟩)
        · cases q : H b with
          | none => exact ⟨_, un.keep b o e q (by intro z; exact absurd (show b ∈ ([] : List Addr) from z) (by simp)) (by simp)⟩
          | some u => exact un.there b o e (by simp)
  have tabNe : ∀ c b, s₁.heap.TableAt c b #[] → b ≠ a := fun c b t z => by
    subst z
    have := t.2
    rw [ha] at this
    cases this
  cases hk : K.lookup a with
  | some o =>
    have e := KX a o hk
    rw [ha] at e
    cases e
    refine core (entryH s₁.heap a none) (fun c b t => ?_) (.inr ⟨_, vs.toArray, _, hk, rfl, rfl, rfl, by rw [List.size_toArray, lenV]; exact hl, by simpa using rv⟩) (fun b u z => ?_) (fun b u z => ?_) fun z => absurd ?_ z
    · unfold entryH; rw [if_neg (by simp), if_pos ⟨c, t⟩]
    · unfold entryH at z
      rw [if_neg (by simp)] at z
      split at z
      · rename_i t; cases z; obtain ⟨c, t⟩ := t; exact tab_ok ⟨#[], t.2, trivial, fun _ _ _ => rfl⟩
      · cases z
    · unfold entryH at z
      rw [if_neg (by simp)] at z
      split at z
      · rename_i t; cases z; exact .inr ⟨rfl, t⟩
      · cases z
    · unfold entryH
      rw [if_neg (by simp), if_neg (by rintro ⟨c, t⟩; exact tabNe c a t rfl)]
  | none =>
    refine core (entryH s₁.heap a (some (.frz { cls := .type "list", data := .seq vs.toArray } (.lst (ns.map V.int))))) (fun c b t => ?_) (.inl (.inr ⟨{ cls := .type "list", data := .seq vs.toArray }, if_pos ⟨rfl, rfl⟩⟩)) (fun b u z => ?_) (fun b u z => ?_) fun _ => hk
    · unfold entryH; rw [if_neg (fun z => tabNe c b t z.1), if_pos ⟨c, t⟩]
    · unfold entryH at z
      split at z
      · rename_i t; obtain ⟨t, _⟩ := t; cases z; subst t
        exact ⟨ha, by rw [List.length_map]; exact hl, vs, _, rv, ha⟩
      · split at z
        · rename_i t; cases z; obtain ⟨c, t⟩ := t; exact tab_ok ⟨#[], t.2, trivial, fun _ _ _ => rfl⟩
        · cases z
    · unfold entryH at z
      split at z
      · rename_i t; cases z; exact .inl ⟨t.1, _, _, rfl⟩
      · split at z
        · rename_i t; cases z; exact .inr ⟨rfl, t⟩
        · cases z

theorem walk_ofC {l : PySem.W.OpenLaw} {n k : Nat} {q : Program} {loose : List Str} {XP : (Str → Option Value) → Heap → Prop} {YP : World → Heap → Prop} {d : DefRec} {K : Params → PySem.W.Frag} {x : Str}
    (hn : l.most = some n) (hn2 : n ≤ sizeLine) (hdf : d.params.defaults = []) (hr : Room k callerA)
    (hY : ∀ (w : World) (h : Heap), YP w h → (K w.params).In h) (hKc : ∀ w : World, PySem.W.kb_classed (K w.params) = true)
    (F : ∀ (w : World) (mg : Str → Option Value) (h : Heap), (K w.params).In h → h.Ns mainGlobals mg → (∀ e ∈ recsOf q, ∃ a o fd c P, mg e.name = some (.ref a) ∧ h.get? a = some o ∧ o.data = .func fd ∧ fd.code = .ref c ∧ h.IsCode c P #[] ∧ h.TableAt c P #[]) →
      ∃ sp : Sp, (∀ base : Heap, (K w.params).In base → base.Ns mainGlobals mg → BMain mg base → Cal l.prog w (K w.params) mg base k d.name [x] sp) ∧
        ∀ (H : Hp) (a : Addr) (ns : List Int), ns.length ≤ n → TabsIn h H → SqL (K w.params) H a (ns.map V.int) → sp [.ref a] H (fun v H' => v = .bl true ∧ Same H H') fun _ _ _ => False) :
    PySem.W.WalkO q loose XP YP l.row.toRowW d [] (fun f vs => PySem.call f vs) := by
  refine Att.attach_call hn hdf fun w s₀ s₁ mg mb fa o pm cd doc a vs ns G Y ho hd hcd hmg hobj hints hlen hg => ?_
  have KX := hY w _ Y
  obtain ⟨sp, hF, hsp⟩ := F w mg _ KX G.T.g G.T.tab
  exact law_callC KX (hKc w) G.T.g G.T.b G.T.builtins G.T.nolimit hg ⟨G.T.bmain⟩ hobj hints (Nat.le_trans hlen hn2) hr hmg hF (fun H hT hS => hsp H a ns hlen hT hS)

theorem tab_of {K : PySem.W.Frag} {h : Heap} {cdv : Value} {q : Str} {c P : Addr} (X : K.In h) (hcd : PySem.W.codeIn K cdv q = true) (hc : cdv = .ref c) (ic : h.IsCode c P #[]) (tc : h.TableAt c P #[]) : codeTab K cdv P = true := by
  subst hc
  unfold PySem.W.codeIn at hcd
  unfold codeTab
  dsimp only at hcd ⊢
  cases hk : K.lookup c with
  | none => rw [hk] at hcd; cases hcd
  | some o =>
    have ho := X _ _ hk
    obtain ⟨⟨o', vs, e1, e2, e3, e4⟩, _⟩ := tc
    rw [ho] at e1
    cases e1
    obtain ⟨o2, vs2, file, tf, flags, tg, inF, text, tt, op, f1, f2, g1, g2, g3, g4, g5, _, _, _, f9⟩ := ic
    rw [ho] at f1
    cases f1
    rw [e3] at f2
    cases f2
    obtain ⟨cl, dx, dt, sl⟩ := o
    dsimp only at e2 e3
    subst e2 e3
    dsimp only
    rw [g1, g2, g3, g4, g5]
    simp [e4, f9]
theorem FT_mk {K : PySem.W.Frag} {h : Heap} {mg : Str → Option Value} (X : K.In h) (G : h.Ns mainGlobals mg) {x : Str} {st : Stmt} {ps : List Str} {f : Addr} {oc : Value} {od an : Option Addr} {osl : Array (Option Value)} {kV doc pm cdv ct : Value}
    (a : PySem.W.nsIn K mainGlobals x = some (some (.ref f)))
    (l : K.lookup f = some ⟨oc, od, .func (PySem.W.fnOf x x (defArgs st) (defBody st) (defScope st) .none kV doc pm an cdv ct), osl⟩) (c : PySem.W.codeIn K cdv x = true) (k : PySem.W.keepIn K (.ref f) = true)
    (hb : ∀ (kV doc pm : Value) (an : Option Addr) (cdv ct : Value) (us : List Value), us.length = ps.length → bindArgs (PySem.W.fnOf x x (defArgs st) (defBody st) (defScope st) .none kV doc pm an cdv ct) ⟨us, []⟩ = pure (ps.zip us)) :
    FT K mg x st ps f (PySem.W.fnOf x x (defArgs st) (defBody st) (defScope st) .none kV doc pm an cdv ct) :=
  let F := fun_mk (st := st) l c k
  ⟨F, PySem.W.mg_of X G a, F.binds hb⟩
theorem FT.tab {K : PySem.W.Frag} {h : Heap} {mg : Str → Option Value} {q : Program} {x : Str} {st : Stmt} {ps : List Str} {f : Addr} {fd : FuncData} (F : FT K mg x st ps f fd) (X : K.In h)
    (tabs : ∀ e ∈ recsOf q, ∃ a o fd c P, mg e.name = some (.ref a) ∧ h.get? a = some o ∧ o.data = .func fd ∧ fd.code = .ref c ∧ h.IsCode c P #[] ∧ h.TableAt c P #[]) (hx : ((recsOf q).any fun e => e.name == x) = true) :
    ∃ P, codeTab K fd.code P = true ∧ ∃ c, h.TableAt c P #[] := by
  obtain ⟨e, he, en⟩ := List.any_eq_true.mp hx
  obtain ⟨a, o, fd', c, P, h1, h2, h3, h4, h5, h6⟩ := tabs e he
  rw [beq_iff_eq.mp en, F.mg] at h1
  cases h1
  obtain ⟨oc, od, kV, doc, pm, an, cdv, ct, osl, efd, lk, hcd⟩ := F.fn.ex
  have ho := X _ _ lk
  rw [ho] at h2
  cases h2
  have e3 : fd = fd' := by
    have z : Data.func fd = Data.func fd' := h3
    cases z; rfl
  subst e3
  refine ⟨P, tab_of X (q := x) ?_ h4 h5 h6, c, h6⟩
  rw [efd]; exact hcd
end L2
namespace L2
open PySem PySem.Spec PyProof.Rows
theorem gen_new {H : Hp} {l : Addr} {C : Hp → Prop} (o : HO) (hl : H l = none) (k : ∀ H', Same H H' → H' l = some o → C H') : C (upd H l o) := k _ (Same.new hl) upd_same
def CDivB (i j : Int) : Prop := 0 < j ∧ j.natAbs < 2 ^ 9000
theorem op_fdivB {X : Cx} : OpR X (binaryOp .FloorDiv) (rI CDivB fun i j => .int (i / j)) := opI fun i j _ _ _ _ _ hc q => by
  have h1 : (0 : Int) < j := hc.1
  exact floordiv_int (by omega) (by rw [Int.fdiv_eq_ediv_of_nonneg i (by omega)]; exact q) (.inl (PyProof.noPylong_of_log2 ((Nat.log2_lt (by omega)).mpr hc.2)))
end L2
namespace PySem
open PyProof.Rows
section
variable {prog : Program} {w : World} {A : Around} {s : Shared} {R : Result → Shared → Prop}
variable {I : Addr} {fp wr : List Addr} {G : Array GenState → Array GenState → Prop} {n : Nat} {P : Nat → Value → Prop} {St : Nat → Shared → Prop} {T : String}
end
section
variable {prog : Program} {w : World} {A : Around} {E : Value → Shared → Prop} {s : Shared}
variable {I : Addr} {fp wr : List Addr} {G : Array GenState → Array GenState → Prop} {n : Nat} {P : Nat → Value → Prop} {St : Nat → Shared → Prop} {T : String}
end
end PySem
namespace L2
open PySem PySem.Spec PyProof.Rows
end L2
namespace SB
open PySem PyProof.Rows
abbrev gallop' : Bool → Keyed → Array Keyed → Nat → Nat → Nat → StateT SortSt Sem (Option Nat) := sortPriv% PySem.Builtin.gallop
abbrev mergeLo' : Array Keyed → Array Keyed → StateT SortSt Sem (Array Keyed) := sortPriv% PySem.Builtin.mergeLo
abbrev mergeHi' : Array Keyed → Array Keyed → StateT SortSt Sem (Array Keyed) := sortPriv% PySem.Builtin.mergeHi
section
variable {prog : Program} {w : World} {A : Around} {E : Value → Shared → Prop} {s : Shared} {κ : KeyKind} {kd : SortKind}
def Cmp (prog : Program) (w : World) (A : Around) (s : Shared) (κ : KeyKind) (kd : SortKind) : Prop :=
  ∀ (E : Value → Shared → Prop) (x y : Value) (a b : κ.α) (Q : Bool → Shared → Prop), κ.keyOf x = some a → κ.keyOf y = some b → Q (κ.blt a b) s → wpAny (model prog w) A (keyLt' kd x y) Q E s
def kf (κ : KeyKind) (p : Keyed) : κ.α := (κ.keyOf p.1).getD κ.dflt
def Kd (κ : KeyKind) (p : Keyed) : Prop := ∃ a, κ.keyOf p.1 = some a
structure Fine (kd : SortKind) (st : SortSt) : Prop where
  kind : kindOf st = kd
  ok : failedOf st = none
theorem lt_ok (C : Cmp prog w A s κ kd) {st : SortSt} (F : Fine kd st) {x y : Keyed} (hx : Kd κ x) (hy : Kd κ y) {Q : Option Bool → SortSt → Prop} (h : Q (some (κ.blt (kf κ x) (kf κ y))) st) :
    wpS (model prog w) A E s (lt' x y) Q st := by
  obtain ⟨a, ha⟩ := hx
  obtain ⟨b, hb⟩ := hy
  have e1 : kf κ x = a := by unfold kf; rw [ha]; rfl
  have e2 : kf κ y = b := by unfold kf; rw [hb]; rfl
  rw [e1, e2] at h
  rw [lt'_eq]
  refine wpS_bind (wpS_get ?_)
  rw [F.kind]
  exact wpS_bind (wpS_lift (wpAny_attempt (C _ x.1 y.1 a b _ ha hb ⟨rfl, wpS_pure h⟩)))
theorem elem_ok {st : SortSt} {xs : Array Keyed} {i : Nat} {x : Keyed} (hx : xs[i]? = some x) {Q : Keyed → SortSt → Prop} (h : Q x st) : wpS (model prog w) A E s (elem' xs i) Q st := by
  rw [elem'_eq, hx]; exact wpS_pure h
def bey (κ : KeyKind) (left : Bool) (key x : Keyed) : Bool := if left = true then κ.blt (kf κ x) (kf κ key) else !(κ.blt (kf κ key) (kf κ x))
theorem bey_ok (C : Cmp prog w A s κ kd) {st : SortSt} (F : Fine kd st) {left : Bool} {key : Keyed} {xs : Array Keyed} {i : Nat} {x : Keyed} (hk : Kd κ key) (hx : Kd κ x) (e : xs[i]? = some x) {Q : Option Bool → SortSt → Prop} (h : Q (some (bey κ left key x)) st) :
    wpS (model prog w) A E s (do
      let y ← elem' xs i
      if left = true then lt' y key else do
        let r ← lt' key y
        pure (Option.map (fun b => !b) r)) Q st := by
  refine wpS_bind (elem_ok e ?_)
  unfold bey at h
  cases left with
  | true => exact lt_ok C F hx hk h
  | false =>
    rw [if_neg (by decide)] at h ⊢
    exact wpS_bind (lt_ok C F hk hx (wpS_pure h))
structure Part (κ : KeyKind) (left : Bool) (key : Keyed) (xs : Array Keyed) (base n : Nat) (P : Nat → Bool) : Prop where
  get : ∀ i, i < n → ∃ x, xs[base + i]? = some x ∧ Kd κ x ∧ bey κ left key x = P i
  anti : ∀ i j, i ≤ j → j < n → P j = true → P i = true
theorem gallop_ok (C : Cmp prog w A s κ kd) {st : SortSt} (F : Fine kd st) {left : Bool} {key : Keyed} {xs : Array Keyed} {base n hint : Nat} {P : Nat → Bool} (hk : Kd κ key) (p : Part κ left key xs base n P) (hh : hint < n)
    {Q : Option Nat → SortSt → Prop} (h : ∀ k, k ≤ n → (∀ i, i < k → P i = true) → (∀ i, k ≤ i → i < n → P i = false) → Q (some k) st) :
    wpS (model prog w) A E s (gallop' left key xs base n hint) Q st := by
  -- the search between two places
  have search : ∀ (lo hi : Nat) (f : Nat → (Option (Option Nat) × Nat × Nat) → StateT SortSt Sem (ForInStep (Option (Option Nat) × Nat × Nat))) (g : (Option (Option Nat) × Nat × Nat) → StateT SortSt Sem (Option Nat)),
      (∀ x lo hi (R : ForInStep (Option (Option Nat) × Nat × Nat) → SortSt → Prop), hi ≤ n → (lo ≥ hi → R (.done (none, lo, hi)) st) → (lo < hi → R (if P (lo + (hi - lo) / 2) = true then .yield (none, lo + (hi - lo) / 2 + 1, hi) else .yield (none, lo, lo + (hi - lo) / 2)) st) → wpS (model prog w) A E s (f x (none, lo, hi)) R st) →
      (∀ k, g (none, k, k) = pure (some k)) → lo ≤ hi → hi ≤ n → (∀ i, i < lo → P i = true) → (∀ i, hi ≤ i → i < n → P i = false) → wpS (model prog w) A E s (forIn [:n] (none, lo, hi) f >>= g) Q st := by
    intro lo hi f g hf hg h1 h2 hl hr
    refine wpS_bind (wpS_mono (wpS_forRange (I := fun x c st' => st' = st ∧ ∃ lo hi, c = (none, lo, hi) ∧ lo ≤ hi ∧ hi ≤ n ∧ hi - lo ≤ n - x ∧ (∀ i, i < lo → P i = true) ∧ (∀ i, hi ≤ i → i < n → P i = false))
      (Q := fun c st' => st' = st ∧ ∃ k, c = (none, k, k) ∧ k ≤ n ∧ (∀ i, i < k → P i = true) ∧ (∀ i, k ≤ i → i < n → P i = false)) ?st ?fi ⟨rfl, lo, hi, rfl, h1, h2, by omega, hl, hr⟩) ?po)
    case po =>
      rintro c st' ⟨rfl, k, rfl, hk1, hk2, hk3⟩
      rw [hg]
      exact wpS_pure (h k hk1 hk2 hk3)
    case fi =>
      rintro c st' ⟨rfl, lo, hi, rfl, a1, a2, a3, a4, a5⟩
      have e : hi = lo := by omega
      subst e
      exact ⟨rfl, hi, rfl, a2, a4, a5⟩
    case st =>
      rintro x c st' _ hx ⟨rfl, lo, hi, rfl, a1, a2, a3, a4, a5⟩
      refine hf x lo hi _ a2 (fun q => ?_) (fun q => ?_)
      · have e : hi = lo := by omega
        subst e
        exact ⟨rfl, hi, rfl, a2, a4, a5⟩
      · cases e : P (lo + (hi - lo) / 2) with
        | true =>
          rw [if_pos rfl]
          exact ⟨rfl, _, _, rfl, by omega, a2, by omega, fun i hi' => p.anti i _ (by omega) (by omega) e, a5⟩
        | false =>
          rw [if_neg (by decide)]
          refine ⟨rfl, _, _, rfl, by omega, by omega, by omega, a4, fun i h3 h4 => ?_⟩
          cases e2 : P i with
          | false => rfl
          | true => rw [p.anti _ i h3 h4 e2] at e; cases e
  obtain ⟨y, ey, ky, py⟩ := p.get hint hh
  refine wpS_bind (bey_ok C F hk ky ey ?_)
  rw [py]
  cases e : P hint with
  | true =>
    dsimp only
    rw [if_pos rfl]
    refine wpS_bind (wpS_mono (wpS_forRange (I := fun x c st' => st' = st ∧ ∃ la of, c = (none, la, of) ∧ la < of ∧ x < of ∧ hint + la < n ∧ P (hint + la) = true)
      (Q := fun c st' => st' = st ∧ ∃ la of, c = (none, la, of) ∧ la < of ∧ hint + la < n ∧ P (hint + la) = true ∧ (of ≥ n - hint ∨ P (hint + of) = false)) ?st ?fi ⟨rfl, 0, 1, rfl, by omega, by omega, by omega, e⟩) ?po)
    case po =>
      rintro c st' ⟨rfl, la, of, rfl, a1, a2, a3, a4⟩
      dsimp only
      refine search (hint + la + 1) (hint + min of (n - hint)) _ _ (fun x lo hi R hin r1 r2 => ?sf) (fun _ => rfl) ?_ ?_ ?_ ?_
      case sf =>
        dsimp only
        by_cases q : lo ≥ hi
        · rw [if_pos q]; exact wpS_pure (r1 q)
        · rw [if_neg q]
          obtain ⟨z, ez, kz, pz⟩ := p.get (lo + (hi - lo) / 2) (by omega)
          refine wpS_bind (bey_ok C F hk kz ez ?_)
          have r2 := r2 (by omega)
          rw [pz]
          cases e2 : P (lo + (hi - lo) / 2) with
          | true => rw [e2, if_pos rfl] at r2; dsimp only; rw [if_pos rfl]; exact wpS_pure r2
          | false => rw [e2, if_neg (by decide)] at r2; dsimp only; rw [if_neg (by decide)]; exact wpS_pure r2
      · omega
      · omega
      · exact fun i hi' => p.anti i (hint + la) (by omega) a2 a3
      · intro i h3 h4
        rcases a4 with a4 | a4
        · omega
        · cases e2 : P i with
          | false => rfl
          | true => rw [p.anti _ i (by omega) h4 e2] at a4; cases a4
    case fi =>
      rintro c st' ⟨rfl, la, of, rfl, a1, a2, a3, a4⟩
      exact ⟨rfl, la, of, rfl, a1, a3, a4, .inl (by omega)⟩
    case st =>
      rintro x c st' _ hx ⟨rfl, la, of, rfl, a1, a2, a3, a4⟩
      dsimp only
      by_cases q : of ≥ n - hint
      · rw [if_pos q]
        exact wpS_pure ⟨rfl, la, of, rfl, a1, a3, a4, .inl q⟩
      · rw [if_neg q]
        obtain ⟨z, ez, kz, pz⟩ := p.get (hint + of) (by omega)
        refine wpS_bind (bey_ok C F hk kz ez ?_)
        rw [pz]
        cases e2 : P (hint + of) with
        | true =>
          dsimp only
          rw [if_neg (by decide)]
          exact wpS_pure ⟨rfl, of, _, rfl, by omega, by omega, by omega, e2⟩
        | false =>
          dsimp only
          rw [if_pos (by decide)]
          exact wpS_pure ⟨rfl, la, of, rfl, a1, a3, a4, .inr e2⟩
  | false =>
    dsimp only
    rw [if_neg (by decide)]
    refine wpS_bind (wpS_mono (wpS_forRange (I := fun x c st' => st' = st ∧ ∃ la of, c = (none, la, of) ∧ la < of ∧ x < of ∧ la ≤ hint ∧ P (hint - la) = false)
      (Q := fun c st' => st' = st ∧ ∃ la of, c = (none, la, of) ∧ la < of ∧ la ≤ hint ∧ P (hint - la) = false ∧ (of ≥ hint + 1 ∨ (of ≤ hint ∧ P (hint - of) = true))) ?st ?fi ⟨rfl, 0, 1, rfl, by omega, by omega, by omega, e⟩) ?po)
    case po =>
      rintro c st' ⟨rfl, la, of, rfl, a1, a2, a3, a4⟩
      dsimp only
      refine search (hint + 1 - min of (hint + 1)) (hint - la) _ _ (fun x lo hi R hin r1 r2 => ?sf) (fun _ => rfl) ?_ ?_ ?_ ?_
      case sf =>
        dsimp only
        by_cases q : lo ≥ hi
        · rw [if_pos q]; exact wpS_pure (r1 q)
        · rw [if_neg q]
          obtain ⟨z, ez, kz, pz⟩ := p.get (lo + (hi - lo) / 2) (by omega)
          refine wpS_bind (bey_ok C F hk kz ez ?_)
          have r2 := r2 (by omega)
          rw [pz]
          cases e2 : P (lo + (hi - lo) / 2) with
          | true => rw [e2, if_pos rfl] at r2; dsimp only; rw [if_pos rfl]; exact wpS_pure r2
          | false => rw [e2, if_neg (by decide)] at r2; dsimp only; rw [if_neg (by decide)]; exact wpS_pure r2
      · omega
      · omega
      · intro i hi'
        rcases a4 with a4 | ⟨a4, a5⟩
        · omega
        · exact p.anti i (hint - of) (by omega) (by omega) a5
      · intro i h3 h4
        cases e2 : P i with
        | false => rfl
        | true => rw [p.anti _ i h3 h4 e2] at a3; cases a3
    case fi =>
      rintro c st' ⟨rfl, la, of, rfl, a1, a2, a3, a4⟩
      exact ⟨rfl, la, of, rfl, a1, a3, a4, .inl (by omega)⟩
    case st =>
      rintro x c st' _ hx ⟨rfl, la, of, rfl, a1, a2, a3, a4⟩
      dsimp only
      by_cases q : of ≥ hint + 1
      · rw [if_pos q]
        exact wpS_pure ⟨rfl, la, of, rfl, a1, a3, a4, .inl q⟩
      · rw [if_neg q]
        obtain ⟨z, ez, kz, pz⟩ := p.get (hint - of) (by omega)
        refine wpS_bind (bey_ok C F hk kz ez ?_)
        rw [pz]
        cases e2 : P (hint - of) with
        | true =>
          dsimp only
          rw [if_pos rfl]
          exact wpS_pure ⟨rfl, la, of, rfl, a1, a3, a4, .inr ⟨by omega, e2⟩⟩
        | false =>
          dsimp only
          rw [if_neg (by decide)]
          exact wpS_pure ⟨rfl, of, _, rfl, by omega, by omega, by omega, e2⟩
end
end SB
namespace SB
open PySem PyProof.Rows
def Srt (κ : KeyKind) (l : List Keyed) : Prop := l.Pairwise fun p q => κ.kle (kf κ p) (kf κ q)
def Bel (κ : KeyKind) (l m : List Keyed) : Prop := ∀ p ∈ l, ∀ q ∈ m, κ.kle (kf κ p) (kf κ q)
def AllK (κ : KeyKind) (l : List Keyed) : Prop := ∀ p ∈ l, Kd κ p
theorem srt_app {κ : KeyKind} {l m : List Keyed} : Srt κ (l ++ m) ↔ Srt κ l ∧ Srt κ m ∧ Bel κ l m := List.pairwise_append
structure Mg (κ : KeyKind) (O A B T : List Keyed) : Prop where
  o : Srt κ O
  a : Srt κ A
  b : Srt κ B
  oa : Bel κ O A
  ob : Bel κ O B
  perm : (O ++ A ++ B).Perm T
section
variable {κ : KeyKind} {O A B T m : List Keyed}
theorem Bel.of {l m l' m' : List Keyed} (h : Bel κ l m) (h1 : ∀ p ∈ l', p ∈ l) (h2 : ∀ q ∈ m', q ∈ m) : Bel κ l' m' := fun p hp q hq => h p (h1 p hp) q (h2 q hq)
theorem bel_app {l l' m : List Keyed} (h : Bel κ l m) (h' : Bel κ l' m) : Bel κ (l ++ l') m := fun p hp q hq => (List.mem_append.mp hp).elim (fun z => h p z q hq) fun z => h' p z q hq
theorem Mg.stepA (h : Mg κ O (m ++ A) B T) (hb : Bel κ m B) : Mg κ (O ++ m) A B T := by
  obtain ⟨ha1, ha2, ha3⟩ := srt_app.mp h.a
  refine ⟨srt_app.mpr ⟨h.o, ha1, h.oa.of (fun _ z => z) fun q hq => List.mem_append_left _ hq⟩, ha2, h.b, bel_app (h.oa.of (fun _ z => z) fun q hq => List.mem_append_right _ hq) ha3, bel_app h.ob hb, ?_⟩
  have := h.perm
  rwa [← List.append_assoc] at this
theorem Mg.stepB (h : Mg κ O A (m ++ B) T) (ha : Bel κ m A) : Mg κ (O ++ m) A B T := by
  obtain ⟨hb1, hb2, hb3⟩ := srt_app.mp h.b
  refine ⟨srt_app.mpr ⟨h.o, hb1, h.ob.of (fun _ z => z) fun q hq => List.mem_append_left _ hq⟩, h.a, hb2, bel_app h.oa ha, bel_app (h.ob.of (fun _ z => z) fun q hq => List.mem_append_right _ hq) hb3, ?_⟩
  refine List.Perm.trans ?_ h.perm
  rw [List.append_assoc O m, List.append_assoc O, List.append_assoc, List.append_assoc O A]
  refine List.Perm.append_left O ?_
  rw [← List.append_assoc, ← List.append_assoc]
  exact List.Perm.append_right B List.perm_append_comm
def Out (κ : KeyKind) (T r : List Keyed) : Prop := Srt κ r ∧ r.Perm T
theorem Mg.endB (h : Mg κ O A [] T) : Out κ T (O ++ A) := ⟨srt_app.mpr ⟨h.o, h.a, h.oa⟩, by simpa using h.perm⟩
theorem Mg.endA (h : Mg κ O [] B T) : Out κ T (O ++ B) := ⟨srt_app.mpr ⟨h.o, h.b, h.ob⟩, by simpa using h.perm⟩
theorem Mg.endX (h : Mg κ O A B T) (hba : Bel κ B A) : Out κ T (O ++ B ++ A) := by
  refine ⟨srt_app.mpr ⟨srt_app.mpr ⟨h.o, h.b, h.ob⟩, h.a, bel_app h.oa hba⟩, List.Perm.trans ?_ h.perm⟩
  rw [List.append_assoc, List.append_assoc]
  exact List.Perm.append_left O List.perm_append_comm
end
theorem drop_split {α : Type} (l : List α) (i k : Nat) : l.drop i = (l.drop i).take k ++ l.drop (i + k) := by
  rw [← List.drop_drop, List.take_append_drop]
theorem drop_get {α : Type} {l : List α} {i : Nat} {x : α} (h : l[i]? = some x) : l.drop i = x :: l.drop (i + 1) := by
  obtain ⟨hi, e⟩ := List.getElem?_eq_some_iff.mp h
  rw [List.drop_eq_getElem_cons hi, e]
theorem ext_list {α : Type} (a : Array α) (i k : Nat) : (a.extract i (i + k)).toList = (a.toList.drop i).take k := by
  rw [Array.toList_extract, List.extract_eq_take_drop]; congr 1; omega
theorem ext_end {α : Type} (a : Array α) (i : Nat) : (a.extract i).toList = a.toList.drop i := by
  rw [Array.toList_extract, List.extract_eq_take_drop, List.take_of_length_le (by rw [List.length_drop, Array.length_toList]; exact Nat.le_refl _)]
structure Eqv (st st' : SortSt) : Prop where
  arr : arrOf st' = arrOf st
  pend : pendingOf st' = pendingOf st
  kind : kindOf st' = kindOf st
  failed : failedOf st' = failedOf st
theorem Eqv.refl (st : SortSt) : Eqv st st := ⟨rfl, rfl, rfl, rfl⟩
theorem Eqv.trans {a b c : SortSt} (x : Eqv a b) (y : Eqv b c) : Eqv a c := ⟨y.arr.trans x.arr, y.pend.trans x.pend, y.kind.trans x.kind, y.failed.trans x.failed⟩
theorem Fine.eqv {kd : SortKind} {st st' : SortSt} (F : Fine kd st) (e : Eqv st st') : Fine kd st' := ⟨e.kind.trans F.kind, e.failed.trans F.ok⟩
section
variable {prog : Program} {w : World} {A : Around} {E : Value → Shared → Prop} {s : Shared} {κ : KeyKind} {kd : SortKind}
theorem part_of {left : Bool} {key : Keyed} {xs : Array Keyed} {base n : Nat} (hk : Kd κ key) (hn : base + n ≤ xs.size) (ka : AllK κ ((xs.toList.drop base).take n)) (sa : Srt κ ((xs.toList.drop base).take n)) :
    Part κ left key xs base n fun i => match xs[base + i]? with | some x => bey κ left key x | none => false := by
  have get : ∀ i, i < n → ∃ x, xs[base + i]? = some x ∧ ((xs.toList.drop base).take n)[i]? = some x := fun i hi => by
    refine ⟨xs[base + i], Array.getElem?_eq_getElem (by omega), ?_⟩
    rw [List.getElem?_take_of_lt hi, List.getElem?_drop, Array.getElem?_toList, Array.getElem?_eq_getElem (by omega)]
  refine ⟨fun i hi => ?_, fun i j hij hj hp => ?_⟩
  · obtain ⟨x, e1, e2⟩ := get i hi
    exact ⟨x, e1, ka x (List.mem_of_getElem? e2), by rw [e1]⟩
  · obtain ⟨x, e1, e2⟩ := get i (by omega)
    obtain ⟨y, e3, e4⟩ := get j hj
    rw [e3] at hp
    rw [e1]
    dsimp only at hp ⊢
    have hle : κ.kle (kf κ x) (kf κ y) := by
      rcases Nat.lt_or_ge i j with q | q
      · obtain ⟨h1, r1⟩ := List.getElem?_eq_some_iff.mp e2
        obtain ⟨h2, r2⟩ := List.getElem?_eq_some_iff.mp e4
        have := List.pairwise_iff_getElem.mp sa i j h1 h2 q
        rwa [r1, r2] at this
      · have : i = j := by omega
        subst this
        rw [e1] at e3; cases e3; exact KeyOrd.kle_refl _
    unfold bey at hp ⊢
    cases left with
    | true => exact KeyOrd.klt_of_kle_of_klt hle hp
    | false =>
      rw [if_neg (by decide)] at hp ⊢
      have hp : κ.kle (kf κ y) (kf κ key) := by simpa [KeyOrd.kle] using hp
      have := KeyOrd.kle_trans hle hp
      simpa [KeyOrd.kle] using this
theorem gallop_list (C : Cmp prog w A s κ kd) {st : SortSt} (F : Fine kd st) {left : Bool} {key : Keyed} {xs : Array Keyed} {base n hint : Nat} (hk : Kd κ key) (hn : base + n ≤ xs.size) (ka : AllK κ ((xs.toList.drop base).take n)) (sa : Srt κ ((xs.toList.drop base).take n)) (hh : hint < n)
    {Q : Option Nat → SortSt → Prop} (h : ∀ k, k ≤ n → (∀ p ∈ (xs.toList.drop base).take k, bey κ left key p = true) → (∀ p ∈ (xs.toList.drop (base + k)).take (n - k), bey κ left key p = false) → Q (some k) st) :
    wpS (model prog w) A E s (gallop' left key xs base n hint) Q st := by
  refine gallop_ok C F hk (part_of hk hn ka sa) hh fun k hkn h1 h2 => h k hkn (fun p hp => ?_) (fun p hp => ?_)
  · obtain ⟨i, hi⟩ := List.getElem?_of_mem hp
    have hik : i < k := by
      have := (List.getElem?_eq_some_iff.mp hi).1
      rw [List.length_take] at this; omega
    have := h1 i hik
    rw [List.getElem?_take_of_lt hik, List.getElem?_drop, Array.getElem?_toList] at hi
    rw [hi] at this; exact this
  · obtain ⟨i, hi⟩ := List.getElem?_of_mem hp
    have hik : i < n - k := by
      have := (List.getElem?_eq_some_iff.mp hi).1
      rw [List.length_take] at this; omega
    have := h2 (k + i) (by omega) (by omega)
    rw [List.getElem?_take_of_lt hik, List.getElem?_drop, Array.getElem?_toList, Nat.add_assoc] at hi
    rw [hi] at this; exact this
theorem bey_right {key p : Keyed} : (bey κ false key p = true ↔ κ.kle (kf κ p) (kf κ key)) ∧ (bey κ false key p = false ↔ κ.klt (kf κ key) (kf κ p)) := by
  unfold bey KeyOrd.kle KeyOrd.klt
  rw [if_neg (by decide)]
  constructor <;> simp
theorem bey_left {key p : Keyed} : (bey κ true key p = true ↔ κ.klt (kf κ p) (kf κ key)) ∧ (bey κ true key p = false ↔ κ.kle (kf κ key) (kf κ p)) := by
  unfold bey KeyOrd.kle KeyOrd.klt
  rw [if_pos rfl]
  constructor <;> rfl
structure Lo (κ : KeyKind) (a b out : Array Keyed) (ia ib : Nat) : Prop where
  mg : Mg κ out.toList (a.toList.drop ia) (b.toList.drop ib) (a.toList ++ b.toList)
  sz : out.size = ia + ib
  la : ia ≤ a.size
  lb : ib ≤ b.size
variable {a b out : Array Keyed} {ia ib : Nat}
theorem Lo.takeB (h : Lo κ a b out ia ib) {y : Keyed} (e : b[ib]? = some y) (hy : Bel κ [y] (a.toList.drop ia)) : Lo κ a b (out.push y) ia (ib + 1) := by
  obtain ⟨hi, _⟩ := Array.getElem?_eq_some_iff.mp e
  refine ⟨?_, by rw [Array.size_push, h.sz]; omega, h.la, hi⟩
  have m := h.mg
  rw [drop_get (l := b.toList) (x := y) (by rw [Array.getElem?_toList]; exact e)] at m
  rw [Array.toList_push]
  exact Mg.stepB (m := [y]) m hy
theorem Lo.takeA (h : Lo κ a b out ia ib) {x : Keyed} (e : a[ia]? = some x) (hx : Bel κ [x] (b.toList.drop ib)) : Lo κ a b (out.push x) (ia + 1) ib := by
  obtain ⟨hi, _⟩ := Array.getElem?_eq_some_iff.mp e
  refine ⟨?_, by rw [Array.size_push, h.sz]; omega, hi, h.lb⟩
  have m := h.mg
  rw [drop_get (l := a.toList) (x := x) (by rw [Array.getElem?_toList]; exact e)] at m
  rw [Array.toList_push]
  exact Mg.stepA (m := [x]) m hx
theorem Lo.takeAs (h : Lo κ a b out ia ib) {k : Nat} (hk : ia + k ≤ a.size) (hx : Bel κ ((a.toList.drop ia).take k) (b.toList.drop ib)) : Lo κ a b (out ++ a.extract ia (ia + k)) (ia + k) ib := by
  refine ⟨?_, ?_, hk, h.lb⟩
  · have m := h.mg
    rw [drop_split a.toList ia k] at m
    rw [Array.toList_append, ext_list]
    exact m.stepA hx
  · rw [Array.size_append, h.sz, Array.size_extract]; omega
theorem Lo.takeBs (h : Lo κ a b out ia ib) {k : Nat} (hk : ib + k ≤ b.size) (hy : Bel κ ((b.toList.drop ib).take k) (a.toList.drop ia)) : Lo κ a b (out ++ b.extract ib (ib + k)) ia (ib + k) := by
  refine ⟨?_, ?_, h.la, hk⟩
  · have m := h.mg
    rw [drop_split b.toList ib k] at m
    rw [Array.toList_append, ext_list]
    exact m.stepB hy
  · rw [Array.size_append, h.sz, Array.size_extract]; omega
theorem Lo.doneB (h : Lo κ a b out ia ib) (e : ib = b.size) : Out κ (a.toList ++ b.toList) (out ++ a.extract ia ++ b.extract ib).toList := by
  have m := h.mg
  rw [Array.toList_append, Array.toList_append, ext_end, ext_end]
  rw [List.drop_of_length_le (l := b.toList) (by rw [Array.length_toList]; omega)] at m ⊢
  rw [List.append_nil]; exact m.endB
theorem Lo.doneA (h : Lo κ a b out ia ib) (e : ia = a.size) : Out κ (a.toList ++ b.toList) (out ++ a.extract ia ++ b.extract ib).toList := by
  have m := h.mg
  rw [Array.toList_append, Array.toList_append, ext_end, ext_end]
  rw [List.drop_of_length_le (l := a.toList) (by rw [Array.length_toList]; omega)] at m ⊢
  rw [List.append_nil]; exact m.endA
theorem Lo.lastA (h : Lo κ a b out ia ib) (hl : Bel κ b.toList (a.toList.drop (a.size - 1))) (e : ia + 1 = a.size) : Out κ (a.toList ++ b.toList) (out ++ b.extract ib ++ a.extract ia).toList := by
  rw [Array.toList_append, Array.toList_append, ext_end, ext_end]
  refine h.mg.endX (hl.of (fun p hp => List.mem_of_mem_drop hp) fun q hq => ?_)
  rwa [show a.size - 1 = ia by omega]
theorem get_mem_drop {xs : Array Keyed} {i j : Nat} {x : Keyed} (e : xs[j]? = some x) (h : i ≤ j) : x ∈ xs.toList.drop i := by
  have e2 : (xs.toList.drop i)[j - i]? = some x := by rw [List.getElem?_drop, Array.getElem?_toList, show i + (j - i) = j by omega]; exact e
  exact List.mem_of_getElem? e2
theorem bel_head {x : Keyed} {l : List Keyed} {xs : Array Keyed} {i : Nat} (e : xs[i]? = some x) (s : Srt κ (xs.toList.drop i)) (z : Keyed) (h : κ.kle (kf κ z) (kf κ x)) : Bel κ [z] (xs.toList.drop i) := by
  intro p hp q hq
  rw [List.mem_singleton.mp hp]
  rw [drop_get (l := xs.toList) (by rw [Array.getElem?_toList]; exact e)] at s hq
  rcases List.mem_cons.mp hq with rfl | hq
  · exact h
  · exact KeyOrd.kle_trans h (List.rel_of_pairwise_cons s hq)
theorem all_drop {l : List Keyed} {i : Nat} (h : AllK κ l) : AllK κ (l.drop i) := fun p hp => h p (List.mem_of_mem_drop hp)
theorem all_take {l : List Keyed} {i : Nat} (h : AllK κ l) : AllK κ (l.take i) := fun p hp => h p (List.mem_of_mem_take hp)
theorem take_all {xs : Array Keyed} {i : Nat} (h : i ≤ xs.size) : (xs.toList.drop i).take (xs.size - i) = xs.toList.drop i := List.take_of_length_le (by rw [List.length_drop, Array.length_toList]; exact Nat.le_refl _)
theorem wpS_eqv {α : Type} {m : StateT SortSt Sem α} {Q : α → SortSt → Prop} {st st₀ : SortSt} (e : Eqv st₀ st) (h : Eqv st₀ st → wpS (model prog w) A E s m Q st) : wpS (model prog w) A E s m Q st := h e
theorem mergeLo_ok (C : Cmp prog w A s κ kd) {st : SortSt} (F : Fine kd st) (ka : AllK κ a.toList) (kb : AllK κ b.toList) (sa : Srt κ a.toList) (sb : Srt κ b.toList) (ha : 0 < a.size) (hb : 0 < b.size)
    (h0 : Bel κ (b.toList.take 1) a.toList) (hl : Bel κ b.toList (a.toList.drop (a.size - 1))) {Q : Array Keyed → SortSt → Prop} (h : ∀ r st', Out κ (a.toList ++ b.toList) r.toList → Eqv st st' → Q r st') :
    wpS (model prog w) A E s (mergeLo' a b) Q st := by
  have geta : ∀ i, i < a.size → ∃ x, a[i]? = some x ∧ Kd κ x := fun i hi => ⟨a[i], Array.getElem?_eq_getElem hi, ka _ (by simp)⟩
  have getb : ∀ i, i < b.size → ∃ x, b[i]? = some x ∧ Kd κ x := fun i hi => ⟨b[i], Array.getElem?_eq_getElem hi, kb _ (by simp)⟩
  have sad : ∀ i, Srt κ (a.toList.drop i) := fun i => List.Pairwise.sublist (List.drop_sublist _ _) sa
  have sbd : ∀ i, Srt κ (b.toList.drop i) := fun i => List.Pairwise.sublist (List.drop_sublist _ _) sb
  refine wpS_bind (wpS_lift (wpAny_rule ⟨rfl, ?_⟩))
  obtain ⟨y0, ey0, ky0⟩ := getb 0 hb
  refine wpS_bind (elem_ok ey0 ?_)
  have start : Lo κ a b #[y0] 0 1 := by
    have e : b.toList = y0 :: b.toList.drop 1 := by
      have := drop_get (l := b.toList) (i := 0) (x := y0) (by rw [Array.getElem?_toList]; exact ey0)
      rwa [List.drop_zero] at this
    refine ⟨?_, rfl, Nat.zero_le _, hb⟩
    have m : Mg κ [] a.toList (([y0] : List Keyed) ++ b.toList.drop 1) (a.toList ++ b.toList) := by
      refine ⟨List.Pairwise.nil, sa, by rw [List.singleton_append, ← e]; exact sb, (fun p hp => by cases hp), (fun p hp => by cases hp), ?_⟩
      rw [List.nil_append, List.singleton_append, ← e]
    have := m.stepB (fun p hp q hq => h0 p (by rw [e]; simpa using hp) q hq)
    simpa using this
  dsimp only
  by_cases q1 : (1 == b.size) = true
  · rw [if_pos q1]
    exact wpS_pure (h _ _ (start.doneB (by simpa using q1)) (.refl _))
  rw [if_neg q1]
  by_cases q2 : (0 + 1 == a.size) = true
  · rw [if_pos q2]
    exact wpS_pure (h _ _ (start.lastA hl (by simpa using q2)) (.refl _))
  rw [if_neg q2]
  have q1 : 1 ≠ b.size := by simpa using q1
  have q2 : 1 ≠ a.size := by simpa using q2
  refine wpS_bind (wpS_get ?_)
  refine wpS_bind (wpS_mono (wpS_forRange
    (I := fun x c st' => Eqv st st' ∧ ∃ out ia ib g, c = (none, out, ia, ib, g) ∧ Lo κ a b out ia ib ∧ ia + 1 < a.size ∧ ib < b.size ∧ x + 1 ≤ out.size)
    (Q := fun c st' => Eqv st st' ∧ ∃ r, c.1 = some r ∧ Out κ (a.toList ++ b.toList) r.toList) ?ost ?ofi ⟨.refl _, #[y0], 0, 1, _, rfl, start, by omega, by omega, Nat.le_refl _⟩) ?opo)
  case opo =>
    rintro c st' ⟨eq, r, er, o⟩
    obtain ⟨c1, c2⟩ := c
    simp only at er
    subst er
    exact wpS_pure (h r st' o eq)
  case ofi =>
    rintro c st' ⟨eq, out, ia, ib, g, rfl, lo, h1, h2, h3⟩
    have := lo.sz
    omega
  case ost =>
    rintro x c st' _ hx ⟨eq, out, ia, ib, g, rfl, lo, h1, h2, h3⟩
    dsimp only
    refine wpS_bind (wpS_mono (wpS_forRange
      (I := fun x c st' => Eqv st st' ∧ ∃ out' ia ib ac bc, c = (none, out', ia, ib, ac, bc) ∧ Lo κ a b out' ia ib ∧ ia + 1 < a.size ∧ ib < b.size ∧ x + out.size ≤ out'.size)
      (Q := fun c st' => Eqv st st' ∧ ((∃ r, c.1 = some r ∧ Out κ (a.toList ++ b.toList) r.toList) ∨ ∃ out' ia ib ac bc, c = (none, out', ia, ib, ac, bc) ∧ Lo κ a b out' ia ib ∧ ia + 1 < a.size ∧ ib < b.size ∧ out.size < out'.size)) ?ist ?ifi ⟨eq, out, ia, ib, 0, 0, rfl, lo, h1, h2, by omega⟩) ?ipo)
    case ifi =>
      rintro c st' ⟨eq, out', ia, ib, ac, bc, rfl, lo, h1, h2, h3⟩
      have := lo.sz
      omega
    case ist =>
      rintro x c st' _ hx ⟨eq, out', ia, ib, ac, bc, rfl, lo, h1, h2, h3⟩
      obtain ⟨y, ey, ky⟩ := getb ib h2
      obtain ⟨z, ez, kz⟩ := geta ia (by omega)
      refine wpS_bind (elem_ok ey ?_)
      refine wpS_bind (elem_ok ez ?_)
      refine wpS_bind (lt_ok C (F.eqv eq) ky kz ?_)
      dsimp only
      cases e : κ.blt (kf κ y) (kf κ z) with
      | true =>
        rw [if_pos rfl]
        refine wpS_bind (elem_ok ey ?_)
        have lo' := lo.takeB ey (bel_head (l := []) ez (sad ia) y (KeyOrd.kle_of_klt e))
        try dsimp only
        by_cases q : (ib + 1 == b.size) = true
        · rw [if_pos q]
          exact wpS_pure ⟨eq, .inl ⟨_, rfl, lo'.doneB (by simpa using q)⟩⟩
        · rw [if_neg q]
          have q : ib + 1 ≠ b.size := by simpa using q
          split
          · exact wpS_pure ⟨eq, .inr ⟨_, _, _, _, _, rfl, lo', h1, by omega, by rw [Array.size_push]; omega⟩⟩
          · exact wpS_pure ⟨eq, _, _, _, _, _, rfl, lo', h1, by omega, by rw [Array.size_push]; omega⟩
      | false =>
        rw [if_neg (by decide)]
        refine wpS_bind (elem_ok ez ?_)
        have lo' := lo.takeA ez (bel_head (l := []) ey (sbd ib) z e)
        try dsimp only
        by_cases q : (ia + 1 + 1 == a.size) = true
        · rw [if_pos q]
          exact wpS_pure ⟨eq, .inl ⟨_, rfl, lo'.lastA hl (by simpa using q)⟩⟩
        · rw [if_neg q]
          have q : ia + 1 + 1 ≠ a.size := by simpa using q
          split
          · exact wpS_pure ⟨eq, .inr ⟨_, _, _, _, _, rfl, lo', by omega, h2, by rw [Array.size_push]; omega⟩⟩
          · exact wpS_pure ⟨eq, _, _, _, _, _, rfl, lo', by omega, h2, by rw [Array.size_push]; omega⟩
    case ipo =>
      rintro c st1 ⟨eq, hc⟩
      rcases hc with ⟨r, er, o⟩ | ⟨out1, ia, ib, ac, bc, rfl, lo, h1, h2, h4⟩
      · obtain ⟨c1, c2⟩ := c
        simp only at er
        subst er
        exact wpS_pure ⟨eq, r, rfl, o⟩
      dsimp only
      refine wpS_bind (wpS_lift (wpAny_rule ⟨rfl, ?_⟩))
      refine wpS_bind (wpS_mono (wpS_forRange
        (I := fun x c st' => Eqv st st' ∧ ∃ out' ia ib g ac bc, c = (none, out', ia, ib, g, ac, bc) ∧ Lo κ a b out' ia ib ∧ ia + 1 < a.size ∧ ib < b.size ∧ x + out1.size ≤ out'.size)
        (Q := fun c st' => Eqv st st' ∧ ((∃ r, c.1 = some r ∧ Out κ (a.toList ++ b.toList) r.toList) ∨ ∃ out' ia ib g ac bc, c = (none, out', ia, ib, g, ac, bc) ∧ Lo κ a b out' ia ib ∧ ia + 1 < a.size ∧ ib < b.size ∧ out.size < out'.size)) ?gst ?gfi ⟨eq, out1, ia, ib, _, _, _, rfl, lo, h1, h2, by omega⟩) ?gpo)
      case gfi =>
        rintro c st' ⟨eq, out', ia, ib, g, ac, bc, rfl, lo, h1, h2, h3⟩
        have := lo.sz
        omega
      case gpo =>
        rintro c st2 ⟨eq, hc⟩
        rcases hc with ⟨r, er, o⟩ | ⟨out2, ia, ib, g, ac, bc, rfl, lo, h1, h2, h5⟩
        · obtain ⟨c1, c2⟩ := c
          simp only at er
          subst er
          exact wpS_pure ⟨eq, r, rfl, o⟩
        dsimp only
        refine wpS_bind (wpS_modify ?_)
        exact wpS_pure ⟨⟨eq.arr, eq.pend, eq.kind, eq.failed⟩, _, _, _, _, rfl, lo, h1, h2, by omega⟩
      case gst =>
        rintro x c st' _ hx ⟨eq, out', ia, ib, g, ac, bc, rfl, lo, h1, h2, h3⟩
        dsimp only
        obtain ⟨y, ey, ky⟩ := getb ib h2
        by_cases hg : g > 1
        rw [if_pos hg]
        rotate_left
        rw [if_neg hg]
        all_goals
          refine wpS_bind (wpS_modify ?_)
          refine wpS_eqv (st₀ := st) ⟨eq.arr, eq.pend, eq.kind, eq.failed⟩ fun eq1 => ?_
          refine wpS_bind (elem_ok ey ?_)
          refine wpS_bind (gallop_list C (F.eqv eq1) ky (show ia + (a.size - ia) ≤ a.size by omega) (all_take (all_drop ka)) (by rw [take_all (by omega)]; exact sad _) (show 0 < a.size - ia by omega) fun k hk g1 g2 => ?_)
          have lo1 := lo.takeAs (k := k) (by omega) (fun p hp q hq => KeyOrd.kle_trans (bey_right.1.mp (g1 p hp)) (bel_head (l := []) ey (sbd _) y (KeyOrd.kle_refl _) y (by simp) q hq))
          have hr0 : ∀ q ∈ a.toList.drop (ia + k), κ.klt (kf κ y) (kf κ q) := fun q hq => bey_right.2.mp (g2 q (by rw [show a.size - ia - k = a.size - (ia + k) by omega, take_all (by omega)]; exact hq))
          try dsimp only
          by_cases qk : k > 0
          · rw [if_pos qk]
            try dsimp only
            by_cases q3 : (ia + k + 1 == a.size) = true
            · rw [if_pos q3]
              exact wpS_pure ⟨eq1, .inl ⟨_, rfl, lo1.lastA hl (by simpa using q3)⟩⟩
            rw [if_neg q3]
            have q3 : ia + k + 1 ≠ a.size := by simpa using q3
            by_cases q4 : (ia + k == a.size) = true
            · rw [if_pos q4]
              exact wpS_pure ⟨eq1, .inl ⟨_, rfl, lo1.doneA (by simpa using q4)⟩⟩
            rw [if_neg q4]
            have q4 : ia + k ≠ a.size := by simpa using q4
            have hr := hr0
            refine wpS_bind (elem_ok ey ?_)
            have lo3 := lo1.takeB ey (fun p hp q hq => by rw [List.mem_singleton.mp hp]; exact KeyOrd.kle_of_klt (hr q hq))
            try dsimp only
            by_cases q5 : (ib + 1 == b.size) = true
            · rw [if_pos q5]
              exact wpS_pure ⟨eq1, .inl ⟨_, rfl, lo3.doneB (by simpa using q5)⟩⟩
            rw [if_neg q5]
            have q5 : ib + 1 ≠ b.size := by simpa using q5
            obtain ⟨z, ez, kz⟩ := geta (ia + k) (by omega)
            refine wpS_bind (elem_ok ez ?_)
            refine wpS_bind (gallop_list C (F.eqv eq1) kz (show ib + 1 + (b.size - (ib + 1)) ≤ b.size by omega) (all_take (all_drop kb)) (by rw [take_all (by omega)]; exact sbd _) (show 0 < b.size - (ib + 1) by omega) fun k2 hk2 g3 g4 => ?_)
            have hr4 : ∀ q ∈ b.toList.drop (ib + 1 + k2), κ.kle (kf κ z) (kf κ q) := fun q hq => bey_left.2.mp (g4 q (by rw [show b.size - (ib + 1) - k2 = b.size - (ib + 1 + k2) by omega, take_all (by omega)]; exact hq))
            try dsimp only
            by_cases q6 : k2 > 0
            · rw [if_pos q6]
              have lo4 := lo3.takeBs (k := k2) (by omega) (fun p hp q hq => KeyOrd.kle_trans (KeyOrd.kle_of_klt (bey_left.1.mp (g3 p hp))) (bel_head (l := []) ez (sad _) z (KeyOrd.kle_refl _) z (by simp) q hq))
              try dsimp only
              by_cases q7 : (ib + 1 + k2 == b.size) = true
              · rw [if_pos q7]
                exact wpS_pure ⟨eq1, .inl ⟨_, rfl, lo4.doneB (by simpa using q7)⟩⟩
              · rw [if_neg q7]
                have q7 : ib + 1 + k2 ≠ b.size := by simpa using q7
                have hz4 : Bel κ [z] (b.toList.drop (ib + 1 + k2)) := fun p hp q hq => by rw [List.mem_singleton.mp hp]; exact hr4 q hq
                refine wpS_bind (elem_ok ez ?_)
                have lo5 := lo4.takeA ez hz4
                try dsimp only
                by_cases q8 : (ia + k + 1 + 1 == a.size) = true
                · rw [if_pos q8]
                  exact wpS_pure ⟨eq1, .inl ⟨_, rfl, lo5.lastA hl (by simpa using q8)⟩⟩
                · rw [if_neg q8]
                  have q8 : ia + k + 1 + 1 ≠ a.size := by simpa using q8
                  split
                  · exact wpS_pure ⟨eq1, .inr ⟨_, _, _, _, _, _, rfl, lo5, by omega, by omega, by have := lo.sz; have := lo5.sz; omega⟩⟩
                  · exact wpS_pure ⟨eq1, _, _, _, _, _, _, rfl, lo5, by omega, by omega, by have := lo.sz; have := lo5.sz; omega⟩
            · rw [if_neg q6]
              have e6 : k2 = 0 := by omega
              have hz4 : Bel κ [z] (b.toList.drop (ib + 1)) := fun p hp q hq => by rw [List.mem_singleton.mp hp]; exact hr4 q (by rw [e6]; exact hq)
              refine wpS_bind (elem_ok ez ?_)
              have lo5 := lo3.takeA ez hz4
              try dsimp only
              by_cases q8 : (ia + k + 1 + 1 == a.size) = true
              · rw [if_pos q8]
                exact wpS_pure ⟨eq1, .inl ⟨_, rfl, lo5.lastA hl (by simpa using q8)⟩⟩
              · rw [if_neg q8]
                have q8 : ia + k + 1 + 1 ≠ a.size := by simpa using q8
                split
                · exact wpS_pure ⟨eq1, .inr ⟨_, _, _, _, _, _, rfl, lo5, by omega, by omega, by have := lo.sz; have := lo5.sz; omega⟩⟩
                · exact wpS_pure ⟨eq1, _, _, _, _, _, _, rfl, lo5, by omega, by omega, by have := lo.sz; have := lo5.sz; omega⟩
          · rw [if_neg qk]
            have ek : k = 0 := by omega
            have hr : ∀ q ∈ a.toList.drop ia, κ.klt (kf κ y) (kf κ q) := fun q hq => hr0 q (by rw [ek]; exact hq)
            refine wpS_bind (elem_ok ey ?_)
            have lo3 := lo.takeB ey (fun p hp q hq => by rw [List.mem_singleton.mp hp]; exact KeyOrd.kle_of_klt (hr q hq))
            try dsimp only
            by_cases q5 : (ib + 1 == b.size) = true
            · rw [if_pos q5]
              exact wpS_pure ⟨eq1, .inl ⟨_, rfl, lo3.doneB (by simpa using q5)⟩⟩
            rw [if_neg q5]
            have q5 : ib + 1 ≠ b.size := by simpa using q5
            obtain ⟨z, ez, kz⟩ := geta (ia) (by omega)
            refine wpS_bind (elem_ok ez ?_)
            refine wpS_bind (gallop_list C (F.eqv eq1) kz (show ib + 1 + (b.size - (ib + 1)) ≤ b.size by omega) (all_take (all_drop kb)) (by rw [take_all (by omega)]; exact sbd _) (show 0 < b.size - (ib + 1) by omega) fun k2 hk2 g3 g4 => ?_)
            have hr4 : ∀ q ∈ b.toList.drop (ib + 1 + k2), κ.kle (kf κ z) (kf κ q) := fun q hq => bey_left.2.mp (g4 q (by rw [show b.size - (ib + 1) - k2 = b.size - (ib + 1 + k2) by omega, take_all (by omega)]; exact hq))
            try dsimp only
            by_cases q6 : k2 > 0
            · rw [if_pos q6]
              have lo4 := lo3.takeBs (k := k2) (by omega) (fun p hp q hq => KeyOrd.kle_trans (KeyOrd.kle_of_klt (bey_left.1.mp (g3 p hp))) (bel_head (l := []) ez (sad _) z (KeyOrd.kle_refl _) z (by simp) q hq))
              try dsimp only
              by_cases q7 : (ib + 1 + k2 == b.size) = true
              · rw [if_pos q7]
                exact wpS_pure ⟨eq1, .inl ⟨_, rfl, lo4.doneB (by simpa using q7)⟩⟩
              · rw [if_neg q7]
                have q7 : ib + 1 + k2 ≠ b.size := by simpa using q7
                have hz4 : Bel κ [z] (b.toList.drop (ib + 1 + k2)) := fun p hp q hq => by rw [List.mem_singleton.mp hp]; exact hr4 q hq
                refine wpS_bind (elem_ok ez ?_)
                have lo5 := lo4.takeA ez hz4
                try dsimp only
                by_cases q8 : (ia + 1 + 1 == a.size) = true
                · rw [if_pos q8]
                  exact wpS_pure ⟨eq1, .inl ⟨_, rfl, lo5.lastA hl (by simpa using q8)⟩⟩
                · rw [if_neg q8]
                  have q8 : ia + 1 + 1 ≠ a.size := by simpa using q8
                  split
                  · exact wpS_pure ⟨eq1, .inr ⟨_, _, _, _, _, _, rfl, lo5, by omega, by omega, by have := lo.sz; have := lo5.sz; omega⟩⟩
                  · exact wpS_pure ⟨eq1, _, _, _, _, _, _, rfl, lo5, by omega, by omega, by have := lo.sz; have := lo5.sz; omega⟩
            · rw [if_neg q6]
              have e6 : k2 = 0 := by omega
              have hz4 : Bel κ [z] (b.toList.drop (ib + 1)) := fun p hp q hq => by rw [List.mem_singleton.mp hp]; exact hr4 q (by rw [e6]; exact hq)
              refine wpS_bind (elem_ok ez ?_)
              have lo5 := lo3.takeA ez hz4
              try dsimp only
              by_cases q8 : (ia + 1 + 1 == a.size) = true
              · rw [if_pos q8]
                exact wpS_pure ⟨eq1, .inl ⟨_, rfl, lo5.lastA hl (by simpa using q8)⟩⟩
              · rw [if_neg q8]
                have q8 : ia + 1 + 1 ≠ a.size := by simpa using q8
                split
                · exact wpS_pure ⟨eq1, .inr ⟨_, _, _, _, _, _, rfl, lo5, by omega, by omega, by have := lo.sz; have := lo5.sz; omega⟩⟩
                · exact wpS_pure ⟨eq1, _, _, _, _, _, _, rfl, lo5, by omega, by omega, by have := lo.sz; have := lo5.sz; omega⟩
end
end SB
namespace SB
open PySem PyProof.Rows
structure Mh (κ : KeyKind) (A B R T : List Keyed) : Prop where
  a : Srt κ A
  b : Srt κ B
  r : Srt κ R
  ar : Bel κ A R
  br : Bel κ B R
  perm : (A ++ B ++ R).Perm T
section
variable {κ : KeyKind} {A B R T m : List Keyed}
theorem bel_appR {l m m' : List Keyed} (h : Bel κ l m) (h' : Bel κ l m') : Bel κ l (m ++ m') := fun p hp q hq => (List.mem_append.mp hq).elim (h p hp q) (h' p hp q)
theorem Mh.stepA (h : Mh κ (A ++ m) B R T) (hb : Bel κ B m) : Mh κ A B (m ++ R) T := by
  obtain ⟨ha1, ha2, ha3⟩ := srt_app.mp h.a
  refine ⟨ha1, h.b, srt_app.mpr ⟨ha2, h.r, h.ar.of (fun p hp => List.mem_append_right _ hp) fun _ z => z⟩, bel_appR ha3 (h.ar.of (fun p hp => List.mem_append_left _ hp) fun _ z => z), bel_appR hb h.br, List.Perm.trans ?_ h.perm⟩
  rw [List.append_assoc A B, List.append_assoc A m B, List.append_assoc A (m ++ B) R]
  refine List.Perm.append_left A ?_
  rw [← List.append_assoc]
  exact List.Perm.append_right R List.perm_append_comm
theorem Mh.stepB (h : Mh κ A (B ++ m) R T) (ha : Bel κ A m) : Mh κ A B (m ++ R) T := by
  obtain ⟨hb1, hb2, hb3⟩ := srt_app.mp h.b
  refine ⟨h.a, hb1, srt_app.mpr ⟨hb2, h.r, h.br.of (fun p hp => List.mem_append_right _ hp) fun _ z => z⟩, bel_appR ha h.ar, bel_appR hb3 (h.br.of (fun p hp => List.mem_append_left _ hp) fun _ z => z), ?_⟩
  have := h.perm
  simpa [List.append_assoc] using this
theorem Mh.endA (h : Mh κ [] B R T) : Out κ T (B ++ R) := ⟨srt_app.mpr ⟨h.b, h.r, h.br⟩, by simpa using h.perm⟩
theorem Mh.endB (h : Mh κ A [] R T) : Out κ T (A ++ R) := ⟨srt_app.mpr ⟨h.a, h.r, h.ar⟩, by simpa using h.perm⟩
theorem Mh.endX (h : Mh κ A B R T) (hba : Bel κ B A) : Out κ T (B ++ A ++ R) :=
  ⟨srt_app.mpr ⟨srt_app.mpr ⟨h.b, h.a, hba⟩, h.r, bel_app h.br h.ar⟩, List.Perm.trans (List.Perm.append_right R List.perm_append_comm) h.perm⟩
end
theorem take_get {α : Type} {l : List α} {i : Nat} {x : α} (h : l[i]? = some x) : l.take (i + 1) = l.take i ++ [x] := by rw [List.take_succ, h]; rfl
theorem take_split {α : Type} (l : List α) {i n : Nat} (h : i ≤ n) : l.take n = l.take i ++ (l.drop i).take (n - i) := by
  rw [← List.take_add, show i + (n - i) = n by omega]
theorem ext_front {α : Type} (a : Array α) (n : Nat) : (a.extract 0 n).toList = a.toList.take n := by
  rw [Array.toList_extract, List.extract_eq_take_drop]; simp
theorem ext_mid {α : Type} (a : Array α) {i n : Nat} (h : i ≤ n) : (a.extract i n).toList = (a.toList.drop i).take (n - i) := by
  rw [Array.toList_extract, List.extract_eq_take_drop]
section
variable {prog : Program} {w : World} {A : Around} {E : Value → Shared → Prop} {s : Shared} {κ : KeyKind} {kd : SortKind}
structure Hi (κ : KeyKind) (a b out : Array Keyed) (na nb : Nat) : Prop where
  mh : Mh κ (a.toList.take na) (b.toList.take nb) out.toList.reverse (a.toList ++ b.toList)
  sz : out.size + na + nb = a.size + b.size
  la : na ≤ a.size
  lb : nb ≤ b.size
variable {a b out : Array Keyed} {na nb : Nat}
theorem Hi.takeA {m : Nat} (h : Hi κ a b out (m + 1) nb) {x : Keyed} (e : a[m]? = some x) (hx : Bel κ (b.toList.take nb) [x]) : Hi κ a b (out.push x) m nb := by
  have l := h.la
  refine ⟨?_, by have := h.sz; rw [Array.size_push]; omega, by omega, h.lb⟩
  have q := h.mh
  rw [take_get (l := a.toList) (by rw [Array.getElem?_toList]; exact e)] at q
  rw [Array.toList_push, List.reverse_append]
  exact Mh.stepA (m := [x]) q hx
theorem Hi.takeB {m : Nat} (h : Hi κ a b out na (m + 1)) {x : Keyed} (e : b[m]? = some x) (hx : Bel κ (a.toList.take na) [x]) : Hi κ a b (out.push x) na m := by
  have l := h.lb
  refine ⟨?_, by have := h.sz; rw [Array.size_push]; omega, h.la, by omega⟩
  have q := h.mh
  rw [take_get (l := b.toList) (by rw [Array.getElem?_toList]; exact e)] at q
  rw [Array.toList_push, List.reverse_append]
  exact Mh.stepB (m := [x]) q hx
theorem Hi.takeAs (h : Hi κ a b out na nb) {i : Nat} (hi : i ≤ na) (hx : Bel κ (b.toList.take nb) ((a.toList.drop i).take (na - i))) : Hi κ a b (out ++ (a.extract i na).reverse) i nb := by
  have l := h.la
  refine ⟨?_, by have := h.sz; rw [Array.size_append, Array.size_reverse, Array.size_extract]; omega, by omega, h.lb⟩
  have q := h.mh
  rw [take_split a.toList hi] at q
  rw [Array.toList_append, Array.toList_reverse, List.reverse_append, List.reverse_reverse, ext_mid _ hi]
  exact q.stepA hx
theorem Hi.takeBs (h : Hi κ a b out na nb) {i : Nat} (hi : i ≤ nb) (hx : Bel κ (a.toList.take na) ((b.toList.drop i).take (nb - i))) : Hi κ a b (out ++ (b.extract i nb).reverse) na i := by
  have l := h.lb
  refine ⟨?_, by have := h.sz; rw [Array.size_append, Array.size_reverse, Array.size_extract]; omega, h.la, by omega⟩
  have q := h.mh
  rw [take_split b.toList hi] at q
  rw [Array.toList_append, Array.toList_reverse, List.reverse_append, List.reverse_reverse, ext_mid _ hi]
  exact q.stepB hx
theorem Hi.doneA (h : Hi κ a b out na nb) (e : na = 0) : Out κ (a.toList ++ b.toList) (a.extract 0 na ++ b.extract 0 nb ++ out.reverse).toList := by
  have q := h.mh
  rw [Array.toList_append, Array.toList_append, ext_front, ext_front, Array.toList_reverse]
  subst e
  rw [List.take_zero] at q ⊢
  rw [List.nil_append]; exact q.endA
theorem Hi.doneB (h : Hi κ a b out na nb) (e : nb = 0) : Out κ (a.toList ++ b.toList) (a.extract 0 na ++ b.extract 0 nb ++ out.reverse).toList := by
  have q := h.mh
  rw [Array.toList_append, Array.toList_append, ext_front, ext_front, Array.toList_reverse]
  subst e
  rw [List.take_zero] at q ⊢
  rw [List.append_nil]; exact q.endB
theorem Hi.firstB (h : Hi κ a b out na nb) (h0 : Bel κ (b.toList.take 1) a.toList) (e : nb = 1) : Out κ (a.toList ++ b.toList) (b.extract 0 nb ++ a.extract 0 na ++ out.reverse).toList := by
  rw [Array.toList_append, Array.toList_append, ext_front, ext_front, Array.toList_reverse]
  exact h.mh.endX (h0.of (fun p hp => by rwa [e] at hp) fun q hq => List.mem_of_mem_take hq)
theorem bel_last {x : Keyed} {xs : Array Keyed} {i : Nat} (e : xs[i]? = some x) (s : Srt κ (xs.toList.take (i + 1))) (z : Keyed) (h : κ.kle (kf κ x) (kf κ z)) : Bel κ (xs.toList.take (i + 1)) [z] := by
  intro p hp q hq
  rw [List.mem_singleton.mp hq]
  rw [take_get (l := xs.toList) (by rw [Array.getElem?_toList]; exact e)] at s hp
  rcases List.mem_append.mp hp with hp | hp
  · exact KeyOrd.kle_trans ((srt_app.mp s).2.2 p hp x (by simp)) h
  · rw [List.mem_singleton.mp hp]; exact h
theorem mergeHi_ok (C : Cmp prog w A s κ kd) {st : SortSt} (F : Fine kd st) (ka : AllK κ a.toList) (kb : AllK κ b.toList) (sa : Srt κ a.toList) (sb : Srt κ b.toList) (ha : 0 < a.size) (hb : 0 < b.size)
    (h0 : Bel κ (b.toList.take 1) a.toList) (hl : Bel κ b.toList (a.toList.drop (a.size - 1))) {Q : Array Keyed → SortSt → Prop} (h : ∀ r st', Out κ (a.toList ++ b.toList) r.toList → Eqv st st' → Q r st') :
    wpS (model prog w) A E s (mergeHi' a b) Q st := by
  have geta : ∀ i, i < a.size → ∃ x, a[i]? = some x ∧ Kd κ x := fun i hi => ⟨a[i], Array.getElem?_eq_getElem hi, ka _ (by simp)⟩
  have getb : ∀ i, i < b.size → ∃ x, b[i]? = some x ∧ Kd κ x := fun i hi => ⟨b[i], Array.getElem?_eq_getElem hi, kb _ (by simp)⟩
  have sat : ∀ i, Srt κ (a.toList.take i) := fun i => List.Pairwise.sublist (List.take_sublist _ _) sa
  have sbt : ∀ i, Srt κ (b.toList.take i) := fun i => List.Pairwise.sublist (List.take_sublist _ _) sb
  refine wpS_bind (wpS_lift (wpAny_rule ⟨rfl, ?_⟩))
  obtain ⟨x0, ex0, kx0⟩ := geta (a.size - 1) (by omega)
  refine wpS_bind (elem_ok ex0 ?_)
  have start : Hi κ a b #[x0] (a.size - 1) b.size := by
    have z : Hi κ a b #[] (a.size - 1 + 1) b.size := by
      refine ⟨?_, by simp; omega, by omega, Nat.le_refl _⟩
      rw [List.take_of_length_le (by rw [Array.length_toList]; omega), List.take_of_length_le (by rw [Array.length_toList]; exact Nat.le_refl _)]
      exact ⟨sa, sb, List.Pairwise.nil, (fun p _ q hq => by cases hq), (fun p _ q hq => by cases hq), by simp⟩
    have := z.takeA ex0 (fun p hp q hq => hl p (List.mem_of_mem_take hp) q (by rw [List.mem_singleton.mp hq]; exact get_mem_drop ex0 (Nat.le_refl _)))
    simpa using this
  dsimp only
  by_cases q1 : (a.size - 1 == 0) = true
  · rw [if_pos q1]
    exact wpS_pure (h _ _ (start.doneA (by simpa using q1)) (.refl _))
  rw [if_neg q1]
  by_cases q2 : (b.size == 1) = true
  · rw [if_pos q2]
    exact wpS_pure (h _ _ (start.firstB h0 (by simpa using q2)) (.refl _))
  rw [if_neg q2]
  have q1 : a.size - 1 ≠ 0 := by simpa using q1
  have q2 : b.size ≠ 1 := by simpa using q2
  refine wpS_bind (wpS_get ?_)
  refine wpS_bind (wpS_mono (wpS_forRange
    (I := fun x c st' => Eqv st st' ∧ ∃ na nb out g, c = (none, na, nb, out, g) ∧ Hi κ a b out na nb ∧ 1 ≤ na ∧ 2 ≤ nb ∧ x + 1 ≤ out.size)
    (Q := fun c st' => Eqv st st' ∧ ∃ r, c.1 = some r ∧ Out κ (a.toList ++ b.toList) r.toList) ?ost ?ofi ⟨.refl _, _, _, #[x0], _, rfl, start, by omega, by omega, Nat.le_refl _⟩) ?opo)
  case opo =>
    rintro c st' ⟨eq, r, er, o⟩
    obtain ⟨c1, c2⟩ := c
    simp only at er
    subst er
    exact wpS_pure (h r st' o eq)
  case ofi =>
    rintro c st' ⟨eq, na, nb, out, g, rfl, hi, h1, h2, h3⟩
    have := hi.sz
    omega
  case ost =>
    rintro x c st' _ hx ⟨eq, na, nb, out, g, rfl, hi, h1, h2, h3⟩
    dsimp only
    refine wpS_bind (wpS_mono (wpS_forRange
      (I := fun x c st' => Eqv st st' ∧ ∃ na nb out' ac bc, c = (none, na, nb, out', ac, bc) ∧ Hi κ a b out' na nb ∧ 1 ≤ na ∧ 2 ≤ nb ∧ x + out.size ≤ out'.size)
      (Q := fun c st' => Eqv st st' ∧ ((∃ r, c.1 = some r ∧ Out κ (a.toList ++ b.toList) r.toList) ∨ ∃ na nb out' ac bc, c = (none, na, nb, out', ac, bc) ∧ Hi κ a b out' na nb ∧ 1 ≤ na ∧ 2 ≤ nb ∧ out.size < out'.size)) ?ist ?ifi ⟨eq, na, nb, out, 0, 0, rfl, hi, h1, h2, by omega⟩) ?ipo)
    case ifi =>
      rintro c st' ⟨eq, na, nb, out', ac, bc, rfl, hi, h1, h2, h3⟩
      have := hi.sz
      omega
    case ist =>
      rintro x c st' _ hx ⟨eq, na, nb, out', ac, bc, rfl, hi, h1, h2, h3⟩
      have hla := hi.la
      have hlb := hi.lb
      obtain ⟨m, rfl⟩ : ∃ m, na = m + 1 := ⟨na - 1, by omega⟩
      obtain ⟨n, rfl⟩ : ∃ n, nb = n + 1 := ⟨nb - 1, by omega⟩
      simp only [Nat.add_sub_cancel]
      obtain ⟨y, ey, ky⟩ := getb n (by omega)
      obtain ⟨z, ez, kz⟩ := geta m (by omega)
      refine wpS_bind (elem_ok ey ?_)
      refine wpS_bind (elem_ok ez ?_)
      refine wpS_bind (lt_ok C (F.eqv eq) ky kz ?_)
      dsimp only
      cases e : κ.blt (kf κ y) (kf κ z) with
      | true =>
        rw [if_pos rfl]
        refine wpS_bind (elem_ok ez ?_)
        have hi' := hi.takeA ez (bel_last ey (sbt _) z (KeyOrd.kle_of_klt e))
        try dsimp only
        by_cases q : (m == 0) = true
        · rw [if_pos q]
          exact wpS_pure ⟨eq, .inl ⟨_, rfl, hi'.doneA (by simpa using q)⟩⟩
        · rw [if_neg q]
          have q : m ≠ 0 := by simpa using q
          split
          · exact wpS_pure ⟨eq, .inr ⟨_, _, _, _, _, rfl, hi', by omega, h2, by rw [Array.size_push]; omega⟩⟩
          · exact wpS_pure ⟨eq, _, _, _, _, _, rfl, hi', by omega, h2, by rw [Array.size_push]; omega⟩
      | false =>
        rw [if_neg (by decide)]
        refine wpS_bind (elem_ok ey ?_)
        have hi' := hi.takeB ey (bel_last ez (sat _) y e)
        try dsimp only
        by_cases q : (n == 1) = true
        · rw [if_pos q]
          exact wpS_pure ⟨eq, .inl ⟨_, rfl, hi'.firstB h0 (by simpa using q)⟩⟩
        · rw [if_neg q]
          have q : n ≠ 1 := by simpa using q
          split
          · exact wpS_pure ⟨eq, .inr ⟨_, _, _, _, _, rfl, hi', h1, by omega, by rw [Array.size_push]; omega⟩⟩
          · exact wpS_pure ⟨eq, _, _, _, _, _, rfl, hi', h1, by omega, by rw [Array.size_push]; omega⟩
    case ipo =>
      rintro c st1 ⟨eq, hc⟩
      rcases hc with ⟨r, er, o⟩ | ⟨na, nb, out1, ac, bc, rfl, hi, h1, h2, h4⟩
      · obtain ⟨c1, c2⟩ := c
        simp only at er
        subst er
        exact wpS_pure ⟨eq, r, rfl, o⟩
      dsimp only
      refine wpS_bind (wpS_lift (wpAny_rule ⟨rfl, ?_⟩))
      refine wpS_bind (wpS_mono (wpS_forRange
        (I := fun x c st' => Eqv st st' ∧ ∃ na nb out' g ac bc, c = (none, na, nb, out', g, ac, bc) ∧ Hi κ a b out' na nb ∧ 1 ≤ na ∧ 2 ≤ nb ∧ x + out1.size ≤ out'.size)
        (Q := fun c st' => Eqv st st' ∧ ((∃ r, c.1 = some r ∧ Out κ (a.toList ++ b.toList) r.toList) ∨ ∃ na nb out' g ac bc, c = (none, na, nb, out', g, ac, bc) ∧ Hi κ a b out' na nb ∧ 1 ≤ na ∧ 2 ≤ nb ∧ out.size < out'.size)) ?gst ?gfi ⟨eq, na, nb, out1, _, _, _, rfl, hi, h1, h2, by omega⟩) ?gpo)
      case gfi =>
        rintro c st' ⟨eq, na, nb, out', g, ac, bc, rfl, hi, h1, h2, h3⟩
        have := hi.sz
        omega
      case gpo =>
        rintro c st2 ⟨eq, hc⟩
        rcases hc with ⟨r, er, o⟩ | ⟨na, nb, out2, g, ac, bc, rfl, hi, h1, h2, h5⟩
        · obtain ⟨c1, c2⟩ := c
          simp only at er
          subst er
          exact wpS_pure ⟨eq, r, rfl, o⟩
        dsimp only
        refine wpS_bind (wpS_modify ?_)
        exact wpS_pure ⟨⟨eq.arr, eq.pend, eq.kind, eq.failed⟩, _, _, _, _, rfl, hi, h1, h2, by omega⟩
      case gst =>
        rintro x c st' _ hx ⟨eq, na, nb, out', g, ac, bc, rfl, hi, h1, h2, h3⟩
        have hla := hi.la
        have hlb := hi.lb
        obtain ⟨n, rfl⟩ : ∃ n, nb = n + 1 := ⟨nb - 1, by omega⟩
        dsimp only
        simp only [Nat.add_sub_cancel]
        obtain ⟨y, ey, ky⟩ := getb n (by omega)
        by_cases hg : g > 1
        rw [if_pos hg]
        rotate_left
        rw [if_neg hg]
        all_goals
          refine wpS_bind (wpS_modify ?_)
          refine wpS_eqv (st₀ := st) ⟨eq.arr, eq.pend, eq.kind, eq.failed⟩ fun eq1 => ?_
          refine wpS_bind (elem_ok ey ?_)
          refine wpS_bind (gallop_list C (F.eqv eq1) ky (show 0 + na ≤ a.size by omega) (all_take (all_drop ka)) (by rw [List.drop_zero]; exact sat _) (show na - 1 < na by omega) fun i hik g1 g2 => ?_)
          rw [List.drop_zero] at g1
          rw [Nat.zero_add] at g2
          have hi1 := hi.takeAs (i := i) hik (fun p hp q hq => KeyOrd.kle_trans (bel_last ey (sbt _) y (KeyOrd.kle_refl _) p hp y (by simp)) (KeyOrd.kle_of_klt (bey_right.2.mp (g2 q hq))))
          have hl1 : Bel κ (a.toList.take i) [y] := fun p hp q hq => by rw [List.mem_singleton.mp hq]; exact bey_right.1.mp (g1 p hp)
          try dsimp only
          by_cases qk : na - i > 0
          · rw [if_pos qk]
            try dsimp only
            by_cases q3 : (i == 0) = true
            · rw [if_pos q3]
              exact wpS_pure ⟨eq1, .inl ⟨_, rfl, hi1.doneA (by simpa using q3)⟩⟩
            rw [if_neg q3]
            have q3 : i ≠ 0 := by simpa using q3
            have hly := hl1
            refine wpS_bind (elem_ok ey ?_)
            have hi3 := hi1.takeB ey hly
            try dsimp only
            by_cases q5 : (n == 1) = true
            · rw [if_pos q5]
              exact wpS_pure ⟨eq1, .inl ⟨_, rfl, hi3.firstB h0 (by simpa using q5)⟩⟩
            rw [if_neg q5]
            have q5 : n ≠ 1 := by simpa using q5
            obtain ⟨m, hm⟩ : ∃ m, i = m + 1 := ⟨i - 1, by omega⟩
            rw [hm] at hi3
            simp only [hm, Nat.add_sub_cancel]
            obtain ⟨z, ez, kz⟩ := geta m (by omega)
            refine wpS_bind (elem_ok ez ?_)
            refine wpS_bind (gallop_list C (F.eqv eq1) kz (show 0 + n ≤ b.size by omega) (all_take (all_drop kb)) (by rw [List.drop_zero]; exact sbt _) (show n - 1 < n by omega) fun j hj g3 g4 => ?_)
            rw [List.drop_zero] at g3
            rw [Nat.zero_add] at g4
            have hz4' : Bel κ (b.toList.take j) [z] := fun p hp q hq => by rw [List.mem_singleton.mp hq]; exact KeyOrd.kle_of_klt (bey_left.1.mp (g3 p hp))
            try dsimp only
            by_cases q6 : n - j > 0
            · rw [if_pos q6]
              have hi4 := hi3.takeBs (i := j) hj (fun p hp q hq => KeyOrd.kle_trans (bel_last ez (sat _) z (KeyOrd.kle_refl _) p hp z (by simp)) (bey_left.2.mp (g4 q hq)))
              try dsimp only
              by_cases q7 : (j == 1) = true
              · rw [if_pos q7]
                exact wpS_pure ⟨eq1, .inl ⟨_, rfl, hi4.firstB h0 (by simpa using q7)⟩⟩
              rw [if_neg q7]
              have q7 : j ≠ 1 := by simpa using q7
              by_cases q9 : (j == 0) = true
              · rw [if_pos q9]
                exact wpS_pure ⟨eq1, .inl ⟨_, rfl, hi4.doneB (by simpa using q9)⟩⟩
              rw [if_neg q9]
              have q9 : j ≠ 0 := by simpa using q9
              have hz4 := hz4'
              refine wpS_bind (elem_ok ez ?_)
              have hi5 := hi4.takeA ez hz4
              try dsimp only
              by_cases q8 : (m == 0) = true
              · rw [if_pos q8]
                exact wpS_pure ⟨eq1, .inl ⟨_, rfl, hi5.doneA (by simpa using q8)⟩⟩
              · rw [if_neg q8]
                have q8 : m ≠ 0 := by simpa using q8
                split
                · exact wpS_pure ⟨eq1, .inr ⟨_, _, _, _, _, _, rfl, hi5, by omega, by omega, by have := hi.sz; have := hi5.sz; omega⟩⟩
                · exact wpS_pure ⟨eq1, _, _, _, _, _, _, rfl, hi5, by omega, by omega, by have := hi.sz; have := hi5.sz; omega⟩
            · rw [if_neg q6]
              have e6 : j = n := by omega
              have hz4 : Bel κ (b.toList.take n) [z] := by rw [e6] at hz4'; exact hz4'
              refine wpS_bind (elem_ok ez ?_)
              have hi5 := hi3.takeA ez hz4
              try dsimp only
              by_cases q8 : (m == 0) = true
              · rw [if_pos q8]
                exact wpS_pure ⟨eq1, .inl ⟨_, rfl, hi5.doneA (by simpa using q8)⟩⟩
              · rw [if_neg q8]
                have q8 : m ≠ 0 := by simpa using q8
                split
                · exact wpS_pure ⟨eq1, .inr ⟨_, _, _, _, _, _, rfl, hi5, by omega, by omega, by have := hi.sz; have := hi5.sz; omega⟩⟩
                · exact wpS_pure ⟨eq1, _, _, _, _, _, _, rfl, hi5, by omega, by omega, by have := hi.sz; have := hi5.sz; omega⟩
          · rw [if_neg qk]
            have ek : i = na := by omega
            have hly : Bel κ (a.toList.take na) [y] := by rw [ek] at hl1; exact hl1
            refine wpS_bind (elem_ok ey ?_)
            have hi3 := hi.takeB ey hly
            try dsimp only
            by_cases q5 : (n == 1) = true
            · rw [if_pos q5]
              exact wpS_pure ⟨eq1, .inl ⟨_, rfl, hi3.firstB h0 (by simpa using q5)⟩⟩
            rw [if_neg q5]
            have q5 : n ≠ 1 := by simpa using q5
            obtain ⟨m, hm⟩ : ∃ m, na = m + 1 := ⟨na - 1, by omega⟩
            rw [hm] at hi3
            simp only [hm, Nat.add_sub_cancel]
            obtain ⟨z, ez, kz⟩ := geta m (by omega)
            refine wpS_bind (elem_ok ez ?_)
            refine wpS_bind (gallop_list C (F.eqv eq1) kz (show 0 + n ≤ b.size by omega) (all_take (all_drop kb)) (by rw [List.drop_zero]; exact sbt _) (show n - 1 < n by omega) fun j hj g3 g4 => ?_)
            rw [List.drop_zero] at g3
            rw [Nat.zero_add] at g4
            have hz4' : Bel κ (b.toList.take j) [z] := fun p hp q hq => by rw [List.mem_singleton.mp hq]; exact KeyOrd.kle_of_klt (bey_left.1.mp (g3 p hp))
            try dsimp only
            by_cases q6 : n - j > 0
            · rw [if_pos q6]
              have hi4 := hi3.takeBs (i := j) hj (fun p hp q hq => KeyOrd.kle_trans (bel_last ez (sat _) z (KeyOrd.kle_refl _) p hp z (by simp)) (bey_left.2.mp (g4 q hq)))
              try dsimp only
              by_cases q7 : (j == 1) = true
              · rw [if_pos q7]
                exact wpS_pure ⟨eq1, .inl ⟨_, rfl, hi4.firstB h0 (by simpa using q7)⟩⟩
              rw [if_neg q7]
              have q7 : j ≠ 1 := by simpa using q7
              by_cases q9 : (j == 0) = true
              · rw [if_pos q9]
                exact wpS_pure ⟨eq1, .inl ⟨_, rfl, hi4.doneB (by simpa using q9)⟩⟩
              rw [if_neg q9]
              have q9 : j ≠ 0 := by simpa using q9
              have hz4 := hz4'
              refine wpS_bind (elem_ok ez ?_)
              have hi5 := hi4.takeA ez hz4
              try dsimp only
              by_cases q8 : (m == 0) = true
              · rw [if_pos q8]
                exact wpS_pure ⟨eq1, .inl ⟨_, rfl, hi5.doneA (by simpa using q8)⟩⟩
              · rw [if_neg q8]
                have q8 : m ≠ 0 := by simpa using q8
                split
                · exact wpS_pure ⟨eq1, .inr ⟨_, _, _, _, _, _, rfl, hi5, by omega, by omega, by have := hi.sz; have := hi5.sz; omega⟩⟩
                · exact wpS_pure ⟨eq1, _, _, _, _, _, _, rfl, hi5, by omega, by omega, by have := hi.sz; have := hi5.sz; omega⟩
            · rw [if_neg q6]
              have e6 : j = n := by omega
              have hz4 : Bel κ (b.toList.take n) [z] := by rw [e6] at hz4'; exact hz4'
              refine wpS_bind (elem_ok ez ?_)
              have hi5 := hi3.takeA ez hz4
              try dsimp only
              by_cases q8 : (m == 0) = true
              · rw [if_pos q8]
                exact wpS_pure ⟨eq1, .inl ⟨_, rfl, hi5.doneA (by simpa using q8)⟩⟩
              · rw [if_neg q8]
                have q8 : m ≠ 0 := by simpa using q8
                split
                · exact wpS_pure ⟨eq1, .inr ⟨_, _, _, _, _, _, rfl, hi5, by omega, by omega, by have := hi.sz; have := hi5.sz; omega⟩⟩
                · exact wpS_pure ⟨eq1, _, _, _, _, _, _, rfl, hi5, by omega, by omega, by have := hi.sz; have := hi5.sz; omega⟩
end
end SB
namespace SB
open PySem PyProof.Rows
def Seg (κ : KeyKind) (xs : Array Keyed) (lo n : Nat) : Prop := ∀ i j, i ≤ j → j < n → κ.kle (KK κ xs (lo + i)) (KK κ xs (lo + j))
def Dsc (κ : KeyKind) (xs : Array Keyed) (lo n : Nat) : Prop := ∀ i j, i ≤ j → j < n → κ.kle (KK κ xs (lo + j)) (KK κ xs (lo + i))
structure Upd (lo : Nat) (st st' : SortSt) : Prop where
  perm : (arrOf st').Perm (arrOf st)
  low : ∀ k, k < lo → (arrOf st')[k]? = (arrOf st)[k]?
  pend : pendingOf st' = pendingOf st
  kind : kindOf st' = kindOf st
  failed : failedOf st' = failedOf st
theorem Upd.refl (lo : Nat) (st : SortSt) : Upd lo st st := ⟨Array.Perm.refl _, fun _ _ => rfl, rfl, rfl, rfl⟩
theorem Upd.trans {lo : Nat} {a b c : SortSt} (x : Upd lo a b) (y : Upd lo b c) : Upd lo a c :=
  ⟨y.perm.trans x.perm, fun k hk => (y.low k hk).trans (x.low k hk), y.pend.trans x.pend, y.kind.trans x.kind, y.failed.trans x.failed⟩
theorem Upd.arr {lo : Nat} {st : SortSt} {xs : Array Keyed} (hp : xs.Perm (arrOf st)) (hl : ∀ k, k < lo → xs[k]? = (arrOf st)[k]?) : Upd lo st (setArr st xs) := ⟨hp, hl, rfl, rfl, rfl⟩
theorem Fine.upd {kd : SortKind} {lo : Nat} {st st' : SortSt} (F : Fine kd st) (u : Upd lo st st') : Fine kd st' := ⟨u.kind.trans F.kind, u.failed.trans F.ok⟩
theorem Upd.size {lo : Nat} {st st' : SortSt} (u : Upd lo st st') : (arrOf st').size = (arrOf st).size := u.perm.size_eq
section
variable {prog : Program} {w : World} {A : Around} {E : Value → Shared → Prop} {s : Shared} {κ : KeyKind} {kd : SortKind}
theorem Upd.allK {lo : Nat} {st st' : SortSt} (u : Upd lo st st') (k : AllK κ (arrOf st).toList) : AllK κ (arrOf st').toList := fun p hp => k p ((Array.perm_iff_toList_perm.mp u.perm).mem_iff.mp hp)
theorem kk_get {xs : Array Keyed} {i : Nat} {p : Keyed} (e : xs[i]? = some p) : KK κ xs i = kf κ p := by unfold KK kf; rw [e]
theorem ltAt_ok (C : Cmp prog w A s κ kd) {st : SortSt} (F : Fine kd st) (ka : AllK κ (arrOf st).toList) {i j : Nat} (hi : i < (arrOf st).size) (hj : j < (arrOf st).size) {Q : Option Bool → SortSt → Prop}
    (h : Q (some (κ.blt (KK κ (arrOf st) i) (KK κ (arrOf st) j))) st) : wpS (model prog w) A E s (ltAt' i j) Q st := by
  have ei : (arrOf st)[i]? = some (arrOf st)[i] := Array.getElem?_eq_getElem hi
  have ej : (arrOf st)[j]? = some (arrOf st)[j] := Array.getElem?_eq_getElem hj
  rw [kk_get ei, kk_get ej] at h
  rw [ltAt'_eq]
  refine wpS_bind (wpS_get ?_)
  exact wpS_bind (elem_ok ei (wpS_bind (elem_ok ej (lt_ok C F (ka _ (by simp)) (ka _ (by simp)) h))))
theorem seg_succ {xs : Array Keyed} {lo x : Nat} (h : Seg κ xs lo x) (hx : 1 ≤ x) (e : κ.kle (KK κ xs (lo + x - 1)) (KK κ xs (lo + x))) : Seg κ xs lo (x + 1) := by
  intro i j hij hj
  rcases Nat.lt_or_ge j x with q | q
  · exact h i j hij q
  · have : j = x := by omega
    subst this
    rcases Nat.lt_or_ge i j with r | r
    · refine KeyOrd.kle_trans (h i (j - 1) (by omega) (by omega)) ?_
      rwa [show lo + (j - 1) = lo + j - 1 by omega]
    · have : i = j := by omega
      subst this; exact KeyOrd.kle_refl _
theorem dsc_succ {xs : Array Keyed} {lo x : Nat} (h : Dsc κ xs lo x) (hx : 1 ≤ x) (e : κ.kle (KK κ xs (lo + x)) (KK κ xs (lo + x - 1))) : Dsc κ xs lo (x + 1) := by
  intro i j hij hj
  rcases Nat.lt_or_ge j x with q | q
  · exact h i j hij q
  · have : j = x := by omega
    subst this
    rcases Nat.lt_or_ge i j with r | r
    · refine KeyOrd.kle_trans ?_ (h i (j - 1) (by omega) (by omega))
      rwa [show lo + (j - 1) = lo + j - 1 by omega]
    · have : i = j := by omega
      subst this; exact KeyOrd.kle_refl _
theorem seg_one {xs : Array Keyed} {lo : Nat} : Seg κ xs lo 1 := fun i j hij hj => by
  have : i = j := by omega
  subst this; exact KeyOrd.kle_refl _
theorem mir_low {xs : Array Keyed} {lo i j : Nat} (hj : j ≤ xs.size) (hi : lo ≤ i) (k : Nat) (hk : k < lo) : (mirror xs i j ((j - i) / 2))[k]? = xs[k]? := by
  rw [getElem?_mirror_all hj, if_neg (by omega)]
theorem Upd.mir {st : SortSt} {lo i j : Nat} (hj : j ≤ (arrOf st).size) (hi : lo ≤ i) : Upd lo st (setArr st (mirror (arrOf st) i j ((j - i) / 2))) := .arr (mirror_perm _ _ _ _) (mir_low hj hi)
theorem rev_ok {st : SortSt} {i j : Nat} {Q : Unit → SortSt → Prop} (h : Q () (setArr st (mirror (arrOf st) i j ((j - i) / 2)))) : wpS (model prog w) A E s (reverseSlice' i j) Q st := by
  rw [reverseSlice'_eq]; exact wpS_modify h
theorem dsc_flip {xs : Array Keyed} {lo n : Nat} (hn : lo + n ≤ xs.size) (h : Dsc κ xs lo n) : Seg κ (mirror xs lo (lo + n) ((lo + n - lo) / 2)) lo n := by
  intro i j hij hj
  rw [KK_mirror hn, KK_mirror hn, if_pos (by omega), if_pos (by omega), show lo + (lo + n) - 1 - (lo + i) = lo + (n - 1 - i) by omega, show lo + (lo + n) - 1 - (lo + j) = lo + (n - 1 - j) by omega]
  exact h _ _ (by omega) (by omega)
theorem countRun_ok (C : Cmp prog w A s κ kd) {st : SortSt} (F : Fine kd st) (ka : AllK κ (arrOf st).toList) {lo nrem : Nat} (hn : lo + nrem ≤ (arrOf st).size) (h1 : 1 ≤ nrem) {Q : Option Nat → SortSt → Prop}
    (h : ∀ m st', 1 ≤ m → m ≤ nrem → Seg κ (arrOf st') lo m → Upd lo st st' → Q (some m) st') : wpS (model prog w) A E s (countRun' lo nrem) Q st := by
  rw [countRun'_eq]
  dsimp only
  refine wpS_bind (wpS_mono (wpS_forRange (I := fun x c st' => st' = st ∧ c = (none, x) ∧ Seg κ (arrOf st) lo x)
    (Q := fun c st' => st' = st ∧ ∃ n, c = (none, n) ∧ 1 ≤ n ∧ n ≤ nrem ∧ Seg κ (arrOf st) lo n ∧ (n = nrem ∨ κ.klt (KK κ (arrOf st) (lo + n)) (KK κ (arrOf st) (lo + n - 1)))) ?_ ?_ ⟨rfl, rfl, seg_one⟩) ?_)
  · rintro x c st' hx1 hx ⟨rfl, rfl, sg⟩
    dsimp only
    refine wpS_bind (ltAt_ok C F ka (by omega) (by omega) ?_)
    dsimp only
    cases e : κ.blt (KK κ (arrOf st') (lo + x)) (KK κ (arrOf st') (lo + x - 1)) with
    | true => rw [if_pos rfl]; exact wpS_pure ⟨rfl, x, rfl, hx1, by omega, sg, .inr e⟩
    | false => rw [if_neg (by decide)]; exact wpS_pure ⟨rfl, rfl, seg_succ sg hx1 e⟩
  · rintro c st' ⟨rfl, rfl, sg⟩
    rw [show max 1 nrem = nrem by omega] at sg ⊢
    exact ⟨rfl, nrem, rfl, by omega, Nat.le_refl _, sg, .inl rfl⟩
  · rintro c st0 ⟨rfl, n, rfl, hn1, hn2, sg, or⟩
    dsimp only
    by_cases q0 : (n == nrem) = true
    · rw [if_pos q0]; exact wpS_pure (h n _ hn1 hn2 sg (.refl _ _))
    rw [if_neg q0]
    have q0 : n ≠ nrem := by simpa using q0
    have hlt := or.resolve_left q0
    by_cases q1 : n > 1
    · rw [if_pos q1]
      refine wpS_bind (ltAt_ok C F ka (by omega) (by omega) ?_)
      dsimp only
      cases e : κ.blt (KK κ (arrOf st0) lo) (KK κ (arrOf st0) (lo + n - 1)) with
      | true => rw [if_pos rfl]; exact wpS_pure (h n _ hn1 hn2 sg (.refl _ _))
      | false =>
        rw [if_neg (by decide)]
        have all : ∀ k, lo ≤ k → k < lo + n → KK κ (arrOf st0) k = KK κ (arrOf st0) (lo + n - 1) := fun k k1 k2 => by
          have a1 := sg 0 (k - lo) (by omega) (by omega)
          have a2 := sg (k - lo) (n - 1) (by omega) (by omega)
          rw [show lo + (k - lo) = k by omega] at a1 a2
          rw [show lo + (n - 1) = lo + n - 1 by omega] at a2
          exact KeyOrd.kle_antisymm a2 (KeyOrd.kle_trans e a1)
        refine wpS_bind (rev_ok ?_)
        have hsz : lo + n ≤ (arrOf st0).size := by omega
        have hk := KK_mirror_equal (κ := κ) hsz all
        have u1 := Upd.mir (st := st0) (lo := lo) hsz (Nat.le_refl lo)
        have d1 : Dsc κ (arrOf (setArr st0 (mirror (arrOf st0) lo (lo + n) ((lo + n - lo) / 2)))) lo (n + 1) := by
          intro i j hij hj
          show κ.kle (KK κ (mirror (arrOf st0) _ _ _) _) (KK κ (mirror (arrOf st0) _ _ _) _)
          rw [hk, hk]
          have hd : Dsc κ (arrOf st0) lo n := fun i j hij hj => by rw [all (lo + i) (by omega) (by omega), all (lo + j) (by omega) (by omega)]; exact KeyOrd.kle_refl _
          exact dsc_succ hd hn1 (KeyOrd.kle_of_klt hlt) i j hij hj
        generalize setArr st0 (mirror (arrOf st0) lo (lo + n) ((lo + n - lo) / 2)) = st1 at u1 d1 ⊢
        refine wpS_bind (wpS_lift (wpAny_rule ⟨rfl, ?_⟩))
        refine wpS_bind (wpS_mono (wpS_forRange (I := fun x c sx => ∃ q, c = (none, x, q) ∧ Upd lo st0 sx ∧ Dsc κ (arrOf sx) lo x ∧ q + 1 ≤ x ∧ ∀ i, x - (q + 1) ≤ i → i < x → KK κ (arrOf sx) (lo + i) = KK κ (arrOf sx) (lo + x - 1))
          (Q := fun c sx => ∃ m q, c = (none, m, q) ∧ n + 1 ≤ m ∧ m ≤ nrem ∧ Upd lo st0 sx ∧ Dsc κ (arrOf sx) lo m ∧ q + 1 ≤ m ∧ ∀ i, m - (q + 1) ≤ i → i < m → KK κ (arrOf sx) (lo + i) = KK κ (arrOf sx) (lo + m - 1)) ?_ ?_ ⟨0, rfl, u1, d1, by omega, fun i h1 h2 => by congr 1; omega⟩) ?_)
        · rintro x c st2 hx1 hx ⟨q, rfl, u2, d2, hq, he⟩
          dsimp only
          have hsz : lo + x ≤ (arrOf st2).size := by rw [u2.size]; omega
          refine wpS_bind (ltAt_ok C (F.upd u2) (u2.allK ka) (by rw [u2.size]; omega) (by rw [u2.size]; omega) ?_)
          dsimp only
          cases e : κ.blt (KK κ (arrOf st2) (lo + x)) (KK κ (arrOf st2) (lo + x - 1)) with
          | true =>
            rw [if_pos rfl]
            by_cases hq0 : q > 0
            · rw [if_pos hq0]
              refine wpS_bind (rev_ok (wpS_pure ?_))
              have hk : ∀ k, KK κ (mirror (arrOf st2) (lo + x - (q + 1)) (lo + x) ((lo + x - (lo + x - (q + 1))) / 2)) k = KK κ (arrOf st2) k := KK_mirror_equal hsz fun k k1 k2 => by
                have := he (k - lo) (by omega) (by omega)
                rwa [show lo + (k - lo) = k by omega] at this
              refine ⟨0, rfl, u2.trans (.mir hsz (by omega)), ?_, by omega, fun i h1 h2 => by congr 1; omega⟩
              have := dsc_succ d2 (by omega) (KeyOrd.kle_of_klt e)
              intro i j hij hj
              show κ.kle (KK κ (mirror (arrOf st2) _ _ _) _) (KK κ (mirror (arrOf st2) _ _ _) _)
              rw [hk, hk]; exact this i j hij hj
            · rw [if_neg hq0]
              exact wpS_pure ⟨0, rfl, u2, dsc_succ d2 (by omega) (KeyOrd.kle_of_klt e), by omega, fun i h1 h2 => by congr 1; omega⟩
          | false =>
            rw [if_neg (by decide)]
            refine wpS_bind (ltAt_ok C (F.upd u2) (u2.allK ka) (by rw [u2.size]; omega) (by rw [u2.size]; omega) ?_)
            dsimp only
            cases e2 : κ.blt (KK κ (arrOf st2) (lo + x - 1)) (KK κ (arrOf st2) (lo + x)) with
            | true =>
              rw [if_pos rfl]
              exact wpS_pure ⟨x, q, rfl, hx1, by omega, u2, d2, hq, he⟩
            | false =>
              rw [if_neg (by decide)]
              have ee : KK κ (arrOf st2) (lo + x) = KK κ (arrOf st2) (lo + x - 1) := KeyOrd.kle_antisymm e2 e
              refine wpS_pure ⟨q + 1, rfl, u2, dsc_succ d2 (by omega) e2, by omega, fun i h1 h2 => ?_⟩
              rw [show lo + (x + 1) - 1 = lo + x by omega]
              rcases Nat.lt_or_ge i x with r | r
              · rw [ee]; exact he i (by omega) r
              · have : i = x := by omega
                subst this; rfl
        · rintro c st2 ⟨q, rfl, u2, d2, hq, he⟩
          rw [show max (n + 1) nrem = nrem by omega] at d2 hq he ⊢
          exact ⟨nrem, q, rfl, by omega, Nat.le_refl _, u2, d2, hq, he⟩
        · rintro c st2 ⟨m, q, rfl, hm1, hm2, u2, d2, hq, he⟩
          dsimp only
          have hsz : lo + m ≤ (arrOf st2).size := by rw [u2.size]; omega
          by_cases hq0 : q > 0
          · rw [if_pos hq0]
            refine wpS_bind (rev_ok ?_)
            have hk : ∀ k, KK κ (mirror (arrOf st2) (lo + m - (q + 1)) (lo + m) ((lo + m - (lo + m - (q + 1))) / 2)) k = KK κ (arrOf st2) k := KK_mirror_equal hsz fun k k1 k2 => by
              have := he (k - lo) (by omega) (by omega)
              rwa [show lo + (k - lo) = k by omega] at this
            have u3 := u2.trans (Upd.mir (st := st2) (lo := lo) (i := lo + m - (q + 1)) (j := lo + m) hsz (by omega))
            have d3 : Dsc κ (arrOf (setArr st2 (mirror (arrOf st2) (lo + m - (q + 1)) (lo + m) ((lo + m - (lo + m - (q + 1))) / 2)))) lo m := by
              intro i j hij hj
              show κ.kle (KK κ (mirror (arrOf st2) _ _ _) _) (KK κ (mirror (arrOf st2) _ _ _) _)
              rw [hk, hk]; exact d2 i j hij hj
            generalize setArr st2 (mirror (arrOf st2) (lo + m - (q + 1)) (lo + m) ((lo + m - (lo + m - (q + 1))) / 2)) = st3 at u3 d3 ⊢
            refine wpS_bind (rev_ok ?_)
            have u5 := u3.trans (Upd.mir (st := st3) (lo := lo) (i := lo) (j := lo + m) (by rw [u3.size]; omega) (Nat.le_refl _))
            have seg5 : Seg κ (arrOf (setArr st3 (mirror (arrOf st3) lo (lo + m) ((lo + m - lo) / 2)))) lo m := dsc_flip (by rw [u3.size]; omega) d3
            refine wpS_bind (wpS_mono (wpS_forRange (I := fun x c st' => st' = setArr st3 (mirror (arrOf st3) lo (lo + m) ((lo + m - lo) / 2)) ∧ c = (none, x) ∧ Seg κ (arrOf st') lo x)
              (Q := fun c st' => st' = setArr st3 (mirror (arrOf st3) lo (lo + m) ((lo + m - lo) / 2)) ∧ ∃ n, c = (none, n) ∧ m ≤ n ∧ n ≤ nrem ∧ Seg κ (arrOf st') lo n) ?_ ?_ ⟨rfl, rfl, seg5⟩) ?_)
            · rintro x c st' hx1 hx ⟨rfl, rfl, sg⟩
              dsimp only
              refine wpS_bind (ltAt_ok C (F.upd u5) (u5.allK ka) (by rw [u5.size]; omega) (by rw [u5.size]; omega) ?_)
              dsimp only
              cases e : κ.blt (KK κ (arrOf (setArr st3 (mirror (arrOf st3) lo (lo + m) ((lo + m - lo) / 2)))) (lo + x)) (KK κ (arrOf (setArr st3 (mirror (arrOf st3) lo (lo + m) ((lo + m - lo) / 2)))) (lo + x - 1)) with
              | true => rw [if_pos rfl]; exact wpS_pure ⟨rfl, x, rfl, hx1, by omega, sg⟩
              | false => rw [if_neg (by decide)]; exact wpS_pure ⟨rfl, rfl, seg_succ sg (by omega) e⟩
            · rintro c st' ⟨rfl, rfl, sg⟩
              rw [show max m nrem = nrem by omega] at sg ⊢
              exact ⟨rfl, nrem, rfl, by omega, Nat.le_refl _, sg⟩
            · rintro c st' ⟨rfl, n', rfl, h5, h6, sg⟩
              exact wpS_pure (h n' _ (by omega) h6 sg u5)
          · rw [if_neg hq0]
            refine wpS_bind (rev_ok ?_)
            have u5 := u2.trans (Upd.mir (st := st2) (lo := lo) (i := lo) (j := lo + m) (by rw [u2.size]; omega) (Nat.le_refl _))
            have seg5 : Seg κ (arrOf (setArr st2 (mirror (arrOf st2) lo (lo + m) ((lo + m - lo) / 2)))) lo m := dsc_flip (by rw [u2.size]; omega) d2
            refine wpS_bind (wpS_mono (wpS_forRange (I := fun x c st' => st' = setArr st2 (mirror (arrOf st2) lo (lo + m) ((lo + m - lo) / 2)) ∧ c = (none, x) ∧ Seg κ (arrOf st') lo x)
              (Q := fun c st' => st' = setArr st2 (mirror (arrOf st2) lo (lo + m) ((lo + m - lo) / 2)) ∧ ∃ n, c = (none, n) ∧ m ≤ n ∧ n ≤ nrem ∧ Seg κ (arrOf st') lo n) ?_ ?_ ⟨rfl, rfl, seg5⟩) ?_)
            · rintro x c st' hx1 hx ⟨rfl, rfl, sg⟩
              dsimp only
              refine wpS_bind (ltAt_ok C (F.upd u5) (u5.allK ka) (by rw [u5.size]; omega) (by rw [u5.size]; omega) ?_)
              dsimp only
              cases e : κ.blt (KK κ (arrOf (setArr st2 (mirror (arrOf st2) lo (lo + m) ((lo + m - lo) / 2)))) (lo + x)) (KK κ (arrOf (setArr st2 (mirror (arrOf st2) lo (lo + m) ((lo + m - lo) / 2)))) (lo + x - 1)) with
              | true => rw [if_pos rfl]; exact wpS_pure ⟨rfl, x, rfl, hx1, by omega, sg⟩
              | false => rw [if_neg (by decide)]; exact wpS_pure ⟨rfl, rfl, seg_succ sg (by omega) e⟩
            · rintro c st' ⟨rfl, rfl, sg⟩
              rw [show max m nrem = nrem by omega] at sg ⊢
              exact ⟨rfl, nrem, rfl, by omega, Nat.le_refl _, sg⟩
            · rintro c st' ⟨rfl, n', rfl, h5, h6, sg⟩
              exact wpS_pure (h n' _ (by omega) h6 sg u5)
    · rw [if_neg q1]
      have e1 : n = 1 := by omega
      have d1 : Dsc κ (arrOf st0) lo (n + 1) := by
        subst e1
        exact dsc_succ (fun i j hij hj => by have : i = j := (by omega); subst this; exact KeyOrd.kle_refl _) (by omega) (KeyOrd.kle_of_klt hlt)
      refine wpS_bind (wpS_lift (wpAny_rule ⟨rfl, ?_⟩))
      refine wpS_bind (wpS_mono (wpS_forRange (I := fun x c sx => ∃ q, c = (none, x, q) ∧ Upd lo st0 sx ∧ Dsc κ (arrOf sx) lo x ∧ q + 1 ≤ x ∧ ∀ i, x - (q + 1) ≤ i → i < x → KK κ (arrOf sx) (lo + i) = KK κ (arrOf sx) (lo + x - 1))
        (Q := fun c sx => ∃ m q, c = (none, m, q) ∧ n + 1 ≤ m ∧ m ≤ nrem ∧ Upd lo st0 sx ∧ Dsc κ (arrOf sx) lo m ∧ q + 1 ≤ m ∧ ∀ i, m - (q + 1) ≤ i → i < m → KK κ (arrOf sx) (lo + i) = KK κ (arrOf sx) (lo + m - 1)) ?_ ?_ ⟨0, rfl, (.refl _ _), d1, by omega, fun i h1 h2 => by congr 1; omega⟩) ?_)
      · rintro x c st2 hx1 hx ⟨q, rfl, u2, d2, hq, he⟩
        dsimp only
        have hsz : lo + x ≤ (arrOf st2).size := by rw [u2.size]; omega
        refine wpS_bind (ltAt_ok C (F.upd u2) (u2.allK ka) (by rw [u2.size]; omega) (by rw [u2.size]; omega) ?_)
        dsimp only
        cases e : κ.blt (KK κ (arrOf st2) (lo + x)) (KK κ (arrOf st2) (lo + x - 1)) with
        | true =>
          rw [if_pos rfl]
          by_cases hq0 : q > 0
          · rw [if_pos hq0]
            refine wpS_bind (rev_ok (wpS_pure ?_))
            have hk : ∀ k, KK κ (mirror (arrOf st2) (lo + x - (q + 1)) (lo + x) ((lo + x - (lo + x - (q + 1))) / 2)) k = KK κ (arrOf st2) k := KK_mirror_equal hsz fun k k1 k2 => by
              have := he (k - lo) (by omega) (by omega)
              rwa [show lo + (k - lo) = k by omega] at this
            refine ⟨0, rfl, u2.trans (.mir hsz (by omega)), ?_, by omega, fun i h1 h2 => by congr 1; omega⟩
            have := dsc_succ d2 (by omega) (KeyOrd.kle_of_klt e)
            intro i j hij hj
            show κ.kle (KK κ (mirror (arrOf st2) _ _ _) _) (KK κ (mirror (arrOf st2) _ _ _) _)
            rw [hk, hk]; exact this i j hij hj
          · rw [if_neg hq0]
            exact wpS_pure ⟨0, rfl, u2, dsc_succ d2 (by omega) (KeyOrd.kle_of_klt e), by omega, fun i h1 h2 => by congr 1; omega⟩
        | false =>
          rw [if_neg (by decide)]
          refine wpS_bind (ltAt_ok C (F.upd u2) (u2.allK ka) (by rw [u2.size]; omega) (by rw [u2.size]; omega) ?_)
          dsimp only
          cases e2 : κ.blt (KK κ (arrOf st2) (lo + x - 1)) (KK κ (arrOf st2) (lo + x)) with
          | true =>
            rw [if_pos rfl]
            exact wpS_pure ⟨x, q, rfl, hx1, by omega, u2, d2, hq, he⟩
          | false =>
            rw [if_neg (by decide)]
            have ee : KK κ (arrOf st2) (lo + x) = KK κ (arrOf st2) (lo + x - 1) := KeyOrd.kle_antisymm e2 e
            refine wpS_pure ⟨q + 1, rfl, u2, dsc_succ d2 (by omega) e2, by omega, fun i h1 h2 => ?_⟩
            rw [show lo + (x + 1) - 1 = lo + x by omega]
            rcases Nat.lt_or_ge i x with r | r
            · rw [ee]; exact he i (by omega) r
            · have : i = x := by omega
              subst this; rfl
      · rintro c st2 ⟨q, rfl, u2, d2, hq, he⟩
        rw [show max (n + 1) nrem = nrem by omega] at d2 hq he ⊢
        exact ⟨nrem, q, rfl, by omega, Nat.le_refl _, u2, d2, hq, he⟩
      · rintro c st2 ⟨m, q, rfl, hm1, hm2, u2, d2, hq, he⟩
        dsimp only
        have hsz : lo + m ≤ (arrOf st2).size := by rw [u2.size]; omega
        by_cases hq0 : q > 0
        · rw [if_pos hq0]
          refine wpS_bind (rev_ok ?_)
          have hk : ∀ k, KK κ (mirror (arrOf st2) (lo + m - (q + 1)) (lo + m) ((lo + m - (lo + m - (q + 1))) / 2)) k = KK κ (arrOf st2) k := KK_mirror_equal hsz fun k k1 k2 => by
            have := he (k - lo) (by omega) (by omega)
            rwa [show lo + (k - lo) = k by omega] at this
          have u3 := u2.trans (Upd.mir (st := st2) (lo := lo) (i := lo + m - (q + 1)) (j := lo + m) hsz (by omega))
          have d3 : Dsc κ (arrOf (setArr st2 (mirror (arrOf st2) (lo + m - (q + 1)) (lo + m) ((lo + m - (lo + m - (q + 1))) / 2)))) lo m := by
            intro i j hij hj
            show κ.kle (KK κ (mirror (arrOf st2) _ _ _) _) (KK κ (mirror (arrOf st2) _ _ _) _)
            rw [hk, hk]; exact d2 i j hij hj
          generalize setArr st2 (mirror (arrOf st2) (lo + m - (q + 1)) (lo + m) ((lo + m - (lo + m - (q + 1))) / 2)) = st3 at u3 d3 ⊢
          refine wpS_bind (rev_ok ?_)
          have u5 := u3.trans (Upd.mir (st := st3) (lo := lo) (i := lo) (j := lo + m) (by rw [u3.size]; omega) (Nat.le_refl _))
          have seg5 : Seg κ (arrOf (setArr st3 (mirror (arrOf st3) lo (lo + m) ((lo + m - lo) / 2)))) lo m := dsc_flip (by rw [u3.size]; omega) d3
          refine wpS_bind (wpS_mono (wpS_forRange (I := fun x c st' => st' = setArr st3 (mirror (arrOf st3) lo (lo + m) ((lo + m - lo) / 2)) ∧ c = (none, x) ∧ Seg κ (arrOf st') lo x)
            (Q := fun c st' => st' = setArr st3 (mirror (arrOf st3) lo (lo + m) ((lo + m - lo) / 2)) ∧ ∃ n, c = (none, n) ∧ m ≤ n ∧ n ≤ nrem ∧ Seg κ (arrOf st') lo n) ?_ ?_ ⟨rfl, rfl, seg5⟩) ?_)
          · rintro x c st' hx1 hx ⟨rfl, rfl, sg⟩
            dsimp only
            refine wpS_bind (ltAt_ok C (F.upd u5) (u5.allK ka) (by rw [u5.size]; omega) (by rw [u5.size]; omega) ?_)
            dsimp only
            cases e : κ.blt (KK κ (arrOf (setArr st3 (mirror (arrOf st3) lo (lo + m) ((lo + m - lo) / 2)))) (lo + x)) (KK κ (arrOf (setArr st3 (mirror (arrOf st3) lo (lo + m) ((lo + m - lo) / 2)))) (lo + x - 1)) with
            | true => rw [if_pos rfl]; exact wpS_pure ⟨rfl, x, rfl, hx1, by omega, sg⟩
            | false => rw [if_neg (by decide)]; exact wpS_pure ⟨rfl, rfl, seg_succ sg (by omega) e⟩
          · rintro c st' ⟨rfl, rfl, sg⟩
            rw [show max m nrem = nrem by omega] at sg ⊢
            exact ⟨rfl, nrem, rfl, by omega, Nat.le_refl _, sg⟩
          · rintro c st' ⟨rfl, n', rfl, h5, h6, sg⟩
            exact wpS_pure (h n' _ (by omega) h6 sg u5)
        · rw [if_neg hq0]
          refine wpS_bind (rev_ok ?_)
          have u5 := u2.trans (Upd.mir (st := st2) (lo := lo) (i := lo) (j := lo + m) (by rw [u2.size]; omega) (Nat.le_refl _))
          have seg5 : Seg κ (arrOf (setArr st2 (mirror (arrOf st2) lo (lo + m) ((lo + m - lo) / 2)))) lo m := dsc_flip (by rw [u2.size]; omega) d2
          refine wpS_bind (wpS_mono (wpS_forRange (I := fun x c st' => st' = setArr st2 (mirror (arrOf st2) lo (lo + m) ((lo + m - lo) / 2)) ∧ c = (none, x) ∧ Seg κ (arrOf st') lo x)
            (Q := fun c st' => st' = setArr st2 (mirror (arrOf st2) lo (lo + m) ((lo + m - lo) / 2)) ∧ ∃ n, c = (none, n) ∧ m ≤ n ∧ n ≤ nrem ∧ Seg κ (arrOf st') lo n) ?_ ?_ ⟨rfl, rfl, seg5⟩) ?_)
          · rintro x c st' hx1 hx ⟨rfl, rfl, sg⟩
            dsimp only
            refine wpS_bind (ltAt_ok C (F.upd u5) (u5.allK ka) (by rw [u5.size]; omega) (by rw [u5.size]; omega) ?_)
            dsimp only
            cases e : κ.blt (KK κ (arrOf (setArr st2 (mirror (arrOf st2) lo (lo + m) ((lo + m - lo) / 2)))) (lo + x)) (KK κ (arrOf (setArr st2 (mirror (arrOf st2) lo (lo + m) ((lo + m - lo) / 2)))) (lo + x - 1)) with
            | true => rw [if_pos rfl]; exact wpS_pure ⟨rfl, x, rfl, hx1, by omega, sg⟩
            | false => rw [if_neg (by decide)]; exact wpS_pure ⟨rfl, rfl, seg_succ sg (by omega) e⟩
          · rintro c st' ⟨rfl, rfl, sg⟩
            rw [show max m nrem = nrem by omega] at sg ⊢
            exact ⟨rfl, nrem, rfl, by omega, Nat.le_refl _, sg⟩
          · rintro c st' ⟨rfl, n', rfl, h5, h6, sg⟩
            exact wpS_pure (h n' _ (by omega) h6 sg u5)
end
end SB
namespace SB
open PySem PyProof.Rows
section
variable {prog : Program} {w : World} {A : Around} {E : Value → Shared → Prop} {s : Shared} {κ : KeyKind} {kd : SortKind}
theorem bub_low {xs : Array Keyed} {lo src d : Nat} (hs : src < xs.size) (hd : d ≤ src) (hl : lo ≤ src - d) (k : Nat) (hk : k < lo) : (bubble xs src d)[k]? = xs[k]? := by
  rw [getElem?_bubble hs d hd, if_neg (by omega), if_neg (by omega)]
theorem binary_ok (C : Cmp prog w A s κ kd) {st : SortSt} (F : Fine kd st) (ka : AllK κ (arrOf st).toList) {lo n ok : Nat} (hn : lo + n ≤ (arrOf st).size) (hok : ok ≤ n) (hs : Seg κ (arrOf st) lo ok) {Q : Bool → SortSt → Prop}
    (h : ∀ st', Seg κ (arrOf st') lo n → Upd lo st st' → Q true st') : wpS (model prog w) A E s (binarySort' lo n ok) Q st := by
  rw [binarySort'_eq]
  refine wpS_bind (wpS_mono (wpS_forRange (I := fun k c sx => c = (none, ()) ∧ Upd lo st sx ∧ Seg κ (arrOf sx) lo (min k n))
    (Q := fun c sx => c = (none, ()) ∧ Upd lo st sx ∧ Seg κ (arrOf sx) lo n) ?step ?fin ?init) ?post)
  case post =>
    rintro c sx ⟨rfl, u, sg⟩
    exact wpS_pure (h sx sg u)
  case init =>
    refine ⟨rfl, .refl _ _, fun i j hij hj => ?_⟩
    rcases Nat.eq_zero_or_pos ok with q | q
    · have : i = j := by omega
      subst this; exact KeyOrd.kle_refl _
    · exact hs i j hij (by omega)
  case fin =>
    rintro c sx ⟨hc, u, sg⟩
    rw [show min (max (max ok 1) n) n = n by omega] at sg
    exact ⟨hc, u, sg⟩
  case step =>
    rintro k c sx hak hkn ⟨rfl, u, sg⟩
    rw [show min k n = k by omega] at sg
    have hks : lo + k < (arrOf sx).size := by rw [u.size]; omega
    refine wpS_bind (wpS_mono (wpS_forRange (I := fun x c sy => sy = sx ∧ ∃ l r, c = (none, l, r) ∧ l ≤ r ∧ r ≤ k ∧ r - l ≤ k - x ∧
        (∀ i, i < l → κ.kle (KK κ (arrOf sx) (lo + i)) (KK κ (arrOf sx) (lo + k))) ∧ ∀ i, r ≤ i → i < k → κ.klt (KK κ (arrOf sx) (lo + k)) (KK κ (arrOf sx) (lo + i)))
      (Q := fun c sy => sy = sx ∧ ∃ l r, c = (none, l, r) ∧ l ≤ k ∧
        (∀ i, i < l → κ.kle (KK κ (arrOf sx) (lo + i)) (KK κ (arrOf sx) (lo + k))) ∧ ∀ i, l ≤ i → i < k → κ.klt (KK κ (arrOf sx) (lo + k)) (KK κ (arrOf sx) (lo + i))) ?j1 ?j2 ?j3) ?j4)
    case j3 => exact ⟨rfl, 0, k, rfl, by omega, by omega, by omega, fun i hi => by omega, fun i h1 h2 => by omega⟩
    case j2 =>
      rintro c sy ⟨rfl, l, r, rfl, h1, h2, h3, h4, h5⟩
      have : l = r := by omega
      subst this
      exact ⟨rfl, l, l, rfl, h2, h4, h5⟩
    case j1 =>
      rintro x c sy _ hx ⟨rfl, l, r, rfl, h1, h2, h3, h4, h5⟩
      dsimp only
      by_cases q : l ≥ r
      · rw [if_pos q]
        have : l = r := by omega
        subst this
        exact wpS_pure ⟨rfl, l, l, rfl, h2, h4, h5⟩
      · rw [if_neg q]
        refine wpS_bind (ltAt_ok C (F.upd u) (u.allK ka) hks (by omega) ?_)
        dsimp only
        cases e : κ.blt (KK κ (arrOf sy) (lo + k)) (KK κ (arrOf sy) (lo + (l + r) / 2)) with
        | true =>
          rw [if_pos rfl]
          exact wpS_pure ⟨rfl, l, (l + r) / 2, rfl, by omega, by omega, by omega, h4, fun i i1 i2 => KeyOrd.klt_of_klt_of_kle e (sg _ _ i1 i2)⟩
        | false =>
          rw [if_neg (by decide)]
          exact wpS_pure ⟨rfl, (l + r) / 2 + 1, r, rfl, by omega, by omega, by omega, fun i i1 => KeyOrd.kle_trans (sg i ((l + r) / 2) (by omega) (by omega)) e, h5⟩
    case j4 =>
      rintro c sy ⟨rfl, l, r, rfl, hl, h4, h5⟩
      dsimp only
      show wpS _ _ _ _ (do moveDown' (lo + k) (lo + l); pure (ForInStep.yield (none, ()))) _ _
      rw [moveDown'_eq]
      refine wpS_bind (wpS_modify (wpS_pure ⟨rfl, u.trans (.arr (bubble_perm _ _ _) (bub_low hks (by omega) (by omega))), ?_⟩))
      rw [show min (k + 1) n = k + 1 by omega]
      intro i j hij hj
      show κ.kle (KK κ (bubble (arrOf sy) (lo + k) (lo + k - (lo + l))) (lo + i)) (KK κ (bubble (arrOf sy) (lo + k) (lo + k - (lo + l))) (lo + j))
      rw [KK_bubble hks (by omega), KK_bubble hks (by omega), show lo + k - (lo + k - (lo + l)) = lo + l by omega]
      have sg' : ∀ p q, lo ≤ p → p ≤ q → q < lo + k → κ.kle (KK κ (arrOf sy) p) (KK κ (arrOf sy) q) := fun p q p1 p2 p3 => by
        have := sg (p - lo) (q - lo) (by omega) (by omega)
        rwa [show lo + (p - lo) = p by omega, show lo + (q - lo) = q by omega] at this
      have h4' : ∀ p, lo ≤ p → p < lo + l → κ.kle (KK κ (arrOf sy) p) (KK κ (arrOf sy) (lo + k)) := fun p p1 p2 => by
        have := h4 (p - lo) (by omega)
        rwa [show lo + (p - lo) = p by omega] at this
      have h5' : ∀ p, lo + l ≤ p → p < lo + k → κ.klt (KK κ (arrOf sy) (lo + k)) (KK κ (arrOf sy) p) := fun p p1 p2 => by
        have := h5 (p - lo) (by omega) (by omega)
        rwa [show lo + (p - lo) = p by omega] at this
      repeat' split
      all_goals first
        | (exfalso; omega)
        | exact KeyOrd.kle_refl _
        | exact h4' _ (by omega) (by omega)
        | exact KeyOrd.kle_of_klt (h5' _ (by omega) (by omega))
        | exact sg' _ _ (by omega) (by omega) (by omega)
theorem wpS_set {σ : Type} {st st' : σ} {Q : PUnit → σ → Prop} (h : Q ⟨⟩ st') : wpS (model prog w) A E s (set st' : StateT σ Sem PUnit) Q st := by
  unfold wpS
  exact wpAny_pure ⟨rfl, h⟩
theorem fold_set (f : Array Keyed → Keyed × Nat → Array Keyed) (lo : Nat) (hf : ∀ a p j, f a (p, j) = a.setIfInBounds (lo + j) p) : ∀ (r : List Keyed) (n : Nat) (xs : Array Keyed), lo + n + r.length ≤ xs.size →
    (List.foldl f xs (r.zipIdx n)).toList = xs.toList.take (lo + n) ++ r ++ xs.toList.drop (lo + n + r.length)
  | [], n, xs, h => by simp
  | p :: r, n, xs, h => by
    have h' : lo + n < xs.size := by simp at h; omega
    rw [List.zipIdx_cons, List.foldl_cons, hf, fold_set f lo hf r (n + 1) _ (by simp at h ⊢; omega)]
    have e : (xs.setIfInBounds (lo + n) p).toList = xs.toList.set (lo + n) p := by simp
    rw [e]
    have e1 : (xs.toList.set (lo + n) p).take (lo + (n + 1)) = xs.toList.take (lo + n) ++ [p] := by
      rw [← Nat.add_assoc, take_get (x := p) (by rw [List.getElem?_set_self (by rw [Array.length_toList]; exact h')]), List.take_set_of_le (Nat.le_refl _)]
    have e2 : (xs.toList.set (lo + n) p).drop (lo + (n + 1) + r.length) = xs.toList.drop (lo + n + (p :: r).length) := by
      rw [List.drop_set_of_lt (by omega)]; congr 1; simp; omega
    rw [e1, e2]; simp
structure Mgd (κ : KeyKind) (sa n : Nat) (xs ys : Array Keyed) : Prop where
  ex : ∃ M, Out κ ((xs.toList.drop sa).take n) M ∧ ys.toList = xs.toList.take sa ++ M ++ xs.toList.drop (sa + n)
theorem four {xs : Array Keyed} {sa na nb : Nat} (h : sa + na + nb ≤ xs.size) : (xs.toList.drop sa).take (na + nb) = (xs.toList.drop sa).take na ++ (xs.toList.drop (sa + na)).take nb := by
  rw [List.take_add, List.drop_drop]
theorem mgd_same {xs : Array Keyed} {sa na nb : Nat} (h : sa + na + nb ≤ xs.size) (hs : Srt κ ((xs.toList.drop sa).take na ++ (xs.toList.drop (sa + na)).take nb)) : Mgd κ sa (na + nb) xs xs := by
  refine ⟨_, ⟨by rw [four h]; exact hs, List.Perm.refl _⟩, ?_⟩
  rw [List.append_assoc, ← List.drop_drop, List.take_append_drop, List.take_append_drop]
theorem mem_get {xs : Array Keyed} {lo n : Nat} {p : Keyed} (h : p ∈ (xs.toList.drop lo).take n) : ∃ i, i < n ∧ xs[lo + i]? = some p := by
  obtain ⟨i, hi⟩ := List.getElem?_of_mem h
  have hin : i < n := by
    have := (List.getElem?_eq_some_iff.mp hi).1
    rw [List.length_take] at this; omega
  rw [List.getElem?_take_of_lt hin, List.getElem?_drop, Array.getElem?_toList] at hi
  exact ⟨i, hin, hi⟩
theorem mergeAt_ok (C : Cmp prog w A s κ kd) {st : SortSt} (F : Fine kd st) (ka : AllK κ (arrOf st).toList) {i sa na nb pw pw' : Nat} (e1 : (pendingOf st)[i]? = some (sa, na, pw)) (e2 : (pendingOf st)[i + 1]? = some (sa + na, nb, pw'))
    (ha : 0 < na) (hb : 0 < nb) (hn : sa + na + nb ≤ (arrOf st).size) (s1 : Srt κ (((arrOf st).toList.drop sa).take na)) (s2 : Srt κ (((arrOf st).toList.drop (sa + na)).take nb)) {Q : Bool → SortSt → Prop}
    (h : ∀ st', Fine kd st' → Mgd κ sa (na + nb) (arrOf st) (arrOf st') → pendingOf st' = ((pendingOf st).setIfInBounds i (sa, na + nb, pw)).eraseIdxIfInBounds (i + 1) → Q true st') : wpS (model prog w) A E s (mergeAt' i) Q st := by
  refine wpS_bind (wpS_get ?_)
  rw [e1, e2]
  dsimp only
  refine wpS_bind (wpS_set ?_)
  have F1 : Fine kd (SortSt.mk' (kindOf st) (arrOf st) (((pendingOf st).setIfInBounds i (sa, na + nb, pw)).eraseIdxIfInBounds (i + 1)) (gallopOf st) (failedOf st)) := ⟨F.kind, F.ok⟩
  obtain ⟨b0, eb0⟩ : ∃ b0, (arrOf st)[sa + na]? = some b0 := ⟨_, Array.getElem?_eq_getElem (by omega)⟩
  have kd1 : ∀ {j p}, (arrOf st)[j]? = some p → Kd κ p := fun {j p} e => ka p (by rw [← Array.getElem?_toList] at e; exact List.mem_of_getElem? e)
  refine wpS_bind (elem_ok eb0 ?_)
  refine wpS_bind (gallop_list C F1 (kd1 eb0) (show sa + na ≤ (arrOf st).size by omega) (all_take (all_drop ka)) s1 (show 0 < na by omega) fun k hk g1 g2 => ?_)
  dsimp only
  have b0le : ∀ q ∈ ((arrOf st).toList.drop (sa + na)).take nb, κ.kle (kf κ b0) (kf κ q) := fun q hq => by
    rw [drop_get (l := (arrOf st).toList) (by rw [Array.getElem?_toList]; exact eb0)] at hq s2
    obtain ⟨m, rfl⟩ : ∃ m, nb = m + 1 := ⟨nb - 1, by omega⟩
    rw [List.take_succ_cons] at hq s2
    rcases List.mem_cons.mp hq with rfl | hq
    · exact KeyOrd.kle_refl _
    · exact List.rel_of_pairwise_cons s2 hq
  by_cases q1 : (na - k == 0) = true
  · rw [if_pos q1]
    have q1 : k = na := by have : na - k = 0 := (by simpa using q1); omega
    subst q1
    refine wpS_pure (h _ F1 (mgd_same hn (srt_app.mpr ⟨s1, s2, fun p hp q hq => KeyOrd.kle_trans (bey_right.1.mp (g1 p hp)) (b0le q hq)⟩)) rfl)
  rw [if_neg q1]
  have q1 : na - k ≠ 0 := by simpa using q1
  obtain ⟨al, eal⟩ : ∃ al, (arrOf st)[sa + k + (na - k) - 1]? = some al := ⟨_, Array.getElem?_eq_getElem (by omega)⟩
  have eal' : (arrOf st)[sa + (na - 1)]? = some al := by rw [← eal]; congr 1; omega
  have alge : ∀ p ∈ ((arrOf st).toList.drop sa).take na, κ.kle (kf κ p) (kf κ al) := fun p hp => by
    obtain ⟨j, hj, ej⟩ := mem_get hp
    rcases Nat.lt_or_ge j (na - 1) with r | r
    · have a1 : (((arrOf st).toList.drop sa).take na)[j]? = some p := by rw [List.getElem?_take_of_lt hj, List.getElem?_drop, Array.getElem?_toList]; exact ej
      have a2 : (((arrOf st).toList.drop sa).take na)[na - 1]? = some al := by rw [List.getElem?_take_of_lt (by omega), List.getElem?_drop, Array.getElem?_toList]; exact eal'
      obtain ⟨b1, c1⟩ := List.getElem?_eq_some_iff.mp a1
      obtain ⟨b2, c2⟩ := List.getElem?_eq_some_iff.mp a2
      have := List.pairwise_iff_getElem.mp s1 j (na - 1) b1 b2 r
      rwa [c1, c2] at this
    · have : j = na - 1 := by omega
      subst this
      rw [eal'] at ej; cases ej; exact KeyOrd.kle_refl _
  refine wpS_bind (elem_ok eal ?_)
  refine wpS_bind (gallop_list C F1 (kd1 eal) (show sa + na + nb ≤ (arrOf st).size by omega) (all_take (all_drop ka)) s2 (show nb - 1 < nb by omega) fun m hm g3 g4 => ?_)
  dsimp only
  by_cases q2 : (m == 0) = true
  · rw [if_pos q2]
    have q2 : m = 0 := by simpa using q2
    subst q2
    refine wpS_pure (h _ F1 (mgd_same hn (srt_app.mpr ⟨s1, s2, fun p hp q hq => KeyOrd.kle_trans (alge p hp) (bey_left.2.mp (g4 q (by simpa using hq)))⟩)) rfl)
  rw [if_neg q2]
  have q2 : m ≠ 0 := by simpa using q2
  have xl : ((arrOf st).extract (sa + k) (sa + na)).toList = ((arrOf st).toList.drop (sa + k)).take (na - k) := by rw [ext_mid _ (by omega)]; congr 1; omega
  have yl : ((arrOf st).extract (sa + na) (sa + na + m)).toList = ((arrOf st).toList.drop (sa + na)).take m := ext_list _ _ _
  have A12 : ((arrOf st).toList.drop sa).take na = ((arrOf st).toList.drop sa).take k ++ ((arrOf st).toList.drop (sa + k)).take (na - k) := by
    rw [take_split _ hk, List.drop_drop]
  have B12 : ((arrOf st).toList.drop (sa + na)).take nb = ((arrOf st).toList.drop (sa + na)).take m ++ ((arrOf st).toList.drop (sa + na + m)).take (nb - m) := by
    rw [take_split _ hm, List.drop_drop]
  rw [A12] at s1 alge
  rw [B12] at s2 b0le
  obtain ⟨sa1, sa2, sa12⟩ := srt_app.mp s1
  obtain ⟨sb1, sb2, sb12⟩ := srt_app.mp s2
  have xs0 : 0 < ((arrOf st).extract (sa + k) (sa + na)).size := by rw [Array.size_extract]; omega
  have ys0 : 0 < ((arrOf st).extract (sa + na) (sa + na + m)).size := by rw [Array.size_extract]; omega
  have hh0 : Bel κ (((arrOf st).extract (sa + na) (sa + na + m)).toList.take 1) ((arrOf st).extract (sa + k) (sa + na)).toList := by
    rw [xl, yl, drop_get (l := (arrOf st).toList) (i := sa + na) (by rw [Array.getElem?_toList]; exact eb0)]
    obtain ⟨m', rfl⟩ : ∃ m', m = m' + 1 := ⟨m - 1, by omega⟩
    intro p hp q hq
    rw [List.take_succ_cons, List.take_succ_cons, List.take_zero, List.mem_singleton] at hp
    rw [hp]
    exact KeyOrd.kle_of_klt (bey_right.2.mp (g2 q hq))
  have hhl : Bel κ ((arrOf st).extract (sa + na) (sa + na + m)).toList (((arrOf st).extract (sa + k) (sa + na)).toList.drop (((arrOf st).extract (sa + k) (sa + na)).size - 1)) := by
    intro p hp q hq
    rw [yl] at hp
    have eq : q = al := by
      obtain ⟨j, hj⟩ := List.getElem?_of_mem hq
      have hlen := (List.getElem?_eq_some_iff.mp hj).1
      rw [List.length_drop, Array.length_toList] at hlen
      have j0 : j = 0 := by omega
      subst j0
      rw [List.getElem?_drop, xl, List.getElem?_take_of_lt (by rw [Array.size_extract]; omega), List.getElem?_drop, Array.getElem?_toList, Array.size_extract] at hj
      have : sa + k + (min (sa + na) (arrOf st).size - (sa + k) - 1 + 0) = sa + (na - 1) := by omega
      rw [this, eal'] at hj
      cases hj; rfl
    rw [eq]
    exact KeyOrd.kle_of_klt (bey_left.1.mp (g3 p hp))
  have fin : ∀ (r : Array Keyed) (st2 : SortSt), Out κ (((arrOf st).extract (sa + k) (sa + na)).toList ++ ((arrOf st).extract (sa + na) (sa + na + m)).toList) r.toList → Eqv (SortSt.mk' (kindOf st) (arrOf st) (((pendingOf st).setIfInBounds i (sa, na + nb, pw)).eraseIdxIfInBounds (i + 1)) (gallopOf st) (failedOf st)) st2 →
      ∀ (f : Array Keyed → Keyed × Nat → Array Keyed), (∀ a p j, f a (p, j) = a.setIfInBounds (sa + k + j) p) → Mgd κ sa (na + nb) (arrOf st) (List.foldl f (arrOf st2) r.toList.zipIdx) := by
    intro r st2 o eq f hf
    have ea : arrOf st2 = arrOf st := eq.arr
    have lr : r.toList.length = (na - k) + m := by
      rw [o.2.length_eq, List.length_append, xl, yl, List.length_take, List.length_take, List.length_drop, List.length_drop, Array.length_toList]; omega
    rw [ea]
    refine ⟨((arrOf st).toList.drop sa).take k ++ r.toList ++ ((arrOf st).toList.drop (sa + na + m)).take (nb - m), ⟨?_, ?_⟩, ?_⟩
    · have mem : ∀ z ∈ r.toList, z ∈ ((arrOf st).toList.drop (sa + k)).take (na - k) ∨ z ∈ ((arrOf st).toList.drop (sa + na)).take m := fun z hz => by
        have := o.2.mem_iff.mp hz
        rw [xl, yl] at this
        exact List.mem_append.mp this
      refine srt_app.mpr ⟨srt_app.mpr ⟨sa1, o.1, fun p hp q hq => ?_⟩, sb2, fun p hp q hq => ?_⟩
      · rcases mem q hq with z | z
        · exact sa12 p hp q z
        · exact KeyOrd.kle_trans (bey_right.1.mp (g1 p hp)) (b0le q (List.mem_append_left _ z))
      · have alq : κ.kle (kf κ al) (kf κ q) := bey_left.2.mp (g4 q hq)
        rcases List.mem_append.mp hp with hp | hp
        · exact KeyOrd.kle_trans (alge p (List.mem_append_left _ hp)) alq
        · rcases mem p hp with z | z
          · exact KeyOrd.kle_trans (alge p (List.mem_append_right _ z)) alq
          · exact sb12 p z q hq
    · rw [four hn, A12, B12]
      have := o.2
      rw [xl, yl] at this
      have t := List.Perm.append_right (((arrOf st).toList.drop (sa + na + m)).take (nb - m)) (List.Perm.append_left (((arrOf st).toList.drop sa).take k) this)
      simpa [List.append_assoc] using t
    · rw [fold_set f (sa + k) hf r.toList 0 _ (by rw [lr]; omega), lr, Nat.add_zero]
      have p1 : (arrOf st).toList.take (sa + k) = (arrOf st).toList.take sa ++ ((arrOf st).toList.drop sa).take k := List.take_add
      have p2 : (arrOf st).toList.drop (sa + k + (na - k + m)) = ((arrOf st).toList.drop (sa + na + m)).take (nb - m) ++ (arrOf st).toList.drop (sa + (na + nb)) := by
        have t := drop_split (arrOf st).toList (sa + na + m) (nb - m)
        rw [show sa + na + m + (nb - m) = sa + (na + nb) by omega] at t
        rw [show sa + k + (na - k + m) = sa + na + m by omega]; exact t
      rw [p1, p2]
      simp [List.append_assoc]
  have kx : AllK κ ((arrOf st).extract (sa + k) (sa + na)).toList := by rw [xl]; exact all_take (all_drop ka)
  have ky : AllK κ ((arrOf st).extract (sa + na) (sa + na + m)).toList := by rw [yl]; exact all_take (all_drop ka)
  have sx : Srt κ ((arrOf st).extract (sa + k) (sa + na)).toList := by rw [xl]; exact sa2
  have sy : Srt κ ((arrOf st).extract (sa + na) (sa + na + m)).toList := by rw [yl]; exact sb1
  by_cases q3 : na - k ≤ m
  · rw [if_pos q3]
    refine wpS_bind (mergeLo_ok C F1 kx ky sx sy xs0 ys0 hh0 hhl fun r st2 o eq => ?_)
    refine wpS_bind (wpS_modify (wpS_bind (wpS_get (wpS_pure ?_))))
    have F2 := F1.eqv eq
    rw [show (Option.isNone (failedOf st2)) = true by rw [F2.ok]; rfl]
    exact h _ ⟨F2.kind, F2.ok⟩ (fin r st2 o eq _ fun a p j => rfl) eq.pend
  · rw [if_neg q3]
    refine wpS_bind (mergeHi_ok C F1 kx ky sx sy xs0 ys0 hh0 hhl fun r st2 o eq => ?_)
    refine wpS_bind (wpS_modify (wpS_bind (wpS_get (wpS_pure ?_))))
    have F2 := F1.eqv eq
    rw [show (Option.isNone (failedOf st2)) = true by rw [F2.ok]; rfl]
    exact h _ ⟨F2.kind, F2.ok⟩ (fin r st2 o eq _ fun a p j => rfl) eq.pend
end
end SB
namespace SB
open PySem PyProof.Rows
def Runs (κ : KeyKind) (xs : Array Keyed) : Nat → List (Nat × Nat × Nat) → Nat → Prop
  | lo, [], hi => lo = hi
  | lo, p :: r, hi => p.1 = lo ∧ 0 < p.2.1 ∧ Srt κ ((xs.toList.drop lo).take p.2.1) ∧ Runs κ xs (lo + p.2.1) r hi
section
variable {κ : KeyKind} {xs ys : Array Keyed}
theorem runs_app {m : List (Nat × Nat × Nat)} {hi : Nat} : ∀ {l : List (Nat × Nat × Nat)} {lo : Nat}, Runs κ xs lo (l ++ m) hi ↔ ∃ mid, Runs κ xs lo l mid ∧ Runs κ xs mid m hi
  | [], lo => ⟨fun h => ⟨lo, rfl, h⟩, fun ⟨mid, e, h⟩ => by cases e; exact h⟩
  | p :: l, lo => by
    show (_ ∧ _ ∧ _ ∧ Runs κ xs _ (l ++ m) hi) ↔ _
    rw [runs_app (l := l)]
    constructor
    · rintro ⟨a, b, c, mid, d, e⟩; exact ⟨mid, ⟨a, b, c, d⟩, e⟩
    · rintro ⟨mid, ⟨a, b, c, d⟩, e⟩; exact ⟨a, b, c, mid, d, e⟩
theorem runs_len : ∀ {l : List (Nat × Nat × Nat)} {lo hi : Nat}, Runs κ xs lo l hi → lo + l.length ≤ hi
  | [], lo, hi, h => by cases h; simp
  | p :: l, lo, hi, ⟨_, b, _, d⟩ => by have := runs_len d; simp; omega
theorem seg_same {lo n : Nat} (h : ∀ k, lo ≤ k → k < lo + n → ys[k]? = xs[k]?) : (ys.toList.drop lo).take n = (xs.toList.drop lo).take n := by
  apply List.ext_getElem?
  intro i
  rcases Nat.lt_or_ge i n with q | q
  · rw [List.getElem?_take_of_lt q, List.getElem?_take_of_lt q, List.getElem?_drop, List.getElem?_drop, Array.getElem?_toList, Array.getElem?_toList, h _ (by omega) (by omega)]
  · rw [List.getElem?_eq_none (by rw [List.length_take]; omega), List.getElem?_eq_none (by rw [List.length_take]; omega)]
theorem runs_same : ∀ {l : List (Nat × Nat × Nat)} {lo hi : Nat}, Runs κ xs lo l hi → (∀ k, lo ≤ k → k < hi → ys[k]? = xs[k]?) → Runs κ ys lo l hi
  | [], lo, hi, h, _ => h
  | p :: l, lo, hi, ⟨a, b, c, d⟩, h => by
    have := runs_len d
    exact ⟨a, b, by rw [seg_same fun k k1 k2 => h k k1 (by omega)]; exact c, runs_same d fun k k1 k2 => h k (by omega) k2⟩
theorem srt_seg {lo n : Nat} (hn : lo + n ≤ xs.size) : Srt κ ((xs.toList.drop lo).take n) ↔ Seg κ xs lo n := by
  have hl : ((xs.toList.drop lo).take n).length = n := by rw [List.length_take, List.length_drop, Array.length_toList]; omega
  have get : ∀ i (hi : i < n), ∃ p, xs[lo + i]? = some p ∧ ((xs.toList.drop lo).take n)[i]'(by omega) = p := fun i hi => by
    refine ⟨xs[lo + i], Array.getElem?_eq_getElem (by omega), ?_⟩
    simp
  unfold Srt
  rw [List.pairwise_iff_getElem]
  constructor
  · intro h i j hij hj
    obtain ⟨p, e1, e2⟩ := get i (by omega)
    obtain ⟨q, e3, e4⟩ := get j hj
    rw [kk_get e1, kk_get e3]
    rcases Nat.lt_or_ge i j with r | r
    · have := h i j (by omega) (by omega) r
      rwa [e2, e4] at this
    · have : i = j := by omega
      subst this
      rw [e1] at e3; cases e3; exact KeyOrd.kle_refl _
  · intro h i j hi hj hij
    obtain ⟨p, e1, e2⟩ := get i (by omega)
    obtain ⟨q, e3, e4⟩ := get j (by omega)
    have := h i j (by omega) (by omega)
    rw [kk_get e1, kk_get e3] at this
    rw [e2, e4]; exact this
theorem Mgd.low {sa n : Nat} (h : Mgd κ sa n xs ys) (hn : sa + n ≤ xs.size) (k : Nat) (hk : k < sa ∨ sa + n ≤ k) : ys[k]? = xs[k]? := by
  obtain ⟨M, o, e⟩ := h.ex
  have lM : M.length = n := by rw [o.2.length_eq, List.length_take, List.length_drop, Array.length_toList]; omega
  have lt : (xs.toList.take sa).length = sa := by rw [List.length_take, Array.length_toList]; omega
  rw [← Array.getElem?_toList, ← Array.getElem?_toList, e]
  rcases hk with hk | hk
  · rw [List.append_assoc, List.getElem?_append_left (by rw [lt]; exact hk), List.getElem?_take_of_lt hk]
  · rw [List.getElem?_append_right (by rw [List.length_append, lt, lM]; exact hk), List.length_append, lt, lM, List.getElem?_drop]
    congr 1; omega
theorem Mgd.perm {sa n : Nat} (h : Mgd κ sa n xs ys) : ys.Perm xs := by
  obtain ⟨M, o, e⟩ := h.ex
  rw [Array.perm_iff_toList_perm, e]
  have : xs.toList = xs.toList.take sa ++ (xs.toList.drop sa).take n ++ xs.toList.drop (sa + n) := by
    rw [List.append_assoc, ← List.drop_drop, List.take_append_drop, List.take_append_drop]
  conv => rhs; rw [this]
  exact List.Perm.append_right _ (List.Perm.append_left _ o.2)
theorem Mgd.seg {sa n : Nat} (h : Mgd κ sa n xs ys) (hn : sa + n ≤ xs.size) : Srt κ ((ys.toList.drop sa).take n) := by
  obtain ⟨M, o, e⟩ := h.ex
  have lM : M.length = n := by rw [o.2.length_eq, List.length_take, List.length_drop, Array.length_toList]; omega
  have lt : (xs.toList.take sa).length = sa := by rw [List.length_take, Array.length_toList]; omega
  rw [e, List.append_assoc, List.drop_append_of_le_length (by omega), List.drop_of_length_le (by omega), List.nil_append, List.take_append_of_le_length (by omega), List.take_of_length_le (by omega)]
  exact o.1
end
section
variable {prog : Program} {w : World} {A : Around} {E : Value → Shared → Prop} {s : Shared} {κ : KeyKind} {kd : SortKind} {a₀ : Array Keyed}
structure Kept (κ : KeyKind) (kd : SortKind) (a₀ : Array Keyed) (st : SortSt) (hi : Nat) : Prop where
  fine : Fine kd st
  perm : (arrOf st).Perm a₀
  runs : Runs κ (arrOf st) 0 (pendingOf st).toList hi
theorem Kept.size {st : SortSt} {hi : Nat} (k : Kept κ kd a₀ st hi) : (arrOf st).size = a₀.size := k.perm.size_eq
theorem Kept.allK {st : SortSt} {hi : Nat} (k : Kept κ kd a₀ st hi) (h : AllK κ a₀.toList) : AllK κ (arrOf st).toList := fun p hp => h p ((Array.perm_iff_toList_perm.mp k.perm).mem_iff.mp hp)
theorem pend_split {l : List (Nat × Nat × Nat)} {i : Nat} (h : i + 1 < l.length) : ∃ pre p q post, l = pre ++ p :: q :: post ∧ pre.length = i :=
  ⟨l.take i, l[i], l[i + 1], l.drop (i + 2), by rw [← List.drop_eq_getElem_cons, ← List.drop_eq_getElem_cons, List.take_append_drop], by rw [List.length_take]; omega⟩
theorem merge_keptL (C : Cmp prog w A s κ kd) (h0 : AllK κ a₀.toList) {st : SortSt} {hi i : Nat} (k : Kept κ kd a₀ st hi) (hh : hi ≤ a₀.size) (hi1 : i + 1 < (pendingOf st).size) {Q : Bool → SortSt → Prop}
    (h : ∀ st', Kept κ kd a₀ st' hi → (pendingOf st').size + 1 = (pendingOf st).size → (∀ j, hi ≤ j → (arrOf st')[j]? = (arrOf st)[j]?) → Q true st') : wpS (model prog w) A E s (mergeAt' i) Q st := by
  obtain ⟨pre, ⟨sa, na, pw⟩, ⟨sb, nb, pw'⟩, post, el, hpre⟩ := pend_split (l := (pendingOf st).toList) (i := i) (by rw [Array.length_toList]; exact hi1)
  have r := k.runs
  rw [el] at r
  obtain ⟨mid, r1, ⟨ea, ha, s1, ⟨eb, hb, s2, r2⟩⟩⟩ := runs_app.mp r
  simp only at ea ha s1 eb hb s2 r2
  subst ea
  subst eb
  have l1 := runs_len r1
  have l2 := runs_len r2
  have e1 : (pendingOf st)[i]? = some (sa, na, pw) := by rw [← Array.getElem?_toList, el, ← hpre]; simp
  have e2 : (pendingOf st)[i + 1]? = some (sa + na, nb, pw') := by rw [← Array.getElem?_toList, el, ← hpre]; simp
  have hn : sa + na + nb ≤ (arrOf st).size := by rw [k.size]; omega
  refine mergeAt_ok C k.fine (k.allK h0) e1 e2 ha hb hn s1 s2 fun st' F' mg ep => ?_
  have ep' : (pendingOf st').toList = pre ++ (sa, na + nb, pw) :: post := by
    rw [ep]
    have hi2 : i + 1 < ((pendingOf st).setIfInBounds i (sa, na + nb, pw)).size := by rw [Array.size_setIfInBounds]; exact hi1
    unfold Array.eraseIdxIfInBounds
    rw [dif_pos hi2, Array.toList_eraseIdx, Array.toList_setIfInBounds, el, ← hpre]
    simp [List.eraseIdx_append_of_length_le]
  refine h st' ⟨F', mg.perm.trans k.perm, ?_⟩ ?_ fun j hj => mg.low (by omega) j (.inr (by omega))
  · rw [ep']
    refine runs_app.mpr ⟨sa, runs_same r1 fun j _ j2 => mg.low (by omega) j (.inl j2), rfl, by show 0 < na + nb; omega, mg.seg (by omega), ?_⟩
    show Runs κ (arrOf st') (sa + (na + nb)) post hi
    rw [← Nat.add_assoc]
    exact runs_same r2 fun j j1 _ => mg.low (by omega) j (.inr (by omega))
  · have c1 : (pendingOf st').size = (pendingOf st').toList.length := by rw [Array.length_toList]
    have c2 : (pendingOf st).size = (pendingOf st).toList.length := by rw [Array.length_toList]
    rw [c1, c2, ep', el]; simp; omega
theorem merge_kept (C : Cmp prog w A s κ kd) (h0 : AllK κ a₀.toList) {st : SortSt} {hi i : Nat} (k : Kept κ kd a₀ st hi) (hh : hi ≤ a₀.size) (hi1 : i + 1 < (pendingOf st).size) {Q : Bool → SortSt → Prop}
    (h : ∀ st', Kept κ kd a₀ st' hi → (pendingOf st').size + 1 = (pendingOf st).size → Q true st') : wpS (model prog w) A E s (mergeAt' i) Q st := merge_keptL C h0 k hh hi1 fun st' a b _ => h st' a b
theorem runs_modify {xs : Array Keyed} {f : Nat × Nat × Nat → Nat × Nat × Nat} (hf : ∀ x, (f x).1 = x.1 ∧ (f x).2.1 = x.2.1) : ∀ {l : List (Nat × Nat × Nat)} {i lo hi : Nat}, Runs κ xs lo l hi → Runs κ xs lo (l.modify i f) hi
  | [], i, lo, hi, h => by cases i <;> exact h
  | p :: l, 0, lo, hi, ⟨a, b, c, d⟩ => by
    show _ ∧ _ ∧ _ ∧ _
    rw [(hf p).1, (hf p).2]; exact ⟨a, b, c, d⟩
  | p :: l, i + 1, lo, hi, ⟨a, b, c, d⟩ => ⟨a, b, c, runs_modify hf d⟩
theorem ite_low (c : Prop) [Decidable c] (a : Nat) : (if c then a - 1 else a) ≤ a := by split <;> omega
theorem sort_ok (C : Cmp prog w A s κ kd) {st : SortSt} (F : Fine kd st) (h0 : AllK κ (arrOf st).toList) (hp : pendingOf st = #[]) {Q : Unit → SortSt → Prop}
    (h : ∀ st', (arrOf st').Perm (arrOf st) → failedOf st' = none → Seg κ (arrOf st') 0 (arrOf st).size → Q () st') : wpS (model prog w) A E s sortRuns' Q st := by
  rw [sortRuns'_eq]
  refine wpS_bind (wpS_get ?_)
  dsimp only
  generalize hmr : minRun' (arrOf st).size (arrOf st).size 0 = mr
  have start : Kept κ kd (arrOf st) st 0 := ⟨F, Array.Perm.refl _, by rw [hp]; rfl⟩
  refine wpS_bind (wpS_mono (wpS_forRange (I := fun x c sx => ∃ lo, c = (none, lo) ∧ lo ≤ (arrOf st).size ∧ (x ≤ lo ∨ lo = (arrOf st).size) ∧ Kept κ kd (arrOf st) sx lo)
    (Q := fun c sx => c = (none, (arrOf st).size) ∧ Kept κ kd (arrOf st) sx (arrOf st).size) ?o1 ?o2 ⟨0, rfl, Nat.zero_le _, .inl (Nat.le_refl _), start⟩) ?o3)
  case o2 =>
    rintro c sx ⟨lo, rfl, l1, l2, k⟩
    have : lo = (arrOf st).size := by rcases l2 with l2 | l2 <;> omega
    subst this
    exact ⟨rfl, k⟩
  case o3 =>
    rintro c sx ⟨rfl, k⟩
    dsimp only
    have hlen : (pendingOf sx).size ≤ (arrOf st).size := by
      have := runs_len k.runs
      rw [Array.length_toList] at this; omega
    refine wpS_bind (wpS_mono (wpS_forRange (I := fun x c sy => c = (none, ()) ∧ Kept κ kd (arrOf st) sy (arrOf st).size ∧ (pendingOf sy).size ≤ (arrOf st).size - x + 1)
      (Q := fun c sy => c = (none, ()) ∧ Kept κ kd (arrOf st) sy (arrOf st).size ∧ (pendingOf sy).size ≤ 1) ?p1 ?p2 ⟨rfl, k, by omega⟩) ?p3)
    case p2 =>
      rintro c sy ⟨rfl, k, l⟩
      exact ⟨rfl, k, by omega⟩
    case p3 =>
      rintro c sy ⟨rfl, k, l⟩
      dsimp only
      refine wpS_pure (h sy k.perm k.fine.ok ?_)
      have r := k.runs
      match e : (pendingOf sy).toList with
      | [] =>
        rw [e] at r
        have : 0 = (arrOf st).size := r
        intro i j _ hj; omega
      | [p] =>
        rw [e] at r
        obtain ⟨_, _, c, d⟩ := r
        have d : 0 + p.2.1 = (arrOf st).size := d
        rw [show p.2.1 = (arrOf st).size by omega] at c
        exact (srt_seg (by rw [k.size]; omega)).mp c
      | p :: q :: t =>
        have : (pendingOf sy).size = (p :: q :: t).length := by rw [← e, Array.length_toList]
        simp at this; omega
    case p1 =>
      rintro x c sy _ hx ⟨rfl, k, l⟩
      refine wpS_bind (wpS_get ?_)
      try dsimp only
      by_cases q : (pendingOf sy).size ≤ 1
      · rw [if_pos q]; exact wpS_pure ⟨rfl, k, q⟩
      rw [if_neg q]
      generalize hj : (if Option.any (fun x => decide (x < Option.elim (pendingOf sy)[(pendingOf sy).size - 2 + 1]? 0 fun x => x.2.1)) (if (pendingOf sy).size - 2 > 0 then Option.map (fun x => x.2.1) (pendingOf sy)[(pendingOf sy).size - 2 - 1]? else none) = true then (pendingOf sy).size - 2 - 1 else (pendingOf sy).size - 2) = j
      have hj2 : j + 1 < (pendingOf sy).size := by
        have t : j ≤ (pendingOf sy).size - 2 := by rw [← hj]; exact ite_low _ _
        omega
      refine wpS_bind (merge_kept C h0 k (Nat.le_refl _) hj2 fun sz kz ez => ?_)
      rw [if_neg (by decide)]
      exact wpS_pure ⟨rfl, kz, by omega⟩
  case o1 =>
    rintro x c sx _ hx ⟨lo, rfl, l1, l2, k⟩
    dsimp only
    by_cases q : lo ≥ (arrOf st).size
    · rw [if_pos q]
      have : lo = (arrOf st).size := by omega
      subst this
      exact wpS_pure ⟨rfl, k⟩
    rw [if_neg q]
    have xlo : x ≤ lo := by rcases l2 with l2 | l2 <;> omega
    -- what is done with the run that was found
    refine wpS_bind (countRun_ok C k.fine (k.allK h0) (by rw [k.size]; omega) (by omega) fun m s1 hm1 hm2 sg u => ?_)
    dsimp only
    have k1 : Kept κ kd (arrOf st) s1 lo := ⟨k.fine.upd u, u.perm.trans k.perm, by rw [u.pend]; exact runs_same k.runs fun j _ j2 => u.low j j2⟩
    by_cases q2 : m < mr
    · rw [if_pos q2]
      refine wpS_bind (wpS_lift (wpAny_rule ⟨rfl, ?_⟩))
      refine wpS_bind (binary_ok C k1.fine (k1.allK h0) (n := min ((arrOf st).size - lo) mr) (by rw [k1.size]; omega) (by omega) sg fun s2 sg2 u2 => ?_)
      rw [if_neg (by decide)]
      have k2 : Kept κ kd (arrOf st) s2 lo := ⟨k1.fine.upd u2, u2.perm.trans k1.perm, by rw [u2.pend]; exact runs_same k1.runs fun j _ j2 => u2.low j j2⟩
      have n1 : 1 ≤ min ((arrOf st).size - lo) mr := by omega
      have n2 : lo + min ((arrOf st).size - lo) mr ≤ (arrOf st).size := by omega
      generalize min ((arrOf st).size - lo) mr = n at sg2 n1 n2 ⊢
      refine wpS_bind (wpS_get ?_)
      have lay : ∀ sy, Kept κ kd (arrOf st) sy lo → Srt κ (((arrOf sy).toList.drop lo).take n) → Kept κ kd (arrOf st) (setPending sy ((pendingOf sy).push (lo, n, 0))) (lo + n) := fun sy ky sgy =>
        ⟨⟨ky.fine.kind, ky.fine.ok⟩, ky.perm, by
          show Runs κ (arrOf sy) 0 ((pendingOf sy).push (lo, n, 0)).toList (lo + n)
          rw [Array.toList_push]
          exact runs_app.mpr ⟨lo, ky.runs, rfl, n1, sgy, rfl⟩⟩
      have sgl : Srt κ (((arrOf s2).toList.drop lo).take n) := (srt_seg (by rw [k2.size]; exact n2)).mpr sg2
      cases eb : (pendingOf s2).back? with
      | none =>
        dsimp only
        refine wpS_bind (wpS_modify (wpS_pure ?_))
        exact ⟨lo + n, rfl, n2, .inl (by omega), lay s2 k2 sgl⟩
      | some bk =>
        obtain ⟨s1', n1', p1'⟩ := bk
        dsimp only
        generalize power' (arrOf st).size (2 * s1' + n1') (2 * s1' + n1' + n1' + n) (arrOf st).size = pw
        refine wpS_bind (wpS_mono (wpS_forRange (I := fun x c sy => c = (none, ()) ∧ Kept κ kd (arrOf st) sy lo ∧ ∀ j, lo ≤ j → (arrOf sy)[j]? = (arrOf s2)[j]?)
          (Q := fun c sy => c = (none, ()) ∧ Kept κ kd (arrOf st) sy lo ∧ ∀ j, lo ≤ j → (arrOf sy)[j]? = (arrOf s2)[j]?) ?_ ?_ ⟨rfl, k2, fun _ _ => rfl⟩) ?_)
        · rintro y c sy _ hy ⟨rfl, ky, hy2⟩
          refine wpS_bind (wpS_get ?_)
          try dsimp only
          by_cases q5 : (pendingOf sy).size > 1
          · rw [if_pos q5]
            have ej : (pendingOf sy)[(pendingOf sy).size - 2]? = some (pendingOf sy)[(pendingOf sy).size - 2] := Array.getElem?_eq_getElem (by omega)
            rw [ej]
            generalize (pendingOf sy)[(pendingOf sy).size - 2] = pq
            obtain ⟨g1, g2, g3⟩ := pq
            dsimp only
            by_cases q6 : g3 ≤ pw
            · rw [if_pos q6]; exact wpS_pure ⟨rfl, ky, hy2⟩
            · rw [if_neg q6]
              refine wpS_bind (merge_keptL C h0 ky (by omega) (show (pendingOf sy).size - 2 + 1 < (pendingOf sy).size by omega) fun sz kz ez hz => ?_)
              rw [if_neg (by decide)]
              exact wpS_pure ⟨rfl, kz, fun j hj => (hz j hj).trans (hy2 j hj)⟩
          · rw [if_neg q5]
            exact wpS_pure ⟨rfl, ky, hy2⟩
        · rintro c sy z; exact z
        · rintro c sy ⟨rfl, ky, hy2⟩
          dsimp only
          refine wpS_bind (wpS_modify (wpS_bind (wpS_modify (wpS_pure ?_))))
          have ky2 : Kept κ kd (arrOf st) (setPending sy ((pendingOf sy).modify ((pendingOf sy).size - 1) fun x => match x with | (st, len, snd) => (st, len, pw))) lo := ⟨⟨ky.fine.kind, ky.fine.ok⟩, ky.perm, by
            show Runs κ (arrOf sy) 0 _ lo
            rw [Array.toList_modify]
            exact runs_modify (f := fun x => match x with | (st, len, snd) => (st, len, pw)) (fun x => ⟨rfl, rfl⟩) ky.runs⟩
          exact ⟨lo + n, rfl, n2, .inl (by omega), lay _ ky2 (by show Srt κ (((arrOf sy).toList.drop lo).take n); rw [seg_same fun j j1 _ => hy2 j j1]; exact sgl)⟩
    · rw [if_neg q2]
      have n1 := hm1
      have n2 : lo + m ≤ (arrOf st).size := by omega
      refine wpS_bind (wpS_get ?_)
      have lay : ∀ sy, Kept κ kd (arrOf st) sy lo → Srt κ (((arrOf sy).toList.drop lo).take m) → Kept κ kd (arrOf st) (setPending sy ((pendingOf sy).push (lo, m, 0))) (lo + m) := fun sy ky sgy =>
        ⟨⟨ky.fine.kind, ky.fine.ok⟩, ky.perm, by
          show Runs κ (arrOf sy) 0 ((pendingOf sy).push (lo, m, 0)).toList (lo + m)
          rw [Array.toList_push]
          exact runs_app.mpr ⟨lo, ky.runs, rfl, n1, sgy, rfl⟩⟩
      have sgl : Srt κ (((arrOf s1).toList.drop lo).take m) := (srt_seg (by rw [k1.size]; exact n2)).mpr sg
      cases eb : (pendingOf s1).back? with
      | none =>
        dsimp only
        refine wpS_bind (wpS_modify (wpS_pure ?_))
        exact ⟨lo + m, rfl, n2, .inl (by omega), lay s1 k1 sgl⟩
      | some bk =>
        obtain ⟨s1', n1', p1'⟩ := bk
        dsimp only
        generalize power' (arrOf st).size (2 * s1' + n1') (2 * s1' + n1' + n1' + m) (arrOf st).size = pw
        refine wpS_bind (wpS_mono (wpS_forRange (I := fun x c sy => c = (none, ()) ∧ Kept κ kd (arrOf st) sy lo ∧ ∀ j, lo ≤ j → (arrOf sy)[j]? = (arrOf s1)[j]?)
          (Q := fun c sy => c = (none, ()) ∧ Kept κ kd (arrOf st) sy lo ∧ ∀ j, lo ≤ j → (arrOf sy)[j]? = (arrOf s1)[j]?) ?_ ?_ ⟨rfl, k1, fun _ _ => rfl⟩) ?_)
        · rintro y c sy _ hy ⟨rfl, ky, hy2⟩
          refine wpS_bind (wpS_get ?_)
          try dsimp only
          by_cases q5 : (pendingOf sy).size > 1
          · rw [if_pos q5]
            have ej : (pendingOf sy)[(pendingOf sy).size - 2]? = some (pendingOf sy)[(pendingOf sy).size - 2] := Array.getElem?_eq_getElem (by omega)
            rw [ej]
            generalize (pendingOf sy)[(pendingOf sy).size - 2] = pq
            obtain ⟨g1, g2, g3⟩ := pq
            dsimp only
            by_cases q6 : g3 ≤ pw
            · rw [if_pos q6]; exact wpS_pure ⟨rfl, ky, hy2⟩
            · rw [if_neg q6]
              refine wpS_bind (merge_keptL C h0 ky (by omega) (show (pendingOf sy).size - 2 + 1 < (pendingOf sy).size by omega) fun sz kz ez hz => ?_)
              rw [if_neg (by decide)]
              exact wpS_pure ⟨rfl, kz, fun j hj => (hz j hj).trans (hy2 j hj)⟩
          · rw [if_neg q5]
            exact wpS_pure ⟨rfl, ky, hy2⟩
        · rintro c sy z; exact z
        · rintro c sy ⟨rfl, ky, hy2⟩
          dsimp only
          refine wpS_bind (wpS_modify (wpS_bind (wpS_modify (wpS_pure ?_))))
          have ky2 : Kept κ kd (arrOf st) (setPending sy ((pendingOf sy).modify ((pendingOf sy).size - 1) fun x => match x with | (st, len, snd) => (st, len, pw))) lo := ⟨⟨ky.fine.kind, ky.fine.ok⟩, ky.perm, by
            show Runs κ (arrOf sy) 0 _ lo
            rw [Array.toList_modify]
            exact runs_modify (f := fun x => match x with | (st, len, snd) => (st, len, pw)) (fun x => ⟨rfl, rfl⟩) ky.runs⟩
          exact ⟨lo + m, rfl, n2, .inl (by omega), lay _ ky2 (by show Srt κ (((arrOf sy).toList.drop lo).take m); rw [seg_same fun j j1 _ => hy2 j j1]; exact sgl)⟩
end
end SB
namespace SB
open PySem PyProof.Rows
def Ext (a : Addr) (h h' : Heap) : Prop := ∀ b o, b ≠ a → h.get? b = some o → h'.get? b = some o
def vkey (κ : KeyKind) (v : Value) : κ.α := (κ.keyOf v).getD κ.dflt
def VSrt (κ : KeyKind) (l : List Value) : Prop := l.Pairwise fun u v => κ.kle (vkey κ u) (vkey κ v)
structure Sortable (prog : Program) (w : World) (A : Around) (s : Shared) (a : Addr) (κ : KeyKind) (vs : List Value) : Prop where
  keys : ∀ v ∈ vs, ∃ k, κ.keyOf v = some k
  small : vs.length ≤ sizeLine
  cmp : ∀ h', Ext a s.heap h' → 2 ≤ vs.length → ∃ kd, Cmp prog w A { s with heap := h' } κ kd ∧ ∀ (Q : SortKind → Shared → Prop) (E : Value → Shared → Prop), Q kd { s with heap := h' } → wpAny (model prog w) A (keyKind' vs.toArray) Q E { s with heap := h' }
section
variable {prog : Program} {w : World} {A : Around} {E : Value → Shared → Prop} {s : Shared} {κ : KeyKind}
theorem zip_keys {vs : List Value} (h : ∀ v ∈ vs, ∃ k, κ.keyOf v = some k) : AllK κ (pairsOf vs).toList := fun p hp => by
  rw [pairsOf_toList] at hp
  obtain ⟨_, m⟩ := mem_zip_self hp
  exact h _ m
theorem out_of {vs : List Value} {xs : Array Keyed} (hp : xs.Perm (pairsOf vs)) (hs : Seg κ xs 0 (pairsOf vs).size) : (xs.map (·.2)).toList.Perm vs ∧ VSrt κ (xs.map (·.2)).toList := by
  have hl : xs.toList.Perm (vs.zip vs) := by rw [← pairsOf_toList]; exact Array.perm_iff_toList_perm.mp hp
  have eq12 : ∀ p ∈ xs.toList, p.1 = p.2 := fun p h => (mem_zip_self (hl.mem_iff.mp h)).1
  constructor
  · rw [Array.toList_map]
    have := hl.map (·.2)
    rwa [List.map_snd_zip (Nat.le_refl _)] at this
  · have t := (srt_seg (κ := κ) (xs := xs) (lo := 0) (n := (pairsOf vs).size) (by rw [hp.size_eq]; omega)).mpr hs
    rw [List.drop_zero, List.take_of_length_le (by rw [Array.length_toList, hp.size_eq]; exact Nat.le_refl _)] at t
    rw [Array.toList_map]
    unfold VSrt
    rw [List.pairwise_map]
    refine List.Pairwise.imp_of_mem (fun {p q} hp hq hpq => ?_) t
    unfold kf at hpq
    rw [eq12 p hp, eq12 q hq] at hpq
    exact hpq
theorem list_sort_G {a : Addr} {vs : List Value} {n : Nat} {P : Fin → Shared → Prop} (ho : s.heap.get? a = some (seqObj "list" vs.toArray n)) (S : Sortable prog w A s a κ vs)
    (h : ∀ out : Array Value, out.toList.Perm vs → VSrt κ out.toList → P (.done (.ret .none)) { s with heap := sortedHeap s.heap a vs out }) :
    wpAny (model prog w) A (Builtin.«list.sort» ⟨[.ref a], []⟩) P E s := by
  have hz : vs.toArray.size = vs.length := by simp
  have hz1 := S.small
  rw [list_sort_plain]
  have ha : a < s.heap.objs.size := Heap.lt_size ho
  refine wpAny_bind (listItems_at ho rfl ?_)
  refine wpAny_bind (listUpdate_at ho rfl ?_ (by rw [hz]; exact hz1))
  obtain ⟨e1, ho1⟩ : ∃ e1, (s.heap.update a (Obj.mapSeq fun _ => #[])).get? a = some (seqObj "list" #[] e1) := ⟨_, get?_update_seq ho (fun _ => #[])⟩
  refine wpAny_bind (seqEpoch_at ho1 rfl ?_)
  refine wpAny_bind (wpAny_newTuple ?_)
  refine wpAny_bind (wpAny_newList ?_)
  refine wpAny_holding ?_
  have ext : Ext a s.heap (((s.heap.update a (Obj.mapSeq fun _ => #[])).push (seqObj "tuple" vs.toArray 0)).push (seqObj "list" #[] 0)) := fun b o hb e =>
    Heap.get?_push_of_some _ (Heap.get?_push_of_some _ ((Heap.get?_update_other _ _ (Ne.symm hb)).trans e))
  have ho6 : (((s.heap.update a (Obj.mapSeq fun _ => #[])).push (seqObj "tuple" vs.toArray 0)).push (seqObj "list" #[] 0)).get? a = some (seqObj "list" #[] e1) :=
    Heap.get?_push_of_some _ (Heap.get?_push_of_some _ ho1)
  show wpAny (model prog w) A _ P E { s with heap := ((s.heap.update a (Obj.mapSeq fun _ => #[])).push (seqObj "tuple" vs.toArray 0)).push (seqObj "list" #[] 0) }
  dsimp only
  by_cases h2 : vs.toArray.size < 2
  · rw [if_pos h2, if_pos h2]
    refine wpAny_bind (wpAny_pure ?_)
    rw [StateT.run_pure]
    refine wpAny_bind (wpAny_pure ?_)
    dsimp only
    refine wpAny_bind (seqEpoch_at ho6 rfl ?_)
    obtain ⟨o1, o2⟩ := out_of (κ := κ) (vs := vs) (xs := pairsOf vs) (Array.Perm.refl _) (fun i j hij hj => by
      have : i = j := by rw [pairsOf_size] at hj; omega
      subst this; exact KeyOrd.kle_refl _)
    refine wpAny_bind (listUpdate_at ho6 rfl ?_ (hsz2 := by rw [Array.size_map]; show (pairsOf vs).size ≤ _; rw [pairsOf_size]; omega))
    simp only [bne_self_eq_false, Bool.false_eq_true, if_false]
    exact wpAny_pure (h _ o1 o2)
  · rw [if_neg h2, if_neg h2]
    obtain ⟨kd, C, kk⟩ := S.cmp _ ext (by omega)
    refine wpAny_bind (kk _ _ ?_)
    refine wpAny_bind (wpAny_mono (sort_ok (κ := κ) C (st := SortSt.mk' kd (vs.toArray.zip vs.toArray) #[] 7 none)
      (Q := fun _ st' => (arrOf st').Perm (pairsOf vs) ∧ failedOf st' = none ∧ Seg κ (arrOf st') 0 (pairsOf vs).size) ⟨rfl, rfl⟩ (zip_keys S.keys) rfl fun st' a1 a2 a3 => ⟨a1, a2, a3⟩) ?_ fun _ _ e => e)
    rintro ⟨⟨⟩, st'⟩ s' ⟨rfl, hp, hf, hs⟩
    dsimp only
    obtain ⟨o1, o2⟩ := out_of (κ := κ) hp hs
    refine wpAny_bind (seqEpoch_at ho6 rfl ?_)
    refine wpAny_bind (listUpdate_at ho6 rfl ?_ (hsz2 := by rw [Array.size_map, hp.size_eq, pairsOf_size]; omega))
    rw [hf]
    simp only [bne_self_eq_false, Bool.false_eq_true, if_false]
    exact wpAny_pure (h _ o1 o2)
theorem sorted_G {x : Value} {Q : Value → Shared → Prop}
    (hcol : wpAny (model prog w) A.in1 (collect x) (fun vs s1 => ∃ κ, Sortable prog w A.in1.in1 { s1 with heap := s1.heap.push (seqObj "list" vs.toArray 0) } s1.heap.objs.size κ vs ∧
      ∀ (out : Array Value) (h' : Heap) (ep : Nat), out.toList.Perm vs → VSrt κ out.toList → (∀ b o, s1.heap.get? b = some o → h'.get? b = some o) → h'.get? s1.heap.objs.size = some (seqObj "list" out ep) → Q (.ref s1.heap.objs.size) { s1 with heap := h' }) E s) :
    wpAny (model prog w) A (call (.builtin "sorted") [x]) Q E s := by
  refine Calls.call_function_entry kind_sorted plain_sorted entry_sorted (args_sorted1 _) ?_
  unfold Builtin.«sorted»
  refine wpAny_bind (m := checkCount "sorted" 1 1 _) (wpAny_pure ?_)
  refine wpAny_bind (wpAny_mono hcol (fun vs s1 ⟨κ, S, k⟩ => ?_) fun _ _ e => e)
  refine wpAny_bind (wpAny_newList ?_ S.small)
  refine wpAny_bind (wpAny_holding (wpAny_call_entry slot_list_sort ⟨_, Heap.get?_push_size _ rfl, rfl⟩ entry_list_sort (list_sort_G (Heap.get?_push_size _ rfl) S fun out o1 o2 => ⟨_, rfl, ?_⟩) (args_list_sort _)))
  have ho : (s1.heap.push (seqObj "list" vs.toArray 0)).get? s1.heap.objs.size = some (seqObj "list" vs.toArray 0) := Heap.get?_push_size _ rfl
  obtain ⟨e1, ho1⟩ : ∃ e1, ((s1.heap.push (seqObj "list" vs.toArray 0)).update s1.heap.objs.size (Obj.mapSeq fun _ => #[])).get? s1.heap.objs.size = some (seqObj "list" #[] e1) := ⟨_, get?_update_seq ho (fun _ => #[])⟩
  have ho2 : ((((s1.heap.push (seqObj "list" vs.toArray 0)).update s1.heap.objs.size (Obj.mapSeq fun _ => #[])).push (seqObj "tuple" vs.toArray 0)).push (seqObj "list" #[] 0)).get? s1.heap.objs.size = some (seqObj "list" #[] e1) :=
    Heap.get?_push_of_some _ (Heap.get?_push_of_some _ ho1)
  obtain ⟨e3, ho3⟩ : ∃ e3, (sortedHeap (s1.heap.push (seqObj "list" vs.toArray 0)) s1.heap.objs.size vs out).get? s1.heap.objs.size = some (seqObj "list" out e3) := ⟨_, get?_update_seq ho2 (fun _ => out)⟩
  refine wpAny_pure ⟨_, rfl, k out _ e3 o1 o2 (fun b o e => ?_) ho3⟩
  have hb : b ≠ s1.heap.objs.size := fun q => Nat.lt_irrefl _ (q ▸ Heap.lt_size e)
  refine (Heap.get?_update_other _ _ (Ne.symm hb)).trans (Heap.get?_push_of_some _ (Heap.get?_push_of_some _ ?_))
  exact (Heap.get?_update_other _ _ (Ne.symm hb)).trans (Heap.get?_push_of_some _ e)
end
def intK : KeyKind where
  α := Int
  blt := fun a b => decide (a < b)
  irrefl := fun a => by simp
  trans := fun a b c h1 h2 => by simp at *; omega
  negTrans := fun a b c h => by simp at *; omega
  total := fun a b h1 h2 => by simp at *; omega
  keyOf := fun v => match v with | .int n _ => some n | _ => none
  dflt := 0
theorem cmp_int {prog : Program} {w : World} {A : Around} {s : Shared} : Cmp prog w A s intK oneType' := by
  intro E x y a b Q hx hy q
  cases x <;> simp only [intK] at hx <;> try cases hx
  cases y <;> simp only [intK] at hy <;> try cases hy
  rw [keyLt'_oneType]
  exact oneLt_int q
theorem sortable_ints {prog : Program} {w : World} {A : Around} {s : Shared} {a : Addr} {vs : List Value} {ns : List Int} (h : IntsAre vs ns) (hz : vs.length ≤ sizeLine) : Sortable prog w A s a intK vs where
  keys := fun v hv => by obtain ⟨n, t, rfl⟩ := h.all v hv; exact ⟨n, rfl⟩
  small := hz
  cmp := fun h' _ h2 => by
    refine ⟨oneType', cmp_int, fun Q E q => ?_⟩
    obtain ⟨v₁, v₂, rest, rfl⟩ : ∃ v₁ v₂ rest, vs = v₁ :: v₂ :: rest := by
      match vs, h2 with
      | v₁ :: v₂ :: rest, _ => exact ⟨v₁, v₂, rest, rfl⟩
    rw [keyKind_ints h]
    exact wpAny_pure q
theorem ints_out {vs : List Value} {ns : List Int} (h : IntsAre vs ns) {out : List Value} (hp : out.Perm vs) (hs : VSrt intK out) : ∃ ns', IntsAre out ns' ∧ ns'.Perm ns ∧ ns'.Pairwise (· ≤ ·) := by
  have all : ∀ v ∈ out, ∃ n t, v = .int n t := fun v hv => h.all v (hp.mem_iff.mp hv)
  refine ⟨out.map numOf, intsAre_map out all, by rw [← h.nums]; exact hp.map _, ?_⟩
  rw [List.pairwise_map]
  refine List.Pairwise.imp_of_mem (fun {u v} hu hv hk => ?_) hs
  obtain ⟨n, t, rfl⟩ := all u hu
  obtain ⟨m, t', rfl⟩ := all v hv
  have : ¬ m < n := by simpa [KeyOrd.kle, intK, vkey] using hk
  show n ≤ m
  omega
end SB
namespace LI
open PySem PyProof.Rows
section
variable {prog : Program} {w : World} {A : Around} {s : Shared} {R : Result → Shared → Prop}
structure Src (prog : Program) (w : World) (A : Around) (s : Shared) (x : Value) (T : String) (o : Obj) (fp wr : List Addr) (n : Nat) (P : Nat → Value → Prop) (St : Nat → Heap → Prop) : Prop where
  ty : s.TypeIs x T
  no : ((Value.type T == Value.type "list") || (Value.type T == Value.type "tuple")) = false
  it : ∀ (Q : Value → Shared → Prop) (E : Value → Shared → Prop), Q (.ref s.heap.objs.size) { s with heap := s.heap.push o } → wpAny (model prog w) A (pyIter x) Q E s
  walk : Walks prog w A s.heap.objs.size fp wr n P St
  start : St 0 (s.heap.push o)
  old : ∀ b ∈ fp, b ≤ s.heap.objs.size
  wr1 : ∀ b ∈ wr, b = s.heap.objs.size
  hint : ∀ (Q : Bool → Shared → Prop) (E : Value → Shared → Prop), (∀ b, Q b { s with heap := s.heap.push o }) → wpAny (model prog w) A (Builtin.List.listLengthHint x) Q E { s with heap := s.heap.push o }
  room : n ≤ sizeLine
theorem touch {S : Addr} {c : Nat} {E : Value → Shared → Prop} {Q : Unit → Shared → Prop} (hS : s.heap.get? S = some { cls := .type "list", data := .seq #[] c })
    (h : ∀ h' c', (∀ b o, b ≠ S → s.heap.get? b = some o → h'.get? b = some o) → h'.get? S = some { cls := .type "list", data := .seq #[] c' } → Q () { s with heap := h' }) : wpAny (model prog w) A (Builtin.List.listTouch (.ref S)) Q E s := by
  show wpAny _ _ (updateSeq S (·.push .none) >>= fun _ => updateSeq S (·.pop)) _ _ _
  have hS2 := Heap.get?_update_self (Obj.mapSeq (·.push Value.none)) hS rfl
  refine wpAny_bind (wpAny_updateSeq hS rfl (wpAny_updateSeq (hz := by seq_fits) hS2 rfl (h _ _ (fun b o hb e => ?_) (Heap.get?_update_self (Obj.mapSeq (·.pop)) hS2 rfl))))
  exact (Heap.get?_update_other _ _ (Ne.symm hb)).trans ((Heap.get?_update_other _ _ (Ne.symm hb)).trans e)
theorem extend_src {x : Value} {T : String} {o : Obj} {fp wr : List Addr} {n : Nat} {P : Nat → Value → Prop} {St : Nat → Heap → Prop} (X : Src prog w A.in1 s x T o fp wr n P St) {S : Addr} {res : Value} {c₀ : Nat} (hx : Builtin.List.listSameRef (.ref S) x = false) (hSf : S ∉ fp)
    (hS : s.heap.get? S = some { cls := .type "list", data := .seq #[] c₀ })
    (hR : ∀ (h' : Heap) (tk : Nat) (acc : Array Value) (c : Nat), (∀ b u, b ≠ S → s.heap.get? b = some u → h'.get? b = some u) → h'.get? S = some { cls := .type "list", dict := none, data := .seq acc c, slots := #[] } → ItemsOf P acc n → R (.ok (.ret res)) { s with heap := h', toks := tk }) :
    wpAny (model prog w) A.in1 (Builtin.List.listExtendWith (.ref S) x res)
      (fun fin s' => match fin with | .done f => R (.ok f) s' | .again c' => c'.quiet = true ∧ codeAny (model prog w) A c' R s') (fun e s' => R (.error e) s') s := by
  have hlt : S < s.heap.objs.size := Heap.lt_size hS
  have W := X.walk.toS
  have go : ∀ (h1 : Heap) (c1 : Nat), (∀ b u, b ≠ S → (s.heap.push o).get? b = some u → h1.get? b = some u) → h1.get? S = some { cls := .type "list", data := .seq #[] c1 } →
      codeAny (model prog w) A (.builtin "list.extend.loop" ⟨[.ref S, .ref s.heap.objs.size, res], []⟩) R { s with heap := h1 } := fun h1 c1 k1 hS1 => by
    refine codeAny_extend_loopS W X.room S hSf res n 0 _ #[] c1 rfl (Nat.zero_le _) (X.walk.frame 0 _ _ X.start fun b hb u e => k1 b u (fun q => hSf (q ▸ hb)) e) hS1 (ItemsOf.nil P) fun s' acc c hm hS' hacc => ?_
    have es : s' = { s with heap := s'.heap, toks := s'.toks } := by
      obtain ⟨_, g, d, q, _⟩ := hm
      obtain ⟨h', g', d', t', o'⟩ := s'
      simp only at g d q
      subst g d q
      rfl
    rw [es]
    refine hR _ _ acc c (fun b u hb e => hm.heap b u (fun q => ?_) (k1 b u hb (Heap.get?_push_of_some _ e))) hS' hacc
    rcases List.mem_cons.mp q with q | q
    · exact hb q
    · exact Nat.lt_irrefl _ (X.wr1 b q ▸ Heap.lt_size e)
  unfold Builtin.List.listExtendWith
  refine wpAny_bind (wpAny_typeOf X.ty ?_)
  rw [if_neg (by rw [hx, Bool.false_or, X.no]; decide)]
  refine wpAny_bind (X.it _ _ ?_)
  refine wpAny_bind (wpAny_holding (X.hint _ _ fun b => ?_))
  have hS1 : (s.heap.push o).get? S = some { cls := .type "list", data := .seq #[] c₀ } := Heap.get?_push_of_some _ hS
  dsimp only
  split
  · refine wpAny_bind (wpAny_rule ?_)
    exact wpAny_bind (touch hS1 fun h' c' k1 hS' => wpAny_pure ⟨plainId_quiet F.plain_extend_loop _, go h' c' k1 hS'⟩)
  · exact wpAny_pure ⟨plainId_quiet F.plain_extend_loop _, go _ c₀ (fun b u _ e => e) hS1⟩
theorem list_src {x : Value} {T : String} {o : Obj} {fp wr : List Addr} {n : Nat} {P : Nat → Value → Prop} {St : Nat → Heap → Prop} {E : Value → Shared → Prop} {Q : Value → Shared → Prop}
    (X : ∀ h' : Heap, (∀ b u, s.heap.get? b = some u → h'.get? b = some u) → h'.objs.size = s.heap.objs.size + 1 → Src prog w A.in1.in1 { s with heap := h' } x T o fp wr n P St) (hx : ∀ a, x = .ref a → a < s.heap.objs.size) (hfp : s.heap.objs.size ∉ fp)
    (h : ∀ (h' : Heap) (tk : Nat) (acc : Array Value) (c : Nat), (∀ b u, s.heap.get? b = some u → h'.get? b = some u) → h'.get? s.heap.objs.size = some { cls := .type "list", dict := none, data := .seq acc c, slots := #[] } → ItemsOf P acc n → Q (.ref s.heap.objs.size) { s with heap := h', toks := tk }) :
    wpAny (model prog w) A (call (.type "list") [x]) Q E s := by
  refine callType_codes (Q₁ := fun obj s₁ => obj = .ref s.heap.objs.size ∧ s₁ = { s with heap := s.heap.push { cls := .type "list", data := .seq #[] } }) F.called_list (F.typeCall_list_1 _) F.entry_list_init
    (code_list_new _ ⟨rfl, rfl⟩) fun obj s₁ h₁ => ?_
  obtain ⟨rfl, rfl⟩ := h₁
  have hS : (s.heap.push { cls := .type "list", data := .seq #[] }).get? s.heap.objs.size = some { cls := .type "list", data := .seq #[] } := Heap.get?_push_size _ rfl
  have same : Builtin.List.listSameRef (.ref s.heap.objs.size) x = false := by
    cases x with
    | ref a =>
      have := hx a rfl
      have hne : s.heap.objs.size ≠ a := fun q => Nat.lt_irrefl _ (q ▸ this)
      simp [Builtin.List.listSameRef, hne]
    | _ => rfl
  refine ⟨⟨_, hS, rfl⟩, F.args_list_init_2 _ _, ?_⟩
  obtain ⟨e1, ho1⟩ : ∃ e1, ((s.heap.push (seqObj "list" #[] 0)).update s.heap.objs.size (Obj.mapSeq fun _ => #[])).get? s.heap.objs.size = some (seqObj "list" #[] e1) := ⟨_, get?_update_seq hS (fun _ => #[])⟩
  have kp : ∀ b u, s.heap.get? b = some u → ((s.heap.push (seqObj "list" #[] 0)).update s.heap.objs.size (Obj.mapSeq fun _ => #[])).get? b = some u := fun b u e =>
    (Heap.get?_update_other _ _ (fun q => Nat.lt_irrefl _ (q ▸ Heap.lt_size e))).trans (Heap.get?_push_of_some _ e)
  refine wpAny_bind (m := Builtin.List.listItems (.ref s.heap.objs.size)) (listItems_at hS rfl ?_)
  refine wpAny_bind (m := Builtin.List.listUpdate (.ref s.heap.objs.size) fun _ => #[]) (listUpdate_at hS rfl ?_)
  refine wpAny_bind (wpAny_letGo ?_)
  exact extend_src (R := wants (fun r s₂ => r = .none ∧ Q (.ref s.heap.objs.size) s₂) E) (res := .none) (X _ kp (by rw [Heap.size_update, size_push'])) same hfp ho1 fun h' tk acc c k hS' hacc => ⟨rfl, h h' tk acc c (fun b u e => k b u (fun q => Nat.lt_irrefl _ (q ▸ Heap.lt_size e)) (kp b u e)) hS' hacc⟩
end
end LI
namespace L2
open PySem PySem.Spec PyProof.Rows LI
section
variable {prog : Program} {w : World} {A : Around} {s : Shared} {E : Value → Shared → Prop}
theorem hint_dict {d : Addr} {Q : Bool → Shared → Prop} (hT : s.TypeIs (.ref d) "dict") (hQ : Q false s) : wpAny (model prog w) A (Builtin.List.listLengthHint (.ref d)) Q E s := by
  unfold Builtin.List.listLengthHint
  refine wpAny_bind (wpAny_specialOf hT F.slot_dict_len.lookup ?_)
  generalize hid : ("dict.__len__" : String) = id0
  wp_delta
  rw [show splitId id0 = some ("dict", "__len__") from by subst hid; decide +kernel]
  subst hid
  refine wpAny_bind (wpAny_isInstance (b := true) hT (by rw [isSubtype_type]; kernel_rfl) ?_)
  refine wpAny_bind (wpAny_typeOf hT ?_)
  exact wpAny_pure hQ
theorem src_dict (hh : A.handled = none) {d : Addr} {vs : List (Key × Value)} {ep : Nat} (hd : (d == sysModules) = false) (hm : s.heap.DictAt (mixKind prog w) d vs ep) (hz : vs.length ≤ sizeLine) :
    Src prog w A s (.ref d) "dict" { cls := .type "dict_keyiterator", data := .fields #[.ref d, .int 0 0, .int vs.length 0, .int ep 0] } [s.heap.objs.size, d] [s.heap.objs.size] vs.length (fun i v => ∃ k x, vs[i]? = some (k, x) ∧ keyIs k v = true)
      (fun i h => h.IsKeyIter s.heap.objs.size d i vs.length ep ∧ h.DictAt (mixKind prog w) d vs ep) := by
  obtain ⟨o, es, ho, r⟩ := id hm
  have hlt : d < s.heap.objs.size := Heap.lt_size ho
  refine ⟨hm.dictOf.typeIs, by decide, fun Q E q => wpAny_pyIter_dict hd hm q, Walks.dictKeys (knd := mixKind prog w) hh _ _ (Nat.ne_of_lt hlt) vs ep, ⟨⟨_, Heap.get?_push_size _ rfl, rfl, rfl⟩, hm.at' fun o e => Heap.get?_push_of_some _ e⟩, ?_, fun b hb => List.mem_singleton.mp hb, fun Q E q => hint_dict ?_ (q false), hz⟩
  · intro b hb
    rcases List.mem_cons.mp hb with e | hb
    · exact Nat.le_of_eq e
    · rw [List.mem_singleton.mp hb]; exact Nat.le_of_lt hlt
  · exact ⟨o, Heap.get?_push_of_some _ ho, r.1.1⟩
end
theorem paired_of {α β : Type} {G : α → β → Prop} : ∀ {l : List α} {m : List β}, l.length = m.length → (∀ (i : Nat) a b, l[i]? = some a → m[i]? = some b → G a b) → Paired G l m
  | [], [], _, _ => .nil
  | a :: l, b :: m, hl, h => .cons (h 0 a b rfl rfl) (paired_of (by simpa using hl) fun i x y ex ey => h (i + 1) x y (by simpa using ex) (by simpa using ey))
  | [], _ :: _, hl, _ => by simp at hl
  | _ :: _, [], hl, _ => by simp at hl
theorem keys_of {vs : List (Key × Value)} {kvs : List (Key × V)} (kv : KV kvs vs) {acc : Array Value} (h : ItemsOf (fun i v => ∃ k x, vs[i]? = some (k, x) ∧ keyIs k v = true) acc vs.length) : Vals (kvs.map fun p => kV p.1) acc.toList := by
  have hl : kvs.length = vs.length := Paired.length kv
  refine paired_of (by have := h.1; simp; omega) fun i x u ex eu => ?_
  rw [Array.getElem?_toList] at eu
  obtain ⟨k, y, ek, hk⟩ := h.2 i u eu
  rw [List.getElem?_map] at ex
  obtain ⟨p, ep, rfl⟩ := Option.map_eq_some_iff.mp ex
  obtain ⟨q, eq, e1, _⟩ := Paired.getR kv ep
  rw [ek] at eq
  cases eq
  rw [e1]
  rcases keyIs_shape hk with ⟨j, t, e2, rfl⟩ | ⟨x, t, e2, rfl⟩
  · subst e2; exact ⟨t, rfl⟩
  · subst e2; exact ⟨t, rfl⟩
section
variable {X : Cx}
theorem cr_listD (hh : X.A.handled = none) : CallR X (.type "list") (fun xs H Q => ∃ (d : Addr) (kvs : List (Key × V)), xs = [.ref d] ∧ Rd H d (.dK kvs) ∧ ∀ l, H l = none → Q (.ref l) (upd H l (.lst (kvs.map fun p => kV p.1)))) := by
  intro pins s σ H xs us Q I r h
  obtain ⟨d, kvs, rfl, hd, q⟩ := h
  obtain ⟨u, rfl, rx⟩ := vals1 r
  cases rx
  obtain ⟨hz, hs, vs, kv, dd⟩ := dk_rd I.hok hd
  have hl : kvs.length = vs.length := Paired.length kv
  obtain ⟨ep, hm⟩ := dd.dictAt
  obtain ⟨o, es, ho, _⟩ := id hm
  have hlt : d < s.heap.objs.size := Heap.lt_size ho
  have src : ∀ h' : Heap, (∀ b u, s.heap.get? b = some u → h'.get? b = some u) → h'.objs.size = s.heap.objs.size + 1 → Src X.prog X.w X.A.in1.in1 { s with heap := h' } (.ref d) "dict" { cls := .type "dict_keyiterator", data := .fields #[.ref d, .int 0 0, .int vs.length 0, .int ep 0] } [s.heap.objs.size + 1, d] [s.heap.objs.size + 1] vs.length (fun i v => ∃ k x, vs[i]? = some (k, x) ∧ keyIs k v = true)
      (fun i h => h.IsKeyIter (s.heap.objs.size + 1) d i vs.length ep ∧ h.DictAt (mixKind X.prog X.w) d vs ep) := fun h' k hsz => by
    have := src_dict (A := X.A.in1.in1) (s := { s with heap := h' }) hh hs (hm.at' fun o e => k d o e) (by omega)
    simp only [hsz] at this
    exact this
  refine list_src src (fun a e => by cases e; exact hlt) (fun q => ?_) fun h' tk acc c k hS hacc => ?_
  · rcases List.mem_cons.mp q with e | q
    · exact absurd e (Nat.ne_of_lt (Nat.lt_succ_self _))
    · exact absurd (List.mem_singleton.mp q) (Ne.symm (Nat.ne_of_lt hlt))
  · refine ⟨.ref s.heap.objs.size, _, I.laid (h' := h') (t' := tk) (o := .lst (kvs.map fun p => kV p.1)) k (Nat.le_refl _) ⟨by rw [List.length_map]; exact hz, acc.toList, c, keys_of kv hacc, hS⟩, rfl, q _ (I.hok.fresh (Nat.le_refl _))⟩
theorem cr_sortedB : CallR X (.builtin "sorted") (fun xs H Q => ∃ (a : Addr) (ns : List Int), xs = [.ref a] ∧ SqL X.K H a (ns.map V.int) ∧ ∀ (ns' : List Int) (p : Addr), ns'.Perm ns → ns'.Pairwise (· ≤ ·) → H p = none → Q (.ref p) (upd H p (.lst (ns'.map V.int)))) := by
  intro pins s σ H xs us Q I r h
  obtain ⟨a, ns, rfl, hs, q⟩ := h
  obtain ⟨u, rfl, rx⟩ := vals1 r
  cases rx
  obtain ⟨its, rv, hl, hz⟩ := I.list hs
  have hi := rv.ints
  have hlen := rv.length
  refine SB.sorted_G (collect_list hl.isList ⟨SB.intK, SB.sortable_ints hi (by omega), fun out h' ep o1 o2 k hS => ?_⟩)
  obtain ⟨ns', h1, h2, h3⟩ := SB.ints_out hi o1 o2
  have sz : ((s.heap.push (seqObj "list" #[] 0)).update s.heap.objs.size (Obj.mapSeq (· ++ its.toArray))).objs.size = s.heap.objs.size + 1 := by rw [Heap.size_update, size_push']
  simp only [sz] at hS ⊢
  have kp : ∀ b o, s.heap.get? b = some o → h'.get? b = some o := fun b o e => k b o ((Heap.get?_update_other _ _ (fun q => Nat.lt_irrefl _ (q ▸ Heap.lt_size e))).trans (Heap.get?_push_of_some _ e))
  exact ⟨.ref _, upd H (s.heap.objs.size + 1) (.lst (ns'.map V.int)), I.laid (t' := s.toks) kp (Nat.le_succ _) ⟨by rw [List.length_map, h2.length_eq, ← List.length_map (f := V.int)]; exact hz, out.toList, ep, vals_of_ints h1, hS⟩, rfl, q ns' _ h2 h3 (I.hok.fresh (Nat.le_succ _))⟩
end
end L2
namespace L2
open PySem PySem.Spec PyProof.Rows
section
variable {X : Cx} {pins : List (Addr × Obj)} {σ : St} {H : Hp} {s : Shared} {a : Addr} {y v : V} {u r : Value} {A : Around} {E : Value → Shared → Prop}
end
section
variable {X : Cx}
end
end L2
namespace EM
open PySem PyProof.Rows
open AutoSeq1 (wpAny_loadPart')
open MeetsSeq MeetsSeq2 MeetsSeq3 SeqRoads2
def EqM (prog : Program) (w : World) (A : Around) (s : Shared) (y x : Value) (b : Bool) : Prop := ∀ (E : Value → Shared → Prop) (Q : Bool → Shared → Prop), Q b s → wpAny (model prog w) A (eqBool y x) Q E s
section
variable {prog : Program} {w : World} {A : Around} {s : Shared} {E : Value → Shared → Prop}
theorem EqM.of {y x : Value} {b : Bool} (h : SeqAt.EqAt A s y x b) : EqM prog w A s y x b := fun E Q q => h prog w E Q q
theorem EqM.same (v : Value) : EqM prog w A s v v true := .of (SeqAt.EqAt.same v)
variable {R : Result → Shared → Prop}
theorem loop_same (l b : Addr) (items items2 : Array Value) (n n2 : Nat) (dd dd2 : Option Addr) (sl sl2 : Array (Option Value)) (hsz : items.size = items2.size) (c : Nat) (hc : c = 2 ∨ c = 3) (k : Nat) :
    ∀ (i : Nat) (s : Shared), items.size - i = k → s.heap.get? l = some { cls := .type "list", dict := dd, data := .seq items n, slots := sl } → s.heap.get? b = some { cls := .type "list", dict := dd2, data := .seq items2 n2, slots := sl2 } →
        (∀ j (h1 : j < items.size) (h2 : j < items2.size), EqM prog w A.in1 s items[j] items2[j] true) → R (.ok (.ret (.bool (c == 2)))) s →
    codeAny (model prog w) A (.builtin "list.__eq__.loop" ⟨[.ref l, .ref b, rawInt i, rawInt c], []⟩) R s := by
  induction k with
  | zero =>
    intro i s hk hl hb he h
    refine codeAny_builtin entry_eq_loop ?_
    rw [Around.under_plainId plain_eq_loop _]
    obtain ⟨hp, g, d, tk, os⟩ := s
    have hi1 : items[((i : Nat) : Int).toNat]? = none := by simp; omega
    have hi2 : items2[((i : Nat) : Int).toNat]? = none := by simp; omega
    rcases hc with rfl | rfl
    all_goals
      wp_walk using wpAny_loadPart' hl, wpAny_loadPart' hb
      rw [hi1, hi2]
      wp_walk using wpAny_loadPart' hl, wpAny_loadPart' hb
    · show R (.ok (.ret (.bool (items.size == items2.size)))) _
      rw [hsz]; simpa using h
    · show R (.ok (.ret (.bool (items.size != items2.size)))) _
      rw [hsz]; simpa using h
  | succ k ih =>
    intro i s hk hl hb he h
    refine codeAny_builtin entry_eq_loop ?_
    rw [Around.under_plainId plain_eq_loop _]
    have hlt : i < items.size := by omega
    have hlt2 : i < items2.size := by omega
    have hi1 : items[((i : Nat) : Int).toNat]? = some items[i] := by simp [hlt]
    have hi2 : items2[((i : Nat) : Int).toNat]? = some items2[i] := by simp [hlt2]
    have hci : ((i : Int) + 1) = ((i + 1 : Nat) : Int) := by push_cast; rfl
    have ih' := ih (i + 1) s (by omega) hl hb he h
    have he' := he i hlt hlt2
    obtain ⟨hp, g, d, tk, os⟩ := s
    rcases hc with rfl | rfl
    all_goals
      wp_walk using wpAny_loadPart' hl, wpAny_loadPart' hb
      rw [hi1, hi2]
      refine wpAny_bind (he' _ _ ?_)
      wp_walk
      rw [hci]
      exact ⟨plainId_quiet plain_eq_loop _, ih'⟩
theorem lists_same {l b : Addr} {items items2 : Array Value} {op : CmpOp} (hop : op = .Eq ∨ op = .NotEq) (hl : s.heap.IsList l items) (hb : s.heap.IsList b items2) (hsz : items.size = items2.size) (hu : A.units < cLine)
    (he : ∀ j (h1 : j < items.size) (h2 : j < items2.size), EqM prog w A.in1 s items[j] items2[j] true) {Q : Value → Shared → Prop} (h : Q (.bool (op == .Eq)) s) : wpAny (model prog w) A (compareOp op (.ref l) (.ref b)) Q E s := by
  obtain ⟨⟨cls, dd, data, sl⟩, ho, hc, n, hd⟩ := id hl
  obtain ⟨⟨cls2, dd2, data2, sl2⟩, ho2, hc2, n2, hd2⟩ := id hb
  simp only at hc hd hc2 hd2
  subst hc hd hc2 hd2
  have f3 := AutoSeq1.sub_list_list
  have hne : ¬ (items.size != items2.size) = true := by simp [hsz]
  rcases hop with rfl | rfl
  · refine wpAny_richCompare_same_room (op := .Eq) (Q := Q) hl.typeIs hb.typeIs F.slot_list_eq (wpAny_call (codeAny_call_builtin F.slot_list_eq.plain F.entry_list_eq (F.slot_list_eq.check _ _ _ _ _ _ _ _ hl.typeIs (F.args_list_eq_2 _ _) ?_))) hu
    have lp := loop_same (prog := prog) (w := w) (A := A) (R := wants (fun v s' => v ≠ .notImplemented ∧ Q v s') E) l b items items2 n n2 dd dd2 sl sl2 hsz 2 (.inl rfl) _ 0 s rfl ho ho2 he ⟨(fun x => nomatch x), h⟩
    obtain ⟨hp, g, d, tk, os⟩ := s
    wp_walk using wpAny_loadPart' ho, wpAny_loadPart' ho2
    exact ⟨plainId_quiet plain_eq_loop _, lp⟩
  · refine wpAny_richCompare_same_room (op := .NotEq) (Q := Q) hl.typeIs hb.typeIs F.slot_list_ne (wpAny_call (codeAny_call_builtin F.slot_list_ne.plain F.entry_list_ne (F.slot_list_ne.check _ _ _ _ _ _ _ _ hl.typeIs (F.args_list_ne_2 _ _) ?_))) hu
    have lp := loop_same (prog := prog) (w := w) (A := A) (R := wants (fun v s' => v ≠ .notImplemented ∧ Q v s') E) l b items items2 n n2 dd dd2 sl sl2 hsz 3 (.inr rfl) _ 0 s rfl ho ho2 he ⟨(fun x => nomatch x), h⟩
    obtain ⟨hp, g, d, tk, os⟩ := s
    wp_walk using wpAny_loadPart' ho, wpAny_loadPart' ho2
    exact ⟨plainId_quiet plain_eq_loop _, lp⟩
end
end EM
namespace L2
open PySem PySem.Spec PyProof.Rows EM
section
variable {X : Cx}
def SameK (ka kb : List (Key × V)) : Prop := ka.length = kb.length ∧ (∀ k, valV ka k = valV kb k) ∧ (∀ p ∈ ka, ∃ n, p.2 = .int n)
end
end L2
namespace L2
open PySem PySem.Spec PyProof.Rows LI SB
section
variable {prog : Program} {w : World} {A : Around} {s : Shared} {E : Value → Shared → Prop}
end
def pLt (a b : Int × Int) : Prop := a.1 < b.1 ∨ (a.1 = b.1 ∧ a.2 < b.2)
instance (a b : Int × Int) : Decidable (pLt a b) := by unfold pLt; exact inferInstance
section
variable {prog : Program} {w : World} {A : Around} {s : Shared} {E : Value → Shared → Prop} {f : Addr → Option (Int × Int)}
end
section
variable {X : Cx}
end
end L2
namespace SU
open PySem
def Up (xs : Array Nat) : Prop := xs.toList.Pairwise (· < ·)
theorem Up.lt {xs : Array Nat} (u : Up xs) {i j x y : Nat} (h : i < j) (hx : xs[i]? = some x) (hy : xs[j]? = some y) : x < y := by
  unfold Up at u
  rw [List.pairwise_iff_getElem] at u
  rw [← Array.getElem?_toList] at hx hy
  obtain ⟨a, ea⟩ := List.getElem?_eq_some_iff.mp hx
  obtain ⟨b, eb⟩ := List.getElem?_eq_some_iff.mp hy
  have := u i j a b h
  rw [ea, eb] at this
  exact this
structure Bl (xs : Array Nat) (j p : Nat) : Prop where
  le : p ≤ xs.size
  lo : ∀ i x, i < p → xs[i]? = some x → x < j
  hi : ∀ i x, p ≤ i → xs[i]? = some x → j ≤ x
theorem go_ok {xs : Array Nat} (u : Up xs) (j : Nat) : ∀ (fuel lo hi : Nat), hi - lo ≤ fuel → lo ≤ hi → hi ≤ xs.size → (∀ i x, i < lo → xs[i]? = some x → x < j) → (∀ i x, hi ≤ i → xs[i]? = some x → j ≤ x) → Bl xs j (SetTable.below.go xs j fuel lo hi)
  | 0, lo, hi, hf, hl, hh, h1, h2 => by
    have e : lo = hi := by omega
    subst e
    unfold SetTable.below.go
    exact ⟨hh, h1, h2⟩
  | fuel + 1, lo, hi, hf, hl, hh, h1, h2 => by
    unfold SetTable.below.go
    by_cases q : lo < hi
    · rw [if_pos q]
      have hm : (lo + hi) / 2 < hi ∧ lo ≤ (lo + hi) / 2 := by omega
      obtain ⟨x, ex⟩ : ∃ x, xs[(lo + hi) / 2]? = some x := ⟨_, Array.getElem?_eq_getElem (by omega)⟩
      have eg : xs.getD ((lo + hi) / 2) j = x := by simp [Array.getD_eq_getD_getElem?, ex]
      dsimp only
      rw [eg]
      by_cases z : x < j
      · rw [if_pos z]
        refine go_ok u j fuel _ hi (by omega) (by omega) hh (fun i y hi' hy => ?_) h2
        rcases Nat.lt_or_ge i ((lo + hi) / 2) with w | w
        · exact Nat.lt_trans (u.lt w hy ex) z
        · have e : i = (lo + hi) / 2 := by omega
          subst e
          rw [ex] at hy; cases hy; exact z
      · rw [if_neg z]
        refine go_ok u j fuel lo _ (by omega) (by omega) (by omega) h1 (fun i y hi' hy => ?_)
        rcases Nat.lt_or_ge ((lo + hi) / 2) i with w | w
        · have := u.lt w ex hy; omega
        · have e : i = (lo + hi) / 2 := by omega
          subst e
          rw [ex] at hy; cases hy; omega
    · rw [if_neg q]
      have e : lo = hi := by omega
      subst e
      exact ⟨hh, h1, h2⟩
theorem below_ok {xs : Array Nat} (u : Up xs) (j : Nat) : Bl xs j (SetTable.below xs j) :=
  go_ok u j xs.size 0 xs.size (by omega) (Nat.zero_le _) (Nat.le_refl _) (fun i x h => by omega) (fun i x h hx => by
    rw [Array.getElem?_eq_none h] at hx; cases hx)
theorem Bl.one {xs : Array Nat} {j p q : Nat} (h : Bl xs j p) (k : Bl xs j q) : p = q := by
  rcases Nat.lt_trichotomy p q with z | z | z
  · obtain ⟨x, ex⟩ : ∃ x, xs[p]? = some x := ⟨_, Array.getElem?_eq_getElem (by have := k.le; omega)⟩
    have a := h.hi p x (Nat.le_refl _) ex
    have b := k.lo p x z ex
    omega
  · exact z
  · obtain ⟨x, ex⟩ : ∃ x, xs[q]? = some x := ⟨_, Array.getElem?_eq_getElem (by have := h.le; omega)⟩
    have a := k.hi q x (Nat.le_refl _) ex
    have b := h.lo q x z ex
    omega
theorem not_mem {xs : Array Nat} (u : Up xs) {j : Nat} (h : xs[SetTable.below xs j]? ≠ some j) : j ∉ xs.toList := fun m => by
  obtain ⟨k, hk⟩ := List.getElem?_of_mem m
  rw [Array.getElem?_toList] at hk
  have b := below_ok u j
  have e : SetTable.below xs j = k := b.one ⟨Nat.le_of_lt (Array.getElem?_eq_some_iff.mp hk).1, fun i x hi hx => u.lt hi hx hk, fun i x hi hx => by
    rcases Nat.lt_or_ge k i with w | w
    · exact Nat.le_of_lt (u.lt w hk hx)
    · have e : i = k := by omega
      subst e
      rw [hk] at hx; cases hx; exact Nat.le_refl _⟩
  rw [e] at h
  exact h hk
theorem insert_up {xs : Array Nat} (u : Up xs) {j : Nat} (h : j ∉ xs.toList) : Up (SetTable.insertAt xs (SetTable.below xs j) j) := by
  have b := below_ok u j
  unfold Up at u ⊢
  rw [SetTable.toList_insertAt, List.pairwise_append]
  have sub1 : (xs.toList.take (SetTable.below xs j)).Pairwise (· < ·) := u.sublist (List.take_sublist _ _)
  have sub2 : (xs.toList.drop (SetTable.below xs j)).Pairwise (· < ·) := u.sublist (List.drop_sublist _ _)
  have lo : ∀ x ∈ xs.toList.take (SetTable.below xs j), x < j := fun x hx => by
    obtain ⟨i, hi, e⟩ := List.mem_take_iff_getElem.mp hx
    refine b.lo i x (by omega) ?_
    rw [← Array.getElem?_toList, List.getElem?_eq_getElem (by omega), e]
  have hi : ∀ x ∈ xs.toList.drop (SetTable.below xs j), j < x := fun x hx => by
    obtain ⟨i, hi, e⟩ := List.mem_iff_getElem.mp hx
    rw [List.getElem_drop] at e
    have hl : SetTable.below xs j + i < xs.toList.length := by rw [List.length_drop] at hi; omega
    have := b.hi (SetTable.below xs j + i) x (by omega) (by rw [← Array.getElem?_toList, List.getElem?_eq_getElem hl, e])
    have ne : j ≠ x := fun z => h (by rw [z, ← e]; exact List.getElem_mem hl)
    omega
  refine ⟨sub1, List.pairwise_cons.mpr ⟨hi, sub2⟩, fun x hx y hy => ?_⟩
  rcases List.mem_cons.mp hy with z | z
  · rw [z]; exact lo x hx
  · exact Nat.lt_trans (lo x hx) (hi y z)
theorem range_up (n : Nat) : Up (Array.range n) := by
  unfold Up
  rw [Array.toList_range]
  exact List.pairwise_lt_range
theorem standIn_up (t : SetTable) (n : Nat) : Up (t.standIn n).place := range_up n
theorem orStandIn_up {t : SetTable} (u : Up t.place) (n : Nat) : Up (t.orStandIn n).place ∧ (t.orStandIn n).led = t.led := by
  unfold SetTable.orStandIn
  split
  · exact ⟨u, rfl⟩
  · exact ⟨standIn_up _ _, rfl⟩
def Free (t : SetTable) (j : Nat) : Prop := t.place[SetTable.below t.place j]? ≠ some j
theorem slot_free {t : SetTable} {j : Nat} (h : ∀ i, t.slot j ≠ .live i) : Free t j := fun e => by
  apply h (SetTable.below t.place j)
  unfold SetTable.slot
  simp [e]
theorem probe_ok (t : SetTable) (g : Nat → Int) (h : Int) : ∀ (fuel : Nat) (p : SetTable.Probe), (∀ d, p.dummy = some d → Free t d) → ∀ j dm, SetTable.probe.go t g h fuel p = some (.empty j dm) → Free t j ∧ ∀ d, dm = some d → Free t d
  | 0, p, hd, j, dm, e => by unfold SetTable.probe.go at e; cases e
  | fuel + 1, p, hd, j, dm, e => by
    have adv : ∀ q : SetTable.Probe, (t.advance q).dummy = q.dummy := fun q => by unfold SetTable.advance; split <;> rfl
    unfold SetTable.probe.go at e
    split at e
    · rename_i q
      cases e
      exact ⟨slot_free (fun i z => by rw [q] at z; cases z), hd⟩
    · rename_i q
      refine probe_ok t g h fuel _ (fun d hd' => ?_) j dm e
      rw [adv] at hd'
      cases hd'
      exact slot_free fun i z => by rw [q] at z; cases z
    · split at e
      · cases e
      · refine probe_ok t g h fuel _ (fun d hd' => ?_) j dm e
        rw [adv] at hd'
        exact hd d hd'
theorem freeSlot_ok {t : SetTable} {h : Int} {j : Nat} {b : Bool} (e : t.freeSlot h = some (j, b)) : Free t j := by
  unfold SetTable.freeSlot at e
  split at e
  · rename_i j' dm q
    unfold SetTable.probe at q
    obtain ⟨a, c⟩ := probe_ok t _ h _ _ (fun d hd => by unfold SetTable.probeStart at hd; cases hd) _ _ q
    cases e
    cases dm with
    | none => exact a
    | some d => exact c d rfl
  · cases e
theorem layNew_up {t : SetTable} (u : Up t.place) (es : Array (Int × Value)) (h : Int) (x : Value) : Up (layNew t es h x).2.1.place ∧ (layNew t es h x).2.1.led = t.led := by
  unfold layNew
  split
  · rename_i slot wd q
    have fr := freeSlot_ok q
    dsimp only [SetTable.put]
    exact orStandIn_up (insert_up u (not_mem u fr)) _
  · exact ⟨standIn_up _ _, rfl⟩
theorem relayAll_up {t : SetTable} (u : Up t.place) (es : Array (Int × Value)) (wanted : Nat) : Up (relayAll t es wanted).2.1.place ∧ (relayAll t es wanted).2.1.led = t.led := by
  unfold relayAll
  split
  · rename_i t' order q
    dsimp only
    split
    · unfold SetTable.relaid SetTable.laid at q
      cases hc : SetTable.layClean (SetTable.sizeAbove wanted - 1) (es.map (·.1)) with
      | none => rw [hc] at q; cases q
      | some owner =>
        rw [hc] at q
        cases q
        refine ⟨?_, rfl⟩
        unfold Up
        dsimp only
        have key : ∀ (f : Nat → Option Nat) (l : List Nat), ((l.filterMap fun j => (f j).map (j, ·)).map (·.1)).Sublist l := fun f l => by
          induction l with
          | nil => exact List.Sublist.refl _
          | cons a l ih =>
            rw [List.filterMap_cons]
            cases f a with
            | none => exact ih.cons _
            | some b => exact ih.cons_cons _
        exact List.pairwise_lt_range.sublist (key _ _)
    · exact ⟨standIn_up _ _, rfl⟩
  · exact ⟨standIn_up _ _, rfl⟩
end SU
namespace SU
open PySem
section
variable {prog : Program} {w : World} {K : Type} [DecidableEq K] {knd : KeyKind prog w K} {A : Around} {E : Value → Shared → Prop} {s : Shared}
structure At (h : Heap) (a : Addr) (es : Array (Int × Value)) (ep : Nat) (t : SetTable) : Prop where
  obj : ∃ o, h.get? a = some o ∧ o.ExactSet ∧ o.data = .set es ep t
  small : es.size < scanBound
  fits : t.fits es.size = true
  up : Up t.place
theorem store {h : Heap} {a : Addr} {o : Obj} {es es' : Array (Int × Value)} {ep : Nat} {t t' : SetTable} (ho : h.get? a = some o) (hex : o.ExactSet) (hd : o.data = .set es ep t) (hb : es'.size < scanBound) (hf : t'.fits es'.size = true) (u : Up t'.place) :
    At (h.update a (Obj.putSet es' t')) a es' (ep + 1) t' := by
  have hg : (h.update a (Obj.putSet es' t')).get? a = some { o with data := .set es' (ep + 1) t' } := by
    have := Heap.get?_update_self (Obj.putSet es' t') ho (by rw [putSet_of es' t' hd]; rfl)
    rw [putSet_of es' t' hd] at this; exact this
  exact ⟨⟨_, hg, hex, rfl⟩, hb, hf, u⟩
theorem addTail {g : Bool → Sem Unit} (hg : ∀ (b : Bool) (s₁ : Shared) (Q' : Unit → Shared → Prop), Q' () s₁ → wpAny (model prog w) A (g b) Q' E s₁)
    {a : Addr} {o : Obj} {es : Array (Int × Value)} {ep : Nat} {t : SetTable} (ho : s.heap.get? a = some o) (hex : o.ExactSet) (hd : o.data = .set es ep t)
    {es1 : Array (Int × Value)} {t2 : SetTable} (hb1 : es1.size < scanBound) (hf2 : t2.fits es1.size = true) (u2 : Up t2.place) {wasDummy : Bool} {R : Option Bool → Shared → Prop}
    (h : ∀ h' es' ep' t', Heap.SameBut a s.heap h' → At h' a es' ep' t' → es'.toList.Perm es1.toList → t'.led = t2.led → R (some true) { s with heap := h' }) :
    wpAny (model prog w) A (do
        storeSet a es1 t2
        if (!wasDummy && t2.tooFull) = true then do
            g (relayAll t2 es1 (SetTable.grown es1.size)).2.2
            storeSet a (relayAll t2 es1 (SetTable.grown es1.size)).1 (relayAll t2 es1 (SetTable.grown es1.size)).2.1
            pure (some true)
          else pure (some true)) R E s := by
  refine wpAny_bind (wpAny_storeSet_of ho hd ?_ (fits_of_scanBound hb1))
  have at1 := store ho hex hd hb1 hf2 u2
  have hsb1 := Heap.SameBut.update s.heap a (Obj.putSet es1 t2)
  split
  · obtain ⟨o1, ho1, hex1, hd1⟩ := at1.obj
    have hp := relayAll_perm t2 es1 (SetTable.grown es1.size)
    have hfr := relayAll_fits t2 es1 (SetTable.grown es1.size)
    obtain ⟨ur, lr⟩ := relayAll_up u2 es1 (SetTable.grown es1.size)
    generalize hRl : relayAll t2 es1 (SetTable.grown es1.size) = Rl at hp hfr ur lr ⊢
    obtain ⟨es2, t3, gave2⟩ := Rl
    dsimp only at hp hfr ur lr ⊢
    have hsz : es2.size = es1.size := by rw [← Array.length_toList, hp.length_eq, Array.length_toList]
    have hb2 : es2.size < scanBound := by rw [hsz]; exact hb1
    refine wpAny_bind (hg _ _ _ ?_)
    refine wpAny_bind (wpAny_storeSet_of ho1 hd1 ?_ (fits_of_scanBound hb2))
    exact wpAny_pure (h _ es2 _ t3 (hsb1.trans (Heap.SameBut.update _ a _)) (store ho1 hex1 hd1 hb2 hfr ur) hp lr)
  · exact wpAny_pure (h _ es1 _ t2 hsb1 at1 (.refl _) rfl)
theorem add {a : Addr} {es : Array (Int × Value)} {ep : Nat} {t : SetTable} {k : K} {x : Value} {Q : Bool → Shared → Prop} (hkey : knd.is k x = true) (hsc : x.scannable = true) (hA : At s.heap a es ep t) (hel : ElemsOf knd es.toList) (hroom : es.size + 1 < scanBound)
    (h0 : (∃ e ∈ es.toList, knd.is k e.2 = true) → Q false s)
    (h1 : (∀ e ∈ es.toList, knd.is k e.2 = false) → ∀ h' es' ep' t', Heap.SameBut a s.heap h' → At h' a es' ep' t' → es'.toList.Perm (es.toList ++ [(knd.hash k, x)]) → t'.led = t.led → Q true { s with heap := h' }) :
    wpAny (model prog w) A (setAddHashed a x (knd.hash k)) Q E s := by
  obtain ⟨o, ho, hex, hd⟩ := hA.obj
  have hb := hA.small
  have hf := hA.fits
  unfold setAddHashed setAddHashedIn
  refine wpAny_holding (wpAny_bind (wpAny_setState_of ho hd hf ?_))
  dsimp only
  rw [byScan_of hsc hb hel]
  simp only [↓reduceIte]
  unfold setAddByScan
  refine wpAny_bind ?_
  refine wpAny_bind (wpAny_rule ?_)
  refine wpAny_bind (wpAny_setScan_of hkey ho hd hf hel ?_)
  cases hr : List.findIdx? (fun e => knd.is k e.2) es.toList with
  | some j =>
    dsimp only
    obtain ⟨hj, hpj, _⟩ := List.findIdx?_eq_some_iff_getElem.mp hr
    exact wpAny_pure (wpAny_pure (h0 ⟨es.toList[j], List.getElem_mem hj, hpj⟩))
  | none =>
    dsimp only
    have hno : ∀ e ∈ es.toList, knd.is k e.2 = false := fun e he => List.findIdx?_eq_none_iff.mp hr e he
    have hgw : ∀ (b : Bool) {s₁ : Shared} {Q' : Unit → Shared → Prop}, Q' () s₁ → wpAny (model prog w) A (match b with | true => rule "set.scan.the-table-gave-way" | false => pure ()) Q' E s₁ :=
      fun b s₁ Q' hq => by cases b <;> first | exact wpAny_pure hq | exact wpAny_rule hq
    have hperm := layNew_perm t es (knd.hash k) x
    have hfits := layNew_fits t es (knd.hash k) x
    obtain ⟨ul, ll⟩ := layNew_up hA.up es (knd.hash k) x
    generalize hL : layNew t es (knd.hash k) x = L at hperm hfits ul ll ⊢
    obtain ⟨es1, t1, wasDummy, gave⟩ := L
    dsimp only at hperm hfits ul ll ⊢
    rw [Array.toList_push] at hperm
    have hb1' : es1.size < scanBound := by rw [← Array.length_toList, hperm.length_eq, List.length_append, Array.length_toList]; simpa using hroom
    refine wpAny_bind (hgw _ ?_)
    split
    · refine wpAny_bind ?_
      rw [hashByValue_scannable 8 hsc]
      refine wpAny_pure ?_
      refine addTail ?_ ho hex hd hb1' ?_ ?_ ?_
      · intro b s₁ Q' hq; cases b <;> first | exact wpAny_pure hq | exact wpAny_rule hq
      · split
        · exact hfits
        · exact SetTable.fits_plain_off hfits
      · split <;> exact ul
      · intro h' es' ep' t' hsb hA' hp hl; dsimp only
        exact wpAny_pure (h1 hno h' es' ep' t' hsb hA' (hp.trans hperm) (by rw [hl]; split <;> exact ll))
    · refine wpAny_bind (wpAny_pure ?_)
      simp only [↓reduceIte]
      refine addTail ?_ ho hex hd hb1' hfits ul ?_
      · intro b s₁ Q' hq; cases b <;> first | exact wpAny_pure hq | exact wpAny_rule hq
      · intro h' es' ep' t' hsb hA' hp hl; dsimp only
        exact wpAny_pure (h1 hno h' es' ep' t' hsb hA' (hp.trans hperm) (by rw [hl]; exact ll))
end
end SU
namespace SW
open PySem PyProof.Rows
section
variable {prog : Program} {w : World} {A : Around} {E : Value → Shared → Prop} {s : Shared}
def It (h : Heap) (I : Addr) (f : Value) (i : Nat) (a : Addr) (n ep : Nat) : Prop := ∃ o, h.get? I = some o ∧ o.cls = .type "set_iterator" ∧ o.data = .fields #[f, .int i 0, .ref a, .int n 0, .int ep 0]
theorem It.typeIs {I : Addr} {f : Value} {i : Nat} {a : Addr} {n ep : Nat} (x : It s.heap I f i a n ep) : s.TypeIs (.ref I) "set_iterator" := let ⟨o, ho, hc, _⟩ := x; ⟨o, ho, hc⟩
theorem It.at' {h h' : Heap} {I : Addr} {f : Value} {i : Nat} {a : Addr} {n ep : Nat} (x : It h I f i a n ep) (e : ∀ o, h.get? I = some o → h'.get? I = some o) : It h' I f i a n ep := let ⟨o, ho, r⟩ := x; ⟨o, e _ ho, r⟩
theorem at' {h h' : Heap} {a : Addr} {es : Array (Int × Value)} {ep : Nat} {t : SetTable} (x : SU.At h a es ep t) (e : ∀ o, h.get? a = some o → h'.get? a = some o) : SU.At h' a es ep t :=
  let ⟨⟨o, ho, r⟩, b, c, d⟩ := x; ⟨⟨o, e _ ho, r⟩, b, c, d⟩
theorem stop {R : Fin → Shared → Prop} (hh : A.handled = none) {h1 : Heap} (h : ∀ (e : Addr) h', (∀ b o, h1.get? b = some o → h'.get? b = some o) → (∃ o, h'.get? e = some o ∧ o.cls = .type "StopIteration") → E (.ref e) { s with heap := h' }) :
    wpAny (model prog w) A (do raiseNew (← newExc (.type "StopIteration") [])) R E { s with heap := h1 } := by
  refine wpAny_bind ?_
  simp only [newExc, newTuple]
  refine wpAny_bind (wpAny_newObj_type ?_ (by size_fits))
  refine wpAny_bind (m := firstArgMember _ _) (wpAny_of_eq (a := Value.none) (by first | rfl | (simp only [firstArgMember]; rfl)) ?_)
  refine wpAny_newObj_type ?_ (by size_fits)
  simp only [raiseNew]
  refine wpAny_bind (wpAny_handled ?_)
  rw [show A.handled = none from hh]
  refine wpAny_bind (wpAny_pure (wpAny_throw ?_))
  exact h _ _ (fun b o e => Heap.get?_push_of_some _ (Heap.get?_push_of_some _ e)) ⟨_, Heap.get?_push_size _ rfl, rfl⟩
end
end SW
namespace SW
open PySem PyProof.Rows
section
variable {prog : Program} {w : World} {A : Around} {E : Value → Shared → Prop} {s : Shared}
structure Has (prog : Program) (w : World) (es : Array (Int × Value)) (ks : List Int) : Prop where
  el : ElemsOf (intKind prog w) es.toList
  vs : ∃ vs, (es.toList.map (·.2)).Perm vs ∧ IntsAre vs ks
  nd : ks.Nodup
theorem ints_mem : ∀ {vs : List Value} {ks : List Int}, IntsAre vs ks → ∀ k, (∃ v ∈ vs, Value.isInt k v = true) ↔ k ∈ ks
  | _, _, .nil, k => by simp
  | _, _, .cons n t r, k => by
    rw [List.mem_cons, ← ints_mem r k]
    constructor
    · rintro ⟨v, hv, e⟩
      rcases List.mem_cons.mp hv with rfl | hv
      · left
        obtain ⟨t', z⟩ := Value.isInt_shape e
        cases z; rfl
      · exact .inr ⟨v, hv, e⟩
    · rintro (rfl | ⟨v, hv, e⟩)
      · exact ⟨_, List.mem_cons_self, by simp [Value.isInt]⟩
      · exact ⟨v, List.mem_cons_of_mem _ hv, e⟩
theorem ints_snoc : ∀ {vs : List Value} {ks : List Int}, IntsAre vs ks → ∀ (k : Int) (t : Tok), IntsAre (vs ++ [.int k t]) (ks ++ [k])
  | _, _, .nil, k, t => .cons k t .nil
  | _, _, .cons n t r, k, t' => .cons n t (ints_snoc r k t')
theorem Has.mem {es : Array (Int × Value)} {ks : List Int} (h : Has prog w es ks) (k : Int) : (∃ e ∈ es.toList, (intKind prog w).is k e.2 = true) ↔ k ∈ ks := by
  obtain ⟨vs, p, i⟩ := h.vs
  rw [← ints_mem i k]
  constructor
  · rintro ⟨e, he, z⟩
    exact ⟨e.2, p.mem_iff.mp (List.mem_map_of_mem he), z⟩
  · rintro ⟨v, hv, z⟩
    obtain ⟨e, he, rfl⟩ := List.mem_map.mp (p.mem_iff.mpr hv)
    exact ⟨e, he, z⟩
theorem Has.size {es : Array (Int × Value)} {ks : List Int} (h : Has prog w es ks) : es.size = ks.length := by
  obtain ⟨vs, p, i⟩ := h.vs
  have := p.length_eq
  rw [List.length_map, Array.length_toList, i.length] at this
  exact this
theorem nd_len : ∀ (ks ns : List Int), ks.Nodup → (∀ x ∈ ks, x ∈ ns) → ks.length ≤ ns.length
  | [], ns, _, _ => Nat.zero_le _
  | k :: ks, ns, h, hs => by
    have hk : k ∈ ns := hs k List.mem_cons_self
    have := nd_len ks (ns.erase k) h.of_cons fun x hx => (List.mem_erase_of_ne (fun z : x = k => (List.nodup_cons.mp h).1 (z ▸ hx))).mpr (hs x (List.mem_cons_of_mem _ hx))
    have e := List.length_erase_of_mem hk
    have : 0 < ns.length := List.length_pos_of_mem hk
    rw [List.length_cons]; omega
structure Way (prog : Program) (w : World) (h : Heap) (S : Addr) (led : Bool) (ns : List Int) : Prop where
  get : ∃ es ep t ks, SU.At h S es ep t ∧ t.led = led ∧ Has prog w es ks ∧ ∀ k, k ∈ ks ↔ k ∈ ns
theorem way_add {S : Addr} {led : Bool} {ns : List Int} {k : Int} {t : Tok} {Q : Bool → Shared → Prop} (hW : Way prog w s.heap S led ns) (hn : ns.length + 1 < scanBound)
    (hQ : ∀ b h', Heap.SameBut S s.heap h' → Way prog w h' S led (ns ++ [k]) → Q b { s with heap := h', toks := s.toks + 1 }) : wpAny (model prog w) A (setAdd S (.int k t)) Q E s := by
  obtain ⟨es, ep, tb, ks, hA, hl, hh, hm⟩ := hW
  have hks : ks.length ≤ ns.length := nd_len ks ns hh.nd fun x hx => (hm x).mp hx
  unfold setAdd
  refine wpAny_holding (wpAny_bind ((intKind prog w).pyHash (k := k) (intKind_is ..) ?_))
  refine SU.add (knd := intKind prog w) (s := { s with toks := s.toks + 1 }) (intKind_is ..) rfl hA hh.el (by have := hh.size; omega) (fun hin => ?_) (fun hno h' es' ep' t' sb hA' hp hl' => ?_)
  · have hk : k ∈ ks := (hh.mem k).mp hin
    refine hQ _ s.heap ⟨rfl, fun _ _ => rfl⟩ ⟨es, ep, tb, ks, hA, hl, hh, fun j => ?_⟩
    rw [List.mem_append, List.mem_singleton, hm j]
    constructor
    · exact .inl
    · rintro (z | rfl)
      · exact z
      · exact (hm _).mp hk
  · have hk : k ∉ ks := fun z => by
      obtain ⟨e, he, q⟩ := (hh.mem k).mpr z
      have := hno e he
      rw [q] at this; cases this
    refine hQ _ h' sb ⟨es', ep', t', ks ++ [k], hA', hl'.trans hl, ⟨fun e he => ?_, ?_, ?_⟩, fun j => ?_⟩
    · rcases List.mem_append.mp (hp.mem_iff.mp he) with z | z
      · exact hh.el e z
      · rw [List.mem_singleton.mp z]
        exact ⟨⟨k, intKind_is .., rfl⟩, rfl⟩
    · obtain ⟨vs, p, i⟩ := hh.vs
      refine ⟨vs ++ [.int k t], (hp.map _).trans ?_, ints_snoc i k t⟩
      rw [List.map_append]
      exact p.append (.refl _)
    · exact List.nodup_append.mpr ⟨hh.nd, List.nodup_cons.mpr ⟨by simp, List.nodup_nil⟩, fun x hx y hy z => hk (by rw [← List.mem_singleton.mp hy, ← z]; exact hx)⟩
    · rw [List.mem_append, List.mem_append, hm j]
theorem fill {R : Result → Shared → Prop} {I : Addr} {fp wr : List Addr} {items : Array Value} {St : Nat → Heap → Prop} (W : Walks prog w A.in1 I fp wr items.size (fun i v => items[i]? = some v) St) {S : Addr} (hS : S ∉ fp) {led : Bool} {ns : List Int} (hi : IntsAre items.toList ns) (hb : ns.length + 1 < scanBound) :
    ∀ (k i : Nat) (s : Shared), items.size - i = k → i ≤ items.size → St i s.heap → Way prog w s.heap S led (ns.take i) →
      (∀ h' tk, (∀ b o, b ∉ S :: wr → s.heap.get? b = some o → h'.get? b = some o) → Way prog w h' S led ns → R (.ok (.ret .none)) { s with heap := h', toks := tk }) →
      codeAny (model prog w) A (.builtin "set.update.loop" ⟨[.ref S, .ref I], []⟩) R s := by
  have hlen : ns.length = items.size := by rw [← hi.length, Array.length_toList]
  have way_at : ∀ {h h' : Heap} {ms : List Int}, Way prog w h S led ms → (∀ o, h.get? S = some o → h'.get? S = some o) → Way prog w h' S led ms := fun hw k => by
    obtain ⟨es, ep, t, ks, hA, r⟩ := hw
    exact ⟨es, ep, t, ks, at' hA k, r⟩
  have hSw : S ∉ wr := fun z => hS (W.sub _ z)
  intro k
  induction k with
  | zero =>
    intro i s hk hle st way done
    have e : i = items.size := by omega
    subst e
    refine codeAny_builtin F.entry_set_update_loop ?_
    rw [Around.under_plainId F.plain_set_update_loop _]
    show wpAny _ A.in1 (pyNext (.ref I) >>= _) _ _ _
    refine wpAny_bind (W.done s _ _ st fun h' tk kp => ?_)
    show wpAny _ A.in1 (ret Value.none) _ _ _
    refine wpAny_pure (done h' tk (fun b o hb e => kp b o (fun z => hb (List.mem_cons_of_mem _ z)) e) ?_)
    rw [List.take_of_length_le (by omega)] at way
    exact way_at way fun o e => kp S o hSw e
  | succ k ih =>
    intro i s hk hle st way done
    have hlt : i < items.size := by omega
    refine codeAny_builtin F.entry_set_update_loop ?_
    rw [Around.under_plainId F.plain_set_update_loop _]
    show wpAny _ A.in1 (pyNext (.ref I) >>= _) _ _ _
    refine wpAny_bind (W.item i s _ _ hlt st fun v h1 tk hv st1 kp => ?_)
    obtain ⟨t, rfl⟩ := hi.int_at i v (by rw [Array.getElem?_toList]; exact hv)
    have way1 := way_at way fun o e => kp S o hSw e
    show wpAny _ A.in1 (holding [Value.int (ns.getD i 0) t] (setAdd S _) >>= _) _ _ _
    refine wpAny_bind (wpAny_holding (way_add (s := { s with heap := h1, toks := tk }) way1 (by rw [List.length_take]; omega) fun _ h2 sb way2 => ?_))
    have et : ns.take i ++ [ns.getD i 0] = ns.take (i + 1) := by
      rw [List.take_succ, List.getD_eq_getElem?_getD, List.getElem?_eq_getElem (by omega)]; rfl
    rw [et] at way2
    refine wpAny_pure ⟨plainId_quiet F.plain_set_update_loop _, ih (i + 1) _ (by omega) hlt (W.frame _ _ _ st1 fun b hb o e => ?_) way2 fun h' tk' kp' way' => ?_⟩
    · exact (sb.2 b fun z => hS (z ▸ hb)).trans e
    · refine done h' tk' (fun b o hb e => kp' b o hb ?_) way'
      have : b ≠ S := fun z => hb (by rw [z]; exact List.mem_cons_self)
      exact (sb.2 b this).trans (kp b o (fun z => hb (List.mem_cons_of_mem _ z)) e)
end
end SW
namespace SW
open PySem PyProof.Rows LI
section
variable {prog : Program} {w : World} {A : Around} {E : Value → Shared → Prop} {s : Shared}
end
end SW
namespace L2
open PySem PySem.Spec PyProof.Rows SW
section
variable {X : Cx}
end
end L2
namespace ZG
open PySem PyProof.Rows
section
variable {prog : Program} {w : World} {A : Around} {E : Value → Shared → Prop} {s : Shared}
structure Nx (prog : Program) (w : World) (I l : Addr) (P : Nat → Heap → Prop) (val : Nat → Option Value) : Prop where
  keep : ∀ k h h', P k h → (∀ b, b = I ∨ b = l → ∀ o, h.get? b = some o → h'.get? b = some o) → P k h'
  obj : ∀ k h, P k h → ∃ o, h.get? I = some o ∧ ∀ v, o.data ≠ .cell v
  item : ∀ (A : Around) (s : Shared) (k : Nat) (x : Value) (Q : Value → Shared → Prop) (E : Value → Shared → Prop), P k s.heap → val k = some x → (∀ h', P (k + 1) h' → Heap.SameBut I s.heap h' → Q x { s with heap := h' }) → wpAny (model prog w) A (Builtin.SmallTypes.nextOf (.ref I)) Q E s
  fin : ∀ (A : Around) (s : Shared) (k : Nat) (Q : Value → Shared → Prop) (E : Value → Shared → Prop), A.handled = none → P k s.heap → val k = none → (∀ h' e, (∀ b o, b ≠ I → s.heap.get? b = some o → h'.get? b = some o) → (∃ o, h'.get? e = some o ∧ o.cls = .type "StopIteration") → E (.ref e) { s with heap := h' }) → wpAny (model prog w) A (Builtin.SmallTypes.nextOf (.ref I)) Q E s
variable {z TI TO i1 i2 l1 l2 : Addr} {P1 P2 : Nat → Heap → Prop} {v1 v2 : Nat → Option Value} {k : Nat} {p q : Value}
def g1 (h : Heap) (a : Addr) : Heap := h.push { cls := .type "list_iterator", data := .fields #[.ref a, .int 0 0] }
def g2 (h : Heap) (a b : Addr) : Heap := (g1 h a).push { cls := .type "tuple_iterator", data := .fields #[.ref b, .int 0 0] }
def g3 (h : Heap) (a b : Addr) : Heap := (g2 h a b).push { cls := .type "tuple", data := .seq #[.ref h.objs.size, .ref (g1 h a).objs.size] }
def g4 (h : Heap) (a b : Addr) : Heap := (g3 h a b).push { cls := .type "tuple", data := .seq #[.none, .none] }
def g5 (h : Heap) (a b : Addr) : Heap := (g4 h a b).push { cls := .type "zip", data := .fields #[.none, .bool false, .bool false, .ref (g2 h a b).objs.size, .ref (g3 h a b).objs.size] }
end
end ZG
namespace L2
open PySem PySem.Spec PyProof.Rows ZG
end L2
namespace L2
open PySem PySem.Spec PyProof.Rows LI SB
open MeetsSeq MeetsSeq2 MeetsSeq3 SeqRoads2
def lexLt : List Int → List Int → Bool
  | [], [] => false
  | [], _ :: _ => true
  | _ :: _, [] => false
  | a :: x, b :: y => if a = b then lexLt x y else decide (a < b)
theorem lexLt_irrefl : ∀ x, lexLt x x = false
  | [] => rfl
  | a :: x => by unfold lexLt; rw [if_pos rfl]; exact lexLt_irrefl x
theorem lexLt_total : ∀ x y, lexLt x y = false → lexLt y x = false → x = y
  | [], [], _, _ => rfl
  | [], _ :: _, h, _ => nomatch h
  | _ :: _, [], _, h => nomatch h
  | a :: x, b :: y, h1, h2 => by
    unfold lexLt at h1 h2
    by_cases e : a = b
    · subst e
      rw [if_pos rfl] at h1 h2
      rw [lexLt_total x y h1 h2]
    · rw [if_neg e] at h1
      rw [if_neg (Ne.symm e)] at h2
      simp only [decide_eq_false_iff_not] at h1 h2
      omega
theorem lexLt_trans : ∀ x y z, lexLt x y = true → lexLt y z = true → lexLt x z = true
  | [], [], _, h, _ => nomatch h
  | [], _ :: _, [], _, h => nomatch h
  | [], _ :: _, _ :: _, _, _ => rfl
  | _ :: _, [], _, h, _ => nomatch h
  | _ :: _, _ :: _, [], _, h => nomatch h
  | a :: x, b :: y, c :: z, h1, h2 => by
    unfold lexLt at h1 h2 ⊢
    by_cases e : a = b
    · subst e
      rw [if_pos rfl] at h1
      by_cases f : a = c
      · subst f; rw [if_pos rfl] at h2 ⊢; exact lexLt_trans x y z h1 h2
      · rw [if_neg f] at h2 ⊢; exact h2
    · rw [if_neg e] at h1
      simp only [decide_eq_true_eq] at h1
      by_cases f : b = c
      · subst f; rw [if_neg e]; simpa using h1
      · rw [if_neg f] at h2
        simp only [decide_eq_true_eq] at h2
        rw [if_neg (by omega)]; simp only [decide_eq_true_eq]; omega
section
variable {prog : Program} {w : World} {A : Around} {s : Shared} {E : Value → Shared → Prop} {f : Addr → Option (List Int)}
end
section
variable {X : Cx}
end
end L2
namespace L2
open PySem PySem.Spec PyProof.Rows LI SB EM
section
variable {prog : Program} {w : World} {K : Type} [DecidableEq K] {knd : HeapKind prog w K} {A : Around} {E : Value → Shared → Prop} {s : Shared}
end
section
variable {X : Cx}
theorem hu70 {k : Nat} {A : Around} (r : Room k A) : A.units + 70 < cLine := by have := r.un; omega
end
end L2
namespace L2
open PySem PySem.Spec PyProof.Rows LI SB EM
open Builtin Builtin.Str
section
variable {prog : Program} {w : World} {A : Around} {E : Value → Shared → Prop} {s : Shared} {I : Addr} {fp wr : List Addr} {G : Array GenState → Array GenState → Prop} {n : Nat} {P : Nat → Value → Prop} {St : Nat → Shared → Prop} {T : String}
end
end L2
namespace L2
open PySem PySem.Spec PyProof.Rows LI SB EM
section
variable {prog : Program} {w : World} {A : Around} {E : Value → Shared → Prop} {s : Shared} {d : Addr} {o : Obj} {es : Array DictEntry} {ep : Nat}
end
section
variable {X : Cx}
end
end L2
namespace EM
open PySem PyProof.Rows
open AutoSeq1 (wpAny_loadPart')
open MeetsSeq MeetsSeq2 MeetsSeq3 SeqRoads2
section
variable {prog : Program} {w : World} {A : Around} {s : Shared} {E : Value → Shared → Prop}
theorem lists_diff {l b : Addr} {items items2 : Array Value} (hl : s.heap.IsList l items) (hb : s.heap.IsList b items2) (hsz : items.size ≠ items2.size) (hu : A.units < cLine)
    {Q : Value → Shared → Prop} (h : Q (.bool false) s) : wpAny (model prog w) A (compareOp .Eq (.ref l) (.ref b)) Q E s := by
  obtain ⟨⟨cls, dd, data, sl⟩, ho, hc, n, hd⟩ := id hl
  obtain ⟨⟨cls2, dd2, data2, sl2⟩, ho2, hc2, n2, hd2⟩ := id hb
  simp only at hc hd hc2 hd2
  subst hc hd hc2 hd2
  have f3 := AutoSeq1.sub_list_list
  have hne : (items.size != items2.size) = true := by simp [hsz]
  refine wpAny_richCompare_same_room (op := .Eq) (Q := Q) hl.typeIs hb.typeIs F.slot_list_eq (wpAny_call (codeAny_call_builtin F.slot_list_eq.plain F.entry_list_eq (F.slot_list_eq.check _ _ _ _ _ _ _ _ hl.typeIs (F.args_list_eq_2 _ _) ?_))) hu
  obtain ⟨hp, g, d, tk, os⟩ := s
  wp_walk using wpAny_loadPart' ho, wpAny_loadPart' ho2
  exact ⟨(fun x => nomatch x), h⟩
end
end EM
namespace L2
open PySem PySem.Spec PyProof.Rows EM
theorem op_eqNil {X : Cx} (hu : X.A.units < cLine) : OpR X (compareOp .Eq) (fun x y H Q => ∃ (a b : Addr) (xs : List V), x = .ref a ∧ y = .ref b ∧ SqL X.K H a xs ∧ SqL X.K H b [] ∧ Q (.bl xs.isEmpty) H) := by
  intro pins s σ H x y v u Q I rx ry h
  obtain ⟨a, b, xs, rfl, rfl, ha, hb, q⟩ := h
  cases rx
  cases ry
  obtain ⟨ia, ra, pa, _⟩ := I.list ha
  obtain ⟨ib, rb, pb, _⟩ := I.list hb
  cases rb
  cases ra with
  | nil => exact lists_same (.inl rfl) pa.isList pb.isList rfl hu (fun j h1 _ => absurd h1 (by simp)) ⟨.bl true, H, I, rfl, q⟩
  | cons _ _ => exact lists_diff pa.isList pb.isList (by simp) hu ⟨.bl false, H, I, rfl, q⟩
end L2
namespace L2
open PySem PySem.Spec PyProof.Rows
open MeetsSeq MeetsSeq2 MeetsSeq3 SeqRoads2
section
variable {X : Cx}
theorem lists_diffN {prog : Program} {w : World} {A : Around} {s : Shared} {E : Value → Shared → Prop} {l b : Addr} {items items2 : Array Value} (hl : s.heap.IsList l items) (hb : s.heap.IsList b items2) (hsz : items.size ≠ items2.size) (hu : A.units < cLine)
    {Q : Value → Shared → Prop} (h : Q (.bool true) s) : wpAny (model prog w) A (compareOp .NotEq (.ref l) (.ref b)) Q E s := by
  obtain ⟨⟨cls, dd, data, sl⟩, ho, hc, n, hd⟩ := id hl
  obtain ⟨⟨cls2, dd2, data2, sl2⟩, ho2, hc2, n2, hd2⟩ := id hb
  simp only at hc hd hc2 hd2
  subst hc hd hc2 hd2
  have f3 := AutoSeq1.sub_list_list
  have hne : (items.size != items2.size) = true := by simp [hsz]
  refine wpAny_richCompare_same_room (op := .NotEq) (Q := Q) hl.typeIs hb.typeIs F.slot_list_ne (wpAny_call (codeAny_call_builtin F.slot_list_ne.plain F.entry_list_ne (F.slot_list_ne.check _ _ _ _ _ _ _ _ hl.typeIs (F.args_list_ne_2 _ _) ?_))) hu
  obtain ⟨hp, g, d, tk, os⟩ := s
  wp_walk using AutoSeq1.wpAny_loadPart' ho, AutoSeq1.wpAny_loadPart' ho2
  exact ⟨(fun x => nomatch x), h⟩
theorem op_neNil (hu : X.A.units < cLine) : OpR X (compareOp .NotEq) (fun x y H Q => ∃ (a b : Addr) (xs : List V), x = .ref a ∧ y = .ref b ∧ SqL X.K H a xs ∧ SqL X.K H b [] ∧ Q (.bl (!xs.isEmpty)) H) := by
  intro pins s σ H x y v u Q I rx ry h
  obtain ⟨a, b, xs, rfl, rfl, ha, hb, q⟩ := h
  cases rx
  cases ry
  obtain ⟨ia, ra, pa, _⟩ := I.list ha
  obtain ⟨ib, rb, pb, _⟩ := I.list hb
  cases rb
  cases ra with
  | nil => exact EM.lists_same (.inr rfl) pa.isList pb.isList rfl hu (fun j h1 _ => absurd h1 (by simp)) ⟨.bl false, H, I, rfl, q⟩
  | cons _ _ => exact lists_diffN pa.isList pb.isList (by simp) hu ⟨.bl true, H, I, rfl, q⟩
def tListRng (ta : TA) : TE := fun σ H Q => ta σ H fun vs H1 => ∃ n : Nat, vs = [.int n] ∧ n ≤ 100000 ∧ ∀ l, H1 l = none → Q (.ref l) (upd H1 l (.lst ((List.range n).map fun i : Nat => V.int i)))
theorem pe_listrange {e : Expr} {ta : TA} {p p' pos pos' : Pos} (hc : X.A.handled = none) (hg : Gl X "list") (hm : X.mg "list" = none) (hg' : Gl X "range") (hm' : X.mg "range" = none) (ha : PA X [e] ta) (hs : starEach [e] X.env = [(false, eval e X.env)] := by rfl) :
    PE X (.Call (.Name "list" p) [.Call (.Name "range" p') [e] [] pos'] [] pos) (tListRng ta) := by
  intro pins s σ H Q I h
  refine wpAny_Call_Name_kw (ld_blt I hg hm (by decide +kernel : bootBuiltins "list" = some (.type "list")) ?_ (by decide) (by decide))
  refine PyProof.Rows.callWith_type1 ?_ rfl rfl
  show wpAny _ _ (spliced ((false, eval (.Call (.Name "range" p') [e] [] pos') X.env) :: backTo pos (starEach [] X.env))) _ _ s
  refine Calls.spliced_cons ?_
  refine Call_ (ld_blt I hg' hm' boot_range (PyProof.Rows.callWith_type1 (thn (ha pins s σ H _ I h) fun us s1 ⟨vs, H1, I1, r1, q1⟩ => ?_) hs rfl))
  obtain ⟨n, e, hn, q⟩ := q1
  subst e
  obtain ⟨u, rfl, rx⟩ := vals1 r1
  obtain ⟨t, rfl⟩ := rx
  refine call_range_1 ?_
  refine PyProof.Rows.spliced_none ?_
  refine call_list_range hc (IsRange.new ..) (small_one (by omega) (by omega) (by omega) (by omega)) (n := n) ?_ (by omega) fun h' tk acc c kp hS hacc => ?_
  · rw [rangeSize_one]; split <;> omega
  · have hz : (s1.heap.push { cls := .type "range", data := .fields #[.int 0 s1.toks, .int n t, .int 1 (s1.toks + 1)] }).objs.size = s1.heap.objs.size + 1 := Heap.size_push ..
    simp only [hz] at hS ⊢
    refine ⟨.ref _, _, I1.laid (h' := h') (t' := tk) (a := s1.heap.objs.size + 1) (o := .lst ((List.range n).map fun i : Nat => V.int i)) (fun b o e => kp b o (Heap.get?_push_of_some _ e)) (Nat.le_succ _) ⟨?_, acc.toList, c, ?_, hS⟩, rfl, q _ (I1.hok.fresh (Nat.le_succ _))⟩
    · have : (100000 : Nat) ≤ sizeLine := by decide
      simp; omega
    · refine paired_of (by have := hacc.1; simp; omega) fun i x u ex eu => ?_
      rw [Array.getElem?_toList] at eu
      obtain ⟨t', ht'⟩ := hacc.2 i u eu
      rw [List.getElem?_map] at ex
      obtain ⟨j, hj, rfl⟩ := Option.map_eq_some_iff.mp ex
      have hij : j = i := by
        obtain ⟨h1, h2⟩ := List.getElem?_eq_some_iff.mp hj
        simpa using h2.symm
      subst hij
      exact ⟨t', by rw [ht']; congr 1; omega⟩
end
end L2
namespace L2
open PySem
theorem hu0 {k : Nat} {A : Around} (r : Room k A) : A.units < cLine := by have := r.un; omega
end L2
namespace PM
open PySem L2
abbrev Ps := List (Int × Int)
def co : Ps → Int → Int
  | [], _ => 0
  | p :: l, k => (if p.1 = k then p.2 else 0) + co l k
def mu (p : Int × Int) (m : Ps) : Ps := m.map fun q => (p.1 + q.1, p.2 * q.2)
def nm : Ps → Nat
  | [] => 0
  | p :: l => p.2.natAbs + nm l
def ks (l : Ps) : List Int := l.map (·.1)
def dk (l : Ps) : List (Key × V) := l.map fun p => (Sum.inl p.1, V.int p.2)
theorem dk_len (l : Ps) : (dk l).length = l.length := List.length_map _
theorem co_not {l : Ps} {k : Int} (h : k ∉ ks l) : co l k = 0 := by
  induction l with
  | nil => rfl
  | cons p l ih =>
    have h1 : ¬ p.1 = k := fun e => h (by rw [← e]; exact List.mem_cons_self)
    simp only [co]
    rw [if_neg h1, ih fun m => h (List.mem_cons_of_mem _ m)]; rfl
theorem co_mem {l : Ps} (nd : (ks l).Nodup) : ∀ {p : Int × Int}, p ∈ l → co l p.1 = p.2 := by
  induction l with
  | nil => intro p h; cases h
  | cons q l ih =>
    intro p h
    have nd : (q.1 :: ks l).Nodup := nd
    rw [List.nodup_cons] at nd
    simp only [co]
    rcases List.mem_cons.mp h with rfl | h
    · rw [if_pos rfl, co_not nd.1]; omega
    · rw [if_neg (fun e => nd.1 (by rw [e]; exact List.mem_map_of_mem h)), ih nd.2 h]; omega
theorem val_dk {l : Ps} (nd : (ks l).Nodup) (k : Int) : valV (dk l) (.inl k) = if k ∈ ks l then some (.int (co l k)) else none := by
  induction l with
  | nil => rfl
  | cons q l ih =>
    have nd : (q.1 :: ks l).Nodup := nd
    rw [List.nodup_cons] at nd
    show valV ((Sum.inl q.1, V.int q.2) :: dk l) _ = _
    by_cases e : q.1 = k
    · rw [valV_pos (by rw [e])]
      subst e
      rw [if_pos (show q.1 ∈ ks (q :: l) from List.mem_cons_self)]
      simp [co, co_not nd.1]
    · rw [valV_neg (fun h => e (Sum.inl.inj h)), ih nd.2]
      simp only [co]
      rw [if_neg e, Int.zero_add]
      have : k ∈ ks (q :: l) ↔ k ∈ ks l := by
        show k ∈ q.1 :: ks l ↔ _
        rw [List.mem_cons]
        exact ⟨fun h => h.resolve_left (fun h => e h.symm), .inr⟩
      simp only [this]
theorem val_str (l : Ps) (x : Str) : valV (dk l) (.inr x) = none := by
  induction l with
  | nil => rfl
  | cons q l ih => show valV ((Sum.inl q.1, V.int q.2) :: dk l) _ = _; rw [valV_neg (p := (Sum.inl q.1, V.int q.2)) (r := dk l) (k := Sum.inr x) (fun h => by cases h), ih]
def put : Ps → Int → Int → Ps
  | [], k, v => [(k, v)]
  | p :: l, k, v => if p.1 = k then (k, v) :: l else p :: put l k v
theorem putK_cons_ne {p : Key × V} {r : List (Key × V)} {k : Key} {v : V} (h : ¬ p.1 = k) : putK (p :: r) k v = p :: putK r k v := by
  unfold putK
  rw [List.any_cons, decide_eq_false h, Bool.false_or, List.map_cons, if_neg h]
  split <;> rfl
theorem putK_cons_eq {p : Key × V} {r : List (Key × V)} {k : Key} {v : V} (h : p.1 = k) (hn : ¬ k ∈ r.map (·.1)) : putK (p :: r) k v = (k, v) :: r := by
  unfold putK
  rw [List.any_cons, decide_eq_true h, Bool.true_or, if_pos rfl, List.map_cons, if_pos h, h]
  congr 1
  conv => rhs; rw [← List.map_id r]
  refine List.map_congr_left fun q hq => ?_
  rw [if_neg (fun e => hn (by rw [← e]; exact List.mem_map_of_mem hq))]; rfl
theorem put_dk {l : Ps} (nd : (ks l).Nodup) (k v : Int) : putK (dk l) (.inl k) (.int v) = dk (put l k v) := by
  induction l with
  | nil => rfl
  | cons p l ih =>
    have nd : (p.1 :: ks l).Nodup := nd
    rw [List.nodup_cons] at nd
    show putK ((Sum.inl p.1, V.int p.2) :: dk l) _ _ = _
    by_cases e : p.1 = k
    · rw [putK_cons_eq (by rw [e])]
      · simp only [put]; rw [if_pos e]; rfl
      · intro m
        obtain ⟨q, hq, eq⟩ := List.mem_map.mp m
        obtain ⟨z, hz, rfl⟩ := List.mem_map.mp hq
        have := Sum.inl.inj eq
        exact nd.1 (by rw [e, ← this]; exact List.mem_map_of_mem hz)
    · rw [putK_cons_ne (fun h => e (Sum.inl.inj h)), ih nd.2]
      simp only [put]; rw [if_neg e]; rfl
theorem ks_put {l : Ps} {k v j : Int} : j ∈ ks (put l k v) → j = k ∨ j ∈ ks l := by
  induction l with
  | nil => intro h; exact .inl (List.mem_singleton.mp h)
  | cons p l ih =>
    intro h
    simp only [put] at h
    by_cases e : p.1 = k
    · rw [if_pos e] at h
      rcases List.mem_cons.mp (show j ∈ k :: ks l from h) with q | q
      · exact .inl q
      · exact .inr (List.mem_cons_of_mem _ q)
    · rw [if_neg e] at h
      rcases List.mem_cons.mp (show j ∈ p.1 :: ks (put l k v) from h) with q | q
      · exact .inr (by rw [q]; exact List.mem_cons_self)
      · rcases ih q with q | q
        · exact .inl q
        · exact .inr (List.mem_cons_of_mem _ q)
theorem nd_put {l : Ps} (nd : (ks l).Nodup) (k v : Int) : (ks (put l k v)).Nodup := by
  induction l with
  | nil => simp [put, ks]
  | cons p l ih =>
    have nd : (p.1 :: ks l).Nodup := nd
    rw [List.nodup_cons] at nd
    simp only [put]
    by_cases e : p.1 = k
    · rw [if_pos e]
      show (k :: ks l).Nodup
      rw [← e]; exact List.nodup_cons.mpr nd
    · rw [if_neg e]
      show (p.1 :: ks (put l k v)).Nodup
      refine List.nodup_cons.mpr ⟨fun m => ?_, ih nd.2⟩
      rcases ks_put m with q | q
      · exact e q
      · exact nd.1 q
theorem co_put {l : Ps} (nd : (ks l).Nodup) (k v j : Int) : co (put l k v) j = if j = k then v else co l j := by
  induction l with
  | nil =>
    simp only [put, co]
    by_cases e : j = k
    · rw [if_pos e, if_pos e.symm]; omega
    · rw [if_neg e, if_neg (Ne.symm e)]; rfl
  | cons p l ih =>
    have nd : (p.1 :: ks l).Nodup := nd
    rw [List.nodup_cons] at nd
    simp only [put]
    by_cases e : p.1 = k
    · rw [if_pos e]
      simp only [co]
      by_cases e2 : j = k
      · rw [if_pos e2, if_pos e2.symm, e2, ← e, co_not nd.1]; omega
      · rw [if_neg e2, if_neg (Ne.symm e2), if_neg (by omega)]
    · rw [if_neg e]
      simp only [co]
      rw [ih nd.2]
      by_cases e2 : j = k
      · rw [if_pos e2, if_pos e2, if_neg (by omega)]; omega
      · rw [if_neg e2, if_neg e2]
theorem len_put (l : Ps) (k v : Int) : (put l k v).length ≤ l.length + 1 := by
  induction l with
  | nil => simp [put]
  | cons p l ih =>
    simp only [put]
    by_cases e : p.1 = k
    · rw [if_pos e]; simp
    · rw [if_neg e]; simpa using ih
def drop (l : Ps) (k : Int) : Ps := l.filter fun p => decide (p.1 ≠ k)
structure Cl (l : Ps) : Prop where
  nd : (ks l).Nodup
  nz : ∀ p ∈ l, p.2 ≠ 0
theorem Cl.iff {l : Ps} (c : Cl l) (k : Int) : k ∈ ks l ↔ co l k ≠ 0 := by
  constructor
  · intro h
    obtain ⟨p, hp, rfl⟩ := List.mem_map.mp h
    rw [co_mem c.nd hp]; exact c.nz p hp
  · intro h
    apply Classical.byContradiction
    intro m
    exact h (co_not m)
theorem Cl.same {l m : Ps} (a : Cl l) (b : Cl m) (h : ∀ k, co l k = co m k) : SameK (dk l) (dk m) := by
  have mem : ∀ k, k ∈ ks l ↔ k ∈ ks m := fun k => by rw [a.iff, b.iff, h]
  refine ⟨?_, fun k => ?_, fun p hp => ?_⟩
  · have := ((List.perm_ext_iff_of_nodup a.nd b.nd).mpr mem).length_eq
    rw [dk_len, dk_len]
    simpa [ks] using this
  · cases k with
    | inl k => rw [val_dk a.nd, val_dk b.nd, h]; simp only [mem]
    | inr x => rw [val_str, val_str]
  · obtain ⟨q, _, rfl⟩ := List.mem_map.mp hp
    exact ⟨_, rfl⟩
end PM
namespace L2
open PySem PySem.Spec PyProof.Rows LI SB EM
section
variable {prog : Program} {w : World} {A : Around} {E : Value → Shared → Prop} {s : Shared}
end
section
variable {X : Cx} {pins : List (Addr × Obj)} {σ : St} {H : Hp} {s : Shared} {d : Addr} {o : Obj}
end
section
variable {P : Program} {w : World} {K : PySem.W.Frag} {d : Addr} {o : Obj} {es : Array DictEntry} {ep : Nat}
end
section
variable {X : Cx} {e : Expr} {td : TE} {apos cpos : Pos}
end
section
variable {prog : Program} {w : World} {K : Type} [DecidableEq K] {knd : HeapKind prog w K} {A : Around} {E : Value → Shared → Prop} {s : Shared}
end
section
variable {X : Cx} {o e f : Expr} {apos cpos : Pos} {td ty tx : TE}
end
end L2
namespace L2
open PySem PySem.Spec PyProof.Rows
section
variable {X : Cx}
end
end L2
namespace L2
open PySem
theorem hu2 {k : Nat} {A : Around} (r : Room k A) : A.units + 2 < cLine := by have := hu70 r; omega
theorem lc_inv {J : It} {n : Nat} {g : TG} {tt : TT} {te : TE} {vs : List Nat} {σ : St} {H1 : Hp} {D : Addr} {Qd : Hp → Prop} (Pv : Nat → Hp → Prop) (h0 : Pv 0 (upd H1 D (.lst []))) (go : ∀ i H, i < n → Pv i H → J.go i H) (stop : ∀ H, Pv n H → J.stop n H)
    (hs : ∀ i H, i < n → Pv i H → ∀ x H', J.yld i H x H' → g x (wipe σ vs) H' fun σ2 H2 => wipe σ2 vs = wipe σ vs ∧ tt σ2 H2 fun b H3 =>
        if b = true then te σ2 H3 fun y H4 => ∃ acc, H4 D = some (.lst acc) ∧ acc.length < sizeLine ∧ Pv (i + 1) (upd H4 D (.lst (acc ++ [y]))) else Pv (i + 1) H3)
    (hd : ∀ H, Pv n H → Qd H) :
    ∃ W : Nat → Nat → Hp → Prop, (∃ m, W 0 m (upd H1 D (.lst []))) ∧ ∀ i m H, W i m H →
      (J.stop i H ∧ Qd H) ∨ (J.go i H ∧ ∃ Nx : Hp → Prop, (∀ H', Nx H' → ∃ m', m' < m ∧ W (i + 1) m' H') ∧ ∀ x H', J.yld i H x H' → g x (wipe σ vs) H' fun σ2 H2 => wipe σ2 vs = wipe σ vs ∧ tt σ2 H2 fun b H3 =>
        if b = true then te σ2 H3 fun y H4 => ∃ acc, H4 D = some (.lst acc) ∧ acc.length < sizeLine ∧ Nx (upd H4 D (.lst (acc ++ [y]))) else Nx H3) := by
  refine ⟨fun i m H => m = n - i ∧ i ≤ n ∧ Pv i H, ⟨n, by simp, Nat.zero_le _, h0⟩, ?_⟩
  rintro i m H ⟨rfl, hi, p⟩
  by_cases hlt : i < n
  · exact .inr ⟨go i H hlt p, Pv (i + 1), fun H' p' => ⟨n - (i + 1), by omega, rfl, hlt, p'⟩, fun x H' y => hs i H hlt p x H' y⟩
  · have e : i = n := by omega
    subst e
    exact .inl ⟨stop H p, hd H p⟩
end L2
namespace DM
open PySem L2
structure Cr where
  s : Int
  i1 : Int
  o1 : Int
  i2 : Int
  o2 : Int
def Cr.l (c : Cr) : List Int := [c.s, c.i1, c.o1, c.i2, c.o2]
def Cr.nm (c : Cr) : List Int := [c.i1, c.o1, c.i2, c.o2]
def names (rings : List Int) (cs : List Cr) : List Int := rings ++ cs.flatMap Cr.nm
def CrAt (H : Hp) (p : Addr) (c : Cr) : Prop := H p = some (.tup (c.l.map V.int))
structure CrsAt (H : Hp) (b : Addr) (cs : List Cr) : Prop where
  get : ∃ ps : List Addr, H b = some (.lst (ps.map V.ref)) ∧ Paired (CrAt H) ps cs
structure DrAt (H : Hp) (d : Addr) (rings : List Int) (cs : List Cr) : Prop where
  get : ∃ a b, H d = some (.tup [.ref a, .ref b]) ∧ H a = some (.lst (rings.map V.int)) ∧ CrsAt H b cs
section
variable {H H' : Hp} {b d : Addr} {rings : List Int} {cs : List Cr}
theorem CrsAt.mv (h : CrsAt H b cs) (s : Same H H') : CrsAt H' b cs := let ⟨ps, e, p⟩ := h; ⟨ps, s _ _ e, Paired.mono (fun q c z => s _ _ z) p⟩
theorem CrsAt.mvX {D : Addr} (h : CrsAt H b cs) (s : SameX D H H') (hD : ∃ o, H D = some o ∧ (∀ xs, o ≠ .tup xs)) (hb : b ≠ D) : CrsAt H' b cs := by
  obtain ⟨ps, e, p⟩ := h
  obtain ⟨o, ho, no⟩ := hD
  exact ⟨ps, s _ _ hb e, Paired.mono (fun q c z => s _ _ (fun y => by rw [y, ho] at z; exact no _ (Option.some.inj z)) z) p⟩
theorem DrAt.mv (h : DrAt H d rings cs) (s : Same H H') : DrAt H' d rings cs := let ⟨a, b, e, r, c⟩ := h; ⟨a, b, s _ _ e, s _ _ r, c.mv s⟩
theorem CrsAt.len (h : CrsAt H b cs) : ∃ ps : List Addr, H b = some (.lst (ps.map V.ref)) ∧ Paired (CrAt H) ps cs ∧ ps.length = cs.length := let ⟨ps, e, p⟩ := h; ⟨ps, e, p, p.length⟩
end
def stepC (n k : Nat) (l : Int) (here : List Int) : Cr :=
  if 0 < l then ⟨1, here.getD (l.natAbs - 1 + 1) 0, n + 2 * k, here.getD (l.natAbs - 1) 0, n + 2 * k + 1⟩ else ⟨-1, here.getD (l.natAbs - 1) 0, n + 2 * k + 1, here.getD (l.natAbs - 1 + 1) 0, n + 2 * k⟩
def stepH (n k : Nat) (l : Int) (here : List Int) : List Int := (here.set (l.natAbs - 1) ((n + 2 * k : Nat) : Int)).set (l.natAbs - 1 + 1) ((n + 2 * k + 1 : Nat) : Int)
def hereF (n : Nat) (ls : List Int) : Nat → List Int
  | 0 => (List.range n).map fun i : Nat => (i : Int)
  | k + 1 => stepH n k (ls.getD k 0) (hereF n ls k)
def crsF (n : Nat) (ls : List Int) : Nat → List Cr
  | 0 => []
  | k + 1 => crsF n ls k ++ [stepC n k (ls.getD k 0) (hereF n ls k)]
def lkF (here : List Int) : Nat → Int → Option Int
  | 0, _ => none
  | i + 1, x => if x = here.getD i 0 then some i else lkF here i x
def phi (n : Nat) (here : List Int) (x : Int) : Int := (lkF here n x).getD x
def Cr.map (f : Int → Int) (c : Cr) : Cr := ⟨c.s, f c.i1, f c.o1, f c.i2, f c.o2⟩
def ringsF (n : Nat) (here : List Int) : List Int := ((List.range n).filter fun k => decide (here.getD k 0 = (k : Int))).map fun i : Nat => (i : Int)
def closedR (n : Nat) (ls : List Int) : List Int := ringsF n (hereF n ls ls.length)
def closedC (n : Nat) (ls : List Int) : List Cr := (crsF n ls ls.length).map (Cr.map (phi n (hereF n ls ls.length)))
def Letters (n most : Nat) (ls : List Int) : Prop := ls.length ≤ most ∧ ∀ l ∈ ls, l ≠ 0 ∧ l.natAbs + 1 ≤ n
theorem hereF_len (n : Nat) (ls : List Int) : ∀ k, (hereF n ls k).length = n
  | 0 => by simp [hereF]
  | k + 1 => by rw [hereF, stepH, List.length_set, List.length_set, hereF_len n ls k]
theorem crsF_len (n : Nat) (ls : List Int) : ∀ k, (crsF n ls k).length = k
  | 0 => rfl
  | k + 1 => by rw [crsF, List.length_append, crsF_len n ls k]; rfl
def lastOf (rings : List Int) (e loop : Int) : Int := if e ∈ rings then e else loop + 1
def curlC (rings : List Int) (e loop sg : Int) (b : Bool) : Cr := if b then ⟨sg, loop, lastOf rings e loop, e, loop⟩ else ⟨sg, e, loop, loop, lastOf rings e loop⟩
def inTo (e last x : Int) : Int := if x = e then last else x
def curlM (e last : Int) (c : Cr) : Cr := ⟨c.s, inTo e last c.i1, c.o1, inTo e last c.i2, c.o2⟩
def curledR (rings : List Int) (e : Int) : List Int := rings.filter fun r => decide (r ≠ e)
def curledC (rings : List Int) (cs : List Cr) (e loop sg : Int) (b : Bool) : List Cr := cs.map (curlM e (lastOf rings e loop)) ++ [curlC rings e loop sg b]
inductive Mk : List Int → List Cr → Prop
  | closed {n most : Nat} {ls : List Int} : 1 ≤ n → Letters n most ls → Mk (closedR n ls) (closedC n ls)
  | curl {rings : List Int} {cs : List Cr} {e m sg : Int} {b : Bool} : Mk rings cs → e ∈ names rings cs → m ∈ names rings cs → (∀ y ∈ names rings cs, y ≤ m) → sg = 1 ∨ sg = -1 → Mk (curledR rings e) (curledC rings cs e (m + 1) sg b)
  | ren {rings : List Int} {cs : List Cr} {f : Int → Int} : Mk rings cs → (∀ x ∈ names rings cs, ∀ y ∈ names rings cs, f x = f y → x = y) → Mk (rings.map f) (cs.map (Cr.map f))
  | perm {rings rings' : List Int} {cs cs' : List Cr} : Mk rings cs → rings'.Perm rings → cs'.Perm cs → Mk rings' cs'
theorem stepC_sg (n k : Nat) (l : Int) (here : List Int) : (stepC n k l here).s = 1 ∨ (stepC n k l here).s = -1 := by
  unfold stepC; split
  · exact .inl rfl
  · exact .inr rfl
theorem crsF_sg (n : Nat) (ls : List Int) : ∀ k, ∀ c ∈ crsF n ls k, c.s = 1 ∨ c.s = -1
  | 0, c, h => by simp [crsF] at h
  | k + 1, c, h => by
    rcases List.mem_append.mp h with h | h
    · exact crsF_sg n ls k c h
    · rw [List.mem_singleton.mp h]; exact stepC_sg ..
theorem Mk.sg {rings : List Int} {cs : List Cr} (h : Mk rings cs) : ∀ c ∈ cs, c.s = 1 ∨ c.s = -1 := by
  induction h with
  | closed h1 h2 =>
    intro c hc
    obtain ⟨d, hd, rfl⟩ := List.mem_map.mp hc
    exact crsF_sg _ _ _ d hd
  | curl _ _ _ _ hs ih =>
    intro c hc
    rcases List.mem_append.mp hc with h | h
    · obtain ⟨d, hd, rfl⟩ := List.mem_map.mp h
      exact ih d hd
    · rw [List.mem_singleton.mp h]
      unfold curlC; split <;> exact hs
  | ren _ _ ih =>
    intro c hc
    obtain ⟨d, hd, rfl⟩ := List.mem_map.mp hc
    exact ih d hd
  | perm _ _ p ih => exact fun c hc => ih c (p.mem_iff.mp hc)
end DM
namespace DM
open PySem L2
theorem at_int {xs : List Int} {z : Int} {j : Nat} (e : z = (j : Int)) (h : j < xs.length) : atI (xs.map V.int) z = some (.int (xs.getD j 0)) :=
  at_of e (by rw [List.getElem?_map, List.getElem?_eq_getElem h, List.getD_eq_getElem?_getD, List.getElem?_eq_getElem h]; rfl)
theorem ix_int {n : Nat} {z : Int} {j : Nat} (e : z = (j : Int)) (h : j < n) : ixN n z = some j := by
  unfold ixN; rw [if_pos (by omega), if_pos (by omega)]; congr 1; omega
theorem set_int {xs : List Int} {j : Nat} {x : Int} : (xs.map V.int).set j (.int x) = (xs.set j x).map V.int := by rw [List.map_set]
theorem get_int {xs : List Int} {i : Nat} {x : V} (h : (xs.map V.int)[i]? = some x) : x = .int (xs.getD i 0) := by
  rw [List.getElem?_map] at h
  obtain ⟨y, hy, rfl⟩ := Option.map_eq_some_iff.mp h
  rw [List.getD_eq_getElem?_getD, hy]; rfl
theorem take_map_succ {α β : Type} {xs : List α} {f : α → β} {i : Nat} {x : α} (h : xs[i]? = some x) : (xs.take (i + 1)).map f = (xs.take i).map f ++ [f x] := by
  rw [List.take_succ, h, List.map_append]; rfl
end DM
namespace DM
open PySem L2
theorem flat_ints : ∀ xs : List Int, (xs.map V.int).all flatV = true
  | [] => rfl
  | _ :: xs => by simp [flatV]
theorem in_ints (x : Int) : ∀ xs : List Int, inV (.int x) (xs.map V.int) = decide (x ∈ xs)
  | [] => rfl
  | y :: xs => by
    have := in_ints x xs
    unfold inV at this ⊢
    rw [List.map_cons, List.any_cons, this]
    by_cases e : y = x
    · subst e; simp [eqV]
    · have e' : ¬ x = y := fun z => e z.symm
      simp [eqV, e, e']
theorem names_len (rings : List Int) (cs : List Cr) : (names rings cs).length = rings.length + 4 * cs.length := by
  unfold names
  rw [List.length_append]
  congr 1
  induction cs with
  | nil => rfl
  | cons c cs ih => rw [List.flatMap_cons, List.length_append, ih, List.length_cons]; simp [Cr.nm]; omega
end DM
namespace DM
open PySem L2 PM
structure Nw (sg : Int) (ent : Ps) : Prop where
  nd : (ks ent).Nodup
  val : ∀ (j : Nat) (x v : Int), ent[j]? = some (x, v) → ∃ r : Int, 0 ≤ r ∧ r < 1009 ∧ v = (1000000000 * r + j) * sg
theorem Nw.put {sg : Int} {ent : Ps} (h : Nw sg ent) {x r : Int} (hx : x ∉ ks ent) (r0 : 0 ≤ r) (r1 : r < 1009) : Nw sg (ent ++ [(x, (1000000000 * r + ent.length) * sg)]) := by
  refine ⟨?_, fun j y v e => ?_⟩
  · unfold ks
    rw [List.map_append]
    exact List.nodup_append.mpr ⟨h.nd, List.nodup_cons.mpr ⟨by simp, List.nodup_nil⟩, fun a ha b hb z => hx ((show b = x by simpa using hb) ▸ z ▸ ha)⟩
  · rcases Nat.lt_trichotomy j ent.length with z | z | z
    · rw [List.getElem?_append_left z] at e; exact h.val j y v e
    · subst z
      rw [List.getElem?_append_right (Nat.le_refl _), Nat.sub_self] at e
      cases e
      exact ⟨r, r0, r1, rfl⟩
    · rw [List.getElem?_eq_none (by rw [List.length_append, List.length_singleton]; omega)] at e; cases e
theorem Nw.dk_put {sg : Int} {ent : Ps} (h : Nw sg ent) {x : Int} (hx : x ∉ ks ent) (v : Int) : putK (dk ent) (.inl x) (.int v) = dk (ent ++ [(x, v)]) := by
  rw [putK_new _ (by rw [val_dk h.nd, if_neg hx])]
  unfold dk
  rw [List.map_append]; rfl
theorem Nw.inj {sg : Int} (hs : sg = 1 ∨ sg = -1) {ent : Ps} (h : Nw sg ent) (hl : ent.length < 1000000000) : ∀ x ∈ ks ent, ∀ y ∈ ks ent, co ent x = co ent y → x = y := fun x hx y hy e => by
  obtain ⟨p, hp, rfl⟩ := List.mem_map.mp hx
  obtain ⟨q, hq, rfl⟩ := List.mem_map.mp hy
  rw [co_mem h.nd hp, co_mem h.nd hq] at e
  obtain ⟨i, hi⟩ := List.getElem?_of_mem hp
  obtain ⟨j, hj⟩ := List.getElem?_of_mem hq
  obtain ⟨r, _, _, e1⟩ := h.val i p.1 p.2 hi
  obtain ⟨t, _, _, e2⟩ := h.val j q.1 q.2 hj
  have li := (List.getElem?_eq_some_iff.mp hi).1
  have lj := (List.getElem?_eq_some_iff.mp hj).1
  have : i = j := by
    rw [e1, e2] at e
    rcases hs with z | z <;> subst z <;> omega
  subst this
  rw [hi] at hj
  cases hj; rfl
theorem Nw.small {sg : Int} (hs : sg = 1 ∨ sg = -1) {ent : Ps} (h : Nw sg ent) (hl : ent.length < 1000000000) : ∀ x ∈ ks ent, (co ent x).natAbs < 2 ^ 60 := fun x hx => by
  obtain ⟨p, hp, rfl⟩ := List.mem_map.mp hx
  rw [co_mem h.nd hp]
  obtain ⟨i, hi⟩ := List.getElem?_of_mem hp
  obtain ⟨r, _, _, e1⟩ := h.val i p.1 p.2 hi
  have li := (List.getElem?_eq_some_iff.mp hi).1
  rw [e1]
  rcases hs with z | z <;> subst z <;> omega
end DM
namespace DM
open PySem L2
theorem perm_map_inv {α β : Type} {f : α → β} {ys ws : List β} (h : ys.Perm ws) : ∀ xs : List α, ws = xs.map f → ∃ zs : List α, zs.Perm xs ∧ zs.map f = ys := by
  induction h with
  | nil => intro xs e; exact ⟨[], by cases xs with | nil => exact .refl _ | cons => simp at e, rfl⟩
  | cons a h ih =>
    intro xs e
    cases xs with
    | nil => simp at e
    | cons x xs =>
      rw [List.map_cons] at e
      injection e with e1 e2
      obtain ⟨zs, p, q⟩ := ih xs e2
      exact ⟨x :: zs, p.cons x, by rw [List.map_cons, q, e1]⟩
  | swap a b l =>
    intro xs e
    match xs, e with
    | [], e => simp at e
    | [_], e => simp at e
    | x :: y :: xs, e =>
      simp only [List.map_cons, List.cons.injEq] at e
      exact ⟨y :: x :: xs, List.Perm.swap _ _ _, by simp [e.1, e.2.1, e.2.2]⟩
  | trans h1 h2 ih1 ih2 =>
    intro xs e
    obtain ⟨zs, p, q⟩ := ih2 xs e
    obtain ⟨us, p', q'⟩ := ih1 zs q.symm
    exact ⟨us, p'.trans p, q'⟩
theorem paired_perm {α β : Type} {R : α → β → Prop} {qs ps : List α} (h : qs.Perm ps) : ∀ cs : List β, Paired R ps cs → ∃ cs', cs'.Perm cs ∧ Paired R qs cs' := by
  induction h with
  | nil => intro cs p; cases p; exact ⟨[], .refl _, .nil⟩
  | cons a h ih =>
    intro cs p
    cases p with
    | cons r t =>
      obtain ⟨cs', e, q⟩ := ih _ t
      exact ⟨_ :: cs', e.cons _, .cons r q⟩
  | swap a b l =>
    intro cs p
    cases p with
    | cons r t => cases t with
      | cons r' t => exact ⟨_, List.Perm.swap _ _ _, .cons r' (.cons r t)⟩
  | trans h1 h2 ih1 ih2 =>
    intro cs p
    obtain ⟨ds, e, q⟩ := ih2 cs p
    obtain ⟨es, e', q'⟩ := ih1 ds q
    exact ⟨es, e'.trans e, q'⟩
theorem closedR_len (n : Nat) (ls : List Int) : (closedR n ls).length ≤ n := by
  unfold closedR ringsF
  rw [List.length_map]
  exact Nat.le_trans (List.length_filter_le _ _) (by simp)
theorem closedC_len (n : Nat) (ls : List Int) : (closedC n ls).length = ls.length := by
  unfold closedC
  rw [List.length_map, crsF_len]
theorem closed_ne {n : Nat} (h : 1 ≤ n) (ls : List Int) : names (closedR n ls) (closedC n ls) ≠ [] := by
  intro e
  have hl := names_len (closedR n ls) (closedC n ls)
  rw [e, closedC_len] at hl
  have h0 : ls = [] := List.length_eq_zero_iff.mp (by simp at hl; omega)
  subst h0
  have : (0 : Int) ∈ closedR n [] := by
    unfold closedR ringsF
    refine List.mem_map.mpr ⟨0, List.mem_filter.mpr ⟨List.mem_range.mpr h, ?_⟩, rfl⟩
    simp only [hereF, List.length_nil, decide_eq_true_eq]
    rw [List.getD_eq_getElem?_getD, List.getElem?_map, List.getElem?_range h]; rfl
  have := List.length_pos_of_mem this
  simp at hl; omega
end DM
namespace DM
open PySem L2
def endsOf (c : Cr) : List Int := if c.s = 1 then [c.i1, c.o2, c.o1, c.i2] else [c.i1, c.i2, c.o1, c.o2]
def pairsOf (c : Cr) (bit : Int) : List (Int × Int) :=
  let e := endsOf c
  if bit = 0 then [(e.getD 0 0, e.getD 1 0), (e.getD 2 0, e.getD 3 0)] else [(e.getD 0 0, e.getD 3 0), (e.getD 1 0, e.getD 2 0)]
def firstWith (hs : List (List Int)) (x : Int) : List Int := (hs.filter fun h => decide (x ∈ h)).headD []
def without (hs : List (List Int)) (m y : List Int) : List (List Int) := hs.filter fun h => !(decide (m = h) || decide (y = h))
def hstep (hs : List (List Int)) (p : Int × Int) : List (List Int) := if firstWith hs p.1 = firstWith hs p.2 then hs else without hs (firstWith hs p.1) (firstWith hs p.2) ++ [firstWith hs p.1 ++ firstWith hs p.2]
def singles (ks : List Int) : List (List Int) := ks.map fun k => [k]
def hrun (hs : List (List Int)) (ps : List (Int × Int)) : List (List Int) := ps.foldl hstep hs
structure Pt (ks : List Int) (hs : List (List Int)) : Prop where
  flat : hs.flatten.Perm ks
  ne : ∀ h ∈ hs, h ≠ []
theorem flatten_singles (ks : List Int) : (singles ks).flatten = ks := by
  unfold singles
  induction ks with
  | nil => rfl
  | cons k ks ih => rw [List.map_cons, List.flatten_cons, ih]; rfl
theorem Pt.start (ks : List Int) : Pt ks (singles ks) := ⟨by rw [flatten_singles], fun h hh => by obtain ⟨k, _, rfl⟩ := List.mem_map.mp hh; simp⟩
theorem heaps_nodup : ∀ hs : List (List Int), hs.flatten.Nodup → (∀ h ∈ hs, h ≠ []) → hs.Nodup
  | [], _, _ => List.nodup_nil
  | h :: hs, nd, ne => by
    rw [List.flatten_cons] at nd
    obtain ⟨_, n2, dj⟩ := List.nodup_append.mp nd
    refine List.nodup_cons.mpr ⟨fun hm => ?_, heaps_nodup hs n2 fun x hx => ne x (List.mem_cons_of_mem _ hx)⟩
    obtain ⟨x, hx⟩ := List.exists_mem_of_ne_nil _ (ne h List.mem_cons_self)
    exact dj x hx x (List.mem_flatten.mpr ⟨h, hm, hx⟩) rfl
theorem Pt.nd {ks : List Int} {hs : List (List Int)} (h : Pt ks hs) (n : ks.Nodup) : hs.flatten.Nodup := h.flat.nodup_iff.mpr n
theorem Pt.split {ks : List Int} {hs : List (List Int)} (h : Pt ks hs) (n : ks.Nodup) {m y : List Int} (hm : m ∈ hs) (hy : y ∈ hs) (d : m ≠ y) : hs.Perm (m :: y :: without hs m y) := by
  have nh := heaps_nodup hs (h.nd n) h.ne
  have p1 := List.perm_cons_erase hm
  have hy' : y ∈ hs.erase m := (List.mem_erase_of_ne (Ne.symm d)).mpr hy
  have p2 := List.perm_cons_erase hy'
  refine p1.trans (List.Perm.cons m (p2.trans (List.Perm.cons y (List.Perm.of_eq ?_))))
  rw [nh.erase_eq_filter, List.Nodup.erase_eq_filter (show (List.filter (fun x => x != m) hs).Nodup from nh.filter _), List.filter_filter]
  unfold without
  refine List.filter_congr fun x _ => ?_
  have go : ∀ z : List Int, (x != z) = !decide (z = x) := fun z => by
    unfold bne
    by_cases e : z = x
    · rw [decide_eq_true e, e, beq_self_eq_true]
    · rw [decide_eq_false e, beq_eq_false_iff_ne.mpr (fun q => e q.symm)]
  have e1 := go m
  have e2 := go y
  rw [e1, e2]
  cases decide (m = x) <;> cases decide (y = x) <;> rfl
theorem Pt.join {ks : List Int} {hs : List (List Int)} (h : Pt ks hs) (n : ks.Nodup) {m y : List Int} (hm : m ∈ hs) (hy : y ∈ hs) (d : m ≠ y) : Pt ks (without hs m y ++ [m ++ y]) ∧ (without hs m y).length + 2 = hs.length := by
  have p := h.split n hm hy d
  refine ⟨⟨?_, fun x hx => ?_⟩, ?_⟩
  · refine List.Perm.trans ?_ h.flat
    refine List.Perm.trans ?_ p.flatten.symm
    rw [List.flatten_append, List.flatten_cons, List.flatten_nil, List.append_nil, List.flatten_cons, List.flatten_cons, ← List.append_assoc m]
    exact List.perm_append_comm
  · rcases List.mem_append.mp hx with z | z
    · exact h.ne x ((List.mem_filter.mp z).1)
    · rw [List.mem_singleton.mp z]
      have := h.ne m hm
      intro e
      exact this (List.append_eq_nil_iff.mp e).1
  · have := p.length_eq
    simp only [List.length_cons] at this
    omega
theorem Pt.first {ks : List Int} {hs : List (List Int)} (h : Pt ks hs) {x : Int} (hx : x ∈ ks) : firstWith hs x ∈ hs ∧ x ∈ firstWith hs x := by
  obtain ⟨g, hg, xg⟩ := List.mem_flatten.mp (h.flat.mem_iff.mpr hx)
  unfold firstWith
  cases e : hs.filter fun h => decide (x ∈ h) with
  | nil => exact absurd (List.filter_eq_nil_iff.mp e g hg) (by simpa using xg)
  | cons a r =>
    have : a ∈ hs.filter fun h => decide (x ∈ h) := by rw [e]; exact List.mem_cons_self
    obtain ⟨h1, h2⟩ := List.mem_filter.mp this
    exact ⟨h1, by simpa using h2⟩
theorem Pt.step {ks : List Int} {hs : List (List Int)} (h : Pt ks hs) (n : ks.Nodup) {p : Int × Int} (h1 : p.1 ∈ ks) (h2 : p.2 ∈ ks) : Pt ks (hstep hs p) ∧ (hstep hs p).length ≤ hs.length := by
  unfold hstep
  by_cases e : firstWith hs p.1 = firstWith hs p.2
  · rw [if_pos e]; exact ⟨h, Nat.le_refl _⟩
  · rw [if_neg e]
    obtain ⟨a, b⟩ := h.join n (h.first h1).1 (h.first h2).1 e
    exact ⟨a, by rw [List.length_append, List.length_singleton]; omega⟩
theorem Pt.le {ks : List Int} {hs : List (List Int)} (h : Pt ks hs) {g : List Int} (hg : g ∈ hs) : g.length ≤ ks.length := by
  rw [← h.flat.length_eq]
  have : ∀ hs : List (List Int), g ∈ hs → g.length ≤ hs.flatten.length := fun hs => by
    induction hs with
    | nil => intro h; cases h
    | cons x hs ih =>
      intro h
      rw [List.flatten_cons, List.length_append]
      rcases List.mem_cons.mp h with z | z
      · rw [z]; omega
      · have := ih z; omega
  exact this hs hg
structure HsAt (H : Hp) (b : Addr) (hs : List (List Int)) : Prop where
  get : ∃ qs : List (Addr × List Int), H b = some (.lst (qs.map fun q => V.ref q.1)) ∧ (∀ q ∈ qs, H q.1 = some (.lst (q.2.map V.int))) ∧ qs.map (·.2) = hs
theorem HsAt.mv {H H' : Hp} {b : Addr} {hs : List (List Int)} (h : HsAt H b hs) (s : Same H H') : HsAt H' b hs := let ⟨qs, e, q, f⟩ := h; ⟨qs, s _ _ e, fun x hx => s _ _ (q x hx), f⟩
end DM
namespace DM
open PySem L2
end DM
namespace L2
open PySem
def rSortedB (K : PySem.W.Frag) : List V → Hp → VK → Prop := fun xs H Q => ∃ (a : Addr) (ns : List Int), xs = [.ref a] ∧ SqL K H a (ns.map V.int) ∧ ∀ (ns' : List Int) (p : Addr), ns'.Perm ns → ns'.Pairwise (· ≤ ·) → H p = none → Q (.ref p) (upd H p (.lst (ns'.map V.int)))
theorem cr_sortedB' {X : Cx} : CallR X (.builtin "sorted") (rSortedB X.K) := cr_sortedB
end L2
namespace L2
open PySem PySem.Meets
section
variable {prog : Program} {w : World} {K : Type} [DecidableEq K] {knd : KeyKind prog w K} {A : Around} {E : Value → Shared → Prop} {s : Shared}
end
section
variable {X : Cx} {o e f : Expr} {td ty tx : TE} {apos cpos : Pos}
end
end L2
namespace L2
open PySem PySem.Spec PyProof.Rows LI
section
variable {prog : Program} {w : World} {A : Around} {s : Shared} {E : Value → Shared → Prop}
end
section
variable {X : Cx}
end
end L2
namespace DM
open PySem L2
inductive Conn (ps : List (Int × Int)) : Int → Int → Prop
  | refl (x : Int) : Conn ps x x
  | fwd {x a b : Int} : Conn ps x a → (a, b) ∈ ps → Conn ps x b
  | bwd {x a b : Int} : Conn ps x b → (a, b) ∈ ps → Conn ps x a
theorem Conn.trans {ps : List (Int × Int)} {x y z : Int} (h : Conn ps x y) (k : Conn ps y z) : Conn ps x z := by
  induction k with
  | refl => exact h
  | fwd _ m ih => exact .fwd ih m
  | bwd _ m ih => exact .bwd ih m
theorem Conn.symm {ps : List (Int × Int)} {x y : Int} (h : Conn ps x y) : Conn ps y x := by
  induction h with
  | refl => exact .refl _
  | fwd _ m ih => exact (Conn.bwd (.refl _) m).trans ih
  | bwd _ m ih => exact (Conn.fwd (.refl _) m).trans ih
theorem Conn.mono {ps qs : List (Int × Int)} (h : ∀ p ∈ ps, p ∈ qs) {x y : Int} (k : Conn ps x y) : Conn qs x y := by
  induction k with
  | refl => exact .refl _
  | fwd _ m ih => exact .fwd ih (h _ m)
  | bwd _ m ih => exact .bwd ih (h _ m)
theorem Conn.closed {ps : List (Int × Int)} {D : Int → Prop} (cl : ∀ p ∈ ps, D p.1 ↔ D p.2) {x y : Int} (k : Conn ps x y) (hx : D x) : D y := by
  induction k with
  | refl => exact hx
  | fwd _ m ih => exact (cl _ m).mp ih
  | bwd _ m ih => exact (cl _ m).mpr ih
theorem Conn.alone {ps : List (Int × Int)} {x y : Int} (h : ∀ p ∈ ps, x ≠ p.1 ∧ x ≠ p.2) (k : Conn ps x y) : y = x :=
  Conn.closed (D := fun z => z = x) (fun p hp => ⟨fun e => absurd e.symm (h p hp).1, fun e => absurd e.symm (h p hp).2⟩) k rfl
structure Hg (ps : List (Int × Int)) (hs : List (List Int)) : Prop where
  one : ∀ h ∈ hs, ∀ x ∈ h, ∀ y ∈ h, Conn ps x y
  cl : ∀ h ∈ hs, ∀ p ∈ ps, p.1 ∈ h ↔ p.2 ∈ h
theorem Hg.start (ks : List Int) : Hg [] (singles ks) := ⟨fun h hh x hx y hy => by
    obtain ⟨k, _, rfl⟩ := List.mem_map.mp hh
    rw [List.mem_singleton.mp hx, List.mem_singleton.mp hy]; exact .refl _, fun _ _ p hp => nomatch hp⟩
theorem Pt.same {ks : List Int} {hs : List (List Int)} (h : Pt ks hs) (n : ks.Nodup) {g g' : List Int} (hg : g ∈ hs) (hg' : g' ∈ hs) {x : Int} (hx : x ∈ g) (hx' : x ∈ g') : g = g' := by
  have nd := h.nd n
  clear h
  induction hs with
  | nil => cases hg
  | cons a hs ih =>
    rw [List.flatten_cons] at nd
    obtain ⟨_, n2, dj⟩ := List.nodup_append.mp nd
    rcases List.mem_cons.mp hg with e | e <;> rcases List.mem_cons.mp hg' with e' | e'
    · rw [e, e']
    · exact absurd rfl (dj x (e ▸ hx) x (List.mem_flatten.mpr ⟨g', e', hx'⟩))
    · exact absurd rfl (dj x (e' ▸ hx') x (List.mem_flatten.mpr ⟨g, e, hx⟩))
    · exact ih e e' n2
theorem Hg.step {ks : List Int} {hs : List (List Int)} {ps : List (Int × Int)} (g : Hg ps hs) (pt : Pt ks hs) (n : ks.Nodup) {p : Int × Int} (h1 : p.1 ∈ ks) (h2 : p.2 ∈ ks) : Hg (ps ++ [p]) (hstep hs p) := by
  have mo : ∀ q ∈ ps, q ∈ ps ++ [p] := fun q hq => List.mem_append_left _ hq
  have pm : p ∈ ps ++ [p] := List.mem_append_right _ (List.mem_singleton.mpr rfl)
  obtain ⟨m1, m2⟩ := pt.first h1
  obtain ⟨y1, y2⟩ := pt.first h2
  unfold hstep
  generalize firstWith hs p.1 = m at m1 m2 ⊢
  generalize firstWith hs p.2 = y at y1 y2 ⊢
  by_cases e : m = y
  · rw [if_pos e]
    subst e
    refine ⟨fun h hh x hx z hz => (g.one h hh x hx z hz).mono mo, fun h hh q hq => ?_⟩
    rcases List.mem_append.mp hq with hq | hq
    · exact g.cl h hh q hq
    · rw [List.mem_singleton.mp hq]
      constructor
      · intro z; rw [pt.same n hh m1 z m2]; exact y2
      · intro z; rw [pt.same n hh m1 z y2]; exact m2
  · rw [if_neg e]
    have old : ∀ h ∈ without hs m y, h ∈ hs ∧ h ≠ m ∧ h ≠ y := fun h hh => by
      obtain ⟨a, b⟩ := List.mem_filter.mp hh
      simp only [Bool.not_eq_true', Bool.or_eq_false_iff, decide_eq_false_iff_not] at b
      exact ⟨a, fun z => b.1 z.symm, fun z => b.2 z.symm⟩
    refine ⟨fun h hh x hx z hz => ?_, fun h hh q hq => ?_⟩
    · rcases List.mem_append.mp hh with hh | hh
      · exact (g.one h (old h hh).1 x hx z hz).mono mo
      · rw [List.mem_singleton.mp hh] at hx hz
        have mm : ∀ x ∈ m, Conn (ps ++ [p]) x p.1 := fun x hx => (g.one m m1 x hx p.1 m2).mono mo
        have yy : ∀ x ∈ y, Conn (ps ++ [p]) x p.1 := fun x hx => .bwd ((g.one y y1 x hx p.2 y2).mono mo) pm
        have all : ∀ x ∈ m ++ y, Conn (ps ++ [p]) x p.1 := fun x hx => (List.mem_append.mp hx).elim (mm x) (yy x)
        exact (all x hx).trans (all z hz).symm
    · rcases List.mem_append.mp hh with hh | hh
      · obtain ⟨a, b, c⟩ := old h hh
        rcases List.mem_append.mp hq with hq | hq
        · exact g.cl h a q hq
        · rw [List.mem_singleton.mp hq]
          exact ⟨fun z => absurd (pt.same n a m1 z m2) b, fun z => absurd (pt.same n a y1 z y2) c⟩
      · rw [List.mem_singleton.mp hh, List.mem_append, List.mem_append]
        rcases List.mem_append.mp hq with hq | hq
        · rw [g.cl m m1 q hq, g.cl y y1 q hq]
        · rw [List.mem_singleton.mp hq]
          exact ⟨fun _ => .inr y2, fun _ => .inl m2⟩
theorem Hg.run {ks : List Int} (n : ks.Nodup) : ∀ (qs ps : List (Int × Int)) (hs : List (List Int)), Pt ks hs → Hg ps hs → (∀ q ∈ qs, q.1 ∈ ks ∧ q.2 ∈ ks) → Hg (ps ++ qs) (hrun hs qs)
  | [], ps, hs, _, g, _ => by rw [List.append_nil]; exact g
  | q :: qs, ps, hs, pt, g, h => by
    have := Hg.run n qs (ps ++ [q]) (hstep hs q) (pt.step n (h q List.mem_cons_self).1 (h q List.mem_cons_self).2).1 (g.step pt n (h q List.mem_cons_self).1 (h q List.mem_cons_self).2) fun r hr => h r (List.mem_cons_of_mem _ hr)
    rw [List.append_assoc] at this
    exact this
theorem sorted_eq {α : Type} {r : α → α → Prop} (as : ∀ a b, r a b → ¬ r b a) : ∀ {l m : List α}, l.Pairwise r → m.Pairwise r → (∀ x, x ∈ l ↔ x ∈ m) → l = m
  | [], [], _, _, _ => rfl
  | [], b :: m, _, _, h => absurd ((h b).mpr List.mem_cons_self) (by simp)
  | a :: l, [], _, _, h => absurd ((h a).mp List.mem_cons_self) (by simp)
  | a :: l, b :: m, h1, h2, h => by
    obtain ⟨p1, p2⟩ := List.pairwise_cons.mp h1
    obtain ⟨q1, q2⟩ := List.pairwise_cons.mp h2
    have e : a = b := Classical.byContradiction fun ne => by
      have ha : a ∈ m := (List.mem_cons.mp ((h a).mp List.mem_cons_self)).resolve_left ne
      have hb : b ∈ l := (List.mem_cons.mp ((h b).mpr List.mem_cons_self)).resolve_left (Ne.symm ne)
      exact as _ _ (q1 a ha) (p1 b hb)
    subst e
    have irr : ∀ x, ¬ r x x := fun x z => as _ _ z z
    rw [sorted_eq as p2 q2 fun x => ?_]
    constructor
    · intro hx
      exact (List.mem_cons.mp ((h x).mp (List.mem_cons_of_mem _ hx))).resolve_left fun z => irr a (by have := p1 x hx; rw [z] at this; exact this)
    · intro hx
      exact (List.mem_cons.mp ((h x).mpr (List.mem_cons_of_mem _ hx))).resolve_left fun z => irr a (by have := q1 x hx; rw [z] at this; exact this)
structure Canon (S : Int → Prop) (R : Int → Int → Prop) (out : List (List Int)) : Prop where
  asc : ∀ l ∈ out, l.Pairwise (· < ·)
  ne : ∀ l ∈ out, l ≠ []
  lex : out.Pairwise fun a b => L2.lexLt a b = true
  cov : ∀ x, S x ↔ ∃ l ∈ out, x ∈ l
  rel : ∀ l ∈ out, ∀ x ∈ l, ∀ y, y ∈ l ↔ S y ∧ R x y
theorem lex_as (a b : List Int) (h : L2.lexLt a b = true) : ¬ L2.lexLt b a = true := fun k => by
  have := lexLt_trans a b a h k
  rw [lexLt_irrefl] at this; cases this
end DM
namespace DM
open PySem L2
theorem getD_set {l : List Int} {i j : Nat} {v : Int} : (l.set i v).getD j 0 = if i = j ∧ i < l.length then v else l.getD j 0 := by
  rw [List.getD_eq_getElem?_getD, List.getD_eq_getElem?_getD, List.getElem?_set]
  by_cases e : i = j
  · subst e
    by_cases h : i < l.length
    · simp [h]
    · simp [h]
  · simp [e]
theorem stepH_at {n k : Nat} {l : Int} {here : List Int} (hl : here.length = n) (h0 : l ≠ 0) (h1 : l.natAbs + 1 ≤ n) (j : Nat) : (stepH n k l here).getD j 0 = if j = l.natAbs - 1 then ((n + 2 * k : Nat) : Int) else if j = l.natAbs - 1 + 1 then ((n + 2 * k + 1 : Nat) : Int) else here.getD j 0 := by
  unfold stepH
  rw [getD_set, getD_set, List.length_set]
  by_cases e1 : j = l.natAbs - 1
  · rw [if_pos e1, if_neg (by omega), if_pos ⟨by omega, by omega⟩]
  · rw [if_neg e1]
    by_cases e2 : j = l.natAbs - 1 + 1
    · rw [if_pos e2, if_pos ⟨by omega, by omega⟩]
    · rw [if_neg e2, if_neg (by omega), if_neg (by omega)]
theorem here_low {n most : Nat} {ls : List Int} (hl : Letters n most ls) : ∀ k, k ≤ ls.length → (∀ p : Nat, p < n → (hereF n ls k).getD p 0 = p ∨ (n : Int) ≤ (hereF n ls k).getD p 0) ∧ ∀ j : Nat, j < n → (hereF n ls k).getD j 0 = j → ∀ c ∈ crsF n ls k, (j : Int) ∉ c.nm
  | 0, _ => by
    refine ⟨fun p hp => .inl ?_, fun j hj e c hc => by cases hc⟩
    rw [hereF, List.getD_eq_getElem?_getD, List.getElem?_map, List.getElem?_range hp]; rfl
  | k + 1, hk => by
    obtain ⟨i1, i2⟩ := here_low hl k (by omega)
    have lm : ls.getD k 0 ∈ ls := by rw [List.getD_eq_getElem?_getD, List.getElem?_eq_getElem (by omega)]; exact List.getElem_mem _
    obtain ⟨l0, l1⟩ := hl.2 _ lm
    have len := hereF_len n ls k
    have at' := stepH_at (k := k) len l0 l1
    rw [hereF, crsF]
    generalize ls.getD k 0 = l at l0 l1 at' ⊢
    generalize hereF n ls k = here at i1 i2 len at' ⊢
    refine ⟨fun p hp => ?_, fun j hj e c hc => ?_⟩
    · rw [at']
      by_cases e1 : p = l.natAbs - 1
      · rw [if_pos e1]; right; omega
      · rw [if_neg e1]
        by_cases e2 : p = l.natAbs - 1 + 1
        · rw [if_pos e2]; right; omega
        · rw [if_neg e2]; exact i1 p hp
    · rw [at'] at e
      have n1 : j ≠ l.natAbs - 1 := fun z => by rw [if_pos z] at e; omega
      rw [if_neg n1] at e
      have n2 : j ≠ l.natAbs - 1 + 1 := fun z => by rw [if_pos z] at e; omega
      rw [if_neg n2] at e
      rcases List.mem_append.mp hc with z | z
      · exact i2 j hj e c z
      · rw [List.mem_singleton.mp z]
        have a0 := i1 (l.natAbs - 1) (by omega)
        have a1 := i1 (l.natAbs - 1 + 1) (by omega)
        unfold stepC Cr.nm
        intro hm
        split at hm <;> simp only [List.mem_cons, List.not_mem_nil, or_false] at hm <;> omega
theorem lkF_some {here : List Int} {y v : Int} : ∀ {i : Nat}, lkF here i y = some v → ∃ q : Nat, v = q ∧ q < i ∧ y = here.getD q 0
  | 0, h => by cases h
  | i + 1, h => by
    rw [lkF] at h
    by_cases e : y = here.getD i 0
    · rw [if_pos e] at h
      exact ⟨i, (Option.some.inj h).symm, Nat.lt_succ_self _, e⟩
    · rw [if_neg e] at h
      obtain ⟨q, a, b, c⟩ := lkF_some h
      exact ⟨q, a, Nat.lt_succ_of_lt b, c⟩
theorem lkF_none {here : List Int} {y : Int} : ∀ {i : Nat}, lkF here i y = none → ∀ q, q < i → y ≠ here.getD q 0
  | 0, _, q, hq => by omega
  | i + 1, h, q, hq => by
    rw [lkF] at h
    by_cases e : y = here.getD i 0
    · rw [if_pos e] at h; cases h
    · rw [if_neg e] at h
      rcases Nat.lt_succ_iff_lt_or_eq.mp hq with z | z
      · exact lkF_none h q z
      · rw [z]; exact e
theorem Mk.apart {rings : List Int} {cs : List Cr} (h : Mk rings cs) : rings.Nodup ∧ ∀ r ∈ rings, ∀ c ∈ cs, r ∉ c.nm := by
  induction h with
  | @closed n most ls n1 hl =>
    obtain ⟨_, i2⟩ := here_low hl ls.length (Nat.le_refl _)
    refine ⟨?_, fun r hr c hc hm => ?_⟩
    · unfold closedR ringsF
      exact List.pairwise_map.mpr (List.Pairwise.imp (fun h k => h (by omega)) (List.Pairwise.filter _ List.nodup_range))
    · obtain ⟨j, hj, rfl⟩ := List.mem_map.mp hr
      obtain ⟨jr, je⟩ := List.mem_filter.mp hj
      have jn := List.mem_range.mp jr
      have je : (hereF n ls ls.length).getD j 0 = (j : Int) := by simpa using je
      obtain ⟨d, hd, rfl⟩ := List.mem_map.mp hc
      have no := i2 j jn je d hd
      obtain ⟨y, hy, ey⟩ : ∃ y ∈ d.nm, (j : Int) = phi n (hereF n ls ls.length) y := by
        unfold Cr.map Cr.nm at hm
        simp only [List.mem_cons, List.not_mem_nil, or_false] at hm
        rcases hm with z | z | z | z
        · exact ⟨d.i1, by simp [Cr.nm], z⟩
        · exact ⟨d.o1, by simp [Cr.nm], z⟩
        · exact ⟨d.i2, by simp [Cr.nm], z⟩
        · exact ⟨d.o2, by simp [Cr.nm], z⟩
      unfold phi at ey
      cases e : lkF (hereF n ls ls.length) n y with
      | none =>
        rw [e] at ey
        exact lkF_none e j jn (by rw [je]; exact ey.symm)
      | some v =>
        rw [e] at ey
        obtain ⟨q, e1, _, e3⟩ := lkF_some e
        have : q = j := by have : (j : Int) = v := ey; omega
        rw [this, je] at e3
        rw [e3] at hy
        exact no hy
  | @curl rings cs e m sg b _ me mm mx _ ih =>
    obtain ⟨n1, dj⟩ := ih
    refine ⟨n1.filter _, fun r hr c hc hm => ?_⟩
    obtain ⟨r1, r2⟩ := List.mem_filter.mp hr
    have r2 : r ≠ e := by simpa using r2
    have rm : r ≤ m := mx r (List.mem_append_left _ r1)
    have rlast : r ≠ lastOf rings e (m + 1) := by unfold lastOf; split <;> omega
    rcases List.mem_append.mp hc with hc | hc
    · obtain ⟨d, hd, rfl⟩ := List.mem_map.mp hc
      have := dj r r1 d hd
      unfold Cr.nm at this hm
      unfold curlM inTo at hm
      simp only [List.mem_cons, List.not_mem_nil, or_false, not_or] at this hm
      obtain ⟨t1, t2, t3, t4⟩ := this
      rcases hm with z | z | z | z
      · split at z
        · exact rlast z
        · exact t1 z
      · exact t2 z
      · split at z
        · exact rlast z
        · exact t3 z
      · exact t4 z
    · rw [List.mem_singleton.mp hc] at hm
      unfold curlC Cr.nm at hm
      split at hm <;> simp only [List.mem_cons, List.not_mem_nil, or_false] at hm <;> rcases hm with z | z | z | z <;> first | exact r2 z | exact rlast z | omega
  | @ren rings cs f _ inj ih =>
    obtain ⟨n1, dj⟩ := ih
    have rin : ∀ r ∈ rings, r ∈ names rings cs := fun r hr => List.mem_append_left _ hr
    refine ⟨?_, fun r hr c hc hm => ?_⟩
    · refine List.pairwise_map.mpr (List.Pairwise.imp_of_mem (fun {a b} ha hb h k => h (inj a (rin a ha) b (rin b hb) k)) n1)
    · obtain ⟨a, ha, rfl⟩ := List.mem_map.mp hr
      obtain ⟨d, hd, rfl⟩ := List.mem_map.mp hc
      obtain ⟨y, hy, ey⟩ : ∃ y ∈ d.nm, f a = f y := by
        unfold Cr.map Cr.nm at hm
        simp only [List.mem_cons, List.not_mem_nil, or_false] at hm
        rcases hm with z | z | z | z
        · exact ⟨d.i1, by simp [Cr.nm], z⟩
        · exact ⟨d.o1, by simp [Cr.nm], z⟩
        · exact ⟨d.i2, by simp [Cr.nm], z⟩
        · exact ⟨d.o2, by simp [Cr.nm], z⟩
      have := inj a (rin a ha) y (List.mem_append_right _ (List.mem_flatMap.mpr ⟨d, hd, hy⟩)) ey
      rw [this] at ha
      exact dj y ha d hd hy
  | perm _ p q ih =>
    obtain ⟨n1, dj⟩ := ih
    exact ⟨p.nodup_iff.mpr n1, fun r hr c hc => dj r (p.mem_iff.mp hr) c (q.mem_iff.mp hc)⟩
end DM
namespace DM
open PySem L2 PM
abbrev Rw := List (Int × List Int)
def grp : Rw → Int → Int → Rw
  | [], k, v => [(k, [v])]
  | r :: rs, k, v => if r.1 = k then (r.1, r.2 ++ [v]) :: rs else r :: grp rs k v
theorem grp_new : ∀ {rows : Rw} {k v : Int}, k ∉ rows.map (·.1) → grp rows k v = rows ++ [(k, [v])]
  | [], _, _, _ => rfl
  | r :: rs, k, v, h => by
    rw [List.map_cons, List.mem_cons, not_or] at h
    rw [grp, if_neg (fun e => h.1 e.symm), grp_new h.2]; rfl
theorem grp_there : ∀ {a b : Rw} {l : List Int} {k v : Int}, k ∉ a.map (·.1) → grp (a ++ (k, l) :: b) k v = a ++ (k, l ++ [v]) :: b
  | [], _, _, _, _, _ => by rw [List.nil_append, grp, if_pos rfl]; rfl
  | r :: a, b, l, k, v, h => by
    rw [List.map_cons, List.mem_cons, not_or] at h
    rw [List.cons_append, grp, if_neg (fun e => h.1 e.symm), grp_there h.2]; rfl
structure Gch (ps : List (Int × Int)) (rows : Rw) : Prop where
  nd : (rows.map (·.1)).Nodup
  row : ∀ r ∈ rows, r.2 = (ps.filter fun p => decide (p.1 = r.1)).map (·.2)
  key : ∀ k, k ∈ rows.map (·.1) ↔ k ∈ ps.map (·.1)
  flat : (rows.map (·.2)).flatten.Perm (ps.map (·.2))
theorem Gch.nil : Gch [] [] := ⟨List.nodup_nil, (fun _ h => nomatch h), (fun _ => Iff.rfl), .refl _⟩
theorem nd_split {a b : Rw} {k : Int} {l : List Int} (h : ((a ++ (k, l) :: b).map (·.1)).Nodup) : k ∉ a.map (·.1) ∧ k ∉ b.map (·.1) := by
  rw [List.map_append, List.map_cons] at h
  obtain ⟨_, n2, dj⟩ := List.nodup_append.mp h
  exact ⟨fun hk => dj k hk k List.mem_cons_self rfl, (List.nodup_cons.mp n2).1⟩
theorem Gch.step {ps : List (Int × Int)} {rows : Rw} (h : Gch ps rows) (k v : Int) : Gch (ps ++ [(k, v)]) (grp rows k v) := by
  have other : ∀ r ∈ rows, r.1 ≠ k → r.2 = ((ps ++ [(k, v)]).filter fun p => decide (p.1 = r.1)).map (·.2) := fun r hr n => by
    rw [List.filter_append, List.filter_cons_of_neg (by simpa using fun e => n e.symm), List.filter_nil, List.append_nil]
    exact h.row r hr
  by_cases hk : k ∈ rows.map (·.1)
  · obtain ⟨⟨k', l⟩, hm, rfl⟩ := List.mem_map.mp hk
    obtain ⟨a, b, rfl⟩ := List.append_of_mem hm
    obtain ⟨na, nb⟩ := nd_split h.nd
    rw [grp_there na]
    have ek : (a ++ (k', l ++ [v]) :: b).map (·.1) = (a ++ (k', l) :: b).map (·.1) := by simp
    refine ⟨by rw [ek]; exact h.nd, fun r hr => ?_, fun j => ?_, ?_⟩
    · rcases List.mem_append.mp hr with z | z
      · exact other r (List.mem_append_left _ z) fun e => na (List.mem_map.mpr ⟨r, z, e⟩)
      · rcases List.mem_cons.mp z with z | z
        · subst z
          have := h.row (k', l) hm
          dsimp only at this ⊢
          rw [List.filter_append, List.map_append, ← this, List.filter_cons_of_pos (by simp), List.filter_nil]; rfl
        · exact other r (List.mem_append_right _ (List.mem_cons_of_mem _ z)) fun e => nb (List.mem_map.mpr ⟨r, z, e⟩)
    · rw [ek, h.key, List.map_append, List.mem_append]
      refine ⟨.inl, fun z => z.elim id fun z => ?_⟩
      rw [show j = k' by simpa using z]
      exact (h.key k').mp hk
    · have hf := h.flat
      rw [List.map_append, List.flatten_append, List.map_cons, List.flatten_cons] at hf ⊢
      rw [List.map_append]
      refine List.Perm.trans ?_ (hf.append_right [v])
      dsimp only
      rw [List.append_assoc, List.append_assoc, List.append_assoc]
      exact (List.Perm.refl _).append ((List.Perm.refl _).append List.perm_append_comm)
  · rw [grp_new hk]
    have hp : k ∉ ps.map (·.1) := fun z => hk ((h.key k).mpr z)
    refine ⟨?_, fun r hr => ?_, fun j => ?_, ?_⟩
    · rw [List.map_append]
      exact List.nodup_append.mpr ⟨h.nd, by simp, fun x hx y hy e => hk (by rw [show y = k by simpa using hy] at e; exact e ▸ hx)⟩
    · rcases List.mem_append.mp hr with z | z
      · exact other r z fun e => hk (e ▸ List.mem_map.mpr ⟨r, z, rfl⟩)
      · rw [List.mem_singleton.mp z]
        dsimp only
        rw [List.filter_append, List.filter_cons_of_pos (by simp), List.filter_nil, List.filter_eq_nil_iff.mpr fun p hp' => ?_]
        · rfl
        · simp only [decide_eq_true_eq]; exact fun e => hp (e ▸ List.mem_map.mpr ⟨p, hp', rfl⟩)
    · rw [List.map_append, List.map_append, List.mem_append, List.mem_append, h.key]; rfl
    · rw [List.map_append, List.flatten_append, List.map_append]
      exact h.flat.append (.refl _)
theorem sub_len {a b : List Int} (n : a.Nodup) (h : ∀ x ∈ a, x ∈ b) : a.length ≤ b.length := SW.nd_len a b n h
theorem Gch.len {ps : List (Int × Int)} {rows : Rw} (h : Gch ps rows) : rows.length ≤ ps.length := by
  have := sub_len h.nd fun k hk => (h.key k).mp hk
  simpa using this
structure Gp (H0 H : Hp) (d : Addr) (rows : Rw) : Prop where
  get : ∃ rs : List (Int × Addr × List Int), rs.map (fun r => (r.1, r.2.2)) = rows ∧ H d = some (.dK (rs.map fun r => (.inl r.1, .ref r.2.1))) ∧ (rs.map (·.2.1)).Nodup ∧ ∀ r ∈ rs, H0 r.2.1 = none ∧ H r.2.1 = some (.lst (r.2.2.map V.int))
  same : Same H0 H
  new : H0 d = none
theorem Gp.start {H : Hp} {d : Addr} (hd : H d = none) : Gp H (upd H d (.dK [])) d [] := ⟨⟨[], rfl, upd_same, List.nodup_nil, fun _ h => nomatch h⟩, Same.new hd, hd⟩
end DM
namespace DM
open PySem L2 PM
def nmP (ps : List (Int × Int)) : List Int := ps.flatMap fun p => [p.1, p.2]
theorem nmP_len (ps : List (Int × Int)) : (nmP ps).length = 2 * ps.length := by
  unfold nmP
  induction ps with
  | nil => rfl
  | cons p ps ih => rw [List.flatMap_cons, List.length_append, ih, List.length_cons]; simp; omega
theorem nmP_mem {ps : List (Int × Int)} {x : Int} : x ∈ nmP ps ↔ ∃ p ∈ ps, x = p.1 ∨ x = p.2 := by
  unfold nmP; rw [List.mem_flatMap]; simp
def Clo (ps : List (Int × Int)) (ks : List Int) : Prop := ∀ p ∈ ps, p.1 ∈ ks ↔ p.2 ∈ ks
structure Wr (ps : List (Int × Int)) (ms nw : Ps) (w : List Int) (r : Option Int) (start : Int) : Prop where
  nd : (ks (ms ++ nw)).Nodup
  val : ∀ p ∈ nw, p.2 = ms.length ∧ Conn ps start p.1 ∧ p.1 ∈ nmP ps
  old : ∀ x ∈ ks ms, x ∈ nmP ps
  st : start ∈ ks nw
  wt : ∀ x ∈ w, x ∈ ks nw
  rr : ∀ x, r = some x → x ∈ ks nw
  done : ∀ p ∈ ps, ∀ x, (x = p.1 ∨ x = p.2) → x ∈ ks (ms ++ nw) → x ∉ w → r ≠ some x → p.1 ∈ ks (ms ++ nw) ∧ p.2 ∈ ks (ms ++ nw)
theorem ks_app (a b : Ps) : ks (a ++ b) = ks a ++ ks b := List.map_append
theorem Wr.sub {ps : List (Int × Int)} {ms nw : Ps} {w : List Int} {r : Option Int} {start : Int} (h : Wr ps ms nw w r start) : ∀ x ∈ ks (ms ++ nw), x ∈ nmP ps := fun x hx => by
  rw [ks_app] at hx
  rcases List.mem_append.mp hx with z | z
  · exact h.old x z
  · obtain ⟨p, hp, rfl⟩ := List.mem_map.mp z; exact (h.val p hp).2.2
theorem Wr.len {ps : List (Int × Int)} {ms nw : Ps} {w : List Int} {r : Option Int} {start : Int} (h : Wr ps ms nw w r start) : (ms ++ nw).length ≤ 2 * ps.length := by
  have := sub_len h.nd h.sub
  rw [nmP_len] at this
  unfold ks at this
  rw [List.length_map] at this
  exact this
theorem Wr.pop {ps : List (Int × Int)} {ms nw : Ps} {w : List Int} {x start : Int} (h : Wr ps ms nw (w ++ [x]) none start) : Wr ps ms nw w (some x) start :=
  ⟨h.nd, h.val, h.old, h.st, fun y hy => h.wt y (List.mem_append_left _ hy), fun y e => by cases e; exact h.wt _ (List.mem_append_right _ (List.mem_singleton.mpr rfl)), fun p hp y hy hm hw hr => h.done p hp y hy hm (fun z => (List.mem_append.mp z).elim hw fun z => hr (by rw [List.mem_singleton.mp z])) (fun z => nomatch z)⟩
theorem Wr.add {ps : List (Int × Int)} {ms nw : Ps} {w : List Int} {r start x : Int} (h : Wr ps ms nw w (some r) start) {p : Int × Int} (hp : p ∈ ps) (hr : p.1 = r ∨ p.2 = r) (hx : x = p.1 ∨ x = p.2) (hn : x ∉ ks (ms ++ nw)) : Wr ps ms (nw ++ [(x, (ms.length : Int))]) (w ++ [x]) (some r) start := by
  have e1 : ks (ms ++ (nw ++ [(x, (ms.length : Int))])) = ks (ms ++ nw) ++ [x] := by rw [← List.append_assoc, ks_app]; rfl
  have e2 : ks (nw ++ [(x, (ms.length : Int))]) = ks nw ++ [x] := by rw [ks_app]; rfl
  have hrn := h.rr r rfl
  have cr : Conn ps start r := by obtain ⟨q, hq, rfl⟩ := List.mem_map.mp hrn; exact (h.val q hq).2.1
  have cx : Conn ps start x := by
    obtain ⟨a, b⟩ := p
    dsimp only at hr hx
    rcases hr with rfl | rfl <;> rcases hx with rfl | rfl
    · exact cr
    · exact .fwd cr hp
    · exact .bwd cr hp
    · exact cr
  refine ⟨?_, fun q hq => ?_, h.old, by rw [e2]; exact List.mem_append_left _ h.st, fun y hy => ?_, fun y e => by rw [e2]; exact List.mem_append_left _ (h.rr y e), fun q hq y hy hm hw hr' => ?_⟩
  · rw [e1]
    exact List.nodup_append.mpr ⟨h.nd, by simp, fun a ha b hb e => hn (by rw [List.mem_singleton.mp hb] at e; exact e ▸ ha)⟩
  · rcases List.mem_append.mp hq with z | z
    · exact h.val q z
    · rw [List.mem_singleton.mp z]; exact ⟨rfl, cx, nmP_mem.mpr ⟨p, hp, hx⟩⟩
  · rw [e2]
    rcases List.mem_append.mp hy with z | z
    · exact List.mem_append_left _ (h.wt y z)
    · exact List.mem_append_right _ z
  · rw [e1] at hm ⊢
    have hy' : y ∈ ks (ms ++ nw) := (List.mem_append.mp hm).resolve_right fun z => hw (List.mem_append_right _ z)
    obtain ⟨a, b⟩ := h.done q hq y hy hy' (fun z => hw (List.mem_append_left _ z)) hr'
    exact ⟨List.mem_append_left _ a, List.mem_append_left _ b⟩
theorem Wr.turn {ps : List (Int × Int)} {ms nw : Ps} {w : List Int} {r start : Int} (h : Wr ps ms nw w (some r) start) (hr : ∀ p ∈ ps, p.1 = r ∨ p.2 = r → p.1 ∈ ks (ms ++ nw) ∧ p.2 ∈ ks (ms ++ nw)) : Wr ps ms nw w none start :=
  ⟨h.nd, h.val, h.old, h.st, h.wt, (fun _ h => nomatch h), fun p hp x hx hm hw _ => by
    by_cases e : x = r
    · exact hr p hp (by rcases hx with z | z; exact .inl (z ▸ e); exact .inr (z ▸ e))
    · exact h.done p hp x hx hm hw (fun z => e (Option.some.inj z).symm)⟩
theorem Wr.clo {ps : List (Int × Int)} {ms nw : Ps} {start : Int} (h : Wr ps ms nw [] none start) : Clo ps (ks (ms ++ nw)) := fun p hp =>
  ⟨fun z => (h.done p hp p.1 (.inl rfl) z (fun z => nomatch z) (fun z => nomatch z)).2, fun z => (h.done p hp p.2 (.inr rfl) z (fun z => nomatch z) (fun z => nomatch z)).1⟩
structure Mks (ps : List (Int × Int)) (ms : Ps) : Prop where
  nd : (ks ms).Nodup
  sub : ∀ x ∈ ks ms, x ∈ nmP ps
  clo : Clo ps (ks ms)
  lt : ∀ p ∈ ms, p.2 < ms.length
  eqv : ∀ p ∈ ms, ∀ q ∈ ms, p.2 = q.2 ↔ Conn ps p.1 q.1
theorem Mks.nil (ps : List (Int × Int)) : Mks ps [] := ⟨List.nodup_nil, (fun _ h => nomatch h), (fun _ _ => ⟨(fun h => nomatch h), (fun h => nomatch h)⟩), (fun _ h => nomatch h), (fun _ h => nomatch h)⟩
theorem Mks.more {ps : List (Int × Int)} {ms nw : Ps} {start : Int} (h : Mks ps ms) (hs : start ∉ ks ms) (w : Wr ps ms nw [] none start) : Mks ps (ms ++ nw) := by
  have lo : ∀ p ∈ ms, p.2 < ms.length := h.lt
  have ap : ∀ p ∈ ms, ∀ q ∈ nw, ¬ Conn ps p.1 q.1 := fun p hp q hq c => by
    have c2 : Conn ps p.1 start := c.trans (w.val q hq).2.1.symm
    exact hs (Conn.closed (D := fun x => x ∈ ks ms) h.clo c2 (List.mem_map.mpr ⟨p, hp, rfl⟩))
  refine ⟨w.nd, w.sub, w.clo, fun p hp => ?_, fun p hp q hq => ?_⟩
  · have n0 : 0 < nw.length := by
      have := List.length_pos_of_mem w.st
      unfold ks at this; rwa [List.length_map] at this
    rw [List.length_append]
    rcases List.mem_append.mp hp with z | z
    · have := lo p z; omega
    · rw [(w.val p z).1]; omega
  · rcases List.mem_append.mp hp with z | z <;> rcases List.mem_append.mp hq with y | y
    · exact h.eqv p z q y
    · have := lo p z; have e := (w.val q y).1
      exact ⟨fun x => by omega, fun c => absurd c (ap p z q y)⟩
    · have := lo q y; have e := (w.val p z).1
      exact ⟨fun x => by omega, fun c => absurd c.symm (ap q y p z)⟩
    · rw [(w.val p z).1, (w.val q y).1]
      exact ⟨fun _ => (w.val p z).2.1.symm.trans (w.val q y).2.1, fun _ => rfl⟩
structure Gr (H : Hp) (g : Addr) (ps : List (Int × Int)) : Prop where
  get : ∃ qs : List Addr, H g = some (.lst (qs.map V.ref)) ∧ Paired (fun q p => H q = some (.tup [.int p.1, .int p.2])) qs ps
structure Mt (H : Hp) (d : Addr) (ps : List (Int × Int)) : Prop where
  get : ∃ rs : List (Int × Addr × List Int), Rd H d (.dK (rs.map fun r => (.inl r.1, .ref r.2.1))) ∧ (rs.map (·.1)).Nodup ∧ (∀ r ∈ rs, H r.2.1 = some (.lst (r.2.2.map V.int))) ∧
    (∀ r ∈ rs, ∀ k ∈ r.2.2, ∃ (j : Nat) (p : Int × Int), k = j ∧ ps[j]? = some p ∧ (p.1 = r.1 ∨ p.2 = r.1)) ∧ (∀ r ∈ rs, ∀ (j : Nat) p, ps[j]? = some p → (p.1 = r.1 ∨ p.2 = r.1) → (j : Int) ∈ r.2.2) ∧ ∀ x, x ∈ rs.map (·.1) ↔ x ∈ nmP ps
theorem Gr.mvX {H H' : Hp} {g m : Addr} {ps : List (Int × Int)} {kvs : List (Key × V)} (h : Gr H g ps) (s : SameX m H H') (hm : H m = some (.dK kvs)) : Gr H' g ps := by
  obtain ⟨qs, a, b⟩ := h
  exact ⟨qs, s _ _ (fun e => by rw [e, hm] at a; cases a) a, Paired.mono (fun q p z => s _ _ (fun e => by rw [e, hm] at z; cases z) z) b⟩
theorem Gr.mv {H H' : Hp} {g : Addr} {ps : List (Int × Int)} (h : Gr H g ps) (s : Same H H') : Gr H' g ps := let ⟨qs, a, b⟩ := h; ⟨qs, s _ _ a, Paired.mono (fun q p z => s _ _ z) b⟩
theorem Mt.mvX {H H' : Hp} {d m : Addr} {ps : List (Int × Int)} {kvs : List (Key × V)} (h : Mt H d ps) (s : SameX m H H') (hm : H m = some (.dK kvs)) (dm : d ≠ m) : Mt H' d ps := by
  obtain ⟨rs, a, b, c, e⟩ := h
  refine ⟨rs, ?_, b, fun r hr => s _ _ (fun e => by have := c r hr; rw [e, hm] at this; cases this) (c r hr), e⟩
  rcases a with a | ⟨o, a⟩
  · exact .inl (s _ _ dm a)
  · exact .inr ⟨o, s _ _ dm a⟩
end DM
namespace L2
open PySem PySem.Spec PyProof.Rows
section
variable {X : Cx} {o e : Expr} {es : List Expr} {to : TE} {t : TA} {name : Str} {apos cpos : Pos} {id : String} {r : V → List V → Hp → VK → Prop}
end
end L2
namespace L2
open PySem PySem.Spec PyProof.Rows
section
variable {X : Cx}
end
end L2
namespace DM
open PySem L2 PM
theorem Mks.same {ps : List (Int × Int)} {ms : Ps} (h : Mks ps ms) {x y : Int} (hx : x ∈ ks ms) (hy : y ∈ ks ms) : co ms x = co ms y ↔ Conn ps x y := by
  obtain ⟨⟨a, va⟩, ha, rfl⟩ := List.mem_map.mp hx
  obtain ⟨⟨b, vb⟩, hb, rfl⟩ := List.mem_map.mp hy
  dsimp only
  rw [show co ms a = va from PM.co_mem h.nd ha, show co ms b = vb from PM.co_mem h.nd hb]
  exact h.eqv _ ha _ hb
theorem Canon.congr {S S' : Int → Prop} {R : Int → Int → Prop} {o : List (List Int)} (h : Canon S R o) (e : ∀ x, S x ↔ S' x) : Canon S' R o := by
  have : S = S' := funext fun x => propext (e x)
  exact this ▸ h
end DM
namespace DM
open PySem L2 PM
theorem Conn.turned {ps qs : List (Int × Int)} (h : ∀ p ∈ ps, p ∈ qs ∨ (p.2, p.1) ∈ qs) {x y : Int} (k : Conn ps x y) : Conn qs x y := by
  induction k with
  | refl => exact .refl _
  | fwd _ m ih => exact (h _ m).elim (fun z => .fwd ih z) fun z => .bwd ih z
  | bwd _ m ih => exact (h _ m).elim (fun z => .bwd ih z) fun z => .fwd ih z
def mapP (f : Int → Int) (ps : List (Int × Int)) : List (Int × Int) := ps.map fun p => (f p.1, f p.2)
theorem Conn.map (f : Int → Int) {ps : List (Int × Int)} {x y : Int} (k : Conn ps x y) : Conn (mapP f ps) (f x) (f y) := by
  induction k with
  | refl => exact .refl _
  | fwd _ m ih => exact .fwd ih (List.mem_map.mpr ⟨_, m, rfl⟩)
  | bwd _ m ih => exact .bwd ih (List.mem_map.mpr ⟨_, m, rfl⟩)
structure Ld (f : Int → Int) (ent : Ps) (xs : List Int) : Prop where
  nd : (ks ent).Nodup
  len : ent.length ≤ xs.length
  mem : ∀ x, x ∈ ks ent ↔ x ∈ xs
  val : ∀ x ∈ ks ent, co ent x = f x
theorem ks_put_iff {l : Ps} (nd : (ks l).Nodup) (k v x : Int) : x ∈ ks (put l k v) ↔ x = k ∨ x ∈ ks l := by
  refine ⟨ks_put, fun h => ?_⟩
  have e := valV_put (dk l) (.inl k) (.inl x) (.int v)
  rw [put_dk nd, val_dk (nd_put nd k v), val_dk nd] at e
  by_cases z : x ∈ ks (put l k v)
  · exact z
  · rw [if_neg z] at e
    by_cases q : x = k
    · subst q; rw [if_pos rfl] at e; cases e
    · rw [if_neg (fun w => q (Sum.inl.inj w)), if_pos (h.resolve_left q)] at e; cases e
theorem Ld.nil (f : Int → Int) : Ld f [] [] := ⟨List.nodup_nil, Nat.le_refl _, fun _ => Iff.rfl, fun _ h => nomatch h⟩
theorem Ld.put {f : Int → Int} {ent : Ps} {xs : List Int} (h : Ld f ent xs) (x : Int) : Ld f (put ent x (f x)) (xs ++ [x]) := by
  refine ⟨nd_put h.nd _ _, ?_, fun y => ?_, fun y hy => ?_⟩
  · have := len_put ent x (f x)
    have := h.len
    rw [List.length_append, List.length_singleton]; omega
  · rw [ks_put_iff h.nd, h.mem, List.mem_append, List.mem_singleton, or_comm]
  · rw [co_put h.nd]
    by_cases q : y = x
    · rw [if_pos q, q]
    · rw [if_neg q]
      exact h.val y (((ks_put_iff h.nd _ _ _).mp hy).resolve_left q)
end DM
namespace DM
open PySem L2 PM
theorem lex_sort {p : List (List Int)} (n : p.Nodup) (h : p.Pairwise fun x y => L2.lexLt y x = false) : p.Pairwise fun a b => L2.lexLt a b = true := by
  refine h.imp₂ (fun a b h k => ?_) n
  cases e : L2.lexLt a b with
  | true => rfl
  | false => exact absurd (lexLt_total _ _ e h) k
theorem lex_nodup {p : List (List Int)} (h : p.Pairwise fun a b => L2.lexLt a b = true) : p.Nodup := h.imp fun {a b} h e => by rw [e, lexLt_irrefl] at h; cases h
theorem Canon.sorted {S : Int → Prop} {R : Int → Int → Prop} {o p : List (List Int)} (h : Canon S R o) (pm : p.Perm o) (so : p.Pairwise fun x y => L2.lexLt y x = false) : p = o :=
  sorted_eq lex_as (lex_sort (pm.nodup_iff.mpr (lex_nodup h.lex)) so) h.lex fun x => pm.mem_iff
end DM
namespace DM
open PySem L2
def Cr.ins (c : Cr) : List Int := [c.i1, c.i2]
def Cr.outs (c : Cr) : List Int := [c.o1, c.o2]
def insA (cs : List Cr) : List Int := cs.flatMap Cr.ins
def outsA (cs : List Cr) : List Int := cs.flatMap Cr.outs
def Colour (ch : Int → Bool) (c : Cr) : Prop := ch c.o1 = ch c.i2 ∧ ch c.o2 = ch c.i1 ∧ ch c.i2 = !ch c.i1
structure Flow (cs : List Cr) : Prop where
  perm : (insA cs).Perm (outsA cs)
  nd : (insA cs).Nodup
  col : ∃ ch : Int → Bool, ∀ c ∈ cs, Colour ch c
theorem ins_nm {cs : List Cr} {x : Int} (h : x ∈ insA cs) : ∃ c ∈ cs, x ∈ c.nm := by
  obtain ⟨c, hc, hx⟩ := List.mem_flatMap.mp h
  refine ⟨c, hc, ?_⟩
  simp [Cr.ins] at hx; simp [Cr.nm]; rcases hx with z | z <;> simp [z]
theorem nm_in {cs : List Cr} (p : (insA cs).Perm (outsA cs)) {c : Cr} (hc : c ∈ cs) {x : Int} (hx : x ∈ c.nm) : x ∈ insA cs := by
  have io : ∀ x, x ∈ c.outs → x ∈ insA cs := fun x h => p.mem_iff.mpr (List.mem_flatMap.mpr ⟨c, hc, h⟩)
  have ii : ∀ x, x ∈ c.ins → x ∈ insA cs := fun x h => List.mem_flatMap.mpr ⟨c, hc, h⟩
  simp [Cr.nm] at hx
  rcases hx with z | z | z | z
  · exact ii x (by simp [Cr.ins, z])
  · exact io x (by simp [Cr.outs, z])
  · exact ii x (by simp [Cr.ins, z])
  · exact io x (by simp [Cr.outs, z])
theorem insA_map (f : Int → Int) (cs : List Cr) : insA (cs.map (Cr.map f)) = (insA cs).map f := by
  unfold insA
  induction cs with
  | nil => rfl
  | cons c cs ih => rw [List.map_cons, List.flatMap_cons, List.flatMap_cons, List.map_append, ih]; rfl
theorem outsA_map (f : Int → Int) (cs : List Cr) : outsA (cs.map (Cr.map f)) = (outsA cs).map f := by
  unfold outsA
  induction cs with
  | nil => rfl
  | cons c cs ih => rw [List.map_cons, List.flatMap_cons, List.flatMap_cons, List.map_append, ih]; rfl
theorem here_split {here : List Int} {p : Nat} (h : p + 1 < here.length) : here = here.take p ++ here.getD p 0 :: here.getD (p + 1) 0 :: here.drop (p + 2) := by
  have e1 := List.take_append_drop p here
  have e2 : here.drop p = here[p] :: here.drop (p + 1) := List.drop_eq_getElem_cons (by omega)
  have e3 : here.drop (p + 1) = here[p + 1] :: here.drop (p + 2) := List.drop_eq_getElem_cons h
  rw [List.getD_eq_getElem?_getD, List.getD_eq_getElem?_getD, List.getElem?_eq_getElem (show p < here.length by omega), List.getElem?_eq_getElem h, Option.getD_some, Option.getD_some, ← e3, ← e2, e1]
theorem stepH_eq {n k : Nat} {l : Int} {here : List Int} (h : l.natAbs - 1 + 1 < here.length) : stepH n k l here = here.take (l.natAbs - 1) ++ ((n + 2 * k : Nat) : Int) :: ((n + 2 * k + 1 : Nat) : Int) :: here.drop (l.natAbs - 1 + 2) := by
  unfold stepH
  conv => lhs; rw [here_split h]
  generalize l.natAbs - 1 = p at h ⊢
  have lt : (here.take p).length = p := by rw [List.length_take]; omega
  rw [List.set_append_right _ _ (by omega), lt, Nat.sub_self, List.set_cons_zero, List.set_append_right _ _ (by omega), lt, Nat.add_sub_cancel_left, List.set_cons_succ, List.set_cons_zero]
theorem stepC_ins (n k : Nat) (l : Int) (here : List Int) : (stepC n k l here).ins.Perm [here.getD (l.natAbs - 1) 0, here.getD (l.natAbs - 1 + 1) 0] := by
  unfold stepC Cr.ins; split
  · exact List.Perm.swap _ _ _
  · exact .refl _
theorem stepC_outs (n k : Nat) (l : Int) (here : List Int) : (stepC n k l here).outs.Perm [((n + 2 * k : Nat) : Int), ((n + 2 * k + 1 : Nat) : Int)] := by
  unfold stepC Cr.outs; split
  · push_cast; exact .refl _
  · push_cast; exact List.Perm.swap _ _ _
structure Braid (n : Nat) (ls : List Int) (k : Nat) : Prop where
  perm : (insA (crsF n ls k) ++ hereF n ls k).Perm (outsA (crsF n ls k) ++ (List.range n).map fun i : Nat => (i : Int))
  nd : (insA (crsF n ls k) ++ hereF n ls k).Nodup
  lt : ∀ x ∈ insA (crsF n ls k) ++ hereF n ls k, 0 ≤ x ∧ x < ((n + 2 * k : Nat) : Int)
theorem braid {n most : Nat} {ls : List Int} (hl : Letters n most ls) : ∀ k, k ≤ ls.length → Braid n ls k
  | 0, _ => by
    refine ⟨by simp [crsF, insA, outsA, hereF], ?_, fun x hx => ?_⟩
    · show ([] ++ (List.range n).map fun i : Nat => (i : Int)).Nodup
      rw [List.nil_append]
      exact List.pairwise_map.mpr (List.nodup_range.imp fun h k => h (by omega))
    · have hx : x ∈ (List.range n).map fun i : Nat => (i : Int) := by simpa [crsF, insA, hereF] using hx
      obtain ⟨j, hj, rfl⟩ := List.mem_map.mp hx
      have := List.mem_range.mp hj
      omega
  | k + 1, hk => by
    obtain ⟨p, nd, lt⟩ := braid hl k (by omega)
    have lm : ls.getD k 0 ∈ ls := by rw [List.getD_eq_getElem?_getD, List.getElem?_eq_getElem (by omega)]; exact List.getElem_mem _
    obtain ⟨l0, l1⟩ := hl.2 _ lm
    have len := hereF_len n ls k
    have ei : insA (crsF n ls (k + 1)) = insA (crsF n ls k) ++ (stepC n k (ls.getD k 0) (hereF n ls k)).ins := by rw [crsF]; unfold insA; rw [List.flatMap_append]; simp
    have eo : outsA (crsF n ls (k + 1)) = outsA (crsF n ls k) ++ (stepC n k (ls.getD k 0) (hereF n ls k)).outs := by rw [crsF]; unfold outsA; rw [List.flatMap_append]; simp
    have eh : hereF n ls (k + 1) = stepH n k (ls.getD k 0) (hereF n ls k) := rfl
    have ci := stepC_ins n k (ls.getD k 0) (hereF n ls k)
    have co := stepC_outs n k (ls.getD k 0) (hereF n ls k)
    generalize ls.getD k 0 = l at l0 l1 ei eo eh ci co
    generalize hereF n ls k = here at p nd lt len ei eo eh ci co
    generalize stepC n k l here = C at ei eo ci co
    generalize insA (crsF n ls k) = I at p nd lt ei
    generalize outsA (crsF n ls k) = O at p eo
    have hb : l.natAbs - 1 + 1 < here.length := by omega
    have sp := here_split hb
    rw [stepH_eq hb] at eh
    generalize l.natAbs - 1 = q at sp eh hb ci
    generalize here.getD q 0 = x at sp ci
    generalize here.getD (q + 1) 0 = y at sp ci
    generalize here.take q = A at sp eh
    generalize here.drop (q + 2) = B at sp eh
    subst sp
    have more : ((I ++ C.ins) ++ (A ++ ((n + 2 * k : Nat) : Int) :: ((n + 2 * k + 1 : Nat) : Int) :: B)).Perm ((I ++ (A ++ x :: y :: B)) ++ [((n + 2 * k : Nat) : Int), ((n + 2 * k + 1 : Nat) : Int)]) := by
      refine List.perm_iff_count.mpr fun z => ?_
      have := ci.count_eq z
      simp only [List.count_append, List.count_cons, List.count_nil] at this ⊢
      omega
    refine ⟨?_, ?_, fun z hz => ?_⟩
    · rw [ei, eo, eh]
      refine more.trans ?_
      refine List.perm_iff_count.mpr fun z => ?_
      have h1 := p.count_eq z
      have h2 := co.count_eq z
      simp only [List.count_append, List.count_cons, List.count_nil] at h1 h2 ⊢
      omega
    · rw [ei, eh]
      refine more.nodup_iff.mpr (List.nodup_append.mpr ⟨nd, ?_, fun a ha b hb => ?_⟩)
      · rw [List.nodup_cons]
        refine ⟨fun z => ?_, by simp⟩
        have := List.mem_singleton.mp z; omega
      · have := lt a ha
        simp only [List.mem_cons, List.not_mem_nil, or_false] at hb
        rcases hb with rfl | rfl <;> omega
    · rw [ei, eh] at hz
      rcases List.mem_append.mp (more.mem_iff.mp hz) with h | h
      · have := lt z h; omega
      · simp only [List.mem_cons, List.not_mem_nil, or_false] at h
        rcases h with rfl | rfl <;> omega
def posF (n : Nat) (ls : List Int) (x : Int) : Nat := if x < (n : Int) then x.toNat else (ls.getD ((x.toNat - n) / 2) 0).natAbs - 1 + (x.toNat - n) % 2
theorem pos_here {n most : Nat} {ls : List Int} (hl : Letters n most ls) : ∀ k, k ≤ ls.length → ∀ p, p < n → posF n ls ((hereF n ls k).getD p 0) = p
  | 0, _, p, hp => by
    rw [hereF, List.getD_eq_getElem?_getD, List.getElem?_map, List.getElem?_range hp]
    show posF n ls (p : Int) = p
    unfold posF
    rw [if_pos (by omega)]; omega
  | k + 1, hk, p, hp => by
    have lm : ls.getD k 0 ∈ ls := by rw [List.getD_eq_getElem?_getD, List.getElem?_eq_getElem (by omega)]; exact List.getElem_mem _
    obtain ⟨l0, l1⟩ := hl.2 _ lm
    rw [hereF, stepH_at (hereF_len n ls k) l0 l1]
    by_cases e1 : p = (ls.getD k 0).natAbs - 1
    · rw [if_pos e1]
      unfold posF
      rw [if_neg (by omega), show ((n + 2 * k : Nat) : Int).toNat - n = 2 * k by omega, Nat.mul_div_cancel_left k (by decide), Nat.mul_mod_right]
      omega
    · rw [if_neg e1]
      by_cases e2 : p = (ls.getD k 0).natAbs - 1 + 1
      · rw [if_pos e2]
        unfold posF
        rw [if_neg (by omega), show ((n + 2 * k + 1 : Nat) : Int).toNat - n = 2 * k + 1 by omega, show (2 * k + 1) / 2 = k by omega, show (2 * k + 1) % 2 = 1 by omega]
        omega
      · rw [if_neg e2]
        exact pos_here hl k (by omega) p hp
def parF (n : Nat) (ls : List Int) (x : Int) : Bool := posF n ls x % 2 == 0
theorem par_step {n most : Nat} {ls : List Int} (hl : Letters n most ls) {k : Nat} (hk : k < ls.length) : Colour (parF n ls) (stepC n k (ls.getD k 0) (hereF n ls k)) := by
  have lm : ls.getD k 0 ∈ ls := by rw [List.getD_eq_getElem?_getD, List.getElem?_eq_getElem hk]; exact List.getElem_mem _
  obtain ⟨l0, l1⟩ := hl.2 _ lm
  have p0 := pos_here hl k (by omega) ((ls.getD k 0).natAbs - 1) (by omega)
  have p1 := pos_here hl k (by omega) ((ls.getD k 0).natAbs - 1 + 1) (by omega)
  have q0 : posF n ls ((n : Int) + 2 * (k : Int)) = (ls.getD k 0).natAbs - 1 := by
    unfold posF
    rw [if_neg (by omega), show ((n : Int) + 2 * (k : Int)).toNat - n = 2 * k by omega, Nat.mul_div_cancel_left k (by decide), Nat.mul_mod_right]
    omega
  have q1 : posF n ls ((n : Int) + 2 * (k : Int) + 1) = (ls.getD k 0).natAbs - 1 + 1 := by
    unfold posF
    rw [if_neg (by omega), show ((n : Int) + 2 * (k : Int) + 1).toNat - n = 2 * k + 1 by omega, show (2 * k + 1) / 2 = k by omega, show (2 * k + 1) % 2 = 1 by omega]
  have par : ∀ m : Nat, ((m + 1) % 2 == 0) = !(m % 2 == 0) := fun m => by
    rcases Nat.mod_two_eq_zero_or_one m with h | h
    · have : (m + 1) % 2 = 1 := by omega
      rw [h, this]; rfl
    · have : (m + 1) % 2 = 0 := by omega
      rw [h, this]; rfl
  unfold stepC Colour parF
  split
  · dsimp only
    rw [p0, p1, q0, q1]
    refine ⟨rfl, rfl, ?_⟩
    rw [par]; simp
  · dsimp only
    rw [p0, p1, q0, q1]
    exact ⟨rfl, rfl, par _⟩
theorem par_all {n most : Nat} {ls : List Int} (hl : Letters n most ls) : ∀ k, k ≤ ls.length → ∀ c ∈ crsF n ls k, Colour (parF n ls) c
  | 0, _, c, h => by cases h
  | k + 1, hk, c, h => by
    rw [crsF] at h
    rcases List.mem_append.mp h with z | z
    · exact par_all hl k (by omega) c z
    · rw [List.mem_singleton.mp z]; exact par_step hl (by omega)
theorem phi_low {n most : Nat} {ls : List Int} (hl : Letters n most ls) {j : Nat} (hj : j < n) : phi n (hereF n ls ls.length) (j : Int) = j := by
  unfold phi
  cases e : lkF (hereF n ls ls.length) n (j : Int) with
  | none => rfl
  | some v =>
    obtain ⟨q, e1, e2, e3⟩ := lkF_some e
    rcases (here_low hl ls.length (Nat.le_refl _)).1 q e2 with z | z
    · rw [z] at e3
      rw [e1]; show (q : Int) = j; omega
    · omega
theorem lk_here {here : List Int} : ∀ {n p : Nat}, p < n → n ≤ here.length → here.Nodup → lkF here n (here.getD p 0) = some (p : Int)
  | 0, p, h, _, _ => by omega
  | n + 1, p, h, hn, nd => by
    rw [lkF]
    by_cases e : here.getD p 0 = here.getD n 0
    · rw [if_pos e]
      rw [List.getD_eq_getElem?_getD, List.getD_eq_getElem?_getD, List.getElem?_eq_getElem (by omega), List.getElem?_eq_getElem (by omega)] at e
      have := (List.getElem_inj nd).mp e
      rw [this]
    · rw [if_neg e]
      exact lk_here (by rcases Nat.lt_succ_iff_lt_or_eq.mp h with z | z; exact z; exact absurd (by rw [z]) e) (by omega) nd
theorem Flow.closed {n most : Nat} {ls : List Int} (hl : Letters n most ls) : Flow (closedC n ls) := by
  obtain ⟨p, nd, _⟩ := braid hl ls.length (Nat.le_refl _)
  have len := hereF_len n ls ls.length
  obtain ⟨ndI, ndH, dj⟩ := List.nodup_append.mp nd
  have onI : (insA (crsF n ls ls.length)).map (phi n (hereF n ls ls.length)) = insA (crsF n ls ls.length) := by
    refine (List.map_congr_left fun x hx => ?_).trans (List.map_id _)
    unfold phi
    cases e : lkF (hereF n ls ls.length) n x with
    | none => rfl
    | some v =>
      obtain ⟨q, _, e2, e3⟩ := lkF_some e
      rw [List.getD_eq_getElem?_getD, List.getElem?_eq_getElem (by omega)] at e3
      exact absurd e3 (dj x hx _ (List.getElem_mem _))
  have onH : (hereF n ls ls.length).map (phi n (hereF n ls ls.length)) = (List.range n).map fun i : Nat => (i : Int) := by
    refine List.ext_getElem? fun i => ?_
    rw [List.getElem?_map, List.getElem?_map]
    by_cases h : i < n
    · rw [List.getElem?_range h, List.getElem?_eq_getElem (by omega)]
      show some (phi n (hereF n ls ls.length) _) = some _
      have e : (hereF n ls ls.length)[i]'(by omega) = (hereF n ls ls.length).getD i 0 := by rw [List.getD_eq_getElem?_getD, List.getElem?_eq_getElem (by omega)]; rfl
      rw [e]
      unfold phi
      rw [lk_here h (by omega) ndH]; rfl
    · rw [List.getElem?_eq_none (by omega), List.getElem?_eq_none (by rw [List.length_range]; omega)]; rfl
  have onR : ((List.range n).map fun i : Nat => (i : Int)).map (phi n (hereF n ls ls.length)) = (List.range n).map fun i : Nat => (i : Int) := by
    rw [List.map_map]
    refine List.map_congr_left fun j hj => ?_
    exact phi_low hl (List.mem_range.mp hj)
  have q := p.map (phi n (hereF n ls ls.length))
  rw [List.map_append, List.map_append, onH, onR] at q
  have q := (List.perm_append_right_iff _).mp q
  refine ⟨?_, ?_, parF n ls, fun c hc => ?_⟩
  · unfold closedC; rw [insA_map, outsA_map]; exact q
  · unfold closedC; rw [insA_map, onI]; exact ndI
  · obtain ⟨d, hd, rfl⟩ := List.mem_map.mp hc
    have cd := par_all hl ls.length (Nat.le_refl _) d hd
    have keep : ∀ x, parF n ls (phi n (hereF n ls ls.length) x) = parF n ls x := fun x => by
      unfold phi
      cases e : lkF (hereF n ls ls.length) n x with
      | none => rfl
      | some v =>
        obtain ⟨r, e1, e2, e3⟩ := lkF_some e
        show parF n ls v = _
        unfold parF
        rw [e3, pos_here hl ls.length (Nat.le_refl _) r e2, e1]
        unfold posF
        rw [if_pos (by omega)]; simp
    unfold Colour at cd ⊢
    show parF n ls (phi _ _ d.o1) = parF n ls (phi _ _ d.i2) ∧ parF n ls (phi _ _ d.o2) = parF n ls (phi _ _ d.i1) ∧ parF n ls (phi _ _ d.i2) = !parF n ls (phi _ _ d.i1)
    rw [keep, keep, keep, keep]; exact cd
theorem into_perm {l : List Int} (nd : l.Nodup) {e v : Int} (h : e ∈ l) : (l.map (inTo e v) ++ [e]).Perm (l ++ [v]) := by
  induction l with
  | nil => cases h
  | cons x l ih =>
    obtain ⟨n1, n2⟩ := List.nodup_cons.mp nd
    rw [List.map_cons]
    by_cases q : x = e
    · subst q
      have id' : l.map (inTo x v) = l := (List.map_congr_left fun y hy => by unfold inTo; rw [if_neg (fun z => by subst z; exact n1 hy)]; rfl).trans (List.map_id _)
      rw [id']
      unfold inTo
      rw [if_pos rfl]
      refine List.perm_iff_count.mpr fun z => ?_
      simp only [List.count_append, List.count_cons, List.count_nil]
      omega
    · have he : e ∈ l := (List.mem_cons.mp h).resolve_left (Ne.symm q)
      have := ih n2 he
      unfold inTo at this ⊢
      rw [if_neg q]
      exact this.cons x
theorem insA_curl (e v : Int) (cs : List Cr) : insA (cs.map (curlM e v)) = (insA cs).map (inTo e v) := by
  unfold insA
  induction cs with
  | nil => rfl
  | cons c cs ih => rw [List.map_cons, List.flatMap_cons, List.flatMap_cons, List.map_append, ih]; rfl
theorem outsA_curl (e v : Int) (cs : List Cr) : outsA (cs.map (curlM e v)) = outsA cs := by
  unfold outsA
  induction cs with
  | nil => rfl
  | cons c cs ih => rw [List.map_cons, List.flatMap_cons, List.flatMap_cons, ih]; rfl
theorem insA_app (a b : List Cr) : insA (a ++ b) = insA a ++ insA b := List.flatMap_append
theorem outsA_app (a b : List Cr) : outsA (a ++ b) = outsA a ++ outsA b := List.flatMap_append
theorem Flow.ofMk {rings : List Int} {cs : List Cr} (h : Mk rings cs) : Flow cs := by
  induction h with
  | closed n1 hl => exact Flow.closed hl
  | @curl rings cs e m sg b hm me mm mx _ ih =>
    obtain ⟨p, nd, ch, col⟩ := ih
    obtain ⟨rn, ra⟩ := hm.apart
    have small : ∀ x ∈ insA cs, x ≤ m := fun x hx => by
      obtain ⟨c, hc, hx'⟩ := ins_nm hx
      exact mx x (List.mem_append_right _ (List.mem_flatMap.mpr ⟨c, hc, hx'⟩))
    have em := mx e me
    unfold curledC
    have i1 : insA [curlC rings e (m + 1) sg b] = [m + 1, e] ∨ insA [curlC rings e (m + 1) sg b] = [e, m + 1] := by
      unfold curlC; cases b
      · right; rfl
      · left; rfl
    have o1 : outsA [curlC rings e (m + 1) sg b] = [lastOf rings e (m + 1), m + 1] ∨ outsA [curlC rings e (m + 1) sg b] = [m + 1, lastOf rings e (m + 1)] := by
      unfold curlC; cases b
      · right; rfl
      · left; rfl
    have mapI : insA (cs.map (curlM e (lastOf rings e (m + 1)))) = (insA cs).map (inTo e (lastOf rings e (m + 1))) := insA_curl ..
    have key : ((insA cs).map (inTo e (lastOf rings e (m + 1))) ++ [e]).Perm (insA cs ++ [lastOf rings e (m + 1)]) := by
      by_cases q : e ∈ rings
      · unfold lastOf; rw [if_pos q]
        have id' : (insA cs).map (inTo e e) = insA cs := by
          refine (List.map_congr_left fun y hy => ?_).trans (List.map_id _)
          unfold inTo
          split
          · next z => exact z.symm
          · rfl
        rw [id']
      · have he : e ∈ insA cs := by
          rcases List.mem_append.mp me with z | z
          · exact absurd z q
          · obtain ⟨c, hc, hx⟩ := List.mem_flatMap.mp z
            exact nm_in p hc hx
        exact into_perm nd he
    have tot : (insA (cs.map (curlM e (lastOf rings e (m + 1))) ++ [curlC rings e (m + 1) sg b])).Perm (insA cs ++ [lastOf rings e (m + 1), m + 1]) := by
      rw [insA_app, mapI]
      refine List.perm_iff_count.mpr fun z => ?_
      have h1 := key.count_eq z
      rcases i1 with e1 | e1 <;> rw [e1] <;> simp only [List.count_append, List.count_cons, List.count_nil] at h1 ⊢ <;> omega
    refine ⟨?_, ?_, fun x => if x = m + 1 then !ch e else if x = lastOf rings e (m + 1) then ch e else ch x, fun c hc => ?_⟩
    · refine tot.trans ?_
      rw [outsA_app, outsA_curl]
      refine List.perm_iff_count.mpr fun z => ?_
      have h1 := p.count_eq z
      rcases o1 with e1 | e1 <;> rw [e1] <;> simp only [List.count_append, List.count_cons, List.count_nil] at h1 ⊢ <;> omega
    · refine tot.nodup_iff.mpr (List.nodup_append.mpr ⟨nd, ?_, fun a ha x hx => ?_⟩)
      · rw [List.nodup_cons]
        refine ⟨fun z => ?_, by simp⟩
        have := List.mem_singleton.mp z
        unfold lastOf at this; split at this <;> omega
      · have := small a ha
        simp only [List.mem_cons, List.not_mem_nil, or_false] at hx
        rcases hx with rfl | rfl
        · unfold lastOf; split
          · next q =>
            intro z; subst z
            obtain ⟨c, hc, hx⟩ := ins_nm ha
            exact ra a q c hc hx
          · omega
        · omega
    · -- colours
      have lastEq : ∀ ch : Int → Bool, (if lastOf rings e (m + 1) = m + 1 then !ch e else if lastOf rings e (m + 1) = lastOf rings e (m + 1) then ch e else ch (lastOf rings e (m + 1))) = ch e := fun ch => by
        rw [if_neg (by unfold lastOf; split <;> omega), if_pos rfl]
      have old : ∀ x, x ≤ m → (if x = m + 1 then !ch e else if x = lastOf rings e (m + 1) then ch e else ch x) = ch x := fun x hx => by
        rw [if_neg (by omega)]
        by_cases q : x = lastOf rings e (m + 1)
        · rw [if_pos q]
          unfold lastOf at q
          split at q
          · rw [q]
          · omega
        · rw [if_neg q]
      have inn : ∀ x, x ≤ m → (fun x => if x = m + 1 then !ch e else if x = lastOf rings e (m + 1) then ch e else ch x) (inTo e (lastOf rings e (m + 1)) x) = ch x := fun x hx => by
        unfold inTo
        by_cases q : x = e
        · rw [if_pos q, q]; exact lastEq ch
        · rw [if_neg q]; exact old x hx
      rcases List.mem_append.mp hc with hc | hc
      · obtain ⟨d, hd, rfl⟩ := List.mem_map.mp hc
        have le : ∀ x ∈ d.nm, x ≤ m := fun x hx => mx x (List.mem_append_right _ (List.mem_flatMap.mpr ⟨d, hd, hx⟩))
        have cd := col d hd
        have a1 := inn d.i1 (le _ (by simp [Cr.nm]))
        have a2 := inn d.i2 (le _ (by simp [Cr.nm]))
        have b1 := old d.o1 (le _ (by simp [Cr.nm]))
        have b2 := old d.o2 (le _ (by simp [Cr.nm]))
        unfold Colour at cd ⊢
        unfold curlM
        dsimp only at a1 a2 ⊢
        rw [a1, a2, b1, b2]; exact cd
      · rw [List.mem_singleton.mp hc]
        have ee := old e em
        have l1 := lastEq ch
        have m1 : (if m + 1 = m + 1 then !ch e else if m + 1 = lastOf rings e (m + 1) then ch e else ch (m + 1)) = !ch e := if_pos rfl
        cases b
        · rw [show curlC rings e (m + 1) sg false = ⟨sg, e, m + 1, m + 1, lastOf rings e (m + 1)⟩ from rfl]
          unfold Colour
          dsimp only
          rw [m1, l1, ee]; exact ⟨rfl, rfl, rfl⟩
        · rw [show curlC rings e (m + 1) sg true = ⟨sg, m + 1, lastOf rings e (m + 1), e, m + 1⟩ from rfl]
          unfold Colour
          dsimp only
          rw [m1, l1, ee]; exact ⟨rfl, rfl, by simp⟩
  | @ren rings cs f hm inj ih =>
    obtain ⟨p, nd, ch, col⟩ := ih
    have inN : ∀ c ∈ cs, ∀ x ∈ c.nm, x ∈ names rings cs := fun c hc x hx => List.mem_append_right _ (List.mem_flatMap.mpr ⟨c, hc, hx⟩)
    refine ⟨?_, ?_, ?_⟩
    · rw [insA_map, outsA_map]; exact p.map f
    · rw [insA_map, List.nodup_iff_pairwise_ne, List.pairwise_map]
      refine List.Pairwise.imp_of_mem (fun {a b} ha hb z k => z ?_) (List.nodup_iff_pairwise_ne.mp nd)
      obtain ⟨c, hc, hx⟩ := ins_nm ha
      obtain ⟨d, hd, hy⟩ := ins_nm hb
      exact inj a (inN c hc a hx) b (inN d hd b hy) k
    · classical
      refine ⟨fun y => decide (∃ x, x ∈ names rings cs ∧ f x = y ∧ ch x = true), fun c hc => ?_⟩
      obtain ⟨d, hd, rfl⟩ := List.mem_map.mp hc
      have val : ∀ x ∈ d.nm, decide (∃ z, z ∈ names rings cs ∧ f z = f x ∧ ch z = true) = ch x := fun x hx => by
        cases q : ch x with
        | true => exact decide_eq_true ⟨x, inN d hd x hx, rfl, q⟩
        | false =>
          refine decide_eq_false fun ⟨z, hz, ez, cz⟩ => ?_
          rw [inj z hz x (inN d hd x hx) ez, q] at cz; cases cz
      have cd := col d hd
      unfold Colour at cd ⊢
      show decide (∃ z, z ∈ names rings cs ∧ f z = f d.o1 ∧ ch z = true) = decide (∃ z, z ∈ names rings cs ∧ f z = f d.i2 ∧ ch z = true) ∧ decide (∃ z, z ∈ names rings cs ∧ f z = f d.o2 ∧ ch z = true) = decide (∃ z, z ∈ names rings cs ∧ f z = f d.i1 ∧ ch z = true) ∧ decide (∃ z, z ∈ names rings cs ∧ f z = f d.i2 ∧ ch z = true) = !decide (∃ z, z ∈ names rings cs ∧ f z = f d.i1 ∧ ch z = true)
      rw [val d.o1 (by simp [Cr.nm]), val d.o2 (by simp [Cr.nm]), val d.i1 (by simp [Cr.nm]), val d.i2 (by simp [Cr.nm])]
      exact cd
  | perm _ p q ih =>
    obtain ⟨pp, nd, ch, col⟩ := ih
    exact ⟨(q.flatMap_right _).trans (pp.trans (q.symm.flatMap_right _)), (q.flatMap_right _).nodup_iff.mpr nd, ch, fun c hc => col c (q.mem_iff.mp hc)⟩
end DM
namespace DM
open PySem L2
structure Wf (rings : List Int) (cs : List Cr) : Prop where
  sg : ∀ c ∈ cs, c.s = 1 ∨ c.s = -1
  perm : (insA cs).Perm (outsA cs)
  nd : (rings ++ insA cs).Nodup
theorem Wf.ofMk {rings : List Int} {cs : List Cr} (h : Mk rings cs) : Wf rings cs := by
  have f := Flow.ofMk h
  obtain ⟨a, b⟩ := h.apart
  refine ⟨h.sg, f.perm, List.nodup_append.mpr ⟨a, f.nd, fun r hr x hx e => ?_⟩⟩
  obtain ⟨c, hc, hn⟩ := ins_nm hx
  exact b r hr c hc (e ▸ hn)
theorem Wf.nil : Wf [] [] := ⟨(fun _ h => nomatch h), .refl _, List.nodup_nil⟩
def rpl (n v : Int) (l : List Int) : List Int := l.map fun x => if x = n then v else x
theorem rpl_no {n v : Int} {l : List Int} (h : n ∉ l) : rpl n v l = l := by
  unfold rpl
  conv => rhs; rw [← List.map_id l]
  exact List.map_congr_left fun x hx => if_neg fun e => h (by rw [← e]; exact hx)
theorem rpl_perm {n v : Int} : ∀ {l : List Int}, l.Nodup → n ∈ l → (rpl n v l ++ [n]).Perm (l ++ [v])
  | a :: l, nd, h => by
    rw [List.nodup_cons] at nd
    by_cases e : a = n
    · subst e
      have : rpl a v (a :: l) = v :: rpl a v l := by unfold rpl; rw [List.map_cons, if_pos rfl]
      rw [this, rpl_no nd.1]
      refine List.perm_iff_count.mpr fun x => ?_
      simp only [List.cons_append, List.count_cons, List.count_append, List.count_nil]
      omega
    · have : rpl n v (a :: l) = a :: rpl n v l := by unfold rpl; rw [List.map_cons, if_neg e]
      rw [this]
      exact (rpl_perm nd.2 ((List.mem_cons.mp h).resolve_left (Ne.symm e))).cons a
def wo (n : Int) (l : List Int) : List Int := l.filter fun x => decide (x ≠ n)
theorem wo_no {n : Int} {l : List Int} (h : n ∉ l) : wo n l = l := List.filter_eq_self.mpr fun x hx => decide_eq_true fun e => h (e ▸ hx)
theorem wo_perm {n : Int} : ∀ {l : List Int}, l.Nodup → n ∈ l → (wo n l ++ [n]).Perm l
  | a :: l, nd, h => by
    rw [List.nodup_cons] at nd
    unfold wo
    by_cases e : a = n
    · subst e
      rw [List.filter_cons, if_neg (by simp)]
      have := wo_no nd.1
      unfold wo at this
      rw [this]
      exact List.perm_append_comm
    · rw [List.filter_cons, if_pos (by simpa using e)]
      exact (wo_perm nd.2 ((List.mem_cons.mp h).resolve_left (Ne.symm e))).cons a
theorem wo_mem {n x : Int} {l : List Int} : x ∈ wo n l ↔ x ∈ l ∧ x ≠ n := by
  unfold wo; rw [List.mem_filter, decide_eq_true_eq]
structure Op (R I O R' I' : List Int) (e v : Int) (X : List Int) : Prop where
  all : (R' ++ I' ++ [e]).Perm (R ++ I ++ X)
  out : (I' ++ [e]).Perm (O ++ [v])
theorem op_cut {R I O : List Int} {e v : Int} (nd : (R ++ I).Nodup) (io : I.Perm O) (he : e ∈ R ++ I) (hv : (e ∈ R ∧ v = e) ∨ e ∉ R) : Op R I O (wo e R) (rpl e v I) e v (if e ∈ R then [] else [v]) := by
  obtain ⟨nR, nI, dj⟩ := List.nodup_append.mp nd
  rcases hv with ⟨h, rfl⟩ | h
  · have nI' : v ∉ I := fun z => dj v h v z rfl
    rw [if_pos h]
    refine ⟨?_, ?_⟩
    · have p := wo_perm nR h
      rw [rpl_no nI']
      refine List.perm_iff_count.mpr fun x => ?_
      have := p.count_eq x
      simp only [List.count_append, List.count_nil] at this ⊢
      omega
    · rw [rpl_no nI']; exact io.append_right _
  · have hI : e ∈ I := (List.mem_append.mp he).resolve_left h
    rw [if_neg h]
    have p := rpl_perm (v := v) nI hI
    refine ⟨?_, p.trans (io.append_right _)⟩
    rw [wo_no h]
    refine List.perm_iff_count.mpr fun x => ?_
    have := p.count_eq x
    simp only [List.count_append] at this ⊢
    omega
def inM (n v : Int) (c : Cr) : Cr := ⟨c.s, if c.i1 = n then v else c.i1, c.o1, if c.i2 = n then v else c.i2, c.o2⟩
theorem insA_inM (n v : Int) : ∀ cs : List Cr, insA (cs.map (inM n v)) = rpl n v (insA cs)
  | [] => rfl
  | c :: cs => by
    show _ :: _ :: insA (cs.map (inM n v)) = rpl n v (c.i1 :: c.i2 :: insA cs)
    rw [insA_inM n v cs]; rfl
theorem outsA_inM (n v : Int) : ∀ cs : List Cr, outsA (cs.map (inM n v)) = outsA cs
  | [] => rfl
  | c :: cs => by
    show _ :: _ :: outsA (cs.map (inM n v)) = c.o1 :: c.o2 :: outsA cs
    rw [outsA_inM n v cs]; rfl
def lastN (rings : List Int) (e m : Int) : Int := if e ∈ rings then e else m + 2
def curlS (rings : List Int) (cs : List Cr) (e m sg : Int) (under : Bool) : List Cr := cs.map (inM e (lastN rings e m)) ++ [if under = true then ⟨sg, e, m + 1, m + 1, lastN rings e m⟩ else ⟨sg, m + 1, lastN rings e m, e, m + 1⟩]
theorem Wf.curl {rings : List Int} {cs : List Cr} (h : Wf rings cs) {e m sg : Int} {under : Bool} (he : e ∈ rings ++ insA cs) (hm : ∀ y ∈ rings ++ insA cs, y ≤ m) (hs : sg = 1 ∨ sg = -1) : Wf (wo e rings) (curlS rings cs e m sg under) := by
  have o := op_cut (v := lastN rings e m) h.nd h.perm he (by unfold lastN; by_cases z : e ∈ rings <;> simp [z])
  have ins : (insA (curlS rings cs e m sg under)).Perm (rpl e (lastN rings e m) (insA cs) ++ [e, m + 1]) := by
    unfold curlS
    rw [insA_app, insA_inM]
    refine List.Perm.append_left _ ?_
    cases under
    · exact List.Perm.swap _ _ _
    · exact List.Perm.refl _
  have outs : (outsA (curlS rings cs e m sg under)).Perm (outsA cs ++ [lastN rings e m, m + 1]) := by
    unfold curlS
    rw [outsA_app, outsA_inM]
    refine List.Perm.append_left _ ?_
    cases under
    · exact List.Perm.refl _
    · exact List.Perm.swap _ _ _
  refine ⟨fun c hc => ?_, ?_, ?_⟩
  · rcases List.mem_append.mp hc with z | z
    · obtain ⟨d, hd, rfl⟩ := List.mem_map.mp z
      exact h.sg d hd
    · rw [List.mem_singleton.mp z]; cases under <;> exact hs
  · refine ins.trans (List.Perm.trans ?_ outs.symm)
    refine List.perm_iff_count.mpr fun x => ?_
    have := o.out.count_eq x
    simp only [List.count_append, List.count_cons, List.count_nil] at this ⊢
    omega
  · have p : (wo e rings ++ insA (curlS rings cs e m sg under)).Perm (rings ++ insA cs ++ (m + 1) :: (if e ∈ rings then [] else [lastN rings e m])) := by
      refine (ins.append_left _).trans ?_
      refine List.perm_iff_count.mpr fun x => ?_
      have := o.all.count_eq x
      simp only [List.count_append, List.count_cons, List.count_nil] at this ⊢
      omega
    refine p.nodup_iff.mpr (List.nodup_append.mpr ⟨h.nd, ?_, fun x hx y hy z => ?_⟩)
    · unfold lastN
      by_cases z : e ∈ rings
      · simp [z]
      · simp [z]
    · have hx := hm x hx
      unfold lastN at hy
      by_cases q : e ∈ rings
      · simp [q] at hy; omega
      · simp [q] at hy; omega
def pokeT (sd : Bool) (sg e f a b c d : Int) : List Cr := if sd = true then [⟨sg, f, c, e, a⟩, ⟨0 - sg, c, d, a, b⟩] else [⟨sg, c, d, e, a⟩, ⟨0 - sg, f, c, a, b⟩]
def topN (rings : List Int) (e m : Int) : Int := if e ∈ rings then m + 1 else m + 2
def pokeS (rings : List Int) (cs : List Cr) (e f m sg : Int) (sd : Bool) : List Cr := (cs.map (inM e (lastN rings e m))).map (inM f (lastN rings f (topN rings e m))) ++ pokeT sd sg e f (m + 1) (lastN rings e m) (topN rings e m + 1) (lastN rings f (topN rings e m))
theorem Wf.poke {rings : List Int} {cs : List Cr} (h : Wf rings cs) {e f m sg : Int} {sd : Bool} (he : e ∈ rings ++ insA cs) (hf : f ∈ rings ++ insA cs) (ne : e ≠ f) (hm : ∀ y ∈ rings ++ insA cs, y ≤ m) (hs : sg = 1 ∨ sg = -1) : Wf (wo f (wo e rings)) (pokeS rings cs e f m sg sd) := by
  have o := op_cut (v := lastN rings e m) h.nd h.perm he (by unfold lastN; by_cases z : e ∈ rings <;> simp [z])
  have fr : f ∈ wo e rings ↔ f ∈ rings := by rw [wo_mem]; exact ⟨fun z => z.1, fun z => ⟨z, Ne.symm ne⟩⟩
  have lx : ∀ x ∈ (if e ∈ rings then ([] : List Int) else [lastN rings e m]), x = m + 2 ∧ e ∉ rings := fun x hx => by
    by_cases z : e ∈ rings
    · rw [if_pos z] at hx; cases hx
    · rw [if_neg z, List.mem_singleton] at hx
      unfold lastN at hx
      rw [if_neg z] at hx
      exact ⟨hx, z⟩
  have nd1 : (rings ++ insA cs ++ (if e ∈ rings then [] else [lastN rings e m])).Nodup := by
    refine List.nodup_append.mpr ⟨h.nd, by split <;> simp, fun x hx y hy z => ?_⟩
    have h1 := hm x hx
    have h2 := (lx y hy).1
    omega
  have nd2 : (wo e rings ++ rpl e (lastN rings e m) (insA cs)).Nodup := by
    have := o.all.nodup_iff.mpr nd1
    exact (List.nodup_append.mp this).1
  have hf2 : f ∈ wo e rings ++ rpl e (lastN rings e m) (insA cs) := by
    have : f ∈ wo e rings ++ rpl e (lastN rings e m) (insA cs) ++ [e] := o.all.mem_iff.mpr (List.mem_append_left _ hf)
    rcases List.mem_append.mp this with z | z
    · exact z
    · exact absurd (List.mem_singleton.mp z).symm ne
  have o2 := op_cut (O := rpl e (lastN rings e m) (insA cs)) (v := lastN rings f (topN rings e m)) nd2 (.refl _) hf2 (by
    rw [fr]; unfold lastN; by_cases z : f ∈ rings <;> simp [z])
  have ef : (if f ∈ wo e rings then ([] : List Int) else [lastN rings f (topN rings e m)]) = (if f ∈ rings then [] else [lastN rings f (topN rings e m)]) := by
    by_cases z : f ∈ rings
    · rw [if_pos (fr.mpr z), if_pos z]
    · rw [if_neg (fun y => z (fr.mp y)), if_neg z]
  rw [ef] at o2
  have ins : (insA (pokeS rings cs e f m sg sd)).Perm (rpl f (lastN rings f (topN rings e m)) (rpl e (lastN rings e m) (insA cs)) ++ [e, f, m + 1, topN rings e m + 1]) := by
    unfold pokeS
    rw [insA_app, insA_inM, insA_inM]
    refine List.Perm.append_left _ ?_
    cases sd
    · show [topN rings e m + 1, e, f, m + 1].Perm [e, f, m + 1, topN rings e m + 1]
      refine List.perm_iff_count.mpr fun x => ?_
      simp only [List.count_cons, List.count_nil]; omega
    · show [f, e, topN rings e m + 1, m + 1].Perm [e, f, m + 1, topN rings e m + 1]
      refine List.perm_iff_count.mpr fun x => ?_
      simp only [List.count_cons, List.count_nil]; omega
  have outs : (outsA (pokeS rings cs e f m sg sd)).Perm (outsA cs ++ [lastN rings e m, lastN rings f (topN rings e m), m + 1, topN rings e m + 1]) := by
    unfold pokeS
    rw [outsA_app, outsA_inM, outsA_inM]
    refine List.Perm.append_left _ ?_
    cases sd
    · show [lastN rings f (topN rings e m), m + 1, topN rings e m + 1, lastN rings e m].Perm _
      refine List.perm_iff_count.mpr fun x => ?_
      simp only [List.count_cons, List.count_nil]; omega
    · show [topN rings e m + 1, m + 1, lastN rings f (topN rings e m), lastN rings e m].Perm _
      refine List.perm_iff_count.mpr fun x => ?_
      simp only [List.count_cons, List.count_nil]; omega
  refine ⟨fun c hc => ?_, ?_, ?_⟩
  · rcases List.mem_append.mp hc with z | z
    · obtain ⟨d, hd, rfl⟩ := List.mem_map.mp z
      obtain ⟨d', hd', rfl⟩ := List.mem_map.mp hd
      exact h.sg d' hd'
    · have hs2 : (0 - sg) = 1 ∨ (0 - sg) = -1 := by omega
      unfold pokeT at z
      cases sd
      · simp only [Bool.false_eq_true, if_false, List.mem_cons, List.not_mem_nil, or_false] at z
        rcases z with rfl | rfl
        · exact hs
        · exact hs2
      · simp only [if_true, List.mem_cons, List.not_mem_nil, or_false] at z
        rcases z with rfl | rfl
        · exact hs
        · exact hs2
  · refine ins.trans (List.Perm.trans ?_ outs.symm)
    refine List.perm_iff_count.mpr fun x => ?_
    have c1 := o.out.count_eq x
    have c2 := o2.out.count_eq x
    simp only [List.count_append, List.count_cons, List.count_nil] at c1 c2 ⊢
    omega
  · have p : (wo f (wo e rings) ++ insA (pokeS rings cs e f m sg sd)).Perm (rings ++ insA cs ++ ((m + 1) :: (topN rings e m + 1) :: ((if e ∈ rings then [] else [lastN rings e m]) ++ (if f ∈ rings then [] else [lastN rings f (topN rings e m)])))) := by
      refine (ins.append_left _).trans ?_
      refine List.perm_iff_count.mpr fun x => ?_
      have c1 := o.all.count_eq x
      have c2 := o2.all.count_eq x
      simp only [List.count_append, List.count_cons, List.count_nil] at c1 c2 ⊢
      omega
    refine p.nodup_iff.mpr (List.nodup_append.mpr ⟨h.nd, ?_, fun x hx y hy z => ?_⟩)
    · unfold lastN topN
      by_cases z : e ∈ rings <;> by_cases q : f ∈ rings <;> simp [z, q] <;> omega
    · have hx := hm x hx
      unfold lastN topN at hy
      by_cases z : e ∈ rings <;> by_cases q : f ∈ rings <;> simp [z, q] at hy <;> omega
theorem Wf.ren {rings : List Int} {cs : List Cr} (h : Wf rings cs) {f : Int → Int} (inj : ∀ x ∈ rings ++ insA cs, ∀ y ∈ rings ++ insA cs, f x = f y → x = y) : Wf (rings.map f) (cs.map (Cr.map f)) := by
  refine ⟨fun c hc => ?_, ?_, ?_⟩
  · obtain ⟨d, hd, rfl⟩ := List.mem_map.mp hc
    exact h.sg d hd
  · rw [insA_map, outsA_map]; exact h.perm.map f
  · rw [insA_map, ← List.map_append]
    exact List.pairwise_map.mpr ((h.nd.imp_of_mem fun {a b} ha hb ne e => ne (inj a ha b hb e)))
theorem Wf.mix {rings rings' : List Int} {cs cs' : List Cr} (h : Wf rings cs) (hr : rings'.Perm rings) (hc : cs'.Perm cs) : Wf rings' cs' := by
  have pi : (insA cs').Perm (insA cs) := hc.flatMap_right _
  have po : (outsA cs').Perm (outsA cs) := hc.flatMap_right _
  exact ⟨fun c z => h.sg c (hc.mem_iff.mp z), pi.trans (h.perm.trans po.symm), (hr.append pi).nodup_iff.mpr h.nd⟩
end DM
namespace DM
open PySem L2
theorem nd_le {α : Type} [DecidableEq α] : ∀ {a b : List α}, a.Nodup → (∀ x ∈ a, x ∈ b) → a.length ≤ b.length
  | [], b, _, _ => Nat.zero_le _
  | x :: a, b, nd, h => by
    rw [List.nodup_cons] at nd
    have hx := h x List.mem_cons_self
    have := nd_le (a := a) (b := b.erase x) nd.2 fun y hy => (List.mem_erase_of_ne (fun e => nd.1 (by rw [← e]; exact hy))).mpr (h y (List.mem_cons_of_mem _ hy))
    rw [List.length_erase_of_mem hx] at this
    have : 0 < b.length := List.length_pos_of_mem hx
    rw [List.length_cons]; omega
abbrev Dt := Int × Bool
def rnd (c : Cr) : List Dt := if c.s = 1 then [(c.i1, false), (c.o2, true), (c.o1, true), (c.i2, false)] else [(c.i1, false), (c.i2, false), (c.o1, true), (c.o2, true)]
def onw1 (c : Cr) : List (Dt × Dt) := if c.s = 1 then [((c.i1, true), (c.i2, false)), ((c.o2, false), (c.i1, false)), ((c.o1, false), (c.o2, true)), ((c.i2, true), (c.o1, true))] else [((c.i1, true), (c.o2, true)), ((c.i2, true), (c.i1, false)), ((c.o1, false), (c.i2, false)), ((c.o2, false), (c.o1, true))]
def onwA (cs : List Cr) : List (Dt × Dt) := cs.flatMap onw1
def darts (l : List Int) : List Dt := l.map (fun x => (x, true)) ++ l.map fun x => (x, false)
theorem onw_keys : ∀ cs : List Cr, ((onwA cs).map (·.1)).Perm ((insA cs).map (fun x => (x, true)) ++ (outsA cs).map fun x => (x, false))
  | [] => .refl _
  | c :: cs => by
    have ih := onw_keys cs
    show ((onw1 c ++ onwA cs).map (·.1)).Perm (([c.i1, c.i2] ++ insA cs).map (fun x => (x, true)) ++ ([c.o1, c.o2] ++ outsA cs).map fun x => (x, false))
    refine List.perm_iff_count.mpr fun x => ?_
    have := ih.count_eq x
    unfold onw1
    split <;> simp only [List.map_append, List.map_cons, List.map_nil, List.count_append, List.count_cons, List.count_nil] at this ⊢ <;> omega
theorem onw_vals : ∀ cs : List Cr, ((onwA cs).map (·.2)).Perm ((outsA cs).map (fun x => (x, true)) ++ (insA cs).map fun x => (x, false))
  | [] => .refl _
  | c :: cs => by
    have ih := onw_vals cs
    show ((onw1 c ++ onwA cs).map (·.2)).Perm (([c.o1, c.o2] ++ outsA cs).map (fun x => (x, true)) ++ ([c.i1, c.i2] ++ insA cs).map fun x => (x, false))
    refine List.perm_iff_count.mpr fun x => ?_
    have := ih.count_eq x
    unfold onw1
    split <;> simp only [List.map_append, List.map_cons, List.map_nil, List.count_append, List.count_cons, List.count_nil] at this ⊢ <;> omega
theorem darts_nd {l : List Int} (h : l.Nodup) : (darts l).Nodup := by
  unfold darts
  refine List.nodup_append.mpr ⟨?_, ?_, fun x hx y hy e => ?_⟩
  · exact List.pairwise_map.mpr (h.imp fun {a b} ne e => ne (congrArg Prod.fst e))
  · exact List.pairwise_map.mpr (h.imp fun {a b} ne e => ne (congrArg Prod.fst e))
  · obtain ⟨a, _, rfl⟩ := List.mem_map.mp hx
    obtain ⟨b, _, rfl⟩ := List.mem_map.mp hy
    have := congrArg Prod.snd e
    simp at this
theorem darts_mem {l : List Int} {d : Dt} : d ∈ darts l ↔ d.1 ∈ l := by
  obtain ⟨x, b⟩ := d
  unfold darts
  cases b <;> simp
theorem onw_keysD {rings : List Int} {cs : List Cr} (h : Wf rings cs) : ((onwA cs).map (·.1)).Perm (darts (insA cs)) := (onw_keys cs).trans ((h.perm.symm.map _).append_left _)
theorem onw_valsD {rings : List Int} {cs : List Cr} (h : Wf rings cs) : ((onwA cs).map (·.2)).Perm (darts (insA cs)) := (onw_vals cs).trans ((h.perm.symm.map _).append_right _)
theorem Wf.insnd {rings : List Int} {cs : List Cr} (h : Wf rings cs) : (insA cs).Nodup := (List.nodup_append.mp h.nd).2.1
theorem Wf.rnd {rings : List Int} {cs : List Cr} (h : Wf rings cs) : rings.Nodup := (List.nodup_append.mp h.nd).1
theorem Wf.apart {rings : List Int} {cs : List Cr} (h : Wf rings cs) {x : Int} (a : x ∈ rings) (b : x ∈ insA cs) : False := (List.nodup_append.mp h.nd).2.2 x a x b rfl
def onF {α : Type} [DecidableEq α] (l : List (α × α)) (d : α) : α := ((l.find? fun p => decide (p.1 = d)).map (·.2)).getD d
theorem onF_at {α : Type} [DecidableEq α] {l : List (α × α)} (nd : (l.map (·.1)).Nodup) {p : α × α} (h : p ∈ l) : onF l p.1 = p.2 := by
  induction l with
  | nil => cases h
  | cons q l ih =>
    rw [List.map_cons, List.nodup_cons] at nd
    unfold onF
    rw [List.find?_cons]
    by_cases e : q.1 = p.1
    · rw [decide_eq_true e]
      rcases List.mem_cons.mp h with z | z
      · rw [z]; rfl
      · exact absurd (e ▸ List.mem_map.mpr ⟨p, z, rfl⟩) nd.1
    · rw [decide_eq_false e]
      rcases List.mem_cons.mp h with z | z
      · exact absurd (by rw [z]) e
      · exact ih nd.2 z
theorem onF_mem {rings : List Int} {cs : List Cr} (h : Wf rings cs) {d : Dt} (hd : d ∈ darts (insA cs)) : (d, onF (onwA cs) d) ∈ onwA cs := by
  have nd := (onw_keysD h).nodup_iff.mpr (darts_nd h.insnd)
  obtain ⟨p, hp, rfl⟩ := List.mem_map.mp ((onw_keysD h).mem_iff.mpr hd)
  rw [onF_at nd hp]; exact hp
theorem onF_in {rings : List Int} {cs : List Cr} (h : Wf rings cs) {d : Dt} (hd : d ∈ darts (insA cs)) : onF (onwA cs) d ∈ darts (insA cs) := (onw_valsD h).mem_iff.mp (List.mem_map.mpr ⟨_, onF_mem h hd, rfl⟩)
theorem nd_snd {α β : Type} : ∀ {l : List (α × β)}, (l.map (·.2)).Nodup → ∀ {p q : α × β}, p ∈ l → q ∈ l → p.2 = q.2 → p = q
  | [], _, _, _, h, _, _ => nomatch h
  | a :: l, nd, p, q, hp, hq, e => by
    rw [List.map_cons, List.nodup_cons] at nd
    rcases List.mem_cons.mp hp with z | z <;> rcases List.mem_cons.mp hq with y | y
    · rw [z, y]
    · exact absurd (by rw [← z, e]; exact List.mem_map.mpr ⟨q, y, rfl⟩) nd.1
    · exact absurd (by rw [← y, ← e]; exact List.mem_map.mpr ⟨p, z, rfl⟩) nd.1
    · exact nd_snd nd.2 z y e
theorem onF_inj {rings : List Int} {cs : List Cr} (h : Wf rings cs) {d e : Dt} (hd : d ∈ darts (insA cs)) (he : e ∈ darts (insA cs)) (q : onF (onwA cs) d = onF (onwA cs) e) : d = e := by
  have nd := (onw_valsD h).nodup_iff.mpr (darts_nd h.insnd)
  exact congrArg Prod.fst (nd_snd nd (onF_mem h hd) (onF_mem h he) q)
structure Orb {α : Type} (f : α → α) (D : List α) (s : α) (F : List α) : Prop where
  hd : F[0]? = some s
  st : ∀ i x y, F[i]? = some x → F[i + 1]? = some y → y = f x
  nd : F.Nodup
  sub : ∀ x ∈ F, x ∈ D
theorem Orb.one {α : Type} {f : α → α} {D : List α} {s : α} (h : s ∈ D) : Orb f D s [s] := ⟨rfl, fun i x y h1 h2 => by
  have := (List.getElem?_eq_some_iff.mp h2).1
  simp at this, by simp, fun x hx => by rw [List.mem_singleton.mp hx]; exact h⟩
theorem Orb.next {α : Type} {f : α → α} {D : List α} {s x : α} {F : List α} (o : Orb f D s F) (inj : ∀ d ∈ D, ∀ e ∈ D, f d = f e → d = e) (hx : F.getLast? = some x) (ne : f x ≠ s) (hin : f x ∈ D) : Orb f D s (F ++ [f x]) := by
  have hl : F ≠ [] := fun e => by rw [e] at hx; cases hx
  have ll : 0 < F.length := List.length_pos_iff.mpr hl
  have ex : F[F.length - 1]? = some x := by rw [List.getLast?_eq_getElem?] at hx; exact hx
  have no : f x ∉ F := fun z => by
    obtain ⟨j, hj, ej⟩ := List.mem_iff_getElem.mp z
    have ej' : F[j]? = some (f x) := by rw [List.getElem?_eq_getElem hj, ej]
    cases j with
    | zero => rw [o.hd] at ej'; exact ne (Option.some.inj ej').symm
    | succ j =>
      obtain ⟨y, ey⟩ : ∃ y, F[j]? = some y := ⟨_, List.getElem?_eq_getElem (by omega)⟩
      have e1 := o.st j y _ ey ej'
      have e2 := inj x (o.sub x (List.mem_of_getElem? ex)) y (o.sub y (List.mem_of_getElem? ey)) e1
      rw [← e2] at ey
      have := (List.getElem?_inj (by omega) o.nd).mp (ey.trans ex.symm)
      omega
  refine ⟨by rw [List.getElem?_append_left ll]; exact o.hd, fun i a b h1 h2 => ?_, List.nodup_append.mpr ⟨o.nd, by simp, fun a ha b hb e => no (by rw [← List.mem_singleton.mp hb, ← e]; exact ha)⟩, fun a ha => ?_⟩
  · by_cases z : i + 1 < F.length
    · rw [List.getElem?_append_left (by omega)] at h1
      rw [List.getElem?_append_left z] at h2
      exact o.st i a b h1 h2
    · have hi : i + 1 = F.length := by
        have := (List.getElem?_eq_some_iff.mp h2).1
        rw [List.length_append] at this
        simp at this; omega
      rw [hi, List.getElem?_append_right (Nat.le_refl _), Nat.sub_self] at h2
      rw [List.getElem?_append_left (by omega), show i = F.length - 1 by omega, ex] at h1
      cases h1
      simpa using h2.symm
  · rcases List.mem_append.mp ha with z | z
    · exact o.sub a z
    · rw [List.mem_singleton.mp z]; exact hin
theorem Orb.len {α : Type} [DecidableEq α] {f : α → α} {D : List α} {s : α} {F : List α} (o : Orb f D s F) : F.length ≤ D.length := nd_le o.nd o.sub
end DM
namespace K25
open PySem L2 DM PM
def top (i : Nat) : Stmt := PySem.Challenge.pw_loopcube_k25_no_pokes.main.body.getD i (.Pass ⟨0, 0, 0, 0⟩)
structure BN (mg : Str → Option Value) : Prop where
  isi : mg "isinstance" = none
  all : mg "all" = none
  int : mg "int" = none
  bool : mg "bool" = none
  list : mg "list" = none
  len : mg "len" = none
  range : mg "range" = none
  sorted : mg "sorted" = none
  set : mg "set" = none
  tuple : mg "tuple" = none
  abs : mg "abs" = none
  sum : mg "sum" = none
  max : mg "max" = none
  min : mg "min" = none
  any : mg "any" = none
  zip : mg "zip" = none
  enumerate : mg "enumerate" = none
  dict : mg "dict" = none
  str : mg "str" = none
  ve : mg "ValueError" = none
abbrev s__law_cell_at : Stmt := top 45
theorem sc__law_cell_at : FnScope ["_law_script", "_law_k"] ["_law_script", "_law_k"] (defScope s__law_cell_at) := ⟨rfl, rfl, rfl, by decide +kernel, rfl, by decide +kernel, by decide +kernel⟩
section
variable {P : Program} {w : World} {K : PySem.W.Frag} {mg : Str → Option Value} {base : Heap}
def sp_cell (K : PySem.W.Frag) : Sp := fun vs H Q _ => ∃ (a : Addr) (ns : List Int) (k : Nat), vs = [.ref a, .int k] ∧ SqL K H a (ns.map V.int) ∧ Q (.int (ns.getD k 0)) H
theorem ok_cell {fa : Addr} {fd : FuncData} (F : FT K mg "_law_cell_at" s__law_cell_at ["_law_script", "_law_k"] fa fd) (T : BN mg) : Cal P w K mg base 1 "_law_cell_at" ["_law_script", "_law_k"] (sp_cell K) := by
  refine F.cal sc__law_cell_at (fun vs H Q E h => ?_) (fun A outer s H vs Q E hr h => ?_)
  · obtain ⟨a, ns, k, rfl, _⟩ := h; rfl
  · obtain ⟨a, ns, k, rfl, ha, q⟩ := h
    refine ⟨_, (pss_cons (ps_if (pt_cmpR op_lt (pv 1) (pe_len (by rfl) T.len (pv 0)) (nomark _))
        (pss_one (ps_ret (pe_ix ix_list (pv 0) (pv 1) (fun _ _ => rfl))))
        pss_nil)
      (pss_one (ps_ret pe_int))), ?_⟩
    refine ⟨_, rfl, _, rfl, a, _, rfl, .inl ha, _, _, rfl, rfl, _, rfl, ?_⟩
    refine ite2 (fun h => ?_) (fun h => ?_)
    · have h : (k : Int) < ((ns.map V.int).length : Int) := by simpa using h
      rw [List.length_map] at h
      have hk : k < ns.length := by omega
      refine ⟨_, rfl, _, rfl, a, _, _, .int ns[k], rfl, rfl, ha, at_of (j := k) rfl (by simp [hk]), ?_⟩
      rw [List.getD_eq_getElem?_getD, List.getElem?_eq_getElem hk] at q
      exact q
    · have h : ¬ (k : Int) < ((ns.map V.int).length : Int) := by simpa using h
      rw [List.length_map] at h
      have e : ns.getD k 0 = 0 := by rw [List.getD_eq_getElem?_getD, List.getElem?_eq_none (by omega)]; rfl
      rw [e] at q
      exact q
end

theorem ite_join {c A : Prop} [Decidable c] {C : St → Hp → Prop} {σ : St} {H : Hp} (J : St → Hp → Prop) (rest : ∀ σ H, J σ H → C σ H) (h1 : c → (∀ σ H, J σ H → C σ H) → A) (h2 : ¬ c → J σ H) : if c then A else C σ H := by
  by_cases h : c
  · rw [if_pos h]; exact h1 h rest
  · rw [if_neg h]; exact rest _ _ (h2 h)
theorem yesT {σ : St} {H : Hp} {A B : Hp → Prop} (h : A H) : tYes σ H fun b H3 => if b = true then A H3 else B H3 := by
  show if true = true then A H else B H
  exact iteT h
theorem sln {n : Nat} (h : n ≤ 100000) : n < sizeLine := Nat.lt_of_le_of_lt h (by decide)

theorem mb {x y : Int} (hx : x.natAbs < 2 ^ 300) (hy : y.natAbs < 2 ^ 300) : CMulB x y :=
  have z : (2 : Nat) ^ 300 < 2 ^ 10000 := Nat.pow_lt_pow_right (by decide) (by decide)
  ⟨Nat.lt_trans hx z, Nat.lt_trans hy z⟩
theorem mbs {x y : Int} (hx : x.natAbs ≤ 4294967296000) (hy : y.natAbs ≤ 4294967296000) : CMulB x y :=
  have z : (4294967296000 : Nat) < 2 ^ 300 := Nat.lt_of_lt_of_le (by decide : (4294967296000 : Nat) < 2 ^ 50) (Nat.pow_le_pow_right (by decide) (by decide))
  mb (Nat.lt_of_le_of_lt hx z) (Nat.lt_of_le_of_lt hy z)
theorem db {x y : Int} (h0 : 0 < y) (hy : y.natAbs < 2 ^ 200) : CDivB x y :=
  have z : (2 : Nat) ^ 200 < 2 ^ 9000 := Nat.pow_lt_pow_right (by decide) (by decide)
  ⟨h0, Nat.lt_trans hy z⟩
abbrev s__law_number : Stmt := top 46
theorem sc__law_number : FnScope ["_law_script", "_law_k", "_law_x", "_law_total", "_law_j"] ["_law_script", "_law_k"] (defScope s__law_number) := ⟨rfl, rfl, rfl, by decide +kernel, rfl, by decide +kernel, by decide +kernel⟩
section
variable {P : Program} {w : World} {K : PySem.W.Frag} {mg : Str → Option Value} {base : Heap}
structure PNum (K : PySem.W.Frag) (vs : List V) (H : Hp) (Q : VK) : Prop where
  get : ∃ (a : Addr) (ns : List Int) (k : Nat), vs = [.ref a, .int k] ∧ SqL K H a (ns.map V.int) ∧ k ≤ 100 ∧ ∀ z : Int, Q (.int z) H
def sp_number (K : PySem.W.Frag) : Sp := fun vs H Q _ => PNum K vs H Q
theorem tb {t r : Int} {i : Nat} (ht : t.natAbs ≤ 2 ^ (32 * i)) (h0 : 0 ≤ r) (h1 : r < 2147483399) : (t * 2147483647 + r).natAbs ≤ 2 ^ (32 * (i + 1)) := by
  rw [Nat.mul_add, Nat.pow_add]
  have p : 0 < 2 ^ (32 * i) := Nat.two_pow_pos _
  have e : (2 : Nat) ^ (32 * 1) = 4294967296 := by decide
  rw [e]
  generalize 2 ^ (32 * i) = q at *
  omega
theorem ok_number {fa : Addr} {fd : FuncData} (F : FT K mg "_law_number" s__law_number ["_law_script", "_law_k"] fa fd) (T : BN mg) (c1 : Cal P w K mg base 1 "_law_cell_at" ["_law_script", "_law_k"] (sp_cell K)) : Cal P w K mg base 2 "_law_number" ["_law_script", "_law_k"] (sp_number K) := by
  refine F.cal sc__law_number (fun vs H Q E h => ?_) (fun A outer s H vs Q E hr h => ?_)
  · obtain ⟨⟨a, ns, k, rfl, _⟩⟩ := h; rfl
  · obtain ⟨⟨a, ns, k, rfl, hS, hk, q⟩⟩ := h
    have nd := sc__law_number.nd
    refine ⟨_, (pss_cons (ps_if (pt_cmpR op_ge (pe_callB call_abs (by rfl) T.abs (by decide +kernel) (pa_cons (pe_cal c1 hr (by rfl) (pa_cons (pv 0) (pa_cons (pv 1) pa_nil))) pa_nil)) (pe_op op_pow pe_int pe_int) (nomark _))
        (pss_one (ps_ret (pe_cal c1 hr (by rfl) (pa_cons (pv 0) (pa_cons (pv 1) pa_nil)))))
        pss_nil)
      (pss_cons (ps_set (i := 2) nd rfl (Or.inl rfl) (pe_op op_add (pe_op op_add (pe_cal c1 hr (by rfl) (pa_cons (pv 0) (pa_cons pe_int pa_nil))) (pe_op op_mulB pe_int (pv 1))) (pe_op op_mulB pe_int (pe_cal c1 hr (by rfl) (pa_cons (pv 0) (pa_cons (pv 1) pa_nil))))))
      (pss_cons (ps_set (i := 2) nd rfl (Or.inl rfl) (pe_op op_add (pe_op op_mod (pv 2) pe_int) pe_int))
      (pss_cons (ps_set (i := 3) nd rfl (Or.inl rfl) pe_int)
      (pss_cons (ps_for PassesOwn.never rfl (pi_range1 rfl T.range (pa_cons pe_int pa_nil)) (pg_name (i := 4) nd rfl (Or.inl rfl))
        (pss_cons (ps_set (i := 2) nd rfl (Or.inl rfl) (pe_op op_mod (pe_op op_add (pe_op op_add (pe_op op_add (pe_op op_mulB (pv 2) pe_int) (pe_op op_fdivB (pv 2) pe_int)) (pe_op op_mulB (pe_op op_mulB pe_int (pv 4)) (pv 4))) pe_int) pe_int))
        (pss_one (ps_set (i := 3) nd rfl (Or.inl rfl) (pe_op op_add (pe_op op_mulB (pv 3) pe_int) (pe_op op_mod (pe_op op_mulB (pv 2) pe_int) pe_int))))))
      (pss_one (ps_ret (pv 3)))))))), ?_⟩
    refine ⟨_, rfl, _, rfl, a, ns, k, rfl, hS, _, rfl, _, _, rfl, rfl, ⟨by decide, by decide, by decide⟩, _, _, rfl, rfl, _, rfl, ?_⟩
    refine ite2 (fun h => ?_) (fun h => ?_)
    · exact ⟨_, rfl, _, rfl, a, ns, k, rfl, hS, q _⟩
    · have h : ¬ (10 : Int) ^ 18 ≤ (if ns.getD k 0 < 0 then -ns.getD k 0 else ns.getD k 0) := by simpa using h
      have hc : (ns.getD k 0).natAbs ≤ 4294967296000000000 := by
        generalize ns.getD k 0 = c at h
        split at h <;> omega
      have mc : CMulB 41 (ns.getD k 0) := mb (by decide) (Nat.lt_of_le_of_lt hc (Nat.lt_of_lt_of_le (by decide : (4294967296000000000 : Nat) < 2 ^ 70) (Nat.pow_le_pow_right (by decide) (by decide))))
      refine ⟨_, rfl, a, ns, 0, rfl, hS, _, rfl, _, _, rfl, rfl, mbs (by decide) (by rw [Int.natAbs_natCast]; omega), _, _, rfl, rfl, _, rfl, _, rfl, a, ns, k, rfl, hS, _, _, rfl, rfl, mc, _, _, rfl, rfl, ?_⟩
      refine ⟨_, rfl, _, _, rfl, rfl, (by show (0 : Int) < 2147483587; decide), _, _, rfl, rfl, ?_⟩
      refine ⟨9, rfl, by decide, by decide, ?_⟩
      refine for_by (n := 9) (fun i σ H2 => H2 = H ∧ ∃ (x t : Int) (v4 : Option V), σ = [some (.ref a), some (.int k), some (.int x), some (.int t), v4] ∧ 0 ≤ x ∧ x < 2147483647 ∧ t.natAbs ≤ 2 ^ (32 * i)) ⟨rfl, _, 0, none, rfl, ?_, ?_, by decide⟩ (fun i σ H2 hi _ => by show i < (9 : Int).toNat; exact hi) (fun σ H2 _ => by show (9 : Int).toNat ≤ 9; decide) ?_ ?_
      · omega
      · omega
      · rintro i σ H2 hi ⟨rfl, x, t, v4, rfl, x0, x1, ht⟩ y H' ⟨rfl, rfl⟩
        have md : ∀ y : Int, 0 ≤ y % 2147483647 ∧ y % 2147483647 < 2147483647 := fun y => by omega
        have md2 : ∀ y : Int, 0 ≤ y % 2147483399 ∧ y % 2147483399 < 2147483399 := fun y => by omega
        have mt : CMulB t 2147483647 := mb (Nat.lt_of_le_of_lt ht (Nat.pow_lt_pow_right (by decide) (by omega))) (by decide)
        refine ⟨_, rfl, _, _, rfl, rfl, mbs (by omega) (by decide), _, rfl, _, _, rfl, rfl, db (by decide) (by decide), _, _, rfl, rfl, _, rfl, _, _, rfl, rfl, mbs (by decide) (by omega), _, rfl, _, _, rfl, rfl, mbs (by omega) (by omega), _, _, rfl, rfl, _, _, rfl, rfl, _, _, rfl, rfl, (by show (0 : Int) < 2147483647; decide), ?_⟩
        refine ⟨_, rfl, _, _, rfl, rfl, mt, _, rfl, _, _, rfl, rfl, mbs ?_ (by decide), _, _, rfl, rfl, (by show (0 : Int) < 2147483399; decide), _, _, rfl, rfl, ?_⟩
        · have := md (x * 39373 + x / 40014 + 17 * (0 + (i : Int)) * (0 + (i : Int)) + 3)
          omega
        · exact ⟨rfl, _, _, _, rfl, (md _).1, (md _).2, tb ht (md2 _).1 (md2 _).2⟩
      · rintro σ H2 ⟨rfl, x, t, v4, rfl, _⟩
        exact ⟨_, rfl, q _⟩
end

theorem pick {xs : List Int} {e : Int} {n B : Nat} (hn : xs.length = n) (h0 : 0 < n) (hB : ∀ x ∈ xs, x.natAbs ≤ B) : ∃ d : Int, atI (xs.map V.int) (e % n) = some (.int d) ∧ d.natAbs ≤ B ∧ d ∈ xs := by
  have a1 := Int.emod_nonneg e (show (n : Int) ≠ 0 by omega)
  have a2 := Int.emod_lt_of_pos e (show (0 : Int) < n by omega)
  have hl : (e % n).toNat < xs.length := by omega
  have e9 : e % n = (((e % n).toNat : Nat) : Int) := (Int.toNat_of_nonneg a1).symm
  refine ⟨xs[(e % n).toNat], at_of e9 (by rw [List.getElem?_map, List.getElem?_eq_getElem hl]; rfl), hB _ (List.getElem_mem hl), List.getElem_mem hl⟩

abbrev s__law_letters : Stmt := top 47
theorem sc__law_letters : FnScope ["_law_cell", "_law_strands", "_law_most", "_law_found", "_law_rest", "_law_k", "_law_place"] ["_law_cell", "_law_strands", "_law_most"] (defScope s__law_letters) := ⟨rfl, rfl, rfl, by decide +kernel, rfl, by decide +kernel, by decide +kernel⟩
section
variable {P : Program} {w : World} {K : PySem.W.Frag} {mg : Str → Option Value} {base : Heap}
structure PLet (vs : List V) (H : Hp) (Q : VK) : Prop where
  get : ∃ (cell : Int) (n most : Nat), vs = [.int cell, .int n, .int most] ∧ 1 ≤ n ∧ n ≤ 100 ∧ most ≤ 1000 ∧ ∀ (c : Addr) (H' : Hp) (ls : List Int), H c = none → Same H H' → H' c = some (.lst (ls.map V.int)) → Letters n most ls → Q (.ref c) H'
def sp_letters : Sp := fun vs H Q _ => PLet vs H Q
def sg2 : List Int := [1, -1]
theorem ok_letters {fa : Addr} {fd : FuncData} (F : FT K mg "_law_letters" s__law_letters ["_law_cell", "_law_strands", "_law_most"] fa fd) (T : BN mg) : Cal P w K mg base 1 "_law_letters" ["_law_cell", "_law_strands", "_law_most"] sp_letters := by
  refine F.cal sc__law_letters (fun vs H Q E h => ?_) (fun A outer s H vs Q E hr h => ?_)
  · obtain ⟨⟨cell, n, most, rfl, _⟩⟩ := h; rfl
  · obtain ⟨⟨cell, n, most, rfl, n1, n2, m1, k⟩⟩ := h
    have nd := sc__law_letters.nd
    have hM : (0 : Int) < (most : Int) + 1 := by omega
    refine ⟨_, (pss_cons (ps_set (i := 3) nd rfl (Or.inl rfl) (pe_lst pa_nil))
      (pss_cons (ps_set (i := 4) nd rfl (Or.inl rfl) (pe_op op_fdivB (pv 0) (pe_op op_add (pv 2) pe_int)))
      (pss_cons (ps_if (pt_cmpR op_gt (pv 1) pe_int (nomark _))
        (pss_one (ps_for PassesOwn.never rfl (pi_range1 rfl T.range (pa_cons (pe_op op_mod (pv 0) (pe_op op_add (pv 2) pe_int)) pa_nil)) (pg_name (i := 5) nd rfl (Or.inl rfl))
          (pss_cons (ps_set (i := 6) nd rfl (Or.inl rfl) (pe_op op_add pe_int (pe_op op_mod (pv 4) (pe_op op_sub (pv 1) pe_int))))
          (pss_cons (ps_set (i := 4) nd rfl (Or.inl rfl) (pe_op op_fdivB (pv 4) (pe_op op_sub (pv 1) pe_int)))
          (pss_cons (ps_expr (pe_bm PySem.F.plainAttrs_list PySem.F.slot_list_append PySem.F.type_list_append mt_append (pv 3) (pa_cons (pe_op op_mulB (pv 6) (pe_ix ix_list (pe_lst (pa_cons pe_int (pa_cons (pe_un un_neg pe_int) pa_nil))) (pe_op op_mod (pv 4) pe_int) (fun _ _ => rfl))) pa_nil)))
          (pss_one (ps_set (i := 4) nd rfl (Or.inl rfl) (pe_op op_fdivB (pv 4) pe_int))))))))
        pss_nil)
      (pss_one (ps_ret (pv 3)))))), ?_⟩
    refine ⟨(by show 0 ≤ sizeLine; decide), fun D hD => ?_⟩
    refine gen_new (.lst []) hD fun H1 s1 h1 => ?_
    refine ⟨_, rfl, _, rfl, _, _, rfl, rfl, _, _, rfl, rfl, db hM (by
      have : ((most : Int) + 1).natAbs < 2 ^ 20 := by omega
      exact Nat.lt_of_lt_of_le this (Nat.pow_le_pow_right (by decide) (by decide))), ?_⟩
    refine ⟨_, rfl, _, _, rfl, rfl, _, rfl, ?_⟩
    refine ite2 (fun h => ?_) (fun h => ?_)
    · have h : (1 : Int) < n := by simpa using h
      have hdiv : ∀ i : Int, CDivB i ((n : Int) - 1) := fun i => db (by omega) (by
        have : ((n : Int) - 1).natAbs < 2 ^ 20 := by omega
        exact Nat.lt_of_lt_of_le this (Nat.pow_le_pow_right (by decide) (by decide)))
      have a1 := Int.emod_nonneg cell (show (most : Int) + 1 ≠ 0 by omega)
      have a2 := Int.emod_lt_of_pos cell hM
      refine ⟨_, rfl, _, rfl, _, _, rfl, rfl, _, _, rfl, rfl, hM, _, rfl, by omega, by omega, ?_⟩
      refine for_by (n := (cell % ((most : Int) + 1)).toNat) (fun i σ H2 => ∃ (rest : Int) (v5 v6 : Option V) (ls : List Int), σ = [some (.int cell), some (.int n), some (.int most), some (.ref D), some (.int rest), v5, v6] ∧ ls.length = i ∧ (∀ l ∈ ls, l ≠ 0 ∧ l.natAbs + 1 ≤ n) ∧ H2 D = some (.lst (ls.map V.int)) ∧ SameX D H H2) ⟨_, none, none, [], rfl, rfl, (fun _ h => nomatch h), h1, s1.x⟩ (fun i σ H2 hi _ => hi) (fun σ H2 _ => Nat.le_refl _) ?_ ?_
      · rintro i σ H2 hi ⟨rest, v5, v6, ls, rfl, ll, lo, hd, sx⟩ x H' ⟨rfl, rfl⟩
        have b1 := Int.emod_nonneg rest (show (n : Int) - 1 ≠ 0 by omega)
        have b2 := Int.emod_lt_of_pos rest (show (0 : Int) < (n : Int) - 1 by omega)
        refine ⟨_, rfl, _, rfl, _, _, rfl, rfl, _, _, rfl, rfl, (by show (0 : Int) < (n : Int) - 1; omega), _, _, rfl, rfl, ?_⟩
        refine ⟨_, rfl, _, rfl, _, _, rfl, rfl, _, _, rfl, rfl, hdiv _, ?_⟩
        refine ⟨_, rfl, .inl ⟨rfl, _, SqL.of hd⟩, _, rfl, _, rfl, (by show 2 ≤ sizeLine; decide), fun L hL => ?_⟩
        have hLD : L ≠ D := fun z => by rw [z, hd] at hL; cases hL
        have hL7 : upd H' L (.lst [V.int 1, V.int (-1)]) L = some (.lst (sg2.map V.int)) := upd_same
        have hd7 : upd H' L (.lst [V.int 1, V.int (-1)]) D = some (.lst (ls.map V.int)) := by rw [upd_ne (Ne.symm hLD)]; exact hd
        have s7 : Same H' (upd H' L (.lst [V.int 1, V.int (-1)])) := Same.new hL
        dsimp only
        generalize upd H' L (.lst [V.int 1, V.int (-1)]) = H7 at s7 hL7 hd7 ⊢
        obtain ⟨sg, esg, bsg, msg⟩ := pick (xs := sg2) (e := rest / ((n : Int) - 1)) (n := 2) (B := 1) rfl (by decide) (by decide)
        have vsg : sg = 1 ∨ sg = -1 := by simpa [sg2] using msg
        refine ⟨_, rfl, _, _, rfl, rfl, (by show (0 : Int) < 2; decide), L, _, _, .int sg, rfl, rfl, SqL.of hL7, esg, _, _, rfl, rfl, mbs (by omega) (by omega), D, _, _, rfl, rfl, hd7, (sln (by rw [List.length_map]; omega)), ?_⟩
        refine ⟨_, rfl, _, _, rfl, rfl, db (by decide) (by decide), _, _, _, ls ++ [(1 + rest % ((n : Int) - 1)) * sg], rfl, by simp [ll], fun l hl => ?_, ?_, ?_⟩
        · rcases List.mem_append.mp hl with q | q
          · exact lo l q
          · rw [List.mem_singleton.mp q]
            rcases vsg with e | e <;> rw [e] <;> omega
        · rw [upd_same, List.map_append]; rfl
        · exact (sx.trans s7.x).trans .upd
      · rintro σ H2 ⟨rest, v5, v6, ls, rfl, ll, lo, hd, sx⟩
        exact ⟨_, rfl, k D H2 ls hD (sx.same hD) hd ⟨by omega, lo⟩⟩
    · exact ⟨_, rfl, k D H1 [] hD s1 h1 ⟨by simp, fun _ h => nomatch h⟩⟩
end

end K25
namespace K25
open PySem L2 DM PM
abbrev s__law_closed : Stmt := top 48
theorem sc__law_closed : FnScope ["_law_strands", "_law_letters_here", "_law_here", "_law_crossings", "_law_k", "_law_letter", "_law_at", "_law_low", "_law_high", "_law_back", "_law_rings", "_law_row", "_law_name"] ["_law_strands", "_law_letters_here"] (defScope s__law_closed) := ⟨rfl, rfl, rfl, by decide +kernel, rfl, by decide +kernel, by decide +kernel⟩
section
variable {P : Program} {w : World} {K : PySem.W.Frag} {mg : Str → Option Value} {base : Heap}
structure PClo (K : PySem.W.Frag) (vs : List V) (H : Hp) (Q : VK) : Prop where
  get : ∃ (a : Addr) (n most : Nat) (ls : List Int), vs = [.int n, .ref a] ∧ 1 ≤ n ∧ n ≤ 100 ∧ most ≤ 1000 ∧ Letters n most ls ∧ H a = some (.lst (ls.map V.int)) ∧ ∀ (d : Addr) (H' : Hp), Same H H' → DrAt H' d (closedR n ls) (closedC n ls) → Q (.ref d) H'
def sp_closed (K : PySem.W.Frag) : Sp := fun vs H Q _ => PClo K vs H Q
theorem ok_closed {fa : Addr} {fd : FuncData} (F : FT K mg "_law_closed" s__law_closed ["_law_strands", "_law_letters_here"] fa fd) (T : BN mg) : Cal P w K mg base 1 "_law_closed" ["_law_strands", "_law_letters_here"] (sp_closed K) := by
  refine F.cal sc__law_closed (fun vs H Q E h => ?_) (fun A outer s H vs Q E hr h => ?_)
  · obtain ⟨⟨a, n, most, ls, rfl, _⟩⟩ := h; rfl
  · obtain ⟨⟨a, n, most, ls, rfl, n1, n2, m1, ⟨lm, lo⟩, ha, k⟩⟩ := h
    have nd := sc__law_closed.nd
    refine ⟨_, (pss_cons (ps_set (i := 2) nd rfl (Or.inr rfl) (pe_listrange hr.hd (by rfl) T.list (by rfl) T.range (pa_cons (pv 0) pa_nil)))
      (pss_cons (ps_set (i := 3) nd rfl (Or.inl rfl) (pe_lst pa_nil))
      (pss_cons (ps_for PassesOwn.never rfl (pi_enum (by rfl) T.enumerate (pa_cons (pv 1) pa_nil)) (pg_tup (by rfl) (pgs_cons (pg_name (i := 4) nd rfl (Or.inl rfl)) (pgs_cons (pg_name (i := 5) nd rfl (Or.inl rfl)) pgs_nil)))
        (pss_cons (ps_set (i := 6) nd rfl (Or.inl rfl) (pe_op op_sub (pe_callB call_abs (by rfl) T.abs (by decide +kernel) (pa_cons (pv 5) pa_nil)) pe_int))
        (pss_cons (ps_par (by rfl) nd (i := 7) (j := 8) rfl rfl (by decide) rfl rfl (pa_cons (pe_ix ix_list (pv 2) (pv 6) (fun _ _ => rfl)) (pa_cons (pe_ix ix_list (pv 2) (pe_op op_add (pv 6) pe_int) (fun _ _ => rfl)) pa_nil)) (by rfl))
        (pss_cons (ps_asg (pe_op op_add (pv 0) (pe_op op_mulB pe_int (pv 4))) (pg_sub (pv 2) (pv 6) set_list))
        (pss_cons (ps_asg (pe_op op_add (pe_op op_add (pv 0) (pe_op op_mulB pe_int (pv 4))) pe_int) (pg_sub (pv 2) (pe_op op_add (pv 6) pe_int) set_list))
        (pss_one (ps_if (pt_cmpR op_gt (pv 5) pe_int (nomark _))
          (pss_one (ps_expr (pe_bm PySem.F.plainAttrs_list PySem.F.slot_list_append PySem.F.type_list_append mt_append (pv 3) (pa_cons (pe_tup (pa_cons pe_int (pa_cons (pv 8) (pa_cons (pe_ix ix_list (pv 2) (pv 6) (fun _ _ => rfl)) (pa_cons (pv 7) (pa_cons (pe_ix ix_list (pv 2) (pe_op op_add (pv 6) pe_int) (fun _ _ => rfl)) pa_nil)))))) pa_nil))))
          (pss_one (ps_expr (pe_bm PySem.F.plainAttrs_list PySem.F.slot_list_append PySem.F.type_list_append mt_append (pv 3) (pa_cons (pe_tup (pa_cons (pe_un un_neg pe_int) (pa_cons (pv 7) (pa_cons (pe_ix ix_list (pv 2) (pe_op op_add (pv 6) pe_int) (fun _ _ => rfl)) (pa_cons (pv 8) (pa_cons (pe_ix ix_list (pv 2) (pv 6) (fun _ _ => rfl)) pa_nil)))))) pa_nil)))))))))))
      (pss_cons (ps_set (i := 9) nd rfl (Or.inr rfl) pe_dnewK)
      (pss_cons (ps_for PassesOwn.never rfl (pi_range1 rfl T.range (pa_cons (pv 0) pa_nil)) (pg_name (i := 4) nd rfl (Or.inl rfl))
        (pss_one (ps_dput (hu_of hr) (pv 9) (pe_ix ix_list (pv 2) (pv 4) (fun _ _ => rfl)) (pv 4) rfl)))
      (pss_cons (ps_setLc (i := 10) (own := [("_law_k", 4)]) (g := (gName 4)) (wi := (iRng1 (tCons (tVar 0) tNil))) (tt := (tTest (tOp rEq (tOp (rIxL K) (tVar 2) (tVar 4)) (tVar 4)))) (te := (tVar 4)) (by rfl) nd rfl rfl (sw_true rfl rfl rfl (by decide +kernel)) (pi_range1 rfl T.range (pa_cons (pv 0) pa_nil)) (blkOk_by (by kernel_rfl)) (fun _ _ _ _ _ => (pg_name (i := 4) nd rfl (Or.inl rfl))) (fun _ _ _ _ _ => pts_one (pt_cmpR op_eq (pe_ix ix_list (pv 2) (pv 4) (fun _ _ => rfl)) (pv 4) (nomark _))) (fun _ _ _ _ _ => (pv 4)))
      (pss_one (ps_ret (pe_tup (pa_cons (pv 10) (pa_cons (pe_lc (own := [("_law_row", 11)]) (g := (gName 11)) (wi := (iList K (tVar 3))) (tt := tYes) (te := (tOp (rCatT K) (tTup (tCons (tOp (rIxT K) (tVar 11) (tC (.int 0))) tNil)) (tCB (fun xs H Q => ∃ p ys, xs = [.ref p] ∧ ((SqL K H p ys ∧ ∀ l, H l = none → Q (.ref l) (upd H l (.tup ys))) ∨ (SqT K H p ys ∧ Q (.ref p) H))) (tCons (tLc (iTup K (tSl (rSlT K) (tVar 11) (tPart (tC (.int 1))) tNoPart)) (gName 12) tYes (tDGet2 (tVar 9) (tVar 12) (tVar 12)) [12]) tNil)))) (by rfl) nd (pi_list (pv 3)) (blkOk_by (by kernel_rfl)) (fun _ _ _ _ _ => (pg_name (i := 11) nd rfl (Or.inl rfl))) (fun _ _ _ _ _ => pts_nil) (fun _ _ _ _ _ => (pe_op op_catT (pe_tup (pa_cons (pe_ix ix_tup (pv 11) pe_int (fun _ _ => rfl)) pa_nil)) (pe_callTy call_tuple_of (by rfl) T.tuple (by decide +kernel) (pa_cons (pe_lc (own := [("_law_name", 12)]) (g := (gName 12)) (wi := (iTup K (tSl (rSlT K) (tVar 11) (tPart (tC (.int 1))) tNoPart))) (tt := tYes) (te := (tDGet2 (tVar 9) (tVar 12) (tVar 12))) (by rfl) nd (pi_tup (pe_slice sl_tup (pv 11) (po_some pe_int) po_none)) (blkOk_by (by kernel_rfl)) (fun _ _ _ _ _ => (pg_name (i := 12) nd rfl (Or.inl rfl))) (fun _ _ _ _ _ => pts_nil) (fun _ _ _ _ _ => (pe_dget2 (hu_of hr) (pv 9) (pv 12) (pv 12) ⟨rfl, rfl, rfl, rfl⟩))) pa_nil))))) pa_nil))))))))))), ?_⟩
    refine ⟨_, rfl, n, rfl, by omega, fun B hB => ?_⟩
    refine gen_new (.lst ((List.range n).map fun i : Nat => V.int i)) hB fun H1 s1 h1 => ?_
    have h1 : H1 B = some (.lst ((hereF n ls 0).map V.int)) := by rw [h1]; simp [hereF]
    refine ⟨(by show 0 ≤ sizeLine; decide), fun C hC => ?_⟩
    refine gen_new (.lst []) hC fun H2 s2 h2 => ?_
    have BC : B ≠ C := ne_of_none h1 hC
    have hC0 : H C = none := s1.free hC
    have s02 := s1.trans s2
    have aB : a ≠ B := ne_of_none ha hB
    have aC : a ≠ C := ne_of_none ha hC0
    refine ⟨_, rfl, a, _, rfl, SqL.of (s02 _ _ ha), ?_⟩
    refine for_by (n := ls.length) (fun i σ H3 => ∃ v4 v5 v6 v7 v8 : Option V, σ = [some (.int n), some (.ref a), some (.ref B), some (.ref C), v4, v5, v6, v7, v8, none, none, none, none] ∧ Same H H3 ∧ H3 B = some (.lst ((hereF n ls i).map V.int)) ∧ CrsAt H3 C (crsF n ls i)) ⟨none, none, none, none, none, rfl, s02, s2 _ _ h1, ⟨[], h2, .nil⟩⟩ (fun i σ H3 hi ⟨_, _, _, _, _, _, sm, _⟩ => ⟨_, _, SqL.of (sm _ _ ha), List.getElem?_eq_getElem (by simpa using hi)⟩) (fun σ H3 ⟨_, _, _, _, _, _, sm, _⟩ => ⟨_, SqL.of (sm _ _ ha), by simp⟩) ?_ ?_
    · rintro i σ H3 hi ⟨v4, v5, v6, v7, v8, rfl, sm, hB3, cr⟩ x H' ⟨U, x', rfl, hU, rfl, hx⟩
      have ex := get_int (hx _ (SqL.of (sm _ _ ha)))
      subst ex
      obtain ⟨l, el⟩ : ∃ l, ls[i]? = some l := ⟨_, List.getElem?_eq_getElem hi⟩
      have eg : ls.getD i 0 = l := by rw [List.getD_eq_getElem?_getD, el]; rfl
      obtain ⟨l0, ln⟩ := lo l (List.mem_of_getElem? el)
      have hU4 : upd H3 U (.tup [.int (i : Nat), .int (ls.getD i 0)]) U = some (.tup [.int (i : Nat), .int (ls.getD i 0)]) := upd_same
      have s34 : Same H3 (upd H3 U (.tup [.int (i : Nat), .int (ls.getD i 0)])) := Same.new hU
      have hc1 : crsF n ls (i + 1) = crsF n ls i ++ [stepC n i l (hereF n ls i)] := by rw [crsF, eg]
      have hh1 : hereF n ls (i + 1) = stepH n i l (hereF n ls i) := by rw [hereF, eg]
      rw [eg] at hU4 s34 ⊢
      dsimp only at hU4 s34 ⊢
      generalize upd H3 U (.tup [.int (i : Nat), .int l]) = H4 at hU4 s34 ⊢
      have hB4 := s34 _ _ hB3
      have cr4 := cr.mv s34
      have sm4 := sm.trans s34
      have hlen := hereF_len n ls i
      have hcl := crsF_len n ls i
      generalize hereF n ls i = here at hB4 hlen hh1 hc1
      generalize crsF n ls i = cs at cr4 hcl hc1
      obtain ⟨ps, hC4, pp⟩ := cr4
      have hpl := pp.length
      obtain ⟨j, hj⟩ : ∃ j : Nat, l.natAbs = j + 1 := ⟨l.natAbs - 1, by omega⟩
      have hab : (if l < 0 then -l else l) - 1 = (j : Int) := by split <;> omega
      refine ⟨_, _, rfl, SqT.of hU4, rfl, _, _, rfl, _, _, rfl, rfl, ?_⟩
      refine ⟨_, rfl, _, rfl, _, _, rfl, rfl, ?_⟩
      have x1 : atI (here.map V.int) ((j : Int) + 1) = some (.int (here.getD (j + 1) 0)) := at_int (by push_cast; rfl) (by omega)
      have x0 : atI (here.map V.int) (j : Int) = some (.int (here.getD j 0)) := at_int rfl (by omega)
      have hlw : (ps.map V.ref).length < sizeLine := sln (by rw [List.length_map]; omega)
      have i0 : ∀ xs : List V, xs.length = n → ixN xs.length (j : Int) = some j := fun xs e => ix_int rfl (by omega)
      have i1 : ∀ xs : List V, xs.length = n → ixN xs.length ((j : Int) + 1) = some (j + 1) := fun xs e => ix_int (by push_cast; rfl) (by omega)
      dsimp only at hab ⊢
      simp only [hab]
      refine ⟨_, rfl, _, rfl, B, _, _, .int (here.getD j 0), rfl, rfl, SqL.of hB4, x0, _, rfl, _, rfl, _, _, rfl, rfl, B, _, _, .int (here.getD (j + 1) 0), rfl, rfl, SqL.of hB4, x1, _, _, rfl, ?_⟩
      refine ⟨_, rfl, _, rfl, _, _, rfl, rfl, mbs (by decide) (by rw [Int.natAbs_natCast]; omega), _, _, rfl, rfl, _, rfl, _, rfl, B, _, _, j, rfl, rfl, hB4, i0 _ (by rw [List.length_map]; exact hlen), ?_⟩
      refine ⟨_, rfl, _, rfl, _, _, rfl, rfl, mbs (by decide) (by rw [Int.natAbs_natCast]; omega), _, _, rfl, rfl, _, _, rfl, rfl, _, rfl, _, rfl, _, _, rfl, rfl, B, _, _, j + 1, rfl, rfl, upd_same, i1 _ (by rw [List.length_set, List.length_map]; exact hlen), ?_⟩
      have hh : hereF n ls (i + 1) = (here.set j ((n : Int) + 2 * (i : Nat))).set (j + 1) ((n : Int) + 2 * (i : Nat) + 1) := by
        rw [hh1]; unfold stepH
        rw [show l.natAbs - 1 = j by omega]; push_cast; rfl
      have hB6 : upd (upd H4 B (.lst ((here.map V.int).set j (.int ((n : Int) + 2 * (i : Nat)))))) B (.lst (((here.map V.int).set j (.int ((n : Int) + 2 * (i : Nat)))).set (j + 1) (.int ((n : Int) + 2 * (i : Nat) + 1)))) B = some (.lst ((hereF n ls (i + 1)).map V.int)) := by
        rw [upd_same, hh, set_int, set_int]
      have k6 : ∀ {c : Addr} {o : HO}, H4 c = some o → c ≠ B → upd (upd H4 B (.lst ((here.map V.int).set j (.int ((n : Int) + 2 * (i : Nat)))))) B (.lst (((here.map V.int).set j (.int ((n : Int) + 2 * (i : Nat)))).set (j + 1) (.int ((n : Int) + 2 * (i : Nat) + 1)))) c = some o := fun {c o} e ne => by rw [upd_ne ne, upd_ne ne]; exact e
      generalize upd (upd H4 B (.lst ((here.map V.int).set j (.int ((n : Int) + 2 * (i : Nat)))))) B (.lst (((here.map V.int).set j (.int ((n : Int) + 2 * (i : Nat)))).set (j + 1) (.int ((n : Int) + 2 * (i : Nat) + 1)))) = H6 at hB6 k6 ⊢
      have hlen2 : (hereF n ls (i + 1)).length = n := hereF_len n ls (i + 1)
      have y0 : atI ((hereF n ls (i + 1)).map V.int) (j : Int) = some (.int ((n : Int) + 2 * (i : Nat))) := by
        rw [at_int rfl (by omega), hh, List.getD_eq_getElem?_getD, List.getElem?_set_ne (by omega), List.getElem?_set_self (by omega)]; rfl
      have y1 : atI ((hereF n ls (i + 1)).map V.int) ((j : Int) + 1) = some (.int ((n : Int) + 2 * (i : Nat) + 1)) := by
        have e : atI ((hereF n ls (i + 1)).map V.int) ((j : Int) + 1) = some (.int ((hereF n ls (i + 1)).getD (j + 1) 0)) := at_int (by push_cast; rfl) (by omega)
        rw [e, hh, List.getD_eq_getElem?_getD, List.getElem?_set_self (by rw [List.length_set]; omega)]; rfl
      have CB : C ≠ B := Ne.symm BC
      have hC6 := k6 hC4 CB
      -- both ways end alike
      have fin : ∀ T : Addr, H6 T = none → ∀ H7 : Hp, H7 = upd H6 T (.tup ((stepC n i l here).l.map V.int)) → Same H (upd H7 C (.lst (ps.map V.ref ++ [.ref T]))) ∧ upd H7 C (.lst (ps.map V.ref ++ [.ref T])) B = some (.lst ((hereF n ls (i + 1)).map V.int)) ∧ CrsAt (upd H7 C (.lst (ps.map V.ref ++ [.ref T]))) C (crsF n ls (i + 1)) := by
        intro T hT H7 e7
        subst e7
        have s67 : Same H6 (upd H6 T (.tup ((stepC n i l here).l.map V.int))) := Same.new hT
        have hT7 : upd H6 T (.tup ((stepC n i l here).l.map V.int)) T = some (.tup ((stepC n i l here).l.map V.int)) := upd_same
        generalize upd H6 T (.tup ((stepC n i l here).l.map V.int)) = H7 at s67 hT7 ⊢
        have hC7 := s67 _ _ hC6
        refine ⟨fun b o e => ?_, ?_, ⟨ps ++ [T], ?_, ?_⟩⟩
        · rw [upd_ne (ne_of_none e hC0)]; exact s67 _ _ (k6 (sm4 _ _ e) (ne_of_none e hB))
        · rw [upd_ne BC]; exact s67 _ _ hB6
        · rw [upd_same]; simp
        · rw [hc1]
          have at7 : ∀ (q : Addr) (xs : List V), H7 q = some (.tup xs) → upd H7 C (.lst (ps.map V.ref ++ [.ref T])) q = some (.tup xs) := fun q xs e => by
            rw [upd_ne (fun z => by rw [z, hC7] at e; cases e)]; exact e
          exact (Paired.mono (fun q c z => at7 _ _ (s67 _ _ (k6 z (fun y => by rw [y, hB4] at z; cases z)))) pp).snoc (at7 _ _ hT7)
      refine ⟨_, rfl, _, _, rfl, rfl, _, rfl, ?_⟩
      refine ite2 (fun h => ?_) (fun h => ?_)
      · have h : (0 : Int) < l := by simpa using h
        have eT : (stepC n i l here).l.map V.int = [.int 1, .int (here.getD (j + 1) 0), .int ((n : Int) + 2 * (i : Nat)), .int (here.getD j 0), .int ((n : Int) + 2 * (i : Nat) + 1)] := by
          unfold stepC Cr.l
          rw [if_pos h, show l.natAbs - 1 = j by omega]; rfl
        refine ⟨_, rfl, .inl ⟨rfl, _, SqL.of hC6⟩, _, rfl, _, rfl, _, rfl, B, _, _, .int ((n : Int) + 2 * (i : Nat)), rfl, rfl, SqL.of hB6, y0, _, rfl, _, rfl, _, rfl, _, _, rfl, rfl, B, _, _, .int ((n : Int) + 2 * (i : Nat) + 1), rfl, rfl, SqL.of hB6, y1, (by show 5 ≤ sizeLine; decide), fun Tt hT => ?_⟩
        rw [← eT]
        have s67 : Same H6 (upd H6 Tt (.tup ((stepC n i l here).l.map V.int))) := Same.new hT
        exact ⟨C, _, _, rfl, rfl, s67 _ _ hC6, hlw, _, _, _, _, _, rfl, fin Tt hT _ rfl⟩
      · have h : ¬ (0 : Int) < l := by simpa using h
        have eT : (stepC n i l here).l.map V.int = [.int (-1), .int (here.getD j 0), .int ((n : Int) + 2 * (i : Nat) + 1), .int (here.getD (j + 1) 0), .int ((n : Int) + 2 * (i : Nat))] := by
          unfold stepC Cr.l
          rw [if_neg h, show l.natAbs - 1 = j by omega]; rfl
        refine ⟨_, rfl, .inl ⟨rfl, _, SqL.of hC6⟩, _, rfl, _, rfl, _, rfl, _, rfl, _, _, rfl, rfl, B, _, _, .int ((n : Int) + 2 * (i : Nat) + 1), rfl, rfl, SqL.of hB6, y1, _, rfl, _, rfl, _, rfl, B, _, _, .int ((n : Int) + 2 * (i : Nat)), rfl, rfl, SqL.of hB6, y0, (by show 5 ≤ sizeLine; decide), fun Tt hT => ?_⟩
        rw [← eT]
        have s67 : Same H6 (upd H6 Tt (.tup ((stepC n i l here).l.map V.int))) := Same.new hT
        exact ⟨C, _, _, rfl, rfl, s67 _ _ hC6, hlw, _, _, _, _, _, rfl, fin Tt hT _ rfl⟩
    · rintro σ H3 ⟨v4, v5, v6, v7, v8, rfl, sm, hB3, cr⟩
      have hlen := hereF_len n ls ls.length
      have hcl := crsF_len n ls ls.length
      have eR : closedR n ls = ringsF n (hereF n ls ls.length) := rfl
      have eC : closedC n ls = (crsF n ls ls.length).map (Cr.map (phi n (hereF n ls ls.length))) := rfl
      generalize hereF n ls ls.length = here at hB3 hlen eR eC
      generalize crsF n ls ls.length = cs at cr hcl eC
      refine fun E hE => ?_
      refine gen_new (.dK []) hE fun H4 s4 h4 => ?_
      have hE0 : H E = none := sm.free hE
      have EB : E ≠ B := fun z => by rw [z, hB3] at hE; cases hE
      have sm4 := sm.trans s4
      have hB4 := s4 _ _ hB3
      have cr4 := cr.mv s4
      refine ⟨_, rfl, n, rfl, by omega, by omega, ?_⟩
      refine for_by (n := n) (fun i σ H5 => ∃ (v4 : Option V) (kvs : List (Key × V)), σ = [some (.int n), some (.ref a), some (.ref B), some (.ref C), v4, v5, v6, v7, v8, some (.ref E), none, none, none] ∧ H5 E = some (.dK kvs) ∧ kvs.length ≤ i ∧ (∀ x, valV kvs (.inl x) = (lkF here i x).map V.int) ∧ SameX E H4 H5) ⟨v4, [], rfl, h4, Nat.le_refl _, fun x => rfl, .refl _ _⟩ (fun i σ H5 hi _ => by show i < (n : Int).toNat; omega) (fun σ H5 _ => by show (n : Int).toNat ≤ n; omega) ?_ ?_
      · rintro i σ H5 hi ⟨v4, kvs, rfl, hE5, kl, kv, sx⟩ x H' ⟨rfl, rfl⟩
        have hB5 := sx _ _ (Ne.symm EB) hB4
        refine ⟨_, rfl, _, rfl, _, rfl, _, rfl, B, _, _, .int (here.getD i 0), rfl, rfl, SqL.of hB5, at_int (by omega) (by omega), E, _, rfl, DPut.k (k := .inl (here.getD i 0)) hE5 (sln (by omega)), ?_⟩
        refine ⟨_, _, rfl, upd_same, ?_, fun x => ?_, sx.trans .upd⟩
        · have := length_putK kvs (.inl (here.getD i 0)) (V.int (0 + (i : Int)))
          omega
        · rw [lkF]
          by_cases e : x = here.getD i 0
          · rw [if_pos e, e, valV_put, if_pos rfl]; simp
          · rw [if_neg e, valV_put, if_neg (fun z => e (Sum.inl.inj z))]
            exact kv x
      · rintro σ H5 ⟨v4, kvs, rfl, hE5, kl, kv, sx⟩
        have lk : ∀ x, valV kvs (.inl x) = (lkF here n x).map V.int := kv
        have hB5 := sx _ _ (Ne.symm EB) hB4
        have CE : C ≠ E := fun z => by obtain ⟨ps, e, _⟩ := cr; rw [z, hE] at e; cases e
        have cr5 : CrsAt H5 C cs := cr4.mvX sx ⟨_, h4, fun xs z => nomatch z⟩ CE
        have sm5 : Same H H5 := fun b o e => sx b o (ne_of_none e hE0) (sm4 _ _ e)
        -- the rings
        refine ⟨_, rfl, n, rfl, by omega, by omega, fun R hR => ?_⟩
        refine lc_inv (n := n) (fun i H6 => H6 R = some (.lst (((((List.range i).filter fun k => decide (here.getD k 0 = (k : Int))).map fun i : Nat => (i : Int))).map V.int)) ∧ SameX R H5 H6) ⟨upd_same, .upd⟩ (fun i H6 hi _ => by show i < (n : Int).toNat; omega) (fun H6 _ => by show (n : Int).toNat ≤ n; omega) ?_ ?_
        · rintro i H6 hi ⟨hR6, sx6⟩ x H' ⟨rfl, rfl⟩
          have RB : R ≠ B := fun z => by rw [z, hB5] at hR; cases hR
          refine ⟨rfl, _, rfl, _, rfl, B, _, _, .int (here.getD i 0), rfl, rfl, SqL.of (sx6 _ _ (Ne.symm RB) hB5), at_int (by omega) (by omega), _, rfl, rfl, _, rfl, ?_⟩
          have fl : ((List.range i).filter fun k => decide (here.getD k 0 = (k : Int))).length ≤ i := Nat.le_trans (List.length_filter_le _ _) (by simp)
          refine ite2 (fun h => ?_) (fun h => ?_)
          · have h : here.getD i 0 = (i : Int) := by simpa using h
            refine ⟨_, rfl, _, hR6, sln (by simp only [List.length_map]; omega), ?_, sx6.trans .upd⟩
            rw [upd_same, List.range_succ, List.filter_append]
            simp only [List.filter_cons, List.filter_nil]
            rw [if_pos (decide_eq_true h)]
            simp
          · have h : ¬ here.getD i 0 = (i : Int) := by simpa using h
            refine ⟨?_, sx6⟩
            rw [hR6, List.range_succ, List.filter_append]
            simp only [List.filter_cons, List.filter_nil]
            rw [if_neg (by simpa using h), List.append_nil]
        · rintro H6 ⟨hR6, sx6⟩
          have s56 : Same H5 H6 := sx6.same hR
          have hR6 : H6 R = some (.lst ((closedR n ls).map V.int)) := by rw [hR6, eR]; rfl
          have hE6 := s56 _ _ hE5
          obtain ⟨ps, hC6, pp⟩ := cr5.mv s56
          have hpl := pp.length
          refine ⟨_, rfl, _, rfl, C, rfl, ⟨_, SqL.of hC6⟩, fun D hD => ?_⟩
          refine lc_inv (n := cs.length) (fun i H7 => ∃ qs : List Addr, H7 D = some (.lst (qs.map V.ref)) ∧ Paired (CrAt H7) qs ((cs.take i).map (Cr.map (phi n here))) ∧ SameX D H6 H7) ⟨[], upd_same, .nil, .upd⟩ (fun i H7 hi ⟨_, _, _, s7⟩ => ⟨_, _, SqL.of (s7 _ _ (ne_of_none hC6 hD) hC6), List.getElem?_eq_getElem (by rw [List.length_map]; omega)⟩) (fun H7 ⟨_, _, _, s7⟩ => ⟨_, SqL.of (s7 _ _ (ne_of_none hC6 hD) hC6), by rw [List.length_map]; omega⟩) ?_ ?_
          · rintro i H7 hi ⟨qs, hD7, pq, s7⟩ x H' ⟨rfl, hx⟩
            obtain ⟨c, ec⟩ : ∃ c, cs[i]? = some c := ⟨_, List.getElem?_eq_getElem hi⟩
            obtain ⟨p, ep, hp⟩ := Paired.getL pp ec
            have hp : H6 p = some (.tup (c.l.map V.int)) := hp
            have CD := ne_of_none hC6 hD
            have ex := hx _ (SqL.of (s7 _ _ CD hC6))
            rw [List.getElem?_map, ep] at ex
            cases ex
            have hp7 := s7 _ _ (ne_of_none hp hD) hp
            have hE7 := s7 _ _ (ne_of_none hE6 hD) hE6
            refine ⟨rfl, ?_⟩
            refine yesT ?_
            refine ⟨_, rfl, p, _, _, .int c.s, rfl, rfl, SqT.of hp7, rfl, (by show 1 ≤ sizeLine; decide), fun p1 hp1 => ?_⟩
            have s8 : Same H' (upd H' p1 (.tup [.int c.s])) := Same.new hp1
            have h8 : upd H' p1 (.tup [.int c.s]) p1 = some (.tup [.int c.s]) := upd_same
            dsimp only
            generalize upd H' p1 (.tup [.int c.s]) = H8 at s8 h8 ⊢
            refine ⟨_, rfl, _, rfl, p, _, rfl, SqT.of (s8 _ _ hp7), (fun z => absurd z.1 (show ¬ HT.sIx 5 0 (some 1) = 0 by decide)), fun p2 hp2 => ?_⟩
            have e2 : cutV (c.l.map V.int) (some 1) none = c.nm.map V.int := rfl
            dsimp only at e2 ⊢
            rw [e2]
            have s9 : Same H8 (upd H8 p2 (.tup (c.nm.map V.int))) := Same.new hp2
            have h9 : upd H8 p2 (.tup (c.nm.map V.int)) p2 = some (.tup (c.nm.map V.int)) := upd_same
            generalize upd H8 p2 (.tup (c.nm.map V.int)) = H9 at s9 h9 ⊢
            refine ⟨p2, rfl, ⟨_, SqT.of h9⟩, fun G hG => ?_⟩
            have hE9 := s9 _ _ (s8 _ _ hE7)
            refine lc_inv (n := 4) (fun j H10 => H10 G = some (.lst (((c.nm.take j).map (phi n here)).map V.int)) ∧ SameX G H9 H10) ⟨upd_same, .upd⟩ (fun j H10 hj ⟨_, s10⟩ => ⟨_, _, SqT.of (s10 _ _ (ne_of_none h9 hG) h9), List.getElem?_eq_getElem (by simpa [Cr.nm] using hj)⟩) (fun H10 ⟨_, s10⟩ => ⟨_, SqT.of (s10 _ _ (ne_of_none h9 hG) h9), by simp [Cr.nm]⟩) ?_ ?_
            · rintro j H10 hj ⟨hG10, s10⟩ y H'' ⟨rfl, hy⟩
              have ey := get_int (hy _ (SqT.of (s10 _ _ (ne_of_none h9 hG) h9)))
              subst ey
              obtain ⟨z, ez⟩ : ∃ z, c.nm[j]? = some z := ⟨_, List.getElem?_eq_getElem (by simpa [Cr.nm] using hj)⟩
              have egz : c.nm.getD j 0 = z := by rw [List.getD_eq_getElem?_getD, ez]; rfl
              rw [egz]
              have hE10 := s10 _ _ (ne_of_none hE9 hG) hE9
              refine ⟨rfl, ?_⟩
              refine yesT ?_
              refine ⟨_, rfl, E, rfl, .inl ⟨_, .inl hE10⟩, _, rfl, _, rfl, _, .inl ⟨kvs, .inl z, .inl hE10, rfl, rfl⟩, ?_⟩
              rw [lk z]
              have ephi : (Option.map V.int (lkF here n z)).getD (V.int z) = .int (phi n here z) := by
                unfold phi; cases lkF here n z <;> rfl
              dsimp only
              rw [ephi]
              refine ⟨_, hG10, sln (by simp only [List.length_map, List.length_take]; omega), ?_, s10.trans .upd⟩
              rw [upd_same, List.map_map, List.map_map, take_map_succ ez]; rfl
            · rintro H10 ⟨hG10, s10⟩
              have s910 : Same H9 H10 := s10.same hG
              have e4 : (c.nm.take 4).map (phi n here) = (c.map (phi n here)).nm := rfl
              rw [e4] at hG10
              refine ⟨G, _, rfl, .inl ⟨SqL.of hG10, fun p3 hp3 => ?_⟩⟩
              have s11 : Same H10 (upd H10 p3 (.tup ((c.map (phi n here)).nm.map V.int))) := Same.new hp3
              have h11 : upd H10 p3 (.tup ((c.map (phi n here)).nm.map V.int)) p3 = some (.tup ((c.map (phi n here)).nm.map V.int)) := upd_same
              generalize upd H10 p3 (.tup ((c.map (phi n here)).nm.map V.int)) = H11 at s11 h11 ⊢
              have s811 := (s9.trans s910).trans s11
              refine ⟨p1, p3, _, _, rfl, rfl, SqT.of (s811 _ _ h8), SqT.of h11, (by simp), (by show 1 + 4 ≤ sizeLine; decide), (fun z => nomatch z), fun _ p4 hp4 => ?_⟩
              have s711 := s8.trans s811
              have hD11 := s711 _ _ hD7
              have p4D : p4 ≠ D := fun z => by rw [z, hD11] at hp4; cases hp4
              have ql := pq.length
              refine ⟨qs.map V.ref, by rw [upd_ne (Ne.symm p4D)]; exact hD11, sln (by rw [List.length_map, ql]; simp only [List.length_map, List.length_take]; omega), ?_⟩
              refine ⟨qs ++ [p4], by rw [upd_same]; simp, ?_, ?_⟩
              · rw [take_map_succ ec]
                have to : ∀ (q : Addr) (xs : List V), H' q = some (.tup xs) → upd (upd H11 p4 (.tup ([V.int c.s] ++ (c.map (phi n here)).nm.map V.int))) D (.lst (qs.map V.ref ++ [.ref p4])) q = some (.tup xs) := fun q xs e => by
                  rw [upd_ne (fun z => by rw [z, hD7] at e; cases e), upd_ne (ne_of_none (s711 _ _ e) hp4)]; exact s711 _ _ e
                refine (Paired.mono (fun q d z => to _ _ z) pq).snoc ?_
                show upd _ _ _ p4 = _
                rw [upd_ne p4D, upd_same]; rfl
              · exact ((s7.trans s711.x).trans (Same.new hp4).x).trans .upd
          · rintro H7 ⟨qs, hD7, pq, s7⟩
            have s67 : Same H6 H7 := s7.same hD
            refine ⟨(by show 2 ≤ sizeLine; decide), fun d hd => ?_⟩
            have s8 : Same H7 (upd H7 d (.tup [.ref R, .ref D])) := Same.new hd
            rw [List.take_length] at pq
            refine k d _ (((sm5.trans s56).trans s67).trans s8) ⟨R, D, upd_same, s8 _ _ (s67 _ _ hR6), ⟨qs, s8 _ _ hD7, ?_⟩⟩
            rw [eC]
            exact Paired.mono (fun q c z => s8 _ _ z) pq
end

end K25
namespace K25
open PySem L2 DM PM
abbrev s__law_names : Stmt := top 54
theorem sc__law_names : FnScope ["_law_drawing", "_law_names_here", "_law_row"] ["_law_drawing"] (defScope s__law_names) := ⟨rfl, rfl, rfl, by decide +kernel, rfl, by decide +kernel, by decide +kernel⟩
section
variable {P : Program} {w : World} {K : PySem.W.Frag} {mg : Str → Option Value} {base : Heap}
def n1 (rings : List Int) (cs : List Cr) : List Int := rings ++ insA cs
theorem insA_len : ∀ cs : List Cr, (insA cs).length = 2 * cs.length
  | [] => rfl
  | c :: cs => by
    show (insA cs).length + 2 = _
    rw [insA_len cs, List.length_cons]; omega
theorem n1_len (rings : List Int) (cs : List Cr) : (n1 rings cs).length = rings.length + 2 * cs.length := by
  unfold n1; rw [List.length_append, insA_len]
theorem n1_succ {rings : List Int} {cs : List Cr} {i : Nat} {c : Cr} (h : cs[i]? = some c) : n1 rings (cs.take (i + 1)) = n1 rings (cs.take i) ++ [c.i1, c.i2] := by
  unfold n1
  rw [List.take_succ, h, insA_app, List.append_assoc]; rfl
theorem top_of {ks ns : List Int} (up : ks.Pairwise (· ≤ ·)) (pm : ks.Perm ns) (ne : ns ≠ []) : ∃ m, atI (ks.map V.int) (-1) = some (.int m) ∧ m ∈ ns ∧ ∀ y ∈ ns, y ≤ m := by
  rcases List.eq_nil_or_concat ks with e | ⟨l, m, e⟩
  · subst e
    exact absurd (List.nil_perm.mp pm) ne
  · rw [List.concat_eq_append] at e
    subst e
    refine ⟨m, by rw [List.map_append]; exact atI_last _ _, pm.mem_iff.mp (by simp), fun y hy => ?_⟩
    rcases List.mem_append.mp (pm.mem_iff.mpr hy) with z | z
    · exact (List.pairwise_append.mp up).2.2 y z m (by simp)
    · rw [List.mem_singleton.mp z]; omega
structure PNam (vs : List V) (H : Hp) (Q : VK) : Prop where
  get : ∃ (d : Addr) (rings : List Int) (cs : List Cr), vs = [.ref d] ∧ DrAt H d rings cs ∧ rings.length ≤ 400 ∧ cs.length ≤ 400 ∧ ∀ (p : Addr) (H' : Hp) (ks : List Int), H p = none → Same H H' → H' p = some (.lst (ks.map V.int)) → ks.Perm (n1 rings cs) → ks.Pairwise (· ≤ ·) → Q (.ref p) H'
def sp_names : Sp := fun vs H Q _ => PNam vs H Q
theorem ok_names {fa : Addr} {fd : FuncData} (F : FT K mg "_law_names" s__law_names ["_law_drawing"] fa fd) (T : BN mg) : Cal P w K mg base 1 "_law_names" ["_law_drawing"] sp_names := by
  refine F.cal sc__law_names (fun vs H Q E h => ?_) (fun A outer s H vs Q E hr h => ?_)
  · obtain ⟨⟨d, rings, cs, rfl, _⟩⟩ := h; rfl
  · obtain ⟨⟨d, rings, cs, rfl, ⟨a, b, hd, ha, hcr⟩, rl, cl, k⟩⟩ := h
    have nd := sc__law_names.nd
    obtain ⟨ps, hb, pp⟩ := id hcr
    have hpl := pp.length
    refine ⟨_, (pss_cons (ps_set (i := 1) nd rfl (Or.inl rfl) (pe_callTy call_list_of (by rfl) T.list (by decide +kernel) (pa_cons (pe_ix ix_tup (pv 0) pe_int (fun _ _ => rfl)) pa_nil)))
      (pss_cons (ps_for PassesOwn.never rfl (pi_list (pe_ix ix_tup (pv 0) pe_int (fun _ _ => rfl))) (pg_name (i := 2) nd rfl (Or.inl rfl))
        (pss_one (ps_set (i := 1) nd rfl (Or.inl rfl) (pe_op op_cat (pv 1) (pe_lst (pa_cons (pe_ix ix_tup (pv 2) pe_int (fun _ _ => rfl)) (pa_cons (pe_ix ix_tup (pv 2) pe_int (fun _ _ => rfl)) pa_nil)))))))
      (pss_one (ps_ret (pe_callB cr_sortedB' (by rfl) T.sorted (by decide +kernel) (pa_cons (pv 1) pa_nil)))))), ?_⟩
    refine ⟨_, rfl, d, _, _, .ref a, rfl, rfl, SqT.of hd, rfl, a, _, rfl, .inl (SqL.of ha), fun L hL => ?_⟩
    refine gen_new (.lst (rings.map V.int)) hL fun H1 s1 h1 => ?_
    refine ⟨_, rfl, d, _, _, .ref b, rfl, rfl, SqT.of (s1 _ _ hd), rfl, b, rfl, ⟨_, SqL.of (s1 _ _ hb)⟩, ?_⟩
    refine for_by (D := { nx := _, rt := _ }) (n := cs.length) (fun i σ H2 => ∃ (v2 : Option V) (N : Addr), σ = [some (.ref d), some (.ref N), v2] ∧ H2 N = some (.lst ((n1 rings (cs.take i)).map V.int)) ∧ Same H H2) ⟨none, L, rfl, by rw [h1]; simp [n1, insA], s1⟩ (fun i σ H2 hi ⟨_, _, _, _, sm⟩ => ⟨_, _, SqL.of (sm _ _ hb), List.getElem?_eq_getElem (by rw [List.length_map]; omega)⟩) (fun σ H2 ⟨_, _, _, _, sm⟩ => ⟨_, SqL.of (sm _ _ hb), by rw [List.length_map]; omega⟩) ?_ ?_
    · rintro i σ H2 hi ⟨v5, N, rfl, hN, sm⟩ x H' ⟨rfl, hx⟩
      obtain ⟨c, ec⟩ : ∃ c, cs[i]? = some c := ⟨_, List.getElem?_eq_getElem hi⟩
      obtain ⟨p, ep, hp⟩ := Paired.getL pp ec
      have hp : H p = some (.tup (c.l.map V.int)) := hp
      have ex := hx _ (SqL.of (sm _ _ hb))
      rw [List.getElem?_map, ep] at ex
      cases ex
      have hp2 := sm _ _ hp
      refine ⟨_, rfl, _, rfl, p, _, _, .int c.i1, rfl, rfl, SqT.of hp2, rfl, _, rfl, p, _, _, .int c.i2, rfl, rfl, SqT.of hp2, rfl, (by show 2 ≤ sizeLine; decide), fun p3 hp3 => ?_⟩
      have s4 : Same H' (upd H' p3 (.lst [.int c.i1, .int c.i2])) := Same.new hp3
      have h4 : upd H' p3 (.lst [.int c.i1, .int c.i2]) p3 = some (.lst ([c.i1, c.i2].map V.int)) := upd_same
      dsimp only
      generalize upd H' p3 (.lst [.int c.i1, .int c.i2]) = H4 at s4 h4 ⊢
      have nl' := n1_len rings (cs.take i)
      rw [List.length_take] at nl'
      refine ⟨N, p3, _, _, rfl, rfl, s4 _ _ hN, h4, Nat.le_of_lt (sln (by rw [List.length_map, List.length_map, nl']; simp; omega)), fun N' hN' => ?_⟩
      exact ⟨_, _, rfl, by rw [upd_same, n1_succ ec, List.map_append], (sm.trans s4).trans (Same.new hN')⟩
    · rintro σ H2 ⟨v5, N, rfl, hN, sm⟩
      rw [List.take_length] at hN
      refine ⟨_, rfl, N, _, rfl, SqL.of hN, fun ks p pm up hp => ?_⟩
      exact k p _ ks (sm.free hp) (sm.trans (Same.new hp)) upd_same pm up
end
abbrev s__law_in_moved : Stmt := top 55
theorem sc__law_in_moved : FnScope ["_law_crossings", "_law_name", "_law_new", "_law_found", "_law_sign", "_law_under_in", "_law_under_out", "_law_over_in", "_law_over_out", "_law_one", "_law_ins"] ["_law_crossings", "_law_name", "_law_new"] (defScope s__law_in_moved) := ⟨rfl, rfl, rfl, by decide +kernel, rfl, by decide +kernel, by decide +kernel⟩
section
variable {P : Program} {w : World} {K : PySem.W.Frag} {mg : Str → Option Value} {base : Heap}
structure PInm (vs : List V) (H : Hp) (Q : VK) : Prop where
  get : ∃ (b : Addr) (n v : Int) (cs : List Cr), vs = [.ref b, .int n, .int v] ∧ CrsAt H b cs ∧ cs.length ≤ 1000 ∧ ∀ (b' : Addr) (H' : Hp), H b' = none → Same H H' → CrsAt H' b' (cs.map (inM n v)) → Q (.ref b') H'
def sp_inm : Sp := fun vs H Q _ => PInm vs H Q
theorem ok_inm {fa : Addr} {fd : FuncData} (F : FT K mg "_law_in_moved" s__law_in_moved ["_law_crossings", "_law_name", "_law_new"] fa fd) (T : BN mg) : Cal P w K mg base 1 "_law_in_moved" ["_law_crossings", "_law_name", "_law_new"] sp_inm := by
  refine F.cal sc__law_in_moved (fun vs H Q E h => ?_) (fun A outer s H vs Q E hr h => ?_)
  · obtain ⟨⟨b, n, v, cs, rfl, _⟩⟩ := h; rfl
  · obtain ⟨⟨b, e, last, cs, rfl, hcr, cl, k⟩⟩ := h
    have nd := sc__law_in_moved.nd
    obtain ⟨ps, hb, pp⟩ := id hcr
    have hpl := pp.length
    refine ⟨_, (pss_cons (ps_set (i := 3) nd rfl (Or.inl rfl) (pe_lst pa_nil))
      (pss_cons (ps_for PassesOwn.never rfl (pi_list (pv 0)) (pg_tup (by rfl) (pgs_cons (pg_name (i := 4) nd rfl (Or.inl rfl)) (pgs_cons (pg_name (i := 5) nd rfl (Or.inl rfl)) (pgs_cons (pg_name (i := 6) nd rfl (Or.inl rfl)) (pgs_cons (pg_name (i := 7) nd rfl (Or.inl rfl)) (pgs_cons (pg_name (i := 8) nd rfl (Or.inl rfl)) pgs_nil))))))
        (pss_cons (ps_setLc (i := 10) (own := [("_law_one", 9)]) (g := (gName 9)) (wi := (iTup K (tTup (tCons (tVar 5) (tCons (tVar 7) tNil))))) (tt := tYes) (te := (tOp (rIxL K) (tLst (tCons (tVar 9) (tCons (tVar 2) tNil))) (tCB (fun xs H Q => (∃ i, xs = [.int i] ∧ Q (.int i) H) ∨ ∃ k, xs = [.bl k] ∧ Q (.int (if k then 1 else 0)) H) (tCons (tOp rEq (tVar 9) (tVar 1)) tNil)))) (by rfl) nd rfl rfl (sw_true rfl rfl rfl (by decide +kernel)) (pi_tup (pe_tup (pa_cons (pv 5) (pa_cons (pv 7) pa_nil)))) (blkOk_by (by kernel_rfl)) (fun _ _ _ _ _ => (pg_name (i := 9) nd rfl (Or.inl rfl))) (fun _ _ _ _ _ => pts_nil) (fun _ _ _ _ _ => (pe_ix ix_list (pe_lst (pa_cons (pv 9) (pa_cons (pv 2) pa_nil))) (pe_callTy call_int1 (by rfl) T.int (by decide +kernel) (pa_cons (pe_cmpR op_eq (pv 9) (pv 1) (nomark _)) pa_nil)) (fun _ _ => rfl))))
        (pss_one (ps_expr (pe_bm PySem.F.plainAttrs_list PySem.F.slot_list_append PySem.F.type_list_append mt_append (pv 3) (pa_cons (pe_tup (pa_cons (pv 4) (pa_cons (pe_ix ix_list (pv 10) pe_int (fun _ _ => rfl)) (pa_cons (pv 6) (pa_cons (pe_ix ix_list (pv 10) pe_int (fun _ _ => rfl)) (pa_cons (pv 8) pa_nil)))))) pa_nil))))))
      (pss_one (ps_ret (pv 3))))), ?_⟩
    refine ⟨(by show 0 ≤ sizeLine; decide), fun M hM => ?_⟩
    refine gen_new (.lst []) hM fun H9 s9 h9 => ?_
    have bM : b ≠ M := ne_of_none hb hM
    have hb9 := s9 _ _ hb
    refine ⟨_, rfl, b, rfl, ⟨_, SqL.of hb9⟩, ?_⟩
    refine for_by (D := { nx := _, rt := _ }) (n := cs.length) (fun i σ H10 => ∃ (v4 v5 v6 v7 v8 v10 : Option V) (qs : List Addr), σ = [some (.ref b), some (.int e), some (.int last), some (.ref M), v4, v5, v6, v7, v8, none, v10] ∧ H10 M = some (.lst (qs.map V.ref)) ∧ Paired (CrAt H10) qs ((cs.take i).map (inM e last)) ∧ SameX M H9 H10) ⟨none, none, none, none, none, none, [], rfl, h9, .nil, .refl _ _⟩ (fun i σ H10 hi ⟨_, _, _, _, _, _, _, _, _, _, sx⟩ => ⟨_, _, SqL.of (sx _ _ bM hb9), List.getElem?_eq_getElem (by rw [List.length_map]; omega)⟩) (fun σ H10 ⟨_, _, _, _, _, _, _, _, _, _, sx⟩ => ⟨_, SqL.of (sx _ _ bM hb9), by rw [List.length_map]; omega⟩) ?_ ?_
    · rintro i σ H10 hi ⟨v4, v5, v6, v7, v8, v10, qs, rfl, hM10, pq, sx⟩ x H' ⟨rfl, hx⟩
      obtain ⟨c, ec⟩ : ∃ c, cs[i]? = some c := ⟨_, List.getElem?_eq_getElem hi⟩
      obtain ⟨p, ep, hp⟩ := Paired.getL pp ec
      have hp : H p = some (.tup (c.l.map V.int)) := hp
      have ex := hx _ (SqL.of (sx _ _ bM hb9))
      rw [List.getElem?_map, ep] at ex
      cases ex
      have hp10 := sx _ _ (ne_of_none hp hM) (s9 _ _ hp)
      refine ⟨_, _, rfl, SqT.of hp10, rfl, _, _, rfl, _, _, rfl, _, _, rfl, _, _, rfl, _, _, rfl, rfl, ?_⟩
      refine ⟨_, rfl, _, rfl, (by show 2 ≤ sizeLine; decide), fun t1 ht1 => ?_⟩
      have s11 : Same H' (upd H' t1 (.tup [.int c.i1, .int c.i2])) := Same.new ht1
      have h11 : upd H' t1 (.tup [.int c.i1, .int c.i2]) t1 = some (.tup ([c.i1, c.i2].map V.int)) := upd_same
      dsimp only
      generalize upd H' t1 (.tup [.int c.i1, .int c.i2]) = H11 at s11 h11 ⊢
      refine ⟨t1, rfl, ⟨_, SqT.of h11⟩, fun G hG => ?_⟩
      refine lc_inv (n := 2) (fun j H12 => H12 G = some (.lst (((([c.i1, c.i2].take j)).map (inTo e last)).map V.int)) ∧ SameX G H11 H12) ⟨upd_same, .upd⟩ (fun j H12 hj ⟨_, s12⟩ => ⟨_, _, SqT.of (s12 _ _ (ne_of_none h11 hG) h11), List.getElem?_eq_getElem (by simpa using hj)⟩) (fun H12 ⟨_, s12⟩ => ⟨_, SqT.of (s12 _ _ (ne_of_none h11 hG) h11), by simp⟩) ?_ ?_
      · rintro j H12 hj ⟨hG12, s12⟩ y H'' ⟨rfl, hy⟩
        have ey := get_int (hy _ (SqT.of (s12 _ _ (ne_of_none h11 hG) h11)))
        subst ey
        obtain ⟨z, ez⟩ : ∃ z, [c.i1, c.i2][j]? = some z := ⟨_, List.getElem?_eq_getElem (by simpa using hj)⟩
        have egz : [c.i1, c.i2].getD j 0 = z := by rw [List.getD_eq_getElem?_getD, ez]; rfl
        rw [egz]
        refine ⟨rfl, ?_⟩
        refine yesT ?_
        refine ⟨_, rfl, _, rfl, (by show 2 ≤ sizeLine; decide), fun g hg => ?_⟩
        have s13 : Same H'' (upd H'' g (.lst [.int z, .int last])) := Same.new hg
        have h13 : upd H'' g (.lst [.int z, .int last]) g = some (.lst [.int z, .int last]) := upd_same
        dsimp only
        generalize upd H'' g (.lst [.int z, .int last]) = H13 at s13 h13 ⊢
        have ein : atI [V.int z, V.int last] (if (decide (V.int z = V.int e)) = true then 1 else 0) = some (.int (inTo e last z)) := by
          unfold inTo
          by_cases h : z = e
          · rw [if_pos h, if_pos (by simpa using h)]; rfl
          · rw [if_neg h, if_neg (by simpa using h)]; rfl
        refine ⟨_, rfl, _, rfl, rfl, .inr ⟨_, rfl, g, _, _, .int (inTo e last z), rfl, rfl, SqL.of h13, ein, ?_⟩⟩
        refine ⟨_, s13 _ _ hG12, sln (by simp only [List.length_map, List.length_take, List.length_cons, List.length_nil]; omega), ?_, (s12.trans s13.x).trans .upd⟩
        rw [upd_same, List.map_map, List.map_map, take_map_succ ez]; rfl
      · rintro H12 ⟨hG12, s12⟩
        have s112 : Same H11 H12 := s12.same hG
        have e12 : (([c.i1, c.i2].take 2).map (inTo e last)).map V.int = [.int (inTo e last c.i1), .int (inTo e last c.i2)] := rfl
        rw [e12] at hG12
        have sH := s11.trans s112
        have hM12 := sH _ _ hM10
        refine ⟨_, rfl, .inl ⟨rfl, _, SqL.of hM12⟩, _, rfl, _, rfl, G, _, _, .int (inTo e last c.i1), rfl, rfl, SqL.of hG12, rfl, _, rfl, _, rfl, G, _, _, .int (inTo e last c.i2), rfl, rfl, SqL.of hG12, rfl, _, rfl, (by show 5 ≤ sizeLine; decide), fun t2 ht2 => ?_⟩
        have s13 : Same H12 (upd H12 t2 (.tup ((inM e last c).l.map V.int))) := Same.new ht2
        have h13 : upd H12 t2 (.tup ((inM e last c).l.map V.int)) t2 = some (.tup ((inM e last c).l.map V.int)) := upd_same
        have etup : [V.int c.s, V.int (inTo e last c.i1), V.int c.o1, V.int (inTo e last c.i2), V.int c.o2] = (inM e last c).l.map V.int := rfl
        dsimp only
        rw [etup]
        generalize upd H12 t2 (.tup ((inM e last c).l.map V.int)) = H13 at s13 h13 ⊢
        have sH13 := sH.trans s13
        have ql := pq.length
        refine ⟨M, _, _, rfl, rfl, s13 _ _ hM12, sln (by rw [List.length_map, ql]; simp only [List.length_map, List.length_take]; omega), ?_⟩
        refine ⟨_, _, _, _, _, _, qs ++ [t2], rfl, by rw [upd_same]; simp, ?_, (sx.trans sH13.x).trans .upd⟩
        rw [take_map_succ ec]
        have hM13 := s13 _ _ hM12
        have to : ∀ (r : Addr) (xs : List V), H13 r = some (.tup xs) → upd H13 M (.lst (qs.map V.ref ++ [.ref t2])) r = some (.tup xs) := fun r xs e => by
          rw [upd_ne (fun z => by rw [z, hM13] at e; cases e)]; exact e
        exact (Paired.mono (fun r d z => to _ _ (sH13 _ _ z)) pq).snoc (to _ _ h13)
    · rintro σ H10 ⟨v4, v5, v6, v7, v8, v10, qs, rfl, hM10, pq, sx⟩
      rw [List.take_length] at pq
      have smx : Same H H10 := fun b o e => sx b o (ne_of_none e hM) (s9 _ _ e)
      exact ⟨_, rfl, k M H10 hM smx ⟨qs, hM10, pq⟩⟩
end
abbrev s__law_curl : Stmt := top 56
theorem sc__law_curl : FnScope ["_law_drawing", "_law_e", "_law_sign", "_law_way", "_law_rings", "_law_crossings", "_law_loop", "_law_last", "_law_new", "_law_ring"] ["_law_drawing", "_law_e", "_law_sign", "_law_way"] (defScope s__law_curl) := ⟨rfl, rfl, rfl, by decide +kernel, rfl, by decide +kernel, by decide +kernel⟩
section
variable {P : Program} {w : World} {K : PySem.W.Frag} {mg : Str → Option Value} {base : Heap}
def wayS (under : Bool) : Str := if under = true then "under" else "over"
structure PCrl (vs : List V) (H : Hp) (Q : VK) : Prop where
  get : ∃ (d : Addr) (e sg : Int) (under : Bool) (rings : List Int) (cs : List Cr), vs = [.ref d, .int e, .int sg, .str (wayS under)] ∧ DrAt H d rings cs ∧ e ∈ n1 rings cs ∧ rings.length ≤ 400 ∧ cs.length ≤ 400 ∧ ∀ (d' : Addr) (H' : Hp) (m : Int), Same H H' → m ∈ n1 rings cs → (∀ y ∈ n1 rings cs, y ≤ m) → DrAt H' d' (wo e rings) (curlS rings cs e m sg under) → Q (.ref d') H'
def sp_crl : Sp := fun vs H Q _ => PCrl vs H Q
theorem ok_crl {fa : Addr} {fd : FuncData} (F : FT K mg "_law_curl" s__law_curl ["_law_drawing", "_law_e", "_law_sign", "_law_way"] fa fd) (T : BN mg) (cA : Cal P w K mg base 1 "_law_names" ["_law_drawing"] sp_names) (cI : Cal P w K mg base 1 "_law_in_moved" ["_law_crossings", "_law_name", "_law_new"] sp_inm) : Cal P w K mg base 2 "_law_curl" ["_law_drawing", "_law_e", "_law_sign", "_law_way"] sp_crl := by
  refine F.cal sc__law_curl (fun vs H Q E h => ?_) (fun A outer s H vs Q E hr h => ?_)
  · obtain ⟨⟨d, e, sg, un, rings, cs, rfl, _⟩⟩ := h; rfl
  · obtain ⟨⟨d, e, sg, un, rings, cs, rfl, dr, he, rl, cl, k⟩⟩ := h
    obtain ⟨a, b, hd, ha, hcr⟩ := id dr
    have nd := sc__law_curl.nd
    refine ⟨_, (pss_cons (ps_asg (pv 0) (pg_tup (by rfl) (pgs_cons (pg_name (i := 4) nd rfl (Or.inl rfl)) (pgs_cons (pg_name (i := 5) nd rfl (Or.inl rfl)) pgs_nil))))
      (pss_cons (ps_set (i := 6) nd rfl (Or.inl rfl) (pe_op op_add (pe_ix ix_list (pe_cal cA (hr.mono (by decide)) (by rfl) (pa_cons (pv 0) pa_nil)) (pe_un un_neg pe_int) (fun _ _ => rfl)) pe_int))
      (pss_cons (ps_set (i := 7) nd rfl (Or.inl rfl) (pe_ix ix_list (pe_lst (pa_cons (pe_op op_add (pv 6) pe_int) (pa_cons (pv 1) pa_nil))) (pe_callTy call_int1 (by rfl) T.int (by decide +kernel) (pa_cons (pe_cmpR op_in_seq (pv 1) (pv 4) (by with_unfolding_all rfl)) pa_nil)) (fun _ _ => rfl)))
      (pss_cons (ps_set (i := 8) nd rfl (Or.inl rfl) (pe_tup (pa_cons (pv 2) (pa_cons (pv 6) (pa_cons (pv 7) (pa_cons (pv 1) (pa_cons (pv 6) pa_nil)))))))
      (pss_cons (ps_if (pt_cmpR op_eq (pv 3) pe_str (nomark _))
        (pss_one (ps_set (i := 8) nd rfl (Or.inl rfl) (pe_tup (pa_cons (pv 2) (pa_cons (pv 1) (pa_cons (pv 6) (pa_cons (pv 6) (pa_cons (pv 7) pa_nil))))))))
        pss_nil)
      (pss_one (ps_ret (pe_tup (pa_cons (pe_lc (own := [("_law_ring", 9)]) (g := (gName 9)) (wi := (iList K (tVar 4))) (tt := (tTest (tOp rNe (tVar 9) (tVar 1)))) (te := (tVar 9)) (by rfl) nd (pi_list (pv 4)) (blkOk_by (by kernel_rfl)) (fun _ _ _ _ _ => (pg_name (i := 9) nd rfl (Or.inl rfl))) (fun _ _ _ _ _ => pts_one (pt_cmpR op_ne (pv 9) (pv 1) (nomark _))) (fun _ _ _ _ _ => (pv 9))) (pa_cons (pe_op op_cat (pe_cal cI (hr.mono (by decide)) (by rfl) (pa_cons (pv 5) (pa_cons (pv 1) (pa_cons (pv 7) pa_nil)))) (pe_lst (pa_cons (pv 8) pa_nil))) pa_nil)))))))))), ?_⟩
    refine ⟨_, rfl, d, _, rfl, SqT.of hd, rfl, _, _, rfl, _, _, rfl, rfl, ?_⟩
    refine ⟨_, rfl, ⟨⟨d, rings, cs, rfl, dr, rl, cl, fun L H1 ks hL s1 h1 pm up => ?_⟩⟩⟩
    obtain ⟨m, em, mm, mx⟩ := top_of up pm (List.ne_nil_of_mem he)
    refine ⟨_, rfl, L, _, _, .int m, rfl, rfl, SqL.of h1, em, _, _, rfl, rfl, ?_⟩
    refine ⟨_, rfl, _, _, rfl, rfl, _, rfl, (by show 2 ≤ sizeLine; decide), fun L1 hL1 => ?_⟩
    have s4 : Same H1 (upd H1 L1 (.lst [V.int (m + 1 + 1), V.int e])) := Same.new hL1
    have h4 : upd H1 L1 (.lst [V.int (m + 1 + 1), V.int e]) L1 = some (.lst [V.int (m + 1 + 1), V.int e]) := upd_same
    dsimp only
    generalize upd H1 L1 (.lst [V.int (m + 1 + 1), V.int e]) = H4 at s4 h4 ⊢
    have sm4 := s1.trans s4
    have ha4 := sm4 _ _ ha
    refine ⟨_, rfl, _, rfl, a, _, rfl, .inl (SqL.of ha4), rfl, flat_ints _, .inr ⟨_, rfl, ?_⟩⟩
    rw [in_ints]
    have elast : atI [V.int (m + 1 + 1), V.int e] (if (decide (e ∈ rings)) = true then 1 else 0) = some (.int (lastN rings e m)) := by
      unfold lastN
      by_cases h : e ∈ rings
      · rw [if_pos h, if_pos (decide_eq_true h)]; rfl
      · rw [if_neg h, if_neg (by simpa using h), show m + 1 + 1 = m + 2 by omega]; rfl
    refine ⟨L1, _, _, .int (lastN rings e m), rfl, rfl, SqL.of h4, elast, ?_⟩
    have ec : curlS rings cs e m sg un = cs.map (inM e (lastN rings e m)) ++ [if un = true then ⟨sg, e, m + 1, m + 1, lastN rings e m⟩ else ⟨sg, m + 1, lastN rings e m, e, m + 1⟩] := rfl
    generalize lastN rings e m = last at ec ⊢
    refine ⟨_, rfl, _, rfl, _, rfl, _, rfl, _, rfl, (by show 5 ≤ sizeLine; decide), fun p1 hp1 => ?_⟩
    have s6 : Same H4 (upd H4 p1 (.tup [.int sg, .int (m + 1), .int last, .int e, .int (m + 1)])) := Same.new hp1
    have h6 : upd H4 p1 (.tup [.int sg, .int (m + 1), .int last, .int e, .int (m + 1)]) p1 = some (.tup [.int sg, .int (m + 1), .int last, .int e, .int (m + 1)]) := upd_same
    dsimp only
    generalize upd H4 p1 (.tup [.int sg, .int (m + 1), .int last, .int e, .int (m + 1)]) = H6 at s6 h6 ⊢
    have sm6 := sm4.trans s6
    refine ⟨_, rfl, rfl, _, rfl, ?_⟩
    refine ite_join (fun σ H7 => ∃ q : Addr, σ = [some (.ref d), some (.int e), some (.int sg), some (.str (wayS un)), some (.ref a), some (.ref b), some (.int (m + 1)), some (.int last), some (.ref q), none] ∧ Same H H7 ∧ CrAt H7 q (if un = true then ⟨sg, e, m + 1, m + 1, last⟩ else ⟨sg, m + 1, last, e, m + 1⟩)) (fun σ H7 j => ?_) (fun hw rest => ?_) (fun hw => ?_)
    · obtain ⟨q, rfl, sm7, hq⟩ := j
      have ha7 := sm7 _ _ ha
      refine ⟨_, rfl, a, rfl, ⟨_, SqL.of ha7⟩, fun R hR => ?_⟩
      refine lc_inv (n := rings.length) (fun i H11 => H11 R = some (.lst (((rings.take i).filter fun r => decide (r ≠ e)).map V.int)) ∧ SameX R H7 H11) ⟨upd_same, .upd⟩ (fun i H11 hi ⟨_, s11⟩ => ⟨_, _, SqL.of (s11 _ _ (ne_of_none ha7 hR) ha7), List.getElem?_eq_getElem (by rw [List.length_map]; exact hi)⟩) (fun H11 ⟨_, s11⟩ => ⟨_, SqL.of (s11 _ _ (ne_of_none ha7 hR) ha7), by rw [List.length_map]; exact Nat.le_refl _⟩) ?_ ?_
      · rintro i H11 hi ⟨hR11, s11⟩ y H' ⟨rfl, hy⟩
        have ey := get_int (hy _ (SqL.of (s11 _ _ (ne_of_none ha7 hR) ha7)))
        subst ey
        obtain ⟨z, ez⟩ : ∃ z, rings[i]? = some z := ⟨_, List.getElem?_eq_getElem hi⟩
        have egz : rings.getD i 0 = z := by rw [List.getD_eq_getElem?_getD, ez]; rfl
        rw [egz]
        have fl : ((rings.take i).filter fun r => decide (r ≠ e)).length ≤ rings.length := Nat.le_trans (List.length_filter_le _ _) (by rw [List.length_take]; omega)
        refine ⟨rfl, _, rfl, _, rfl, rfl, _, rfl, ?_⟩
        refine ite2 (fun h => ?_) (fun h => ?_)
        · have h : z ≠ e := by simpa using h
          refine ⟨_, rfl, _, hR11, sln (by rw [List.length_map]; omega), ?_, s11.trans .upd⟩
          rw [upd_same, List.take_succ, ez, List.filter_append]
          simp [h]
        · have h : z = e := by simpa using h
          refine ⟨?_, s11⟩
          rw [hR11, List.take_succ, ez, List.filter_append]
          simp [h]
      · rintro H11 ⟨hR11, s11⟩
        rw [List.take_length] at hR11
        have s71 : Same H7 H11 := s11.same hR
        have sm11 := sm7.trans s71
        refine ⟨_, rfl, _, rfl, _, rfl, ⟨⟨b, e, last, cs, rfl, hcr.mv sm11, by omega, fun M H12 hM s12 cr12 => ?_⟩⟩⟩
        obtain ⟨qs, hM12, pq⟩ := id cr12
        have ql := pq.length
        rw [List.length_map] at ql
        refine ⟨_, rfl, (by show 1 ≤ sizeLine; decide), fun L4 hL4 => ?_⟩
        have s13 : Same H12 (upd H12 L4 (.lst [.ref q])) := Same.new hL4
        have h13 : upd H12 L4 (.lst [.ref q]) L4 = some (.lst [.ref q]) := upd_same
        dsimp only
        generalize upd H12 L4 (.lst [.ref q]) = H13 at s13 h13 ⊢
        refine ⟨M, L4, _, _, rfl, rfl, s13 _ _ hM12, h13, Nat.le_of_lt (sln (by rw [List.length_map]; simp; omega)), fun L5 hL5 => ?_⟩
        have s14 : Same H13 (upd H13 L5 (.lst (qs.map V.ref ++ [.ref q]))) := Same.new hL5
        have h14 : upd H13 L5 (.lst (qs.map V.ref ++ [.ref q])) L5 = some (.lst (qs.map V.ref ++ [.ref q])) := upd_same
        generalize upd H13 L5 (.lst (qs.map V.ref ++ [.ref q])) = H14 at s14 h14 ⊢
        refine ⟨(by show 2 ≤ sizeLine; decide), fun d' hd' => ?_⟩
        have s15 : Same H14 (upd H14 d' (.tup [.ref R, .ref L5])) := Same.new hd'
        have s1215 := (s13.trans s14).trans s15
        have s1115 := s12.trans s1215
        refine k d' _ m (sm11.trans s1115) mm mx ⟨R, L5, upd_same, s1115 _ _ hR11, ⟨qs ++ [q], by rw [s15 _ _ h14]; simp, ?_⟩⟩
        rw [ec]
        exact (Paired.mono (fun r d z => s1215 _ _ z) pq).snoc (s1115 _ _ (s71 _ _ hq))
    · have hw : un = true := by
        cases un
        · exact absurd hw (by decide)
        · rfl
      subst hw
      refine ⟨_, rfl, _, rfl, _, rfl, _, rfl, _, rfl, (by show 5 ≤ sizeLine; decide), fun p2 hp2 => ?_⟩
      exact rest _ _ ⟨p2, rfl, sm6.trans (Same.new hp2), upd_same⟩
    · have hw : un = false := by
        cases un
        · rfl
        · exact absurd (by decide) hw
      subst hw
      exact ⟨p1, rfl, sm6, h6⟩
end

end K25
namespace K25
open PySem L2 DM PM
abbrev s__law_ends : Stmt := top 51
theorem sc__law_ends : FnScope ["_law_row", "_law_sign", "_law_under_in", "_law_under_out", "_law_over_in", "_law_over_out"] ["_law_row"] (defScope s__law_ends) := ⟨rfl, rfl, rfl, by decide +kernel, rfl, by decide +kernel, by decide +kernel⟩
abbrev s__law_onward : Stmt := top 52
theorem sc__law_onward : FnScope ["_law_crossings", "_law_found", "_law_row", "_law_ends_here", "_law_k"] ["_law_crossings"] (defScope s__law_onward) := ⟨rfl, rfl, rfl, by decide +kernel, rfl, by decide +kernel, by decide +kernel⟩
abbrev s__law_face : Stmt := top 53
theorem sc__law_face : FnScope ["_law_crossings", "_law_walk", "_law_onward_here", "_law_found", "_law_here"] ["_law_crossings", "_law_walk"] (defScope s__law_face) := ⟨rfl, rfl, rfl, by decide +kernel, rfl, by decide +kernel, by decide +kernel⟩
section
variable {P : Program} {w : World} {K : PySem.W.Frag} {mg : Str → Option Value} {base : Heap}
def DtAt (H : Hp) (p : Addr) (d : Dt) : Prop := H p = some (.tup [.int d.1, .bl d.2])
def dtD (d : Dt) : PyData := .tuple [.int d.1, .bool d.2]
theorem dt_dp {K : PySem.W.Frag} {H : Hp} {p : Addr} {d : Dt} (h : DtAt H p d) : Dp K H (.ref p) (dtD d) := .tup (SqT.of h) (.cons (.int _) (.cons (.bl _) .nil))
theorem dt_sh (d : Dt) : SeqAt.shaped (dtD d) = true := by
  unfold SeqAt.shaped
  simp [dtD, PyData.canLay0, PyData.canLayAll0, PyData.depth, PyData.depthAll]
theorem dt_eqv (d e : Dt) : PyData.eqv (dtD d) (dtD e) = decide (d = e) := by
  obtain ⟨a, b⟩ := d
  obtain ⟨c, f⟩ := e
  simp only [dtD, PyData.eqv, PyData.eqvAll]
  by_cases h1 : a = c <;> by_cases h2 : b = f <;> simp [h1, h2]
structure PEds (vs : List V) (H : Hp) (Q : VK) : Prop where
  get : ∃ (p : Addr) (c : Cr), vs = [.ref p] ∧ CrAt H p c ∧ ∀ (L : Addr) (H' : Hp) (ts : List Addr), H L = none → Same H H' → H' L = some (.lst (ts.map V.ref)) → Paired (DtAt H') ts (rnd c) → Q (.ref L) H'
def sp_eds : Sp := fun vs H Q _ => PEds vs H Q
theorem four {H : Hp} {E : VK} {a b c d : Dt} (k : ∀ (L : Addr) (H' : Hp) (ts : List Addr), H L = none → Same H H' → H' L = some (.lst (ts.map V.ref)) → Paired (DtAt H') ts [a, b, c, d] → E (.ref L) H') (p1 : Addr) (h1 : H p1 = none) (p2 : Addr) (h2 : upd H p1 (.tup [.int a.1, .bl a.2]) p2 = none)
    (p3 : Addr) (h3 : upd (upd H p1 (.tup [.int a.1, .bl a.2])) p2 (.tup [.int b.1, .bl b.2]) p3 = none) (p4 : Addr) (h4 : upd (upd (upd H p1 (.tup [.int a.1, .bl a.2])) p2 (.tup [.int b.1, .bl b.2])) p3 (.tup [.int c.1, .bl c.2]) p4 = none)
    (L : Addr) (hL : upd (upd (upd (upd H p1 (.tup [.int a.1, .bl a.2])) p2 (.tup [.int b.1, .bl b.2])) p3 (.tup [.int c.1, .bl c.2])) p4 (.tup [.int d.1, .bl d.2]) L = none) :
    E (.ref L) (upd (upd (upd (upd (upd H p1 (.tup [.int a.1, .bl a.2])) p2 (.tup [.int b.1, .bl b.2])) p3 (.tup [.int c.1, .bl c.2])) p4 (.tup [.int d.1, .bl d.2])) L (.lst [.ref p1, .ref p2, .ref p3, .ref p4])) := by
  have s1 := Same.new (o := .tup [.int a.1, .bl a.2]) h1
  have s2 := Same.new (o := .tup [.int b.1, .bl b.2]) h2
  have s3 := Same.new (o := .tup [.int c.1, .bl c.2]) h3
  have s4 := Same.new (o := .tup [.int d.1, .bl d.2]) h4
  have s5 := Same.new (o := .lst [.ref p1, .ref p2, .ref p3, .ref p4]) hL
  have s15 := (((s1.trans s2).trans s3).trans s4)
  refine k L _ [p1, p2, p3, p4] (s15.free hL) (s15.trans s5) upd_same ?_
  exact .cons (s5 _ _ (s4 _ _ (s3 _ _ (s2 _ _ upd_same)))) (.cons (s5 _ _ (s4 _ _ (s3 _ _ upd_same))) (.cons (s5 _ _ (s4 _ _ upd_same)) (.cons (s5 _ _ upd_same) .nil)))
theorem ok_eds {fa : Addr} {fd : FuncData} (F : FT K mg "_law_ends" s__law_ends ["_law_row"] fa fd) : Cal P w K mg base 1 "_law_ends" ["_law_row"] sp_eds := by
  refine F.cal sc__law_ends (fun vs H Q E h => ?_) (fun A outer s H vs Q E hr h => ?_)
  · obtain ⟨⟨p, c, rfl, _⟩⟩ := h; rfl
  · obtain ⟨⟨p, c, rfl, hp, k⟩⟩ := h
    have hp : H p = some (.tup (c.l.map V.int)) := hp
    have nd := sc__law_ends.nd
    refine ⟨_, (pss_cons (ps_asg (pv 0) (pg_tup (by rfl) (pgs_cons (pg_name (i := 1) nd rfl (Or.inl rfl)) (pgs_cons (pg_name (i := 2) nd rfl (Or.inl rfl)) (pgs_cons (pg_name (i := 3) nd rfl (Or.inl rfl)) (pgs_cons (pg_name (i := 4) nd rfl (Or.inl rfl)) (pgs_cons (pg_name (i := 5) nd rfl (Or.inl rfl)) pgs_nil)))))))
      (pss_cons (ps_if (pt_cmpR op_eq (pv 1) pe_int (nomark _))
        (pss_one (ps_ret (pe_lst (pa_cons (pe_tup (pa_cons (pv 2) (pa_cons pe_bl pa_nil))) (pa_cons (pe_tup (pa_cons (pv 5) (pa_cons pe_bl pa_nil))) (pa_cons (pe_tup (pa_cons (pv 3) (pa_cons pe_bl pa_nil))) (pa_cons (pe_tup (pa_cons (pv 4) (pa_cons pe_bl pa_nil))) pa_nil)))))))
        pss_nil)
      (pss_one (ps_ret (pe_lst (pa_cons (pe_tup (pa_cons (pv 2) (pa_cons pe_bl pa_nil))) (pa_cons (pe_tup (pa_cons (pv 4) (pa_cons pe_bl pa_nil))) (pa_cons (pe_tup (pa_cons (pv 3) (pa_cons pe_bl pa_nil))) (pa_cons (pe_tup (pa_cons (pv 5) (pa_cons pe_bl pa_nil))) pa_nil))))))))), ?_⟩
    refine ⟨_, rfl, p, _, rfl, SqT.of hp, rfl, _, _, rfl, _, _, rfl, _, _, rfl, _, _, rfl, _, _, rfl, rfl, ?_⟩
    refine ⟨_, rfl, rfl, _, rfl, ?_⟩
    refine ite2 (fun h => ?_) (fun h => ?_)
    · have h : c.s = 1 := by simpa using h
      refine ⟨_, rfl, (by show 2 ≤ sizeLine; decide), fun p1 h1 => ⟨_, rfl, (by show 2 ≤ sizeLine; decide), fun p2 h2 => ⟨_, rfl, (by show 2 ≤ sizeLine; decide), fun p3 h3 => ⟨_, rfl, (by show 2 ≤ sizeLine; decide), fun p4 h4 => ⟨(by show 4 ≤ sizeLine; decide), fun L hL => ?_⟩⟩⟩⟩⟩
      unfold rnd at k
      rw [if_pos h] at k
      exact four k p1 h1 p2 h2 p3 h3 p4 h4 L hL
    · have h : ¬ c.s = 1 := by simpa using h
      refine ⟨_, rfl, (by show 2 ≤ sizeLine; decide), fun p1 h1 => ⟨_, rfl, (by show 2 ≤ sizeLine; decide), fun p2 h2 => ⟨_, rfl, (by show 2 ≤ sizeLine; decide), fun p3 h3 => ⟨_, rfl, (by show 2 ≤ sizeLine; decide), fun p4 h4 => ⟨(by show 4 ≤ sizeLine; decide), fun L hL => ?_⟩⟩⟩⟩⟩
      unfold rnd at k
      rw [if_neg h] at k
      exact four k p1 h1 p2 h2 p3 h3 p4 h4 L hL
structure OnAt (H : Hp) (D : Addr) (l : List (Dt × Dt)) : Prop where
  get : ∃ kvs : List (PKey × V), H D = some (.dN kvs) ∧ kvs.length ≤ l.length ∧ ∀ p ∈ l, ∃ t, valV kvs p.1 = some (.ref t) ∧ DtAt H t p.2
theorem OnAt.mv {H H' : Hp} {D : Addr} {l : List (Dt × Dt)} (h : OnAt H D l) (s : Same H H') : OnAt H' D l := by
  obtain ⟨kvs, e, kl, all⟩ := h
  exact ⟨kvs, s _ _ e, kl, fun p hp => let ⟨t, e1, e2⟩ := all p hp; ⟨t, e1, s _ _ e2⟩⟩
theorem rnd_len (c : Cr) : (rnd c).length = 4 := by unfold rnd; split <;> rfl
theorem onw1_at (c : Cr) {j : Nat} (hj : j < 4) : ∃ d e, (rnd c)[j]? = some d ∧ (rnd c)[(j + 3) % 4]? = some e ∧ (onw1 c)[j]? = some ((d.1, !d.2), e) := by
  unfold rnd onw1
  rcases (show j = 0 ∨ j = 1 ∨ j = 2 ∨ j = 3 by omega) with e | e | e | e <;> subst e <;> split <;> exact ⟨_, _, rfl, rfl, rfl⟩
theorem cyc_at {ts : List Addr} {j : Nat} {t : Addr} (h4 : ts.length = 4) (hj : j < 4) (e : ts[(j + 3) % 4]? = some t) : atI (ts.map V.ref) (0 + (j : Int) - 1) = some (.ref t) := by
  match ts, h4 with
  | [a, b, c, d], _ =>
    rcases (show j = 0 ∨ j = 1 ∨ j = 2 ∨ j = 3 by omega) with z | z | z | z <;> subst z <;> cases e <;> rfl
structure POnw (vs : List V) (H : Hp) (Q : VK) : Prop where
  get : ∃ (b : Addr) (cs : List Cr), vs = [.ref b] ∧ CrsAt H b cs ∧ cs.length ≤ 400 ∧ ((onwA cs).map (·.1)).Nodup ∧ ∀ (D : Addr) (H' : Hp), Same H H' → OnAt H' D (onwA cs) → Q (.ref D) H'
def sp_onw : Sp := fun vs H Q _ => POnw vs H Q
theorem onw_succ {cs : List Cr} {i : Nat} {c : Cr} (h : cs[i]? = some c) : onwA (cs.take (i + 1)) = onwA (cs.take i) ++ onw1 c := by
  unfold onwA
  rw [List.take_succ, h, List.flatMap_append]; simp
theorem onw_len : ∀ cs : List Cr, (onwA cs).length = 4 * cs.length
  | [] => rfl
  | c :: cs => by
    show (onw1 c ++ onwA cs).length = _
    rw [List.length_append, onw_len cs, List.length_cons]
    unfold onw1
    split <;> simp <;> omega
theorem OnAt.put {H : Hp} {D : Addr} {l : List (Dt × Dt)} {k e : Dt} {t : Addr} {kvs : List (PKey × V)} (h0 : H D = some (.dN kvs)) (kl : kvs.length ≤ l.length) (all : ∀ p ∈ l, ∃ t, valV kvs p.1 = some (.ref t) ∧ DtAt H t p.2) (nk : k ∉ l.map (·.1)) (ht : DtAt H t e) : OnAt (upd H D (.dN (putK kvs k (.ref t)))) D (l ++ [(k, e)]) := by
  have nD : ∀ {q d}, DtAt H q d → q ≠ D := fun {q d} z y => by
    have z : H q = _ := z
    rw [y, h0] at z; cases z
  refine ⟨_, upd_same, ?_, fun p hp => ?_⟩
  · have := length_putK kvs k (V.ref t)
    rw [List.length_append]
    simp; omega
  · rcases List.mem_append.mp hp with z | z
    · obtain ⟨q, e1, e2⟩ := all p z
      refine ⟨q, ?_, ?_⟩
      · rw [valV_put, if_neg (fun y => nk (by rw [← y]; exact List.mem_map.mpr ⟨p, z, rfl⟩))]; exact e1
      · show upd H D _ q = _
        rw [upd_ne (nD e2)]; exact e2
    · rw [List.mem_singleton.mp z]
      refine ⟨t, by rw [valV_put, if_pos rfl], ?_⟩
      show upd H D _ t = _
      rw [upd_ne (nD ht)]; exact ht
theorem ok_onw {fa : Addr} {fd : FuncData} (F : FT K mg "_law_onward" s__law_onward ["_law_crossings"] fa fd) (T : BN mg) (cE : Cal P w K mg base 1 "_law_ends" ["_law_row"] sp_eds) : Cal P w K mg base 2 "_law_onward" ["_law_crossings"] sp_onw := by
  refine F.cal sc__law_onward (fun vs H Q E h => ?_) (fun A outer s H vs Q E hr h => ?_)
  · obtain ⟨⟨b, cs, rfl, _⟩⟩ := h; rfl
  · obtain ⟨⟨b, cs, rfl, hcr, cl, knd, k⟩⟩ := h
    have nd := sc__law_onward.nd
    obtain ⟨ps, hb, pp⟩ := id hcr
    have hpl := pp.length
    have oal := onw_len cs
    refine ⟨_, (pss_cons (ps_set (i := 1) nd rfl (Or.inl rfl) pe_dnewN)
      (pss_cons (ps_for PassesOwn.never rfl (pi_list (pv 0)) (pg_name (i := 2) nd rfl (Or.inl rfl))
        (pss_cons (ps_set (i := 3) nd rfl (Or.inl rfl) (pe_cal cE (hr.mono (by decide)) (by rfl) (pa_cons (pv 2) pa_nil)))
        (pss_one (ps_for PassesOwn.never rfl (pi_range1 rfl T.range (pa_cons pe_int pa_nil)) (pg_name (i := 4) nd rfl (Or.inl rfl))
          (pss_one (ps_dput (hu_of hr) (pv 1) (pe_tup (pa_cons (pe_ix ix_tup (pe_ix ix_list (pv 3) (pv 4) (fun _ _ => rfl)) pe_int (fun _ _ => rfl)) (pa_cons (pe_not (pe_ix ix_tup (pe_ix ix_list (pv 3) (pv 4) (fun _ _ => rfl)) pe_int (fun _ _ => rfl))) pa_nil))) (pe_ix ix_list (pv 3) (pe_op op_sub (pv 4) pe_int) (fun _ _ => rfl)) rfl))))))
      (pss_one (ps_ret (pv 1))))), ?_⟩
    refine fun D hD => ?_
    refine gen_new (.dN []) hD fun H1 s1 h1 => ?_
    have bD : b ≠ D := ne_of_none hb hD
    have hb1 := s1 _ _ hb
    refine ⟨_, rfl, b, rfl, ⟨_, SqL.of hb1⟩, ?_⟩
    refine for_by (D := { nx := _, rt := _ }) (n := cs.length) (fun i σ H2 => ∃ (v2 v3 v4 : Option V), σ = [some (.ref b), some (.ref D), v2, v3, v4] ∧ OnAt H2 D (onwA (cs.take i)) ∧ SameX D H1 H2) ⟨none, none, none, rfl, ⟨[], h1, Nat.zero_le _, fun _ h => nomatch h⟩, .refl _ _⟩ (fun i σ H2 hi ⟨_, _, _, _, _, sx⟩ => ⟨_, _, SqL.of (sx _ _ bD hb1), List.getElem?_eq_getElem (by rw [List.length_map]; omega)⟩) (fun σ H2 ⟨_, _, _, _, _, sx⟩ => ⟨_, SqL.of (sx _ _ bD hb1), by rw [List.length_map]; omega⟩) ?_ ?_
    · rintro i σ H2 hi ⟨v2, v3, v4, rfl, oa, sx⟩ x H' ⟨rfl, hx⟩
      obtain ⟨c, ec⟩ : ∃ c, cs[i]? = some c := ⟨_, List.getElem?_eq_getElem hi⟩
      obtain ⟨p, ep, hp⟩ := Paired.getL pp ec
      have hp : H p = some (.tup (c.l.map V.int)) := hp
      have ex := hx _ (SqL.of (sx _ _ bD hb1))
      rw [List.getElem?_map, ep] at ex
      cases ex
      have hp2 := sx _ _ (ne_of_none hp hD) (s1 _ _ hp)
      refine ⟨_, rfl, ⟨⟨p, c, rfl, hp2, fun L H3 ts hL s3 h3 pt => ?_⟩⟩⟩
      have tl := pt.length
      rw [rnd_len] at tl
      have oa3 := oa.mv s3
      have LD : L ≠ D := fun z => by obtain ⟨kv, e, _⟩ := oa; rw [z, e] at hL; cases hL
      refine ⟨4, rfl, by decide, by decide, ?_⟩
      refine for_by (D := { nx := _, rt := _ }) (n := 4) (fun j σ H4 => ∃ (v4 : Option V), σ = [some (.ref b), some (.ref D), some (.ref p), some (.ref L), v4] ∧ OnAt H4 D (onwA (cs.take i) ++ (onw1 c).take j) ∧ SameX D H3 H4) ⟨v4, rfl, by simpa using oa3, .refl _ _⟩ (fun j σ H4 hj _ => by show j < (4 : Int).toNat; exact hj) (fun σ H4 _ => by show (4 : Int).toNat ≤ 4; decide) ?_ ?_
      · rintro j σ H4 hj ⟨v4, rfl, oa4, sx4⟩ x H' ⟨rfl, rfl⟩
        obtain ⟨d, e, e1, e2, e3⟩ := onw1_at c hj
        obtain ⟨td, etd, htd⟩ := Paired.getL pt e1
        obtain ⟨te, ete, hte⟩ := Paired.getL pt e2
        have at3 : ∀ {q : Addr} {d : Dt}, DtAt H3 q d → q ≠ D := fun {q d} z y => by
          have z : H3 q = _ := z
          obtain ⟨kv, e, _⟩ := oa3
          rw [y, e] at z; cases z
        have htd4 : H' td = some (.tup [.int d.1, .bl d.2]) := sx4 _ _ (at3 htd) htd
        have hte4 : DtAt H' te e := sx4 _ _ (at3 hte) hte
        have hL4 := sx4 _ _ LD h3
        have aj : atI (ts.map V.ref) (0 + (j : Int)) = some (.ref td) := at_of (j := j) (by omega) (by rw [List.getElem?_map, etd]; rfl)
        refine ⟨_, rfl, _, rfl, _, _, rfl, rfl, L, _, _, .ref te, rfl, rfl, SqL.of hL4, cyc_at tl hj ete, ?_⟩
        refine ⟨_, rfl, _, rfl, _, rfl, L, _, _, .ref td, rfl, rfl, SqL.of hL4, aj, td, _, _, .int d.1, rfl, rfl, SqT.of htd4, rfl, ?_⟩
        refine ⟨_, rfl, _, rfl, L, _, _, .ref td, rfl, rfl, SqL.of hL4, aj, td, _, _, .bl d.2, rfl, rfl, SqT.of htd4, rfl, d.2, rfl, (by show 2 ≤ sizeLine; decide), fun p2 hp2' => ?_⟩
        have s5 : Same H' (upd H' p2 (.tup [.int d.1, .bl (!d.2)])) := Same.new hp2'
        have h5 : upd H' p2 (.tup [.int d.1, .bl (!d.2)]) p2 = some (.tup [.int d.1, .bl (!d.2)]) := upd_same
        dsimp only
        generalize upd H' p2 (.tup [.int d.1, .bl (!d.2)]) = H5 at s5 h5 ⊢
        obtain ⟨kvs, hD5, kl, all⟩ := oa4.mv s5
        have lt : (onwA (cs.take i) ++ (onw1 c).take (j + 1)) = (onwA (cs.take i) ++ (onw1 c).take j) ++ [((d.1, !d.2), e)] := by
          rw [List.take_succ, e3, List.append_assoc]; rfl
        have pre : ∃ l2, onwA cs = (onwA (cs.take i) ++ (onw1 c).take (j + 1)) ++ l2 := by
          refine ⟨(onw1 c).drop (j + 1) ++ onwA (cs.drop (i + 1)), ?_⟩
          have e9 : onwA cs = onwA (cs.take (i + 1)) ++ onwA (cs.drop (i + 1)) := by
            conv => lhs; rw [← List.take_append_drop (i + 1) cs]
            unfold onwA; rw [List.flatMap_append]
          rw [e9, onw_succ ec, List.append_assoc, List.append_assoc]
          congr 1
          rw [← List.append_assoc, List.take_append_drop]
        obtain ⟨l2, el2⟩ := pre
        have nk : (d.1, !d.2) ∉ (onwA (cs.take i) ++ (onw1 c).take j).map (·.1) := by
          have q := knd
          rw [el2, lt, List.map_append, List.map_append] at q
          have q2 := (List.nodup_append.mp q).1
          exact fun z => (List.nodup_append.mp q2).2.2 _ z _ (by simp) rfl
        have kl2 : kvs.length < 2000 := by
          have : (onwA cs).length = ((onwA (cs.take i) ++ (onw1 c).take (j + 1)) ++ l2).length := by rw [← el2]
          rw [lt, List.length_append, List.length_append] at this
          omega
        refine ⟨D, _, rfl, DPut.n (k := (d.1, !d.2)) hD5 h5 (sln (by omega)), ?_⟩
        refine ⟨_, rfl, ?_, ?_⟩
        · rw [lt]
          exact OnAt.put hD5 kl all nk (s5 _ _ hte4)
        · exact (sx4.trans s5.x).trans .upd
      · rintro σ H4 ⟨v4, rfl, oa4, sx4⟩
        refine ⟨_, _, _, rfl, ?_, (sx.trans s3.x).trans sx4⟩
        rw [onw_succ ec]
        rwa [List.take_of_length_le (l := onw1 c) (by unfold onw1; split <;> simp)] at oa4
    · rintro σ H2 ⟨v2, v3, v4, rfl, oa, sx⟩
      rw [List.take_length] at oa
      exact ⟨_, rfl, k D H2 (fun b o e => sx b o (ne_of_none e hD) (s1 _ _ e)) oa⟩
structure PFac (vs : List V) (H : Hp) (Q : VK) : Prop where
  get : ∃ (b t : Addr) (d : Dt) (rings : List Int) (cs : List Cr), vs = [.ref b, .ref t] ∧ CrsAt H b cs ∧ cs.length ≤ 400 ∧ DtAt H t d ∧ Wf rings cs ∧ d ∈ darts (insA cs) ∧ ∀ (L : Addr) (H' : Hp) (fs : List Addr) (F : List Dt), Same H H' → H L = none → H' L = some (.lst (fs.map V.ref)) → Paired (DtAt H') fs F → Orb (onF (onwA cs)) (darts (insA cs)) d F → (∀ x, F.getLast? = some x → onF (onwA cs) x = d) → Q (.ref L) H'
def sp_fac : Sp := fun vs H Q _ => PFac vs H Q
def muF (n : Nat) (L : Addr) (_ : St) (H : Hp) : Nat := match H L with
  | some (.lst l) => n - l.length
  | _ => 0
theorem muF_of {n : Nat} {L : Addr} {σ : St} {H : Hp} {l : List V} (h : H L = some (.lst l)) : muF n L σ H = n - l.length := by unfold muF; rw [h]
theorem OnAt.get' {H : Hp} {D : Addr} {rings : List Int} {cs : List Cr} (h : OnAt H D (onwA cs)) (wf : Wf rings cs) {d : Dt} (hd : d ∈ darts (insA cs)) : ∃ (kvs : List (PKey × V)) (t : Addr), H D = some (.dN kvs) ∧ valV kvs d = some (.ref t) ∧ DtAt H t (onF (onwA cs) d) := by
  obtain ⟨kvs, e, _, all⟩ := h
  obtain ⟨t, e1, e2⟩ := all _ (onF_mem wf hd)
  exact ⟨kvs, t, e, e1, e2⟩
theorem dgn {H : Hp} {a b : Addr} {kvs : List (PKey × V)} {k : PKey} {v : V} (e : H a = some (.dN kvs)) (eb : KeyN H k b) (h : valV kvs k = some v) : DGet H a (.ref b) (some v) := h ▸ DGet.n e eb
theorem darts_len (l : List Int) : (darts l).length = 2 * l.length := by unfold darts; simp; omega
theorem ok_fac {fa : Addr} {fd : FuncData} (F : FT K mg "_law_face" s__law_face ["_law_crossings", "_law_walk"] fa fd) (T : BN mg) (cO : Cal P w K mg base 2 "_law_onward" ["_law_crossings"] sp_onw) : Cal P w K mg base 3 "_law_face" ["_law_crossings", "_law_walk"] sp_fac := by
  refine F.cal sc__law_face (fun vs H Q E h => ?_) (fun A outer s H vs Q E hr h => ?_)
  · obtain ⟨⟨b, t, d, rings, cs, rfl, _⟩⟩ := h; rfl
  · obtain ⟨⟨b, t, d, rings, cs, rfl, hcr, cl, ht, wf, hd, k⟩⟩ := h
    have nd := sc__law_face.nd
    have dl : (darts (insA cs)).length ≤ 1600 := by rw [darts_len, insA_len]; omega
    refine ⟨_, (pss_cons (ps_set (i := 2) nd rfl (Or.inl rfl) (pe_cal cO (hr.mono (by decide)) (by rfl) (pa_cons (pv 0) pa_nil)))
      (pss_cons (ps_set (i := 3) nd rfl (Or.inl rfl) (pe_lst (pa_cons (pv 1) pa_nil)))
      (pss_cons (ps_set (i := 4) nd rfl (Or.inl rfl) (pe_dget (hu_of hr) (pv 2) (pv 1) (fun _ _ => rfl)))
      (pss_cons (ps_while PassesOwn.never (pt_cmpR (op_neD hr.units) (pv 4) (pv 1) (nomark _))
        (pss_cons (ps_expr (pe_bm PySem.F.plainAttrs_list PySem.F.slot_list_append PySem.F.type_list_append mt_append (pv 3) (pa_cons (pv 4) pa_nil)))
        (pss_one (ps_set (i := 4) nd rfl (Or.inl rfl) (pe_dget (hu_of hr) (pv 2) (pv 4) (fun _ _ => rfl))))))
      (pss_one (ps_ret (pv 3))))))), ?_⟩
    refine ⟨_, rfl, ⟨⟨b, cs, rfl, hcr, cl, (onw_keysD wf).nodup_iff.mpr (darts_nd wf.insnd), fun D H1 s1 oa => ?_⟩⟩⟩
    refine ⟨_, rfl, (by show 1 ≤ sizeLine; decide), fun L hL => ?_⟩
    refine gen_new (.lst [.ref t]) hL fun H2 s2 h2 => ?_
    have hL0 : H L = none := s1.free hL
    have oa2 := oa.mv s2
    have ht2 : DtAt H2 t d := s2 _ _ (s1 _ _ ht)
    obtain ⟨kvs, u, eD, eu, hu⟩ := oa2.get' wf hd
    refine ⟨_, rfl, _, rfl, D, _, rfl, dgn (k := d) eD ht2 eu, ?_⟩
    have LD : L ≠ D := fun z => by rw [z, eD] at h2; cases h2
    have nL : ∀ {q : Addr} {e : Dt}, DtAt H2 q e → q ≠ L := fun {q e} z y => by
      have z : H2 q = _ := z
      rw [y, h2] at z; cases z
    refine while_by (D := { nx := _, rt := _ }) (fun σ H3 => ∃ (v : Addr) (e x : Dt) (fs : List Addr) (F : List Dt), σ = [some (.ref b), some (.ref t), some (.ref D), some (.ref L), some (.ref v)] ∧ DtAt H2 v e ∧ H3 L = some (.lst (fs.map V.ref)) ∧ Paired (DtAt H2) fs F ∧ Orb (onF (onwA cs)) (darts (insA cs)) d F ∧ F.getLast? = some x ∧ e = onF (onwA cs) x ∧ SameX L H2 H3) (muF 2000 L) ⟨u, _, d, [t], [d], rfl, hu, h2, .cons ht2 .nil, Orb.one hd, rfl, rfl, .refl _ _⟩ ?_ ?_
    · rintro σ H3 ⟨v, e, x, fs, F, rfl, hv, hL3, pf, ob, lx, ee, sx⟩
      have hx : x ∈ darts (insA cs) := ob.sub x (List.mem_of_getLast? lx)
      have hv3 : DtAt H3 v e := sx _ _ (nL hv) hv
      have ht3 : DtAt H3 t d := sx _ _ (nL ht2) ht2
      refine ⟨_, rfl, _, rfl, dtD e, dtD d, dt_dp hv3, dt_dp ht3, dt_sh e, dt_sh d, _, rfl, ?_⟩
      rw [dt_eqv]
      have fl := pf.length
      refine ite2 (fun h => ?_) (fun h => ?_)
      · have h : e ≠ d := by simpa using h
        have ob2 := ob.next (fun a ha c hc => onF_inj wf ha hc) lx (ee ▸ h) (onF_in wf hx)
        have ol := ob2.len
        rw [List.length_append] at ol
        simp at ol
        refine ⟨_, rfl, .inl ⟨rfl, _, SqL.of hL3⟩, _, rfl, L, _, _, rfl, rfl, hL3, sln (by rw [List.length_map]; omega), ?_⟩
        have sx4 : SameX L H2 (upd H3 L (.lst (fs.map V.ref ++ [.ref v]))) := sx.trans .upd
        have hL4 : upd H3 L (.lst (fs.map V.ref ++ [.ref v])) L = some (.lst ((fs ++ [v]).map V.ref)) := by rw [upd_same]; simp
        dsimp only
        generalize upd H3 L (.lst (fs.map V.ref ++ [.ref v])) = H4 at sx4 hL4 ⊢
        have he : e ∈ darts (insA cs) := ee ▸ onF_in wf hx
        obtain ⟨kvs2, u2, eD2, eu2, hu2⟩ := oa2.get' wf he
        refine ⟨_, rfl, _, rfl, D, _, rfl, dgn (k := e) (sx4 _ _ (Ne.symm LD) eD2) (sx4 _ _ (nL hv) hv) eu2, ?_⟩
        refine ⟨⟨u2, _, e, fs ++ [v], F ++ [e], rfl, hu2, hL4, pf.snoc hv, ee ▸ ob2, by simp, rfl, sx4⟩, ?_⟩
        rw [muF_of hL4, muF_of hL3, List.length_map, List.length_map, List.length_append]
        simp; omega
      · have h : e = d := by simpa using h
        have s23 : ∀ c o, H c = some o → H3 c = some o := fun c o z => sx _ _ (ne_of_none z hL0) (s2 _ _ (s1 _ _ z))
        exact ⟨_, rfl, k L H3 fs F s23 hL0 hL3 (Paired.mono (fun q c z => sx _ _ (nL z) z) pf) ob (fun y hy => by
          rw [lx] at hy; cases hy; rw [← ee]; exact h)⟩
    · rintro σ H3 Q1 Q2 q ⟨x, e1, y, e2, d1, d2, c1, c2, c3, c4, b, e3, c5⟩
      exact ⟨x, e1, y, e2, d1, d2, c1, c2, c3, c4, b, e3, q _ _ c5⟩
end

end K25
namespace K25
open PySem L2 DM PM
abbrev s__law_poke : Stmt := top 57
theorem sc__law_poke : FnScope ["_law_drawing", "_law_e", "_law_side", "_law_f", "_law_other", "_law_rings", "_law_crossings", "_law_top", "_law_mine", "_law_yours", "_law_sign", "_law_pair", "_law_ring"] ["_law_drawing", "_law_e", "_law_side", "_law_f", "_law_other"] (defScope s__law_poke) := ⟨rfl, rfl, rfl, by decide +kernel, rfl, by decide +kernel, by decide +kernel⟩
section
variable {P : Program} {w : World} {K : PySem.W.Frag} {mg : Str → Option Value} {base : Heap}
def lrS (left : Bool) : Str := if left = true then "left" else "right"
def sgP (sl : Bool) (sd : Bool) : Int := if sl = true then (if sd = true then -1 else 1) else (if sd = true then 1 else -1)
theorem sgP_sg (sl sd : Bool) : sgP sl sd = 1 ∨ sgP sl sd = -1 := by cases sl <;> cases sd <;> decide
theorem join_cal {i : Nat} {x : V} {c : TT} {t1 t2 u : TS} {D : Ends} {r : VK} {b k : St → Hp → Prop} {σ : St} {H : Hp} (J : St → Hp → Prop) (rest : ∀ σ H, J σ H → u D σ H) (h : (∀ σ H, J σ H → u D σ H) → tIfS c t1 t2 { D with nx := u D } (σ.set i (some x)) H) : gName i x σ H (Ends.nx (Ends.mk (tSeq (tIfS c t1 t2) u D) r b k)) := h rest
theorem pair_app {α β : Type} {R : α → β → Prop} {a c : List α} {b d : List β} (h : Paired R a b) (k : Paired R c d) : Paired R (a ++ c) (b ++ d) := by
  induction h with
  | nil => exact k
  | cons x _ ih => exact .cons x ih
theorem dgk {H : Hp} {a : Addr} {kvs : List (Key × V)} {k : Key} {v : V} (e : H a = some (.dK kvs)) (h : valV kvs k = some v) : DGet H a (kV k) (some v) := h ▸ DGet.k e
theorem dg1 (sl : Bool) : valV (mergeK [] [((.inr "right" : Key), V.int 1), (.inr "left", V.int (-1))]) (.inr (lrS sl)) = some (.int (sgP sl true)) := by cases sl <;> decide +kernel
theorem dg0 (sl : Bool) : valV (mergeK [] [((.inr "right" : Key), V.int (-1)), (.inr "left", V.int 1)]) (.inr (lrS sl)) = some (.int (sgP sl false)) := by cases sl <;> decide +kernel
structure PPok (vs : List V) (H : Hp) (Q : VK) : Prop where
  get : ∃ (d : Addr) (e f : Int) (sl ol : Bool) (rings : List Int) (cs : List Cr), vs = [.ref d, .int e, .str (lrS sl), .int f, .str (lrS ol)] ∧ DrAt H d rings cs ∧ e ∈ n1 rings cs ∧ rings.length ≤ 400 ∧ cs.length ≤ 400 ∧ ∀ (d' : Addr) (H' : Hp) (m : Int), Same H H' → m ∈ n1 rings cs → (∀ y ∈ n1 rings cs, y ≤ m) → DrAt H' d' (wo f (wo e rings)) (pokeS rings cs e f m (sgP sl (sl != ol)) (sl != ol)) → Q (.ref d') H'
def sp_pok : Sp := fun vs H Q _ => PPok vs H Q
theorem ok_pok {fa : Addr} {fd : FuncData} (F : FT K mg "_law_poke" s__law_poke ["_law_drawing", "_law_e", "_law_side", "_law_f", "_law_other"] fa fd) (T : BN mg) (cA : Cal P w K mg base 1 "_law_names" ["_law_drawing"] sp_names) (cI : Cal P w K mg base 1 "_law_in_moved" ["_law_crossings", "_law_name", "_law_new"] sp_inm) : Cal P w K mg base 2 "_law_poke" ["_law_drawing", "_law_e", "_law_side", "_law_f", "_law_other"] sp_pok := by
  refine F.cal sc__law_poke (fun vs H Q E h => ?_) (fun A outer s H vs Q E hr h => ?_)
  · obtain ⟨⟨d, e, f, sl, ol, rings, cs, rfl, _⟩⟩ := h; rfl
  · obtain ⟨⟨d, e, f, sl, ol, rings, cs, rfl, dr, he, rl, cl, k⟩⟩ := h
    obtain ⟨a, b, hd, ha, hcr⟩ := id dr
    have nd := sc__law_poke.nd
    refine ⟨_, (pss_cons (ps_asg (pv 0) (pg_tup (by rfl) (pgs_cons (pg_name (i := 5) nd rfl (Or.inl rfl)) (pgs_cons (pg_name (i := 6) nd rfl (Or.inl rfl)) pgs_nil))))
      (pss_cons (ps_set (i := 7) nd rfl (Or.inl rfl) (pe_ix ix_list (pe_cal cA (hr.mono (by decide)) (by rfl) (pa_cons (pv 0) pa_nil)) (pe_un un_neg pe_int) (fun _ _ => rfl)))
      (pss_cons (ps_set (i := 8) nd rfl (Or.inl rfl) (pe_lst (pa_cons (pv 1) (pa_cons (pe_op op_add (pv 7) pe_int) (pa_cons (pe_op op_add (pv 7) pe_int) pa_nil)))))
      (pss_cons (ps_if (pt_cmpR op_in_seq (pv 1) (pv 5) (by with_unfolding_all rfl))
        (pss_one (ps_asg (pv 1) (pg_sub (pv 8) pe_int set_list)))
        pss_nil)
      (pss_cons (ps_set (i := 7) nd rfl (Or.inl rfl) (pe_op op_sub (pe_op op_add (pv 7) pe_int) (pe_callTy call_int1 (by rfl) T.int (by decide +kernel) (pa_cons (pe_cmpR op_in_seq (pv 1) (pv 5) (by with_unfolding_all rfl)) pa_nil))))
      (pss_cons (ps_set (i := 9) nd rfl (Or.inl rfl) (pe_lst (pa_cons (pv 3) (pa_cons (pe_op op_add (pv 7) pe_int) (pa_cons (pe_op op_add (pv 7) pe_int) pa_nil)))))
      (pss_cons (ps_if (pt_cmpR op_in_seq (pv 3) (pv 5) (by with_unfolding_all rfl))
        (pss_one (ps_asg (pv 3) (pg_sub (pv 9) pe_int set_list)))
        pss_nil)
      (pss_cons (ps_set (i := 6) nd rfl (Or.inl rfl) (pe_cal cI (hr.mono (by decide)) (by rfl) (pa_cons (pe_cal cI (hr.mono (by decide)) (by rfl) (pa_cons (pv 6) (pa_cons (pv 1) (pa_cons (pe_ix ix_list (pv 8) pe_int (fun _ _ => rfl)) pa_nil)))) (pa_cons (pv 3) (pa_cons (pe_ix ix_list (pv 9) pe_int (fun _ _ => rfl)) pa_nil)))))
      (pss_cons (ps_if (pt_cmpR op_ne (pv 2) (pv 4) (nomark _))
        (pss_cons (ps_set (i := 10) nd rfl (Or.inl rfl) (pe_dget (hu_of hr) (pe_disp (pps_cons pe_str pe_int (pps_cons pe_str (pe_un un_neg pe_int) pps_nil)) rfl rfl (by simp) (by decide)) (pv 2) (fun _ _ => rfl)))
        (pss_one (ps_set (i := 11) nd rfl (Or.inl rfl) (pe_lst (pa_cons (pe_tup (pa_cons (pv 10) (pa_cons (pv 3) (pa_cons (pe_ix ix_list (pv 9) pe_int (fun _ _ => rfl)) (pa_cons (pv 1) (pa_cons (pe_ix ix_list (pv 8) pe_int (fun _ _ => rfl)) pa_nil)))))) (pa_cons (pe_tup (pa_cons (pe_op op_sub pe_int (pv 10)) (pa_cons (pe_ix ix_list (pv 9) pe_int (fun _ _ => rfl)) (pa_cons (pe_ix ix_list (pv 9) pe_int (fun _ _ => rfl)) (pa_cons (pe_ix ix_list (pv 8) pe_int (fun _ _ => rfl)) (pa_cons (pe_ix ix_list (pv 8) pe_int (fun _ _ => rfl)) pa_nil)))))) pa_nil))))))
        (pss_cons (ps_set (i := 10) nd rfl (Or.inl rfl) (pe_dget (hu_of hr) (pe_disp (pps_cons pe_str (pe_un un_neg pe_int) (pps_cons pe_str pe_int pps_nil)) rfl rfl (by simp) (by decide)) (pv 2) (fun _ _ => rfl)))
        (pss_one (ps_set (i := 11) nd rfl (Or.inl rfl) (pe_lst (pa_cons (pe_tup (pa_cons (pv 10) (pa_cons (pe_ix ix_list (pv 9) pe_int (fun _ _ => rfl)) (pa_cons (pe_ix ix_list (pv 9) pe_int (fun _ _ => rfl)) (pa_cons (pv 1) (pa_cons (pe_ix ix_list (pv 8) pe_int (fun _ _ => rfl)) pa_nil)))))) (pa_cons (pe_tup (pa_cons (pe_op op_sub pe_int (pv 10)) (pa_cons (pv 3) (pa_cons (pe_ix ix_list (pv 9) pe_int (fun _ _ => rfl)) (pa_cons (pe_ix ix_list (pv 8) pe_int (fun _ _ => rfl)) (pa_cons (pe_ix ix_list (pv 8) pe_int (fun _ _ => rfl)) pa_nil)))))) pa_nil)))))))
      (pss_one (ps_ret (pe_tup (pa_cons (pe_lc (own := [("_law_ring", 12)]) (g := (gName 12)) (wi := (iList K (tVar 5))) (tt := (tTest (tOp (rIn K true) (tVar 12) (tTup (tCons (tVar 1) (tCons (tVar 3) tNil)))))) (te := (tVar 12)) (by rfl) nd (pi_list (pv 5)) (blkOk_by (by kernel_rfl)) (fun _ _ _ _ _ => (pg_name (i := 12) nd rfl (Or.inl rfl))) (fun _ _ _ _ _ => pts_one (pt_cmpR op_notIn_seq (pv 12) (pe_tup (pa_cons (pv 1) (pa_cons (pv 3) pa_nil))) (by with_unfolding_all rfl))) (fun _ _ _ _ _ => (pv 12))) (pa_cons (pe_op op_cat (pv 6) (pv 11)) pa_nil)))))))))))))), ?_⟩
    refine ⟨_, rfl, d, _, rfl, SqT.of hd, rfl, _, _, rfl, _, _, rfl, rfl, ?_⟩
    refine ⟨_, rfl, ⟨⟨d, rings, cs, rfl, dr, rl, cl, fun L H1 ks hL s1 h1 pm up => ?_⟩⟩⟩
    obtain ⟨m, em, mm, mx⟩ := top_of up pm (List.ne_nil_of_mem he)
    refine ⟨_, rfl, L, _, _, .int m, rfl, rfl, SqL.of h1, em, ?_⟩
    refine ⟨_, rfl, _, rfl, _, _, rfl, rfl, _, rfl, _, _, rfl, rfl, (by show 3 ≤ sizeLine; decide), fun M hM => ?_⟩
    have s2 : Same H1 (upd H1 M (.lst [.int e, .int (m + 1), .int (m + 2)])) := Same.new hM
    have h2 : upd H1 M (.lst [.int e, .int (m + 1), .int (m + 2)]) M = some (.lst [.int e, .int (m + 1), .int (m + 2)]) := upd_same
    have hM0 : H M = none := s1.free hM
    dsimp only
    generalize upd H1 M (.lst [.int e, .int (m + 1), .int (m + 2)]) = H2 at s2 h2 ⊢
    have sm2 := s1.trans s2
    have ha2 := sm2 _ _ ha
    refine ⟨_, rfl, _, rfl, a, _, rfl, .inl (SqL.of ha2), rfl, flat_ints _, _, rfl, ?_⟩
    rw [in_ints]
    refine ite_join (fun σ H3 => σ = [some (.ref d), some (.int e), some (.str (lrS sl)), some (.int f), some (.str (lrS ol)), some (.ref a), some (.ref b), some (.int m), some (.ref M), none, none, none, none] ∧ Same H H3 ∧ H3 M = some (.lst [.int e, .int (m + 1), .int (lastN rings e m)])) (fun σ H3 j => ?_) (fun hw rest => ?_) (fun hw => ?_)
    · obtain ⟨rfl, sm3, h3⟩ := j
      have ha3 := sm3 _ _ ha
      refine ⟨_, rfl, _, _, rfl, rfl, _, rfl, _, rfl, a, _, rfl, .inl (SqL.of ha3), rfl, flat_ints _, .inr ⟨_, rfl, _, _, rfl, rfl, ?_⟩⟩
      rw [in_ints]
      have etop : m + 2 - (if decide (e ∈ rings) = true then 1 else 0) = topN rings e m := by
        unfold topN
        by_cases h : e ∈ rings <;> simp [h] <;> omega
      dsimp only
      rw [show (if false = true then !decide (e ∈ rings) else decide (e ∈ rings)) = decide (e ∈ rings) from rfl, etop]
      have eps : pokeS rings cs e f m (sgP sl (sl != ol)) (sl != ol) = (cs.map (inM e (lastN rings e m))).map (inM f (lastN rings f (topN rings e m))) ++ pokeT (sl != ol) (sgP sl (sl != ol)) e f (m + 1) (lastN rings e m) (topN rings e m + 1) (lastN rings f (topN rings e m)) := rfl
      generalize hm2 : lastN rings e m = m2 at h3 eps ⊢
      generalize topN rings e m = tp at eps ⊢
      refine ⟨_, rfl, _, rfl, _, _, rfl, rfl, _, rfl, _, _, rfl, rfl, (by show 3 ≤ sizeLine; decide), fun N hN => ?_⟩
      have s4 : Same H3 (upd H3 N (.lst [.int f, .int (tp + 1), .int (tp + 2)])) := Same.new hN
      have h4 : upd H3 N (.lst [.int f, .int (tp + 1), .int (tp + 2)]) N = some (.lst [.int f, .int (tp + 1), .int (tp + 2)]) := upd_same
      have hN0 : H N = none := sm3.free hN
      dsimp only
      generalize upd H3 N (.lst [.int f, .int (tp + 1), .int (tp + 2)]) = H4 at s4 h4 ⊢
      have sm4 := sm3.trans s4
      have hM4 := s4 _ _ h3
      have ha4 := sm4 _ _ ha
      have MN : M ≠ N := ne_of_none h3 hN
      refine ⟨_, rfl, _, rfl, a, _, rfl, .inl (SqL.of ha4), rfl, flat_ints _, _, rfl, ?_⟩
      rw [in_ints]
      refine ite_join (fun σ H5 => σ = [some (.ref d), some (.int e), some (.str (lrS sl)), some (.int f), some (.str (lrS ol)), some (.ref a), some (.ref b), some (.int tp), some (.ref M), some (.ref N), none, none, none] ∧ Same H H5 ∧ H5 M = some (.lst [.int e, .int (m + 1), .int m2]) ∧ H5 N = some (.lst [.int f, .int (tp + 1), .int (lastN rings f tp)])) (fun σ H5 j => ?_) (fun hw rest => ?_) (fun hw => ?_)
      · obtain ⟨rfl, sm5, hM5, hN5⟩ := j
        generalize lastN rings f tp = n2 at hN5 eps ⊢
        refine ⟨_, rfl, _, rfl, _, rfl, M, _, _, .int m2, rfl, rfl, SqL.of hM5, rfl, ⟨⟨b, e, m2, cs, rfl, hcr.mv sm5, by omega, fun b6 H6 hb6 s6 cr6 => ?_⟩⟩⟩
        refine ⟨_, rfl, _, rfl, N, _, _, .int n2, rfl, rfl, SqL.of (s6 _ _ hN5), rfl, ⟨⟨b6, f, n2, _, rfl, cr6, by rw [List.length_map]; omega, fun b7 H7 hb7 s7 cr7 => ?_⟩⟩⟩
        have sm7 := (sm5.trans s6).trans s7
        have hM7 := s7 _ _ (s6 _ _ hM5)
        have hN7 := s7 _ _ (s6 _ _ hN5)
        refine join_cal (fun σ H8 => ∃ (v10 : Option V) (S : Addr), σ = [some (.ref d), some (.int e), some (.str (lrS sl)), some (.int f), some (.str (lrS ol)), some (.ref a), some (.ref b7), some (.int tp), some (.ref M), some (.ref N), v10, some (.ref S), none] ∧ Same H7 H8 ∧ CrsAt H8 S (pokeT (sl != ol) (sgP sl (sl != ol)) e f (m + 1) m2 (tp + 1) n2)) (fun σ H8 j => ?_) (fun rest => ?_)
        · obtain ⟨v10, S, rfl, s8, ⟨qs, hS, pq⟩⟩ := j
          have sm8 := sm7.trans s8
          have ha8 := sm8 _ _ ha
          refine ⟨_, rfl, a, rfl, ⟨_, SqL.of ha8⟩, fun R hR => ?_⟩
          refine lc_inv (n := rings.length) (fun i H11 => H11 R = some (.lst (((rings.take i).filter fun r => !decide (r = e) && !decide (r = f)).map V.int)) ∧ SameX R H8 H11) ⟨upd_same, .upd⟩ (fun i H11 hi ⟨_, s11⟩ => ⟨_, _, SqL.of (s11 _ _ (ne_of_none ha8 hR) ha8), List.getElem?_eq_getElem (by rw [List.length_map]; exact hi)⟩) (fun H11 ⟨_, s11⟩ => ⟨_, SqL.of (s11 _ _ (ne_of_none ha8 hR) ha8), by rw [List.length_map]; exact Nat.le_refl _⟩) ?_ ?_
          · rintro i H11 hi ⟨hR11, s11⟩ y H' ⟨rfl, hy⟩
            have ey := get_int (hy _ (SqL.of (s11 _ _ (ne_of_none ha8 hR) ha8)))
            subst ey
            obtain ⟨z, ez⟩ : ∃ z, rings[i]? = some z := ⟨_, List.getElem?_eq_getElem hi⟩
            have egz : rings.getD i 0 = z := by rw [List.getD_eq_getElem?_getD, ez]; rfl
            rw [egz]
            have fl : ((rings.take i).filter fun r => !decide (r = e) && !decide (r = f)).length ≤ rings.length := Nat.le_trans (List.length_filter_le _ _) (by rw [List.length_take]; omega)
            refine ⟨rfl, _, rfl, _, rfl, _, rfl, (by show 2 ≤ sizeLine; decide), fun q hq => ?_⟩
            have s12 : Same H' (upd H' q (.tup [.int e, .int f])) := Same.new hq
            have h12 : upd H' q (.tup [.int e, .int f]) q = some (.tup ([e, f].map V.int)) := upd_same
            dsimp only
            generalize upd H' q (.tup [.int e, .int f]) = H12 at s12 h12 ⊢
            have hR12 := s12 _ _ hR11
            refine ⟨q, _, rfl, .inr (SqT.of h12), rfl, flat_ints _, _, rfl, ?_⟩
            rw [in_ints]
            refine ite2 (fun h => ?_) (fun h => ?_)
            · have h : z ≠ e ∧ z ≠ f := by simpa using h
              refine ⟨_, rfl, _, hR12, sln (by rw [List.length_map]; omega), ?_, (s11.trans s12.x).trans .upd⟩
              rw [upd_same, List.take_succ, ez, List.filter_append]
              simp [h.1, h.2]
            · have h : z = e ∨ z = f := by
                by_cases y : z = e
                · exact .inl y
                · by_cases y2 : z = f
                  · exact .inr y2
                  · simp [y, y2] at h
              refine ⟨?_, s11.trans s12.x⟩
              rw [hR12, List.take_succ, ez, List.filter_append]
              rcases h with h | h <;> simp [h]
          · rintro H11 ⟨hR11, s11⟩
            rw [List.take_length] at hR11
            have s811 : Same H8 H11 := s11.same hR
            obtain ⟨ps7, hb7', pp7⟩ := cr7.mv (s8.trans s811)
            have pl7 := pp7.length
            rw [List.length_map, List.length_map] at pl7
            have ql : qs.length = 2 := by rw [pq.length]; unfold pokeT; split <;> rfl
            refine ⟨_, rfl, _, rfl, b7, S, _, _, rfl, rfl, hb7', s811 _ _ hS, Nat.le_of_lt (sln (by rw [List.length_map, List.length_map]; omega)), fun L5 hL5 => ?_⟩
            have s14 : Same H11 (upd H11 L5 (.lst (ps7.map V.ref ++ qs.map V.ref))) := Same.new hL5
            have h14 : upd H11 L5 (.lst (ps7.map V.ref ++ qs.map V.ref)) L5 = some (.lst (ps7.map V.ref ++ qs.map V.ref)) := upd_same
            generalize upd H11 L5 (.lst (ps7.map V.ref ++ qs.map V.ref)) = H14 at s14 h14 ⊢
            refine ⟨(by show 2 ≤ sizeLine; decide), fun d' hd' => ?_⟩
            have s15 : Same H14 (upd H14 d' (.tup [.ref R, .ref L5])) := Same.new hd'
            have s1115 := s14.trans s15
            refine k d' _ m ((sm8.trans s811).trans s1115) mm mx ⟨R, L5, upd_same, ?_, ⟨ps7 ++ qs, by rw [s15 _ _ h14]; simp, ?_⟩⟩
            · rw [s1115 _ _ hR11]
              congr 3
              unfold wo
              rw [List.filter_filter]
              refine List.filter_congr fun x _ => ?_
              by_cases h1 : x = e <;> by_cases h2 : x = f <;> simp [h1, h2]
            · rw [eps]
              exact pair_app (Paired.mono (fun r d z => s1115 _ _ z) pp7) (Paired.mono (fun r d z => s1115 _ _ (s811 _ _ z)) pq)
        · refine ⟨_, rfl, _, rfl, rfl, _, rfl, ?_⟩
          refine ite2 (fun hw => ?_) (fun hw => ?_)
          · have hw : ol = !sl := by cases sl <;> cases ol <;> first | rfl | exact absurd hw (by decide)
            subst hw
            have hx : (sl != !sl) = true := by cases sl <;> rfl
            rw [hx] at rest
            refine fun D hD => ⟨_, rfl, upd_same, [(.inr "right", .int 1), (.inr "left", .int (-1))], rfl, by decide, ?_⟩
            have s8 : Same H7 (upd (upd H7 D (.dK [])) D (.dK (mergeK [] [(.inr "right", .int 1), (.inr "left", .int (-1))]))) := fun c o z => by rw [upd_ne (ne_of_none z hD), upd_ne (ne_of_none z hD)]; exact z
            have h8 : upd (upd H7 D (.dK [])) D (.dK (mergeK [] [(.inr "right", .int 1), (.inr "left", .int (-1))])) D = some (.dK (mergeK [] [(.inr "right", .int 1), (.inr "left", .int (-1))])) := upd_same
            generalize upd (upd H7 D (.dK [])) D (.dK (mergeK [] [(.inr "right", .int 1), (.inr "left", .int (-1))])) = H8 at s8 h8 ⊢
            refine ⟨_, rfl, _, _, rfl, dgk (k := .inr (lrS sl)) h8 (dg1 sl), ?_⟩
            generalize sgP sl true = sg at rest ⊢
            have hM8 := s8 _ _ hM7
            have hN8 := s8 _ _ hN7
            refine ⟨_, rfl, _, rfl, _, rfl, N, _, _, .int (tp + 1), rfl, rfl, SqL.of hN8, rfl, _, rfl, _, rfl, M, _, _, .int (m + 1), rfl, rfl, SqL.of hM8, rfl, (by show 5 ≤ sizeLine; decide), fun t1 ht1 => ?_⟩
            have s9 : Same H8 (upd H8 t1 (.tup [.int sg, .int f, .int (tp + 1), .int e, .int (m + 1)])) := Same.new ht1
            have h9 : upd H8 t1 (.tup [.int sg, .int f, .int (tp + 1), .int e, .int (m + 1)]) t1 = some (.tup [.int sg, .int f, .int (tp + 1), .int e, .int (m + 1)]) := upd_same
            dsimp only
            generalize upd H8 t1 (.tup [.int sg, .int f, .int (tp + 1), .int e, .int (m + 1)]) = H9 at s9 h9 ⊢
            have hM9 := s9 _ _ hM8
            have hN9 := s9 _ _ hN8
            refine ⟨_, rfl, _, _, rfl, rfl, _, rfl, N, _, _, .int (tp + 1), rfl, rfl, SqL.of hN9, rfl, _, rfl, N, _, _, .int (n2), rfl, rfl, SqL.of hN9, rfl, _, rfl, M, _, _, .int (m + 1), rfl, rfl, SqL.of hM9, rfl, _, rfl, M, _, _, .int (m2), rfl, rfl, SqL.of hM9, rfl, (by show 5 ≤ sizeLine; decide), fun t2 ht2 => ?_⟩
            have s10 : Same H9 (upd H9 t2 (.tup [.int (0 - sg), .int (tp + 1), .int n2, .int (m + 1), .int m2])) := Same.new ht2
            have h10 : upd H9 t2 (.tup [.int (0 - sg), .int (tp + 1), .int n2, .int (m + 1), .int m2]) t2 = some (.tup [.int (0 - sg), .int (tp + 1), .int n2, .int (m + 1), .int m2]) := upd_same
            dsimp only
            generalize upd H9 t2 (.tup [.int (0 - sg), .int (tp + 1), .int n2, .int (m + 1), .int m2]) = H10 at s10 h10 ⊢
            refine ⟨(by show 2 ≤ sizeLine; decide), fun S hS => ?_⟩
            have s11 : Same H10 (upd H10 S (.lst [.ref t1, .ref t2])) := Same.new hS
            exact rest _ _ ⟨_, S, rfl, ((s8.trans s9).trans s10).trans s11, ⟨[t1, t2], upd_same, .cons (s11 _ _ (s10 _ _ h9)) (.cons (s11 _ _ h10) .nil)⟩⟩
          · have hw : ol = sl := by cases sl <;> cases ol <;> first | rfl | exact absurd (by decide) hw
            subst hw
            have hx : (ol != ol) = false := by cases ol <;> rfl
            rw [hx] at rest
            refine fun D hD => ⟨_, rfl, upd_same, [(.inr "right", .int (-1)), (.inr "left", .int 1)], rfl, by decide, ?_⟩
            have s8 : Same H7 (upd (upd H7 D (.dK [])) D (.dK (mergeK [] [(.inr "right", .int (-1)), (.inr "left", .int 1)]))) := fun c o z => by rw [upd_ne (ne_of_none z hD), upd_ne (ne_of_none z hD)]; exact z
            have h8 : upd (upd H7 D (.dK [])) D (.dK (mergeK [] [(.inr "right", .int (-1)), (.inr "left", .int 1)])) D = some (.dK (mergeK [] [(.inr "right", .int (-1)), (.inr "left", .int 1)])) := upd_same
            generalize upd (upd H7 D (.dK [])) D (.dK (mergeK [] [(.inr "right", .int (-1)), (.inr "left", .int 1)])) = H8 at s8 h8 ⊢
            refine ⟨_, rfl, _, _, rfl, dgk (k := .inr (lrS ol)) h8 (dg0 ol), ?_⟩
            generalize sgP ol false = sg at rest ⊢
            have hM8 := s8 _ _ hM7
            have hN8 := s8 _ _ hN7
            refine ⟨_, rfl, _, rfl, N, _, _, .int (tp + 1), rfl, rfl, SqL.of hN8, rfl, _, rfl, N, _, _, .int (n2), rfl, rfl, SqL.of hN8, rfl, _, rfl, _, rfl, M, _, _, .int (m + 1), rfl, rfl, SqL.of hM8, rfl, (by show 5 ≤ sizeLine; decide), fun t1 ht1 => ?_⟩
            have s9 : Same H8 (upd H8 t1 (.tup [.int sg, .int (tp + 1), .int n2, .int e, .int (m + 1)])) := Same.new ht1
            have h9 : upd H8 t1 (.tup [.int sg, .int (tp + 1), .int n2, .int e, .int (m + 1)]) t1 = some (.tup [.int sg, .int (tp + 1), .int n2, .int e, .int (m + 1)]) := upd_same
            dsimp only
            generalize upd H8 t1 (.tup [.int sg, .int (tp + 1), .int n2, .int e, .int (m + 1)]) = H9 at s9 h9 ⊢
            have hM9 := s9 _ _ hM8
            have hN9 := s9 _ _ hN8
            refine ⟨_, rfl, _, _, rfl, rfl, _, rfl, _, rfl, N, _, _, .int (tp + 1), rfl, rfl, SqL.of hN9, rfl, _, rfl, M, _, _, .int (m + 1), rfl, rfl, SqL.of hM9, rfl, _, rfl, M, _, _, .int (m2), rfl, rfl, SqL.of hM9, rfl, (by show 5 ≤ sizeLine; decide), fun t2 ht2 => ?_⟩
            have s10 : Same H9 (upd H9 t2 (.tup [.int (0 - sg), .int f, .int (tp + 1), .int (m + 1), .int m2])) := Same.new ht2
            have h10 : upd H9 t2 (.tup [.int (0 - sg), .int f, .int (tp + 1), .int (m + 1), .int m2]) t2 = some (.tup [.int (0 - sg), .int f, .int (tp + 1), .int (m + 1), .int m2]) := upd_same
            dsimp only
            generalize upd H9 t2 (.tup [.int (0 - sg), .int f, .int (tp + 1), .int (m + 1), .int m2]) = H10 at s10 h10 ⊢
            refine ⟨(by show 2 ≤ sizeLine; decide), fun S hS => ?_⟩
            have s11 : Same H10 (upd H10 S (.lst [.ref t1, .ref t2])) := Same.new hS
            exact rest _ _ ⟨_, S, rfl, ((s8.trans s9).trans s10).trans s11, ⟨[t1, t2], upd_same, .cons (s11 _ _ (s10 _ _ h9)) (.cons (s11 _ _ h10) .nil)⟩⟩
      · have h : f ∈ rings := by simpa using hw
        refine ⟨_, rfl, _, rfl, N, _, _, 2, rfl, rfl, h4, rfl, ?_⟩
        refine rest _ _ ⟨rfl, fun c o z => by rw [upd_ne (ne_of_none z hN0)]; exact sm4 _ _ z, by rw [upd_ne MN]; exact hM4, ?_⟩
        rw [upd_same]
        unfold lastN
        rw [if_pos h]; rfl
      · have h : ¬ f ∈ rings := by simpa using hw
        refine ⟨rfl, sm4, hM4, ?_⟩
        unfold lastN
        rw [if_neg h]; exact h4
    · have h : e ∈ rings := by simpa using hw
      refine ⟨_, rfl, _, rfl, M, _, _, 2, rfl, rfl, h2, rfl, ?_⟩
      refine rest _ _ ⟨rfl, fun c o z => by rw [upd_ne (ne_of_none z hM0)]; exact sm2 _ _ z, ?_⟩
      rw [upd_same]
      unfold lastN
      rw [if_pos h]; rfl
    · have h : ¬ e ∈ rings := by simpa using hw
      refine ⟨rfl, sm2, ?_⟩
      unfold lastN
      rw [if_neg h]; exact h2
end

end K25
namespace DM
open PySem L2
def tupsD (cs : List Cr) : List PyData := cs.map fun c => .tuple (c.l.map .int)
def drD (rings : List Int) (cs : List Cr) : PyData := .tuple [.list (rings.map .int), .list (tupsD cs)]
theorem crs_dp {K : PySem.W.Frag} {H : Hp} {ps : List Addr} {cs : List Cr} (p : Paired (CrAt H) ps cs) : DpAll K H (ps.map V.ref) (tupsD cs) := by
  induction p with
  | nil => exact .nil
  | @cons a c _ _ h _ ih => exact .cons (.tup (SqT.of (show H a = some (.tup (c.l.map V.int)) from h)) (dpInts _)) ih
theorem dr_dp {K : PySem.W.Frag} {H : Hp} {d : Addr} {rings : List Int} {cs : List Cr} (h : DrAt H d rings cs) : Dp K H (.ref d) (drD rings cs) := by
  obtain ⟨a, b, hd, ha, ps, hb, pp⟩ := h
  exact .tup (SqT.of hd) (.cons (.lst (SqL.of ha) (dpInts _)) (.cons (.lst (SqL.of hb) (crs_dp pp)) .nil))
theorem lay_tups : ∀ cs : List Cr, PyData.canLayAll0 (tupsD cs) = true
  | [] => rfl
  | c :: cs => by
    show PyData.canLayAll0 (.tuple (c.l.map .int) :: tupsD cs) = true
    simp [PyData.canLayAll0, PyData.canLay0, lay_ints, lay_tups cs]
theorem dep_tups : ∀ cs : List Cr, PyData.depthAll (tupsD cs) ≤ 1
  | [] => Nat.zero_le _
  | c :: cs => by
    show PyData.depthAll (.tuple (c.l.map .int) :: tupsD cs) ≤ 1
    simp [PyData.depthAll, PyData.depth, dep_ints, dep_tups cs]
theorem dr_sh (rings : List Int) (cs : List Cr) : SeqAt.shaped (drD rings cs) = true := by
  unfold SeqAt.shaped
  rw [Bool.and_eq_true]
  refine ⟨?_, decide_eq_true ?_⟩
  · show PyData.canLayAll0 [.list (rings.map .int), .list (tupsD cs)] = true
    simp [PyData.canLayAll0, PyData.canLay0, lay_ints, lay_tups]
  · show PyData.depthAll [.list (rings.map .int), .list (tupsD cs)] + 1 ≤ 64
    have h1 := dep_ints rings
    have h2 := dep_tups cs
    simp only [PyData.depthAll, PyData.depth]
    omega
theorem dr_eq (rings : List Int) (cs : List Cr) : PyData.eqv (drD rings cs) (drD rings cs) = true := eqv_same (dr_sh _ _) rfl
theorem pickV {xs : List V} {e : Int} {n : Nat} (hn : xs.length = n) (h0 : 0 < n) : ∃ v, atI xs (e % n) = some v ∧ v ∈ xs := by
  have h1 : 0 ≤ e % (n : Int) := Int.emod_nonneg _ (by omega)
  have h2 : e % (n : Int) < n := Int.emod_lt_of_pos _ (by omega)
  have lt : (e % (n : Int)).toNat < xs.length := by omega
  refine ⟨xs[(e % (n : Int)).toNat], ?_, List.getElem_mem _⟩
  have q := atI_nat (List.getElem?_eq_getElem lt)
  rwa [show (((e % (n : Int)).toNat : Nat) : Int) = e % (n : Int) by omega] at q
end DM
namespace K25
open PySem L2 DM PM
abbrev s__law_spot : Stmt := top 58
theorem sc__law_spot : FnScope ["_law_drawing", "_law_cell", "_law_names_here", "_law_e", "_law_side", "_law_ring", "_law_spots", "_law_name", "_law_goes"] ["_law_drawing", "_law_cell"] (defScope s__law_spot) := ⟨rfl, rfl, rfl, by decide +kernel, rfl, by decide +kernel, by decide +kernel⟩
abbrev s__law_some_poke : Stmt := top 59
theorem sc__law_some_poke : FnScope ["_law_drawing", "_law_cell", "_law_spot_here"] ["_law_drawing", "_law_cell"] (defScope s__law_some_poke) := ⟨rfl, rfl, rfl, by decide +kernel, rfl, by decide +kernel, by decide +kernel⟩
section
variable {P : Program} {w : World} {K : PySem.W.Frag} {mg : Str → Option Value} {base : Heap}
def Spot (rings : List Int) (cs : List Cr) (e f : Int) (sl ol : Bool) : Prop := e ∈ n1 rings cs ∧ f ∈ n1 rings cs ∧ f ≠ e ∧ ((e ∈ rings ∧ ol = sl) ∨ (e ∉ rings ∧ f ∈ rings ∧ ol = true) ∨ (e ∉ rings ∧ ∃ F, Orb (onF (onwA cs)) (darts (insA cs)) (e, sl) F ∧ (∀ x, F.getLast? = some x → onF (onwA cs) x = (e, sl)) ∧ (f, ol) ∈ F))
def SpAt (H : Hp) (p : Addr) (q : Int × Bool) : Prop := H p = some (.tup [.int q.1, .str (lrS q.2)])
structure SpsAt (H : Hp) (S : Addr) (good : Int × Bool → Prop) (n : Nat) : Prop where
  get : ∃ (ts : List Addr) (sp : List (Int × Bool)), H S = some (.lst (ts.map V.ref)) ∧ Paired (SpAt H) ts sp ∧ sp.length ≤ n ∧ ∀ q ∈ sp, good q
theorem SpsAt.mv {H H' : Hp} {S : Addr} {good : Int × Bool → Prop} {n m : Nat} (h : SpsAt H S good n) (s : Same H H') (l : n ≤ m) : SpsAt H' S good m := by
  obtain ⟨ts, sp, e, p, le, g⟩ := h
  exact ⟨ts, sp, s _ _ e, Paired.mono (fun q c z => s _ _ z) p, by omega, g⟩
theorem SpsAt.put {H : Hp} {S p : Addr} {good : Int × Bool → Prop} {n : Nat} {q : Int × Bool} (h : SpsAt H S good n) (hp : SpAt H p q) (g : good q) (hn : n ≤ 50000) : ∃ acc : List V, H S = some (.lst acc) ∧ acc.length < sizeLine ∧ SpsAt (upd H S (.lst (acc ++ [.ref p]))) S good (n + 1) := by
  obtain ⟨ts, sp, e, pp, le, gs⟩ := h
  have pl := pp.length
  refine ⟨_, e, sln (by rw [List.length_map]; omega), ⟨ts ++ [p], sp ++ [q], by rw [upd_same]; simp, ?_, by rw [List.length_append]; simp; omega, fun r hr => ?_⟩⟩
  · have to : ∀ (r : Addr) (xs : List V), H r = some (.tup xs) → upd H S (.lst (ts.map V.ref ++ [.ref p])) r = some (.tup xs) := fun r xs z => by
      rw [upd_ne (fun y => by rw [y, e] at z; cases z)]; exact z
    exact (Paired.mono (fun r d z => to _ _ z) pp).snoc (to _ _ hp)
  · rcases List.mem_append.mp hr with z | z
    · exact gs r z
    · rw [List.mem_singleton.mp z]; exact g
theorem lr_pick (z : Int) : atI [V.str "left", V.str "right"] (z % 2) = some (.str (lrS (decide (z % 2 = 0)))) := by
  rcases (show z % 2 = 0 ∨ z % 2 = 1 by omega) with h | h <;> rw [h] <;> rfl
theorem pickI {ks : List Int} {z : Int} (k0 : 0 < ks.length) : ∃ x, atI (ks.map V.int) (z % (ks.length : Int)) = some (.int x) ∧ x ∈ ks := by
  obtain ⟨v, e, m⟩ := pickV (xs := ks.map V.int) (e := z) (n := ks.length) (by simp) k0
  obtain ⟨x, hx, rfl⟩ := List.mem_map.mp m
  exact ⟨x, e, hx⟩
structure PSpt (vs : List V) (H : Hp) (Q : VK) : Prop where
  get : ∃ (d : Addr) (cell : Int) (rings : List Int) (cs : List Cr), vs = [.ref d, .int cell] ∧ DrAt H d rings cs ∧ Wf rings cs ∧ n1 rings cs ≠ [] ∧ rings.length ≤ 400 ∧ cs.length ≤ 400 ∧ (∀ H', Same H H' → Q .non H') ∧ ∀ (t : Addr) (H' : Hp) (e f : Int) (sl ol : Bool), Same H H' → H' t = some (.tup [.int e, .str (lrS sl), .int f, .str (lrS ol)]) → Spot rings cs e f sl ol → Q (.ref t) H'
def sp_spt : Sp := fun vs H Q _ => PSpt vs H Q
theorem ok_spt {fa : Addr} {fd : FuncData} (F : FT K mg "_law_spot" s__law_spot ["_law_drawing", "_law_cell"] fa fd) (T : BN mg) (cA : Cal P w K mg base 1 "_law_names" ["_law_drawing"] sp_names) (cF : Cal P w K mg base 3 "_law_face" ["_law_crossings", "_law_walk"] sp_fac) : Cal P w K mg base 4 "_law_spot" ["_law_drawing", "_law_cell"] sp_spt := by
  refine F.cal sc__law_spot (fun vs H Q E h => ?_) (fun A outer s H vs Q E hr h => ?_)
  · obtain ⟨⟨d, cell, rings, cs, rfl, _⟩⟩ := h; rfl
  · obtain ⟨⟨d, cell, rings, cs, rfl, dr, wf, ne, rl, cl, k0, k⟩⟩ := h
    obtain ⟨a, b, hd, ha, hcr⟩ := id dr
    have nd := sc__law_spot.nd
    refine ⟨_, (pss_cons (ps_set (i := 2) nd rfl (Or.inl rfl) (pe_cal cA (hr.mono (by decide)) (by rfl) (pa_cons (pv 0) pa_nil)))
      (pss_cons (ps_set (i := 3) nd rfl (Or.inr rfl) (pe_ix ix_list (pv 2) (pe_op op_mod (pv 1) (pe_len (by rfl) T.len (pv 2))) (fun _ _ => rfl)))
      (pss_cons (ps_set (i := 4) nd rfl (Or.inr rfl) (pe_ix ix_list (pe_lst (pa_cons pe_str (pa_cons pe_str pa_nil))) (pe_op op_mod (pe_op op_fdivB (pv 1) pe_int) pe_int) (fun _ _ => rfl)))
      (pss_cons (ps_setLc (i := 6) (own := [("_law_ring", 5)]) (g := (gName 5)) (wi := (iList K (tOp (rIxT K) (tVar 0) (tC (.int 0))))) (tt := (tTest (tOp rNe (tVar 5) (tVar 3)))) (te := (tTup (tCons (tVar 5) (tCons (tC (.str "left")) tNil)))) (by rfl) nd rfl rfl (sw_true rfl rfl rfl (by decide +kernel)) (pi_list (pe_ix ix_tup (pv 0) pe_int (fun _ _ => rfl))) (blkOk_by (by kernel_rfl)) (fun _ _ _ _ _ => (pg_name (i := 5) nd rfl (Or.inl rfl))) (fun _ _ _ _ _ => pts_one (pt_cmpR op_ne (pv 5) (pv 3) (nomark _))) (fun _ _ _ _ _ => (pe_tup (pa_cons (pv 5) (pa_cons pe_str pa_nil)))))
      (pss_cons (ps_if (pt_cmpR op_in_seq (pv 3) (pe_ix ix_tup (pv 0) pe_int (fun _ _ => rfl)) (by with_unfolding_all rfl))
        (pss_one (ps_setLc (i := 6) (own := [("_law_name", 7)]) (g := (gName 7)) (wi := (iList K (tVar 2))) (tt := (tTest (tOp rNe (tVar 7) (tVar 3)))) (te := (tTup (tCons (tVar 7) (tCons (tVar 4) tNil)))) (by rfl) nd rfl rfl (sw_true rfl rfl rfl (by decide +kernel)) (pi_list (pv 2)) (blkOk_by (by kernel_rfl)) (fun _ _ _ _ _ => (pg_name (i := 7) nd rfl (Or.inl rfl))) (fun _ _ _ _ _ => pts_one (pt_cmpR op_ne (pv 7) (pv 3) (nomark _))) (fun _ _ _ _ _ => (pe_tup (pa_cons (pv 7) (pa_cons (pv 4) pa_nil))))))
        (pss_one (ps_for PassesOwn.never rfl (pi_list (pe_cal cF (hr.mono (by decide)) (by rfl) (pa_cons (pe_ix ix_tup (pv 0) pe_int (fun _ _ => rfl)) (pa_cons (pe_tup (pa_cons (pv 3) (pa_cons (pe_cmpR op_eq (pv 4) pe_str (nomark _)) pa_nil))) pa_nil)))) (pg_tup (by rfl) (pgs_cons (pg_name (i := 7) nd rfl (Or.inl rfl)) (pgs_cons (pg_name (i := 8) nd rfl (Or.inl rfl)) pgs_nil)))
          (pss_one (ps_if (pt_cmpR op_ne (pv 7) (pv 3) (nomark _))
            (pss_one (ps_expr (pe_bm PySem.F.plainAttrs_list PySem.F.slot_list_append PySem.F.type_list_append mt_append (pv 6) (pa_cons (pe_tup (pa_cons (pv 7) (pa_cons (pe_ix ix_list (pe_lst (pa_cons pe_str (pa_cons pe_str pa_nil))) (pe_callTy call_int1 (by rfl) T.int (by decide +kernel) (pa_cons (pv 8) pa_nil)) (fun _ _ => rfl)) pa_nil))) pa_nil))))
            pss_nil)))))
      (pss_cons (ps_if (pt_cmpR (op_eqNil (hu0 hr)) (pv 6) (pe_lst pa_nil) (nomark _))
        (pss_one (ps_ret pe_non))
        pss_nil)
      (pss_one (ps_ret (pe_op op_catT (pe_tup (pa_cons (pv 3) (pa_cons (pv 4) pa_nil))) (pe_ix ix_list (pv 6) (pe_op op_mod (pe_op op_fdivB (pv 1) pe_int) (pe_len (by rfl) T.len (pv 6))) (fun _ _ => rfl))))))))))), ?_⟩
    refine ⟨_, rfl, ⟨⟨d, rings, cs, rfl, dr, rl, cl, fun L H1 ks hL s1 h1 pm up => ?_⟩⟩⟩
    have kl : 0 < ks.length := by rw [pm.length_eq]; exact List.length_pos_iff.mpr ne
    have kl2 : ks.length ≤ 1200 := by rw [pm.length_eq, n1_len]; omega
    obtain ⟨e, ee, me⟩ := pickI (z := cell) kl
    refine ⟨_, rfl, _, rfl, _, rfl, L, _, rfl, .inl (SqL.of h1), _, _, rfl, rfl, (by rw [List.length_map]; omega), L, _, _, .int e, rfl, rfl, SqL.of h1, (by rw [List.length_map]; exact ee), ?_⟩
    have he : e ∈ n1 rings cs := pm.mem_iff.mp me
    refine ⟨(by show 2 ≤ sizeLine; decide), fun L2 hL2 => ?_⟩
    have s2 : Same H1 (upd H1 L2 (.lst [.str "left", .str "right"])) := Same.new hL2
    have h2 : upd H1 L2 (.lst [.str "left", .str "right"]) L2 = some (.lst [.str "left", .str "right"]) := upd_same
    dsimp only
    generalize upd H1 L2 (.lst [.str "left", .str "right"]) = H2 at s2 h2 ⊢
    refine ⟨_, rfl, _, _, rfl, rfl, db (by decide) (by decide), _, _, rfl, rfl, (by show (0 : Int) < 2; decide), L2, _, _, .str (lrS (decide (cell / 64 % 2 = 0))), rfl, rfl, SqL.of h2, lr_pick _, ?_⟩
    generalize decide (cell / 64 % 2 = 0) = sl
    have sm2 := s1.trans s2
    refine ⟨_, rfl, d, _, _, .ref a, rfl, rfl, SqT.of (sm2 _ _ hd), rfl, a, rfl, ⟨_, SqL.of (sm2 _ _ ha)⟩, fun S hS => ?_⟩
    have ha2 := sm2 _ _ ha
    refine lc_inv (n := rings.length) (fun i H11 => SpsAt H11 S (fun q => q.1 ∈ rings ∧ q.1 ≠ e ∧ q.2 = true) i ∧ SameX S H2 H11) ⟨⟨[], [], upd_same, .nil, Nat.le_refl _, fun _ h => nomatch h⟩, .upd⟩ (fun i H11 hi ⟨_, s11⟩ => ⟨_, _, SqL.of (s11 _ _ (ne_of_none ha2 hS) ha2), List.getElem?_eq_getElem (by rw [List.length_map]; exact hi)⟩) (fun H11 ⟨_, s11⟩ => ⟨_, SqL.of (s11 _ _ (ne_of_none ha2 hS) ha2), by rw [List.length_map]; exact Nat.le_refl _⟩) ?_ ?_
    · rintro i H11 hi ⟨spa, s11⟩ y H' ⟨rfl, hy⟩
      have ey := get_int (hy _ (SqL.of (s11 _ _ (ne_of_none ha2 hS) ha2)))
      subst ey
      obtain ⟨z, ez⟩ : ∃ z, rings[i]? = some z := ⟨_, List.getElem?_eq_getElem hi⟩
      have egz : rings.getD i 0 = z := by rw [List.getD_eq_getElem?_getD, ez]; rfl
      rw [egz]
      refine ⟨rfl, _, rfl, _, rfl, rfl, _, rfl, ?_⟩
      refine ite2 (fun h => ?_) (fun h => ?_)
      · have h : z ≠ e := by simpa using h
        refine ⟨_, rfl, (by show 2 ≤ sizeLine; decide), fun p hp => ?_⟩
        have s12 := Same.new (o := .tup [.int z, .str "left"]) hp
        obtain ⟨acc, e1, e2, e3⟩ := (spa.mv s12 (Nat.le_refl _)).put (p := p) (q := (z, true)) upd_same ⟨List.mem_of_getElem? ez, h, rfl⟩ (by omega)
        exact ⟨acc, e1, e2, e3, (s11.trans s12.x).trans .upd⟩
      · exact ⟨spa.mv (.refl _) (by omega), s11⟩
    · rintro H11 ⟨spa, s11⟩
      have s211 : Same H2 H11 := s11.same hS
      have sm11 := sm2.trans s211
      refine join_cal (fun σ H8 => ∃ (v5 v7 v8 : Option V) (S : Addr), σ = [some (.ref d), some (.int cell), some (.ref L), some (.int e), some (.str (lrS sl)), v5, some (.ref S), v7, v8] ∧ Same H H8 ∧ SpsAt H8 S (fun q => Spot rings cs e q.1 sl q.2) 5000) (fun σ H8 j => ?_) (fun rest => ?_)
      · obtain ⟨v5, v7, v8, S2, rfl, sm, ⟨ts, sp, hS2, pq, sl2, gs⟩⟩ := j
        have tl := pq.length
        refine ⟨_, rfl, (by show 0 ≤ sizeLine; decide), fun N hN => ?_⟩
        have s4 : Same H8 (upd H8 N (.lst [])) := Same.new hN
        have h4 : upd H8 N (.lst []) N = some (.lst []) := upd_same
        dsimp only
        generalize upd H8 N (.lst []) = H4 at s4 h4 ⊢
        have sm4 := sm.trans s4
        have hS4 := s4 _ _ hS2
        refine ⟨S2, N, _, rfl, rfl, SqL.of hS4, SqL.of h4, _, rfl, ?_⟩
        refine ite2 (fun h => ?_) (fun h => ?_)
        · exact k0 _ sm4
        · have l0 : 0 < ts.length := by
            cases ts with
            | nil => simp at h
            | cons => simp
          obtain ⟨v, ev, mv⟩ := pickV (xs := ts.map V.ref) (e := cell / 128) (n := ts.length) (by simp) l0
          obtain ⟨t, mt, rfl⟩ := List.mem_map.mp mv
          obtain ⟨i, hi, ei⟩ := List.mem_iff_getElem.mp mt
          obtain ⟨q, eq, hq⟩ := Paired.getR pq (by rw [List.getElem?_eq_getElem hi, ei])
          refine ⟨_, rfl, _, rfl, (by show 2 ≤ sizeLine; decide), fun p hp => ?_⟩
          have s5 : Same H4 (upd H4 p (.tup [.int e, .str (lrS sl)])) := Same.new hp
          have h5 : upd H4 p (.tup [.int e, .str (lrS sl)]) p = some (.tup [.int e, .str (lrS sl)]) := upd_same
          dsimp only
          generalize upd H4 p (.tup [.int e, .str (lrS sl)]) = H5 at s5 h5 ⊢
          have hS5 := s5 _ _ hS4
          have hq5 : H5 t = some (.tup [.int q.1, .str (lrS q.2)]) := s5 _ _ (s4 _ _ hq)
          refine ⟨_, rfl, _, rfl, _, _, rfl, rfl, db (by decide) (by decide), _, rfl, S2, _, rfl, .inl (SqL.of hS5), _, _, rfl, rfl, (by rw [List.length_map]; omega), S2, _, _, .ref t, rfl, rfl, SqL.of hS5, (by rw [List.length_map]; exact ev), p, t, _, _, rfl, rfl, SqT.of h5, SqT.of hq5, (by simp), (by show 2 + 2 ≤ sizeLine; decide), (fun z => nomatch z), fun _ p6 hp6 => ?_⟩
          exact k p6 _ e q.1 sl q.2 ((sm4.trans s5).trans (Same.new hp6)) upd_same (gs q (List.mem_of_getElem? eq))
      · have hd11 := sm11 _ _ hd
        have ha11 := sm11 _ _ ha
        refine ⟨_, rfl, _, rfl, d, _, _, .ref a, rfl, rfl, SqT.of hd11, rfl, a, _, rfl, .inl (SqL.of ha11), rfl, flat_ints _, _, rfl, ?_⟩
        rw [in_ints]
        refine ite2 (fun h => ?_) (fun h => ?_)
        · have hr : e ∈ rings := by simpa using h
          have hL11 := s211 _ _ (s2 _ _ h1)
          refine ⟨_, rfl, L, rfl, ⟨_, SqL.of hL11⟩, fun S3 hS3 => ?_⟩
          refine lc_inv (n := ks.length) (fun i H12 => SpsAt H12 S3 (fun q => Spot rings cs e q.1 sl q.2) i ∧ SameX S3 H11 H12) ⟨⟨[], [], upd_same, .nil, Nat.le_refl _, fun _ h => nomatch h⟩, .upd⟩ (fun i H12 hi ⟨_, s12⟩ => ⟨_, _, SqL.of (s12 _ _ (ne_of_none hL11 hS3) hL11), List.getElem?_eq_getElem (by rw [List.length_map]; exact hi)⟩) (fun H12 ⟨_, s12⟩ => ⟨_, SqL.of (s12 _ _ (ne_of_none hL11 hS3) hL11), by rw [List.length_map]; exact Nat.le_refl _⟩) ?_ ?_
          · rintro i H12 hi ⟨spa, s12⟩ y H' ⟨rfl, hy⟩
            have ey := get_int (hy _ (SqL.of (s12 _ _ (ne_of_none hL11 hS3) hL11)))
            subst ey
            obtain ⟨z, ez⟩ : ∃ z, ks[i]? = some z := ⟨_, List.getElem?_eq_getElem hi⟩
            have egz : ks.getD i 0 = z := by rw [List.getD_eq_getElem?_getD, ez]; rfl
            rw [egz]
            refine ⟨rfl, _, rfl, _, rfl, rfl, _, rfl, ?_⟩
            refine ite2 (fun h => ?_) (fun h => ?_)
            · have h : z ≠ e := by simpa using h
              refine ⟨_, rfl, _, rfl, (by show 2 ≤ sizeLine; decide), fun p hp => ?_⟩
              have s13 := Same.new (o := .tup [.int z, .str (lrS sl)]) hp
              obtain ⟨acc, e1, e2, e3⟩ := (spa.mv s13 (Nat.le_refl _)).put (p := p) (q := (z, sl)) upd_same ⟨he, pm.mem_iff.mp (List.mem_of_getElem? ez), h, .inl ⟨hr, rfl⟩⟩ (by omega)
              exact ⟨acc, e1, e2, e3, (s12.trans s13.x).trans .upd⟩
            · exact ⟨spa.mv (.refl _) (by omega), s12⟩
          · rintro H12 ⟨spb, s12⟩
            exact rest _ _ ⟨_, _, _, S3, rfl, sm11.trans (s12.same hS3), spb.mv (.refl _) (by omega)⟩
        · have hr : e ∉ rings := by simpa using h
          have hi : e ∈ insA cs := (List.mem_append.mp he).resolve_left hr
          refine ⟨_, rfl, d, _, _, .ref b, rfl, rfl, SqT.of hd11, rfl, _, rfl, _, rfl, rfl, (by show 2 ≤ sizeLine; decide), fun p hp => ?_⟩
          have es : (decide (V.str (lrS sl) = V.str "left")) = sl := by cases sl <;> decide
          rw [es]
          have s13 : Same H11 (upd H11 p (.tup [.int e, .bl sl])) := Same.new hp
          have h13 : DtAt (upd H11 p (.tup [.int e, .bl sl])) p (e, sl) := upd_same
          generalize upd H11 p (.tup [.int e, .bl sl]) = H13 at s13 h13 ⊢
          have sm13 := sm11.trans s13
          refine ⟨⟨b, p, (e, sl), rings, cs, rfl, hcr.mv sm13, by omega, h13, wf, darts_mem.mpr hi, fun L3 H14 fs Fc s14 hL3 h14 pf ob cy => ?_⟩⟩
          have sm14 := sm13.trans s14
          have spa14 := (spa.mv (s13.trans s14) (Nat.le_refl _))
          have ob_l := ob.len
          rw [darts_len, insA_len] at ob_l
          have fl := pf.length
          have SL3 : L3 ≠ S := fun z => by
            obtain ⟨ts, sp, e, _⟩ := spa.mv s13 (Nat.le_refl _)
            rw [← z, hL3] at e; cases e
          refine ⟨L3, rfl, ⟨_, SqL.of h14⟩, ?_⟩
          refine for_by (D := { nx := _, rt := _ }) (n := Fc.length) (fun i σ H15 => ∃ (v5 v7 v8 : Option V), σ = [some (.ref d), some (.int cell), some (.ref L), some (.int e), some (.str (lrS sl)), v5, some (.ref S), v7, v8] ∧ SpsAt H15 S (fun q => Spot rings cs e q.1 sl q.2) (400 + i) ∧ SameX S H14 H15) ⟨_, _, _, rfl, ?_, .refl _ _⟩ (fun i σ H15 hi ⟨_, _, _, _, _, sx⟩ => ⟨_, _, SqL.of (sx _ _ SL3 h14), List.getElem?_eq_getElem (by rw [List.length_map]; omega)⟩) (fun σ H15 ⟨_, _, _, _, _, sx⟩ => ⟨_, SqL.of (sx _ _ SL3 h14), by rw [List.length_map]; omega⟩) ?_ ?_
          · obtain ⟨ts, sp, e1, e2, e3, e4⟩ := spa14
            refine ⟨ts, sp, e1, e2, by omega, fun q hq => ?_⟩
            obtain ⟨g1, g2, g3⟩ := e4 q hq
            exact ⟨he, List.mem_append_left _ g1, g2, .inr (.inl ⟨hr, g1, g3⟩)⟩
          · rintro i σ H15 hi2 ⟨v5, v7, v8, rfl, spb, sx⟩ x H' ⟨rfl, hx⟩
            obtain ⟨dt, edt⟩ : ∃ dt, Fc[i]? = some dt := ⟨_, List.getElem?_eq_getElem hi2⟩
            obtain ⟨r, er, hr14⟩ := Paired.getL pf edt
            have ex := hx _ (SqL.of (sx _ _ SL3 h14))
            rw [List.getElem?_map, er] at ex
            cases ex
            have rS : r ≠ S := fun z => by
              obtain ⟨ts, sp, e1, _⟩ := spa14
              have hr14 : H14 r = _ := hr14
              rw [z, e1] at hr14; cases hr14
            have hr15 : H' r = some (.tup [.int dt.1, .bl dt.2]) := sx _ _ rS hr14
            refine ⟨_, _, rfl, SqT.of hr15, rfl, _, _, rfl, _, _, rfl, rfl, ?_⟩
            refine ⟨_, rfl, _, rfl, rfl, _, rfl, ?_⟩
            refine ite2 (fun h => ?_) (fun h => ?_)
            · have h : dt.1 ≠ e := by simpa using h
              obtain ⟨ts0, sp0, e10, e20, e30, e40⟩ := id spb
              refine ⟨_, rfl, .inl ⟨rfl, _, SqL.of e10⟩, _, rfl, (by show 2 ≤ sizeLine; decide), fun g hg => ?_⟩
              have s16 : Same H' (upd H' g (.lst [.str "right", .str "left"])) := Same.new hg
              have h16 : upd H' g (.lst [.str "right", .str "left"]) g = some (.lst [.str "right", .str "left"]) := upd_same
              dsimp only
              generalize upd H' g (.lst [.str "right", .str "left"]) = H16 at s16 h16 ⊢
              have erl : atI [V.str "right", V.str "left"] (if dt.2 = true then 1 else 0) = some (.str (lrS dt.2)) := by cases dt.2 <;> rfl
              refine ⟨_, rfl, .inr ⟨_, rfl, g, _, _, .str (lrS dt.2), rfl, rfl, SqL.of h16, erl, (by show 2 ≤ sizeLine; decide), fun u hu => ?_⟩⟩
              have s17 := Same.new (o := .tup [.int dt.1, .str (lrS dt.2)]) hu
              have hf : dt.1 ∈ n1 rings cs := List.mem_append_right _ (darts_mem.mp (ob.sub dt (List.mem_of_getElem? edt)))
              obtain ⟨acc, f1, f2, f3⟩ := (spb.mv (s16.trans s17) (Nat.le_refl _)).put (p := u) (q := (dt.1, dt.2)) upd_same ⟨he, hf, h, .inr (.inr ⟨hr, Fc, ob, cy, List.mem_of_getElem? edt⟩)⟩ (by omega)
              refine ⟨S, _, _, rfl, rfl, f1, f2, ⟨_, _, _, rfl, f3, (sx.trans (s16.trans s17).x).trans .upd⟩⟩
            · exact ⟨_, _, _, rfl, spb.mv (.refl _) (by omega), sx⟩
          · rintro σ H15 ⟨v5, v7, v8, rfl, spb, sx⟩
            refine rest _ _ ⟨_, _, _, S, rfl, fun c o z => sx _ _ (ne_of_none (sm2 _ _ z) hS) (sm14 _ _ z), spb.mv (.refl _) (by omega)⟩
structure PSpk (vs : List V) (H : Hp) (Q : VK) : Prop where
  get : ∃ (d : Addr) (cell : Int) (rings : List Int) (cs : List Cr), vs = [.ref d, .int cell] ∧ DrAt H d rings cs ∧ Wf rings cs ∧ n1 rings cs ≠ [] ∧ rings.length ≤ 400 ∧ cs.length ≤ 400 ∧ (∀ H', Same H H' → Q (.ref d) H') ∧ ∀ (d' : Addr) (H' : Hp) (e f m : Int) (sl ol : Bool), Same H H' → Spot rings cs e f sl ol → m ∈ n1 rings cs → (∀ y ∈ n1 rings cs, y ≤ m) → DrAt H' d' (wo f (wo e rings)) (pokeS rings cs e f m (sgP sl (sl != ol)) (sl != ol)) → Q (.ref d') H'
def sp_spk : Sp := fun vs H Q _ => PSpk vs H Q
theorem ok_spk {fa : Addr} {fd : FuncData} (F : FT K mg "_law_some_poke" s__law_some_poke ["_law_drawing", "_law_cell"] fa fd) (T : BN mg) (cS : Cal P w K mg base 4 "_law_spot" ["_law_drawing", "_law_cell"] sp_spt) (cP : Cal P w K mg base 2 "_law_poke" ["_law_drawing", "_law_e", "_law_side", "_law_f", "_law_other"] sp_pok) : Cal P w K mg base 5 "_law_some_poke" ["_law_drawing", "_law_cell"] sp_spk := by
  refine F.cal sc__law_some_poke (fun vs H Q E h => ?_) (fun A outer s H vs Q E hr h => ?_)
  · obtain ⟨⟨d, cell, rings, cs, rfl, _⟩⟩ := h; rfl
  · obtain ⟨⟨d, cell, rings, cs, rfl, dr, wf, ne, rl, cl, k0, k⟩⟩ := h
    have nd := sc__law_some_poke.nd
    refine ⟨_, (pss_cons (ps_set (i := 2) nd rfl (Or.inl rfl) (pe_cal cS (hr.mono (by decide)) (by rfl) (pa_cons (pv 0) (pa_cons (pv 1) pa_nil))))
      (pss_cons (ps_if (pt_cmpR op_isN (pv 2) pe_non (nomark _))
        (pss_one (ps_ret (pv 0)))
        pss_nil)
      (pss_one (ps_ret (pe_cal cP (hr.mono (by decide)) (by rfl) (pa_cons (pv 0) (pa_cons (pe_ix ix_tup (pv 2) pe_int (fun _ _ => rfl)) (pa_cons (pe_ix ix_tup (pv 2) pe_int (fun _ _ => rfl)) (pa_cons (pe_ix ix_tup (pv 2) pe_int (fun _ _ => rfl)) (pa_cons (pe_ix ix_tup (pv 2) pe_int (fun _ _ => rfl)) pa_nil)))))))))), ?_⟩
    refine ⟨_, rfl, _, rfl, ⟨⟨d, cell, rings, cs, rfl, dr, wf, ne, rl, cl, fun H1 s1 => ?_, fun t H1 e f sl ol s1 ht sp => ?_⟩⟩⟩
    · refine ⟨_, rfl, rfl, _, rfl, ?_⟩
      exact iteT ⟨_, rfl, k0 _ s1⟩
    · refine ⟨_, rfl, rfl, _, rfl, ?_⟩
      refine ite2 (fun h => absurd h (by simp)) (fun _ => ?_)
      refine ⟨_, rfl, _, rfl, t, _, _, .int e, rfl, rfl, SqT.of ht, rfl, _, rfl, t, _, _, .str (lrS sl), rfl, rfl, SqT.of ht, rfl, _, rfl, t, _, _, .int f, rfl, rfl, SqT.of ht, rfl, _, rfl, t, _, _, .str (lrS ol), rfl, rfl, SqT.of ht, rfl, ⟨⟨d, e, f, sl, ol, rings, cs, rfl, dr.mv s1, sp.1, rl, cl, fun d' H2 m s2 mm mx dr2 => ?_⟩⟩⟩
      exact k d' H2 e f m sl ol (s1.trans s2) sp mm mx dr2
end

end K25
namespace K25
open PySem L2 DM PM
abbrev s__law_new_names : Stmt := top 49
theorem sc__law_new_names : FnScope ["_law_drawing", "_law_cell", "_law_by", "_law_rest", "_law_names_here", "_law_far", "_law_name", "_law_rings", "_law_row"] ["_law_drawing", "_law_cell"] (defScope s__law_new_names) := ⟨rfl, rfl, rfl, by decide +kernel, rfl, by decide +kernel, by decide +kernel⟩
section
variable {P : Program} {w : World} {K : PySem.W.Frag} {mg : Str → Option Value} {base : Heap}
structure Nx (far : Int) (ent : PM.Ps) : Prop where
  nd : (PM.ks ent).Nodup
  val : ∀ (j : Nat) (x v : Int), ent[j]? = some (x, v) → ∃ q : Int, 0 ≤ q ∧ q < 1009 ∧ v = far * q + j
theorem Nx.put {far : Int} {ent : PM.Ps} (h : Nx far ent) {x r : Int} (hx : x ∉ PM.ks ent) (r0 : 0 ≤ r) (r1 : r < 1009) : Nx far (ent ++ [(x, far * r + ent.length)]) := by
  refine ⟨?_, fun j y v e => ?_⟩
  · unfold PM.ks
    rw [List.map_append]
    exact List.nodup_append.mpr ⟨h.nd, List.nodup_cons.mpr ⟨by simp, List.nodup_nil⟩, fun a ha b hb z => hx ((show b = x by simpa using hb) ▸ z ▸ ha)⟩
  · rcases Nat.lt_trichotomy j ent.length with z | z | z
    · rw [List.getElem?_append_left z] at e; exact h.val j y v e
    · subst z
      rw [List.getElem?_append_right (Nat.le_refl _), Nat.sub_self] at e
      cases e
      exact ⟨r, r0, r1, rfl⟩
    · rw [List.getElem?_eq_none (by rw [List.length_append, List.length_singleton]; omega)] at e; cases e
theorem Nx.dk_put {far : Int} {ent : PM.Ps} (h : Nx far ent) {x : Int} (hx : x ∉ PM.ks ent) (v : Int) : putK (PM.dk ent) (.inl x) (.int v) = PM.dk (ent ++ [(x, v)]) := by
  rw [putK_new _ (by rw [PM.val_dk h.nd, if_neg hx])]
  unfold PM.dk
  rw [List.map_append]; rfl
theorem Nx.inj {far : Int} {ent : PM.Ps} (h : Nx far ent) (hl : (ent.length : Int) ≤ far) : ∀ x ∈ PM.ks ent, ∀ y ∈ PM.ks ent, PM.co ent x = PM.co ent y → x = y := fun x hx y hy e => by
  obtain ⟨p, hp, rfl⟩ := List.mem_map.mp hx
  obtain ⟨q, hq, rfl⟩ := List.mem_map.mp hy
  rw [PM.co_mem h.nd hp, PM.co_mem h.nd hq] at e
  obtain ⟨i, hi⟩ := List.getElem?_of_mem hp
  obtain ⟨j, hj⟩ := List.getElem?_of_mem hq
  obtain ⟨r, _, _, e1⟩ := h.val i p.1 p.2 hi
  obtain ⟨t, _, _, e2⟩ := h.val j q.1 q.2 hj
  have li := (List.getElem?_eq_some_iff.mp hi).1
  have lj := (List.getElem?_eq_some_iff.mp hj).1
  have : i = j := by
    have m : ∀ (r : Int) (i : Nat), i < ent.length → (far * r + (i : Int)) % far = i := fun r i li => by
      rw [Int.add_comm, Int.add_mul_emod_self_left]
      exact Int.emod_eq_of_lt (by omega) (by omega)
    have m1 := m r i li
    have m2 := m t j lj
    rw [← e1, e, e2] at m1
    omega
  subst this
  rw [hi] at hj
  exact congrArg Prod.fst (Option.some.inj hj)
theorem Nx.small {far : Int} {ent : PM.Ps} (h : Nx far ent) (f0 : 0 ≤ far) (f1 : far ≤ 10 ^ 54) (hl : ent.length < 100000) : ∀ x ∈ PM.ks ent, (PM.co ent x).natAbs ≤ 10 ^ 58 := fun x hx => by
  obtain ⟨p, hp, rfl⟩ := List.mem_map.mp hx
  rw [PM.co_mem h.nd hp]
  obtain ⟨i, hi⟩ := List.getElem?_of_mem hp
  obtain ⟨r, r0, r1, e1⟩ := h.val i p.1 p.2 hi
  have li := (List.getElem?_eq_some_iff.mp hi).1
  rw [e1]
  have : far * r ≤ 10 ^ 54 * 1009 := Int.le_trans (Int.mul_le_mul_of_nonneg_right f1 r0) (Int.mul_le_mul_of_nonneg_left (by omega) (by decide))
  have z : 0 ≤ far * r := Int.mul_nonneg f0 r0
  generalize far * r = y at *
  have : y.natAbs ≤ 10 ^ 54 * 1009 := by omega
  have e9 : (10 : Nat) ^ 58 = 10 ^ 54 * 10000 := by decide
  have e8 : (1 : Nat) ≤ 10 ^ 54 := by decide
  generalize (10 : Nat) ^ 54 = p at *
  rw [e9]
  omega
theorem n1_nm {rings : List Int} {cs : List Cr} (wf : Wf rings cs) {c : Cr} (hc : c ∈ cs) {z : Int} (hz : z ∈ c.nm) : z ∈ n1 rings cs := by
  refine List.mem_append_right _ ?_
  simp only [Cr.nm, List.mem_cons, List.not_mem_nil, or_false] at hz
  rcases hz with e | e | e | e
  · exact List.mem_flatMap.mpr ⟨c, hc, by rw [e]; exact List.mem_cons_self⟩
  · exact wf.perm.mem_iff.mpr (List.mem_flatMap.mpr ⟨c, hc, by rw [e]; exact List.mem_cons_self⟩)
  · exact List.mem_flatMap.mpr ⟨c, hc, by rw [e]; exact List.mem_cons_of_mem _ List.mem_cons_self⟩
  · exact wf.perm.mem_iff.mpr (List.mem_flatMap.mpr ⟨c, hc, by rw [e]; exact List.mem_cons_of_mem _ List.mem_cons_self⟩)
structure PRen (vs : List V) (H : Hp) (Q : VK) : Prop where
  get : ∃ (d : Addr) (cell : Int) (rings : List Int) (cs : List Cr), vs = [.ref d, .int cell] ∧ DrAt H d rings cs ∧ Wf rings cs ∧ rings.length ≤ 400 ∧ cs.length ≤ 400 ∧ ∀ (d' : Addr) (H' : Hp) (f : Int → Int), Same H H' → (∀ x ∈ n1 rings cs, ∀ y ∈ n1 rings cs, f x = f y → x = y) → (∀ x ∈ n1 rings cs, (f x).natAbs ≤ 10 ^ 58 + 500) → DrAt H' d' (rings.map f) (cs.map (Cr.map f)) → Q (.ref d') H'
def sp_ren : Sp := fun vs H Q _ => PRen vs H Q
theorem far_ok {y : Int} (h0 : 2000 ≤ y) (h1 : y ≤ 10 ^ 54) : ∀ x ∈ [(10 : Int) ^ (9 : Int).toNat, (10 : Int) ^ (9 : Int).toNat, y, 2000], 2000 ≤ x ∧ x ≤ 10 ^ 54 := by
  intro x hx
  simp only [List.mem_cons, List.not_mem_nil, or_false] at hx
  have e1 : (2000 : Int) ≤ 10 ^ (9 : Int).toNat := by decide
  have e2 : (10 : Int) ^ (9 : Int).toNat ≤ 10 ^ 54 := by decide
  have e3 : (2000 : Int) ≤ 10 ^ 54 := by decide
  rcases hx with e | e | e | e
  · rw [e]; exact ⟨e1, e2⟩
  · rw [e]; exact ⟨e1, e2⟩
  · rw [e]; exact ⟨h0, h1⟩
  · rw [e]; exact ⟨by decide, e3⟩
theorem ok_ren {fa : Addr} {fd : FuncData} (F : FT K mg "_law_new_names" s__law_new_names ["_law_drawing", "_law_cell"] fa fd) (T : BN mg) (cA : Cal P w K mg base 1 "_law_names" ["_law_drawing"] sp_names) : Cal P w K mg base 2 "_law_new_names" ["_law_drawing", "_law_cell"] sp_ren := by
  refine F.cal sc__law_new_names (fun vs H Q E h => ?_) (fun A outer s H vs Q E hr h => ?_)
  · obtain ⟨⟨d, cell, rings, cs, rfl, _⟩⟩ := h; rfl
  · obtain ⟨⟨d, cell, rings, cs, rfl, dr, wf, rl, cl, k⟩⟩ := h
    obtain ⟨a, b, hd, ha, hcr⟩ := id dr
    have nd := sc__law_new_names.nd
    obtain ⟨ps, hb, pp⟩ := id hcr
    have hpl := pp.length
    have nl := n1_len rings cs
    refine ⟨_, (pss_cons (ps_set (i := 2) nd rfl (Or.inr rfl) pe_dnewK)
      (pss_cons (ps_set (i := 3) nd rfl (Or.inl rfl) (pe_op op_fdivB (pv 1) pe_int))
      (pss_cons (ps_set (i := 4) nd rfl (Or.inl rfl) (pe_callB cr_sortedB' (by rfl) T.sorted (by decide +kernel) (pa_cons (pe_cal cA (hr.mono (by decide)) (by rfl) (pa_cons (pv 0) pa_nil)) pa_nil)))
      (pss_cons (ps_set (i := 5) nd rfl (Or.inl rfl) (pe_ix ix_list (pe_lst (pa_cons (pe_op op_pow pe_int pe_int) (pa_cons (pe_op op_pow pe_int pe_int) (pa_cons (pe_ix ix_list (pe_lst (pa_cons (pe_op op_pow pe_int pe_int) (pa_cons (pe_op op_pow pe_int pe_int) pa_nil))) (pe_callTy call_int1 (by rfl) T.int (by decide +kernel) (pa_cons (pe_cmpR op_gt (pe_len (by rfl) T.len (pv 4)) pe_int (nomark _)) pa_nil)) (fun _ _ => rfl)) (pa_cons pe_int pa_nil))))) (pe_op op_mod (pe_op op_fdivB (pv 1) pe_int) pe_int) (fun _ _ => rfl)))
      (pss_cons (ps_for PassesOwn.never rfl (pi_list (pv 4)) (pg_name (i := 6) nd rfl (Or.inl rfl))
        (pss_one (ps_if (pt_cmp (pc_dnotin (hu_of hr) (pv 6) (pv 2)))
          (pss_cons (ps_dput (hu_of hr) (pv 2) (pv 6) (pe_op op_add (pe_op op_mulB (pv 5) (pe_op op_mod (pv 3) pe_int)) (pe_callB call_lenD (by rfl) T.len PySem.boot_len (pa_cons (pv 2) pa_nil))) rfl)
          (pss_one (ps_set (i := 3) nd rfl (Or.inl rfl) (pe_op op_fdivB (pv 3) pe_int))))
          pss_nil)))
      (pss_cons (ps_if (pt_cmpR op_eq (pe_op op_mod (pv 1) pe_int) pe_int (nomark _))
        (pss_one (ps_for PassesOwn.never rfl (pi_list (pe_callTy (cr_listD hr.hd) (by rfl) T.list (by decide +kernel) (pa_cons (pv 2) pa_nil))) (pg_name (i := 6) nd rfl (Or.inl rfl))
          (pss_one (ps_dput (hu_of hr) (pv 2) (pv 6) (pe_op op_sub pe_int (pe_dget (hu_of hr) (pv 2) (pv 6) (fun _ _ => rfl))) rfl))))
        pss_nil)
      (pss_cons (ps_setLc (i := 7) (own := [("_law_name", 6)]) (g := (gName 6)) (wi := (iList K (tOp (rIxT K) (tVar 0) (tC (.int 0))))) (tt := tYes) (te := (tDGet (tVar 2) (tVar 6))) (by rfl) nd rfl rfl (sw_true rfl rfl rfl (by decide +kernel)) (pi_list (pe_ix ix_tup (pv 0) pe_int (fun _ _ => rfl))) (blkOk_by (by kernel_rfl)) (fun _ _ _ _ _ => (pg_name (i := 6) nd rfl (Or.inl rfl))) (fun _ _ _ _ _ => pts_nil) (fun _ _ _ _ _ => (pe_dget (hu_of hr) (pv 2) (pv 6) (fun _ _ => rfl))))
      (pss_one (ps_ret (pe_tup (pa_cons (pv 7) (pa_cons (pe_lc (own := [("_law_row", 8)]) (g := (gName 8)) (wi := (iList K (tOp (rIxT K) (tVar 0) (tC (.int 1))))) (tt := tYes) (te := (tOp (rCatT K) (tTup (tCons (tOp (rIxT K) (tVar 8) (tC (.int 0))) tNil)) (tCB (fun xs H Q => ∃ p ys, xs = [.ref p] ∧ ((SqL K H p ys ∧ ∀ l, H l = none → Q (.ref l) (upd H l (.tup ys))) ∨ (SqT K H p ys ∧ Q (.ref p) H))) (tCons (tLc (iTup K (tSl (rSlT K) (tVar 8) (tPart (tC (.int 1))) tNoPart)) (gName 6) tYes (tDGet (tVar 2) (tVar 6)) [6]) tNil)))) (by rfl) nd (pi_list (pe_ix ix_tup (pv 0) pe_int (fun _ _ => rfl))) (blkOk_by (by kernel_rfl)) (fun _ _ _ _ _ => (pg_name (i := 8) nd rfl (Or.inl rfl))) (fun _ _ _ _ _ => pts_nil) (fun _ _ _ _ _ => (pe_op op_catT (pe_tup (pa_cons (pe_ix ix_tup (pv 8) pe_int (fun _ _ => rfl)) pa_nil)) (pe_callTy call_tuple_of (by rfl) T.tuple (by decide +kernel) (pa_cons (pe_lc (own := [("_law_name", 6)]) (g := (gName 6)) (wi := (iTup K (tSl (rSlT K) (tVar 8) (tPart (tC (.int 1))) tNoPart))) (tt := tYes) (te := (tDGet (tVar 2) (tVar 6))) (by rfl) nd (pi_tup (pe_slice sl_tup (pv 8) (po_some pe_int) po_none)) (blkOk_by (by kernel_rfl)) (fun _ _ _ _ _ => (pg_name (i := 6) nd rfl (Or.inl rfl))) (fun _ _ _ _ _ => pts_nil) (fun _ _ _ _ _ => (pe_dget (hu_of hr) (pv 2) (pv 6) (fun _ _ => rfl)))) pa_nil))))) pa_nil)))))))))))), ?_⟩
    refine fun B hB => ?_
    refine gen_new (.dK []) hB fun H0 s0 h0 => ?_
    refine ⟨_, rfl, _, _, rfl, rfl, db (by decide) (by decide), ?_⟩
    refine ⟨_, rfl, ⟨⟨d, rings, cs, rfl, dr.mv s0, rl, cl, fun L H1 ks hL s1 h1 pm up => ?_⟩⟩⟩
    refine ⟨L, _, rfl, SqL.of h1, fun nms N pm2 up2 hN => ?_⟩
    have s2 : Same H1 (upd H1 N (.lst (nms.map V.int))) := Same.new hN
    have h2 : upd H1 N (.lst (nms.map V.int)) N = some (.lst (nms.map V.int)) := upd_same
    generalize upd H1 N (.lst (nms.map V.int)) = H2 at s2 h2 ⊢
    have mem1 : ∀ x, x ∈ nms ↔ x ∈ n1 rings cs := fun x => (pm2.trans pm).mem_iff
    have nl2 : nms.length ≤ 1200 := by rw [(pm2.trans pm).length_eq]; omega
    have s02 := (s0.trans s1).trans s2
    have hB2 : H2 B = some (.dK []) := s2 _ _ (s1 _ _ h0)
    refine ⟨_, _, rfl, rfl, ⟨by decide, by decide, by decide⟩, _, _, rfl, rfl, ⟨by decide, by decide, by decide⟩, _, _, rfl, rfl, ⟨by decide, by decide, by decide⟩, _, _, rfl, rfl, ⟨by decide, by decide, by decide⟩, (by show 2 ≤ sizeLine; decide), fun L4 hL4 => ?_⟩
    have s3 : Same H2 (upd H2 L4 (.lst [.int (10 ^ (54 : Int).toNat), .int (10 ^ (9 : Int).toNat)])) := Same.new hL4
    have h3 : upd H2 L4 (.lst [.int (10 ^ (54 : Int).toNat), .int (10 ^ (9 : Int).toNat)]) L4 = some (.lst [.int (10 ^ (54 : Int).toNat), .int (10 ^ (9 : Int).toNat)]) := upd_same
    generalize upd H2 L4 (.lst [.int (10 ^ (54 : Int).toNat), .int (10 ^ (9 : Int).toNat)]) = H3 at s3 h3 ⊢
    have hN3 := s3 _ _ h2
    obtain ⟨y, ey, y0, y1⟩ : ∃ y : Int, atI [V.int (10 ^ (54 : Int).toNat), V.int (10 ^ (9 : Int).toNat)] (if (decide ((24 : Int) < ((nms.map V.int).length : Int))) = true then 1 else 0) = some (.int y) ∧ 2000 ≤ y ∧ y ≤ 10 ^ 54 := by
      by_cases h : (decide ((24 : Int) < ((nms.map V.int).length : Int))) = true
      · rw [if_pos h]; exact ⟨_, rfl, by decide, by decide⟩
      · rw [if_neg h]; exact ⟨_, rfl, by decide, by decide⟩
    refine ⟨_, rfl, N, _, rfl, .inl (SqL.of hN3), _, _, rfl, rfl, .inr ⟨_, rfl, L4, _, _, .int y, rfl, rfl, SqL.of h3, ey, (by show 4 ≤ sizeLine; decide), fun L5 hL5 => ?_⟩⟩
    have s4 : Same H3 (upd H3 L5 (.lst [.int (10 ^ (9 : Int).toNat), .int (10 ^ (9 : Int).toNat), .int y, .int 2000])) := Same.new hL5
    have h4 : upd H3 L5 (.lst [.int (10 ^ (9 : Int).toNat), .int (10 ^ (9 : Int).toNat), .int y, .int 2000]) L5 = some (.lst ([(10 : Int) ^ (9 : Int).toNat, (10 : Int) ^ (9 : Int).toNat, y, 2000].map V.int)) := upd_same
    generalize upd H3 L5 (.lst [.int (10 ^ (9 : Int).toNat), .int (10 ^ (9 : Int).toNat), .int y, .int 2000]) = H4 at s4 h4 ⊢
    obtain ⟨far, efar, mfar⟩ := pickI (ks := [(10 : Int) ^ (9 : Int).toNat, (10 : Int) ^ (9 : Int).toNat, y, 2000]) (z := cell / 2) (by simp)
    obtain ⟨far0, far1⟩ := far_ok y0 y1 far mfar
    refine ⟨_, rfl, _, _, rfl, rfl, db (by decide) (by decide), _, _, rfl, rfl, (by show (0 : Int) < 4; decide), L5, _, _, .int far, rfl, rfl, SqL.of h4, efar, ?_⟩
    clear efar mfar h3 h4 ey
    have s24 := s3.trans s4
    have hN4 := s24 _ _ h2
    have hB4 : H4 B = some (.dK []) := s24 _ _ hB2
    have sm4 := s02.trans s24
    have NB : N ≠ B := fun z => by rw [z, hB4] at hN4; cases hN4
    have hB0 : H B = none := hB
    refine ⟨_, rfl, N, rfl, ⟨_, SqL.of hN4⟩, ?_⟩
    refine for_by (D := { nx := _, rt := _ }) (n := nms.length) (fun i σ H5 => ∃ (rest : Int) (v6 : Option V) (ent : PM.Ps), σ = [some (.ref d), some (.int cell), some (.ref B), some (.int rest), some (.ref N), some (.int far), v6, none, none] ∧ H5 B = some (.dK (PM.dk ent)) ∧ Nx far ent ∧ ent.length ≤ i ∧ (∀ x, x ∈ PM.ks ent ↔ x ∈ nms.take i) ∧ SameX B H4 H5) ⟨_, none, [], rfl, hB4, ⟨List.nodup_nil, fun j x v e => by simp at e⟩, Nat.le_refl _, fun x => by simp [PM.ks], .refl _ _⟩ (fun i σ H5 hi ⟨_, _, _, _, _, _, _, _, sx⟩ => ⟨_, _, SqL.of (sx _ _ NB hN4), List.getElem?_eq_getElem (by rw [List.length_map]; exact hi)⟩) (fun σ H5 ⟨_, _, _, _, _, _, _, _, sx⟩ => ⟨_, SqL.of (sx _ _ NB hN4), by rw [List.length_map]; exact Nat.le_refl _⟩) ?_ ?_
    · rintro i σ H5 hi ⟨rest, v6, ent, rfl, hB5, nw, el, mem, sx⟩ x H' ⟨rfl, hx⟩
      have ex := get_int (hx _ (SqL.of (sx _ _ NB hN4)))
      subst ex
      obtain ⟨x, exx⟩ : ∃ x, nms[i]? = some x := ⟨_, List.getElem?_eq_getElem hi⟩
      have eg : nms.getD i 0 = x := by rw [List.getD_eq_getElem?_getD, exx]; rfl
      rw [eg]
      have tk : ∀ y, y ∈ nms.take (i + 1) ↔ y ∈ nms.take i ∨ y = x := fun y => by
        rw [List.take_succ, exx, List.mem_append]; simp
      refine ⟨_, rfl, _, rfl, B, _, rfl, .inl ⟨PM.dk ent, .inl x, .inl hB5, rfl, rfl⟩, _, rfl, ?_⟩
      rw [PM.val_dk nw.nd]
      refine ite2 (fun h => ?_) (fun h => ?_)
      · have hx : x ∉ PM.ks ent := fun z => by rw [if_pos z] at h; cases h
        have q0 := Int.emod_nonneg rest (show (1009 : Int) ≠ 0 by decide)
        have q1 := Int.emod_lt_of_pos rest (show (0 : Int) < 1009 by decide)
        have mf : CMulB far (rest % 1009) := mb (by
          have h : far.natAbs ≤ 10 ^ 54 := by
            have e1 : ((10 ^ 54 : Nat) : Int) = (10 : Int) ^ 54 := by decide
            generalize (10 : Nat) ^ 54 = p at e1 ⊢
            rw [← e1] at far1; omega
          exact Nat.lt_of_le_of_lt h (Nat.lt_of_lt_of_le (by decide : (10 : Nat) ^ 54 < 2 ^ 200) (Nat.pow_le_pow_right (by decide) (by decide)))) (by
          have : (rest % 1009).natAbs < 2 ^ 20 := by omega
          exact Nat.lt_of_lt_of_le this (Nat.pow_le_pow_right (by decide) (by decide)))
        refine ⟨_, rfl, _, rfl, _, _, rfl, rfl, (by show (0 : Int) < 1009; decide), _, _, rfl, rfl, mf, _, rfl, B, _, rfl, hB5, _, _, rfl, rfl, ?_⟩
        rw [PM.dk_len]
        refine ⟨_, rfl, _, rfl, B, _, rfl, DPut.k (k := .inl x) hB5 (sln (by rw [PM.dk_len]; omega)), ?_⟩
        dsimp only
        rw [nw.dk_put hx]
        refine ⟨_, rfl, _, _, rfl, rfl, db (by decide) (by decide), _, _, ent ++ [(x, far * (rest % 1009) + ent.length)], rfl, upd_same, nw.put hx q0 q1, by simp; omega, fun y => ?_, sx.trans .upd⟩
        unfold PM.ks
        rw [List.map_append, List.mem_append, tk]
        have := mem y
        unfold PM.ks at this
        rw [this]; simp
      · have hx : x ∈ PM.ks ent := by
          by_cases z : x ∈ PM.ks ent
          · exact z
          · rw [if_neg z] at h; exact absurd rfl h
        refine ⟨_, _, ent, rfl, hB5, nw, by omega, fun y => ?_, sx⟩
        rw [tk, ← mem y]
        constructor
        · exact .inl
        · rintro (z | z)
          · exact z
          · rw [z]; exact hx
    · rintro σ H5 ⟨rest, v6, ent, rfl, hB5, nw, el, mem, sx⟩
      rw [List.take_length] at mem
      have smx5 : Same H H5 := fun b o e => sx b o (ne_of_none e hB0) (sm4 _ _ e)
      have inj0 := nw.inj (by omega)
      have small0 := nw.small (by omega) far1 (by omega)
      have mem2 : ∀ x, x ∈ n1 rings cs → x ∈ PM.ks ent := fun x h => (mem x).mpr ((mem1 x).mpr h)
      refine ⟨_, rfl, _, _, rfl, rfl, (by show (0 : Int) < 2; decide), rfl, _, rfl, ?_⟩
      refine ite_join (fun σ H4 => ∃ (v6 : Option V) (kvs : List (Key × V)) (g : Int → Int), σ = [some (.ref d), some (.int cell), some (.ref B), some (.int rest), some (.ref N), some (.int far), v6, none, none] ∧ H4 B = some (.dK kvs) ∧ Same H H4 ∧ (∀ x ∈ n1 rings cs, valV kvs (.inl x) = some (.int (g x))) ∧ (∀ x ∈ n1 rings cs, ∀ y ∈ n1 rings cs, g x = g y → x = y) ∧ (∀ x ∈ n1 rings cs, (g x).natAbs ≤ 10 ^ 58 + 500)) (fun σ H4 j => ?_) (fun hw restJ => ?_) (fun hw => ?_)
      · obtain ⟨v6, kvs, g, rfl, hB4, smx, gv, gi, gs⟩ := j
        have ha4 := smx _ _ ha
        have hb4 := smx _ _ hb
        generalize hnms : n1 rings cs = nms at gv gi gs
        have dget : ∀ (H5 : Hp) (x : Int), x ∈ nms → H5 B = some (.dK kvs) → DGet H5 B (.int x) (some (.int (g x))) := fun H5 x hx e => .inl ⟨kvs, .inl x, .inl e, rfl, (gv x hx).symm⟩
        refine ⟨_, rfl, d, _, _, .ref a, rfl, rfl, SqT.of (smx _ _ hd), rfl, a, rfl, ⟨_, SqL.of ha4⟩, fun R hR => ?_⟩
        refine lc_inv (n := rings.length) (fun i H5 => H5 R = some (.lst (((rings.take i).map (g)).map V.int)) ∧ SameX R H4 H5) ⟨upd_same, .upd⟩ (fun i H5 hi ⟨_, s5⟩ => ⟨_, _, SqL.of (s5 _ _ (ne_of_none ha4 hR) ha4), List.getElem?_eq_getElem (by rw [List.length_map]; exact hi)⟩) (fun H5 ⟨_, s5⟩ => ⟨_, SqL.of (s5 _ _ (ne_of_none ha4 hR) ha4), by rw [List.length_map]; exact Nat.le_refl _⟩) ?_ ?_
        · rintro i H5 hi ⟨hR5, s5⟩ y H' ⟨rfl, hy⟩
          have ey := get_int (hy _ (SqL.of (s5 _ _ (ne_of_none ha4 hR) ha4)))
          subst ey
          obtain ⟨z, ez⟩ : ∃ z, rings[i]? = some z := ⟨_, List.getElem?_eq_getElem hi⟩
          have egz : rings.getD i 0 = z := by rw [List.getD_eq_getElem?_getD, ez]; rfl
          rw [egz]
          have zm : z ∈ nms := by rw [← hnms]; exact List.mem_append_left _ (List.mem_of_getElem? ez)
          refine ⟨rfl, ?_⟩
          refine yesT ?_
          refine ⟨_, rfl, _, rfl, B, _, rfl, dget _ z zm (s5 _ _ (ne_of_none hB4 hR) hB4), _, hR5, sln (by simp only [List.length_map, List.length_take]; omega), ?_, s5.trans .upd⟩
          rw [upd_same, List.map_map, List.map_map, take_map_succ ez]; rfl
        · rintro H5 ⟨hR5, s5⟩
          rw [List.take_length] at hR5
          have s45 : Same H4 H5 := s5.same hR
          obtain ⟨hd5, hb5⟩ : H5 d = some (.tup [.ref a, .ref b]) ∧ H5 b = some (.lst (ps.map V.ref)) := ⟨s45 _ _ (smx _ _ hd), s45 _ _ hb4⟩
          have sm5 := smx.trans s45
          have hB5 := s45 _ _ hB4
          refine ⟨_, rfl, _, rfl, d, _, _, .ref b, rfl, rfl, SqT.of hd5, rfl, b, rfl, ⟨_, SqL.of hb5⟩, fun D hD => ?_⟩
          refine lc_inv (n := cs.length) (fun i H7 => ∃ qs : List Addr, H7 D = some (.lst (qs.map V.ref)) ∧ Paired (CrAt H7) qs ((cs.take i).map (Cr.map (g))) ∧ SameX D H5 H7) ⟨[], upd_same, .nil, .upd⟩ (fun i H7 hi ⟨_, _, _, s7⟩ => ⟨_, _, SqL.of (s7 _ _ (ne_of_none hb5 hD) hb5), List.getElem?_eq_getElem (by rw [List.length_map]; omega)⟩) (fun H7 ⟨_, _, _, s7⟩ => ⟨_, SqL.of (s7 _ _ (ne_of_none hb5 hD) hb5), by rw [List.length_map]; omega⟩) ?_ ?_
          · rintro i H7 hi ⟨qs, hD7, pq, s7⟩ x H' ⟨rfl, hx⟩
            obtain ⟨c, ec⟩ : ∃ c, cs[i]? = some c := ⟨_, List.getElem?_eq_getElem hi⟩
            obtain ⟨p, ep, hp⟩ := Paired.getL pp ec
            have hp : H p = some (.tup (c.l.map V.int)) := hp
            have ex := hx _ (SqL.of (s7 _ _ (ne_of_none hb5 hD) hb5))
            rw [List.getElem?_map, ep] at ex
            cases ex
            have hp5 := sm5 _ _ hp
            have hp7 := s7 _ _ (ne_of_none hp5 hD) hp5
            have hE7 := s7 _ _ (ne_of_none hB5 hD) hB5
            have cm : ∀ z ∈ c.nm, z ∈ nms := fun z hz => by rw [← hnms]; exact n1_nm wf (List.mem_of_getElem? ec) hz
            refine ⟨rfl, ?_⟩
            refine yesT ?_
            refine ⟨_, rfl, p, _, _, .int c.s, rfl, rfl, SqT.of hp7, rfl, (by show 1 ≤ sizeLine; decide), fun p1 hp1 => ?_⟩
            have s8 : Same H' (upd H' p1 (.tup [.int c.s])) := Same.new hp1
            have h8 : upd H' p1 (.tup [.int c.s]) p1 = some (.tup [.int c.s]) := upd_same
            dsimp only
            generalize upd H' p1 (.tup [.int c.s]) = H8 at s8 h8 ⊢
            refine ⟨_, rfl, _, rfl, p, _, rfl, SqT.of (s8 _ _ hp7), (fun z => absurd z.1 (show ¬ HT.sIx 5 0 (some 1) = 0 by decide)), fun p2 hp2 => ?_⟩
            have e2 : cutV (c.l.map V.int) (some 1) none = c.nm.map V.int := rfl
            dsimp only at e2 ⊢
            rw [e2]
            have s9 : Same H8 (upd H8 p2 (.tup (c.nm.map V.int))) := Same.new hp2
            have h9 : upd H8 p2 (.tup (c.nm.map V.int)) p2 = some (.tup (c.nm.map V.int)) := upd_same
            generalize upd H8 p2 (.tup (c.nm.map V.int)) = H9 at s9 h9 ⊢
            refine ⟨p2, rfl, ⟨_, SqT.of h9⟩, fun G hG => ?_⟩
            have hE9 := s9 _ _ (s8 _ _ hE7)
            refine lc_inv (n := 4) (fun j H10 => H10 G = some (.lst (((c.nm.take j).map (g)).map V.int)) ∧ SameX G H9 H10) ⟨upd_same, .upd⟩ (fun j H10 hj ⟨_, s10⟩ => ⟨_, _, SqT.of (s10 _ _ (ne_of_none h9 hG) h9), List.getElem?_eq_getElem (by simpa [Cr.nm] using hj)⟩) (fun H10 ⟨_, s10⟩ => ⟨_, SqT.of (s10 _ _ (ne_of_none h9 hG) h9), by simp [Cr.nm]⟩) ?_ ?_
            · rintro j H10 hj ⟨hG10, s10⟩ y H'' ⟨rfl, hy⟩
              have ey := get_int (hy _ (SqT.of (s10 _ _ (ne_of_none h9 hG) h9)))
              subst ey
              obtain ⟨z, ez⟩ : ∃ z, c.nm[j]? = some z := ⟨_, List.getElem?_eq_getElem (by simpa [Cr.nm] using hj)⟩
              have egz : c.nm.getD j 0 = z := by rw [List.getD_eq_getElem?_getD, ez]; rfl
              rw [egz]
              have hE10 := s10 _ _ (ne_of_none hE9 hG) hE9
              refine ⟨rfl, ?_⟩
              refine yesT ?_
              refine ⟨_, rfl, _, rfl, B, _, rfl, dget _ z (cm z (List.mem_of_getElem? ez)) hE10, _, hG10, sln (by simp only [List.length_map, List.length_take]; omega), ?_, s10.trans .upd⟩
              rw [upd_same, List.map_map, List.map_map, take_map_succ ez]; rfl
            · rintro H10 ⟨hG10, s10⟩
              have s910 : Same H9 H10 := s10.same hG
              have e4 : (c.nm.take 4).map (g) = (c.map (g)).nm := rfl
              rw [e4] at hG10
              refine ⟨G, _, rfl, .inl ⟨SqL.of hG10, fun p3 hp3 => ?_⟩⟩
              have s11 : Same H10 (upd H10 p3 (.tup ((c.map (g)).nm.map V.int))) := Same.new hp3
              have h11 : upd H10 p3 (.tup ((c.map (g)).nm.map V.int)) p3 = some (.tup ((c.map (g)).nm.map V.int)) := upd_same
              generalize upd H10 p3 (.tup ((c.map (g)).nm.map V.int)) = H11 at s11 h11 ⊢
              have s811 := (s9.trans s910).trans s11
              refine ⟨p1, p3, _, _, rfl, rfl, SqT.of (s811 _ _ h8), SqT.of h11, (by simp), (by show 1 + 4 ≤ sizeLine; decide), (fun z => nomatch z), fun _ p4 hp4 => ?_⟩
              have s711 := s8.trans s811
              have hD11 := s711 _ _ hD7
              have p4D : p4 ≠ D := fun z => by rw [z, hD11] at hp4; cases hp4
              have ql := pq.length
              refine ⟨qs.map V.ref, by rw [upd_ne (Ne.symm p4D)]; exact hD11, sln (by rw [List.length_map, ql]; simp only [List.length_map, List.length_take]; omega), ?_⟩
              refine ⟨qs ++ [p4], by rw [upd_same]; simp, ?_, ?_⟩
              · rw [take_map_succ ec]
                have to : ∀ (q : Addr) (xs : List V), H' q = some (.tup xs) → upd (upd H11 p4 (.tup ([V.int c.s] ++ (c.map (g)).nm.map V.int))) D (.lst (qs.map V.ref ++ [.ref p4])) q = some (.tup xs) := fun q xs e => by
                  rw [upd_ne (fun z => by rw [z, hD7] at e; cases e), upd_ne (ne_of_none (s711 _ _ e) hp4)]; exact s711 _ _ e
                refine (Paired.mono (fun q d z => to _ _ z) pq).snoc ?_
                show upd _ _ _ p4 = _
                rw [upd_ne p4D, upd_same]; rfl
              · exact ((s7.trans s711.x).trans (Same.new hp4).x).trans .upd
          · rintro H7 ⟨qs, hD7, pq, s7⟩
            have s57 : Same H5 H7 := s7.same hD
            refine ⟨(by show 2 ≤ sizeLine; decide), fun d' hd' => ?_⟩
            have s8 : Same H7 (upd H7 d' (.tup [.ref R, .ref D])) := Same.new hd'
            rw [List.take_length] at pq
            exact k d' _ g ((sm5.trans s57).trans s8) (by rw [hnms]; exact gi) (by rw [hnms]; exact gs) ⟨R, D, upd_same, s8 _ _ (s57 _ _ hR5), ⟨qs, s8 _ _ hD7, Paired.mono (fun q c z => s8 _ _ z) pq⟩⟩
      · have kl : (PM.dk ent).length = ent.length := PM.dk_len _
        refine ⟨_, rfl, B, _, rfl, .inl hB5, fun L6 hL6 => ?_⟩
        have s6 : Same H5 (upd H5 L6 (.lst ((PM.dk ent).map fun p => kV p.1))) := Same.new hL6
        have h6 : upd H5 L6 (.lst ((PM.dk ent).map fun p => kV p.1)) L6 = some (.lst ((PM.ks ent).map V.int)) := by
          rw [upd_same]; congr 2
          unfold PM.dk PM.ks
          rw [List.map_map, List.map_map]; rfl
        generalize upd H5 L6 (.lst ((PM.dk ent).map fun p => kV p.1)) = H6 at s6 h6 ⊢
        have hB6 := s6 _ _ hB5
        have LB : L6 ≠ B := fun z => by rw [z, hB6] at h6; cases h6
        have ksl : (PM.ks ent).length = ent.length := by unfold PM.ks; rw [List.length_map]
        refine ⟨L6, rfl, ⟨_, SqL.of h6⟩, ?_⟩
        refine for_by (D := { nx := _, rt := _ }) (n := ent.length) (fun i σ H7 => ∃ (v6 : Option V) (kvs : List (Key × V)), σ = [some (.ref d), some (.int cell), some (.ref B), some (.int rest), some (.ref N), some (.int far), v6, none, none] ∧ H7 B = some (.dK kvs) ∧ kvs.length ≤ ent.length + i ∧ (∀ j x, (PM.ks ent)[j]? = some x → valV kvs (.inl x) = some (.int (if j < i then 500 - PM.co ent x else PM.co ent x))) ∧ SameX B H6 H7) ⟨v6, PM.dk ent, rfl, hB6, by omega, fun j x e => by rw [PM.val_dk nw.nd, if_pos (List.mem_of_getElem? e)]; rfl, .refl _ _⟩ (fun i σ H7 hi ⟨_, _, _, _, _, _, sx⟩ => ⟨_, _, SqL.of (sx _ _ LB h6), List.getElem?_eq_getElem (by rw [List.length_map]; omega)⟩) (fun σ H7 ⟨_, _, _, _, _, _, sx⟩ => ⟨_, SqL.of (sx _ _ LB h6), by rw [List.length_map]; omega⟩) ?_ ?_
        · rintro i σ H7 hi ⟨v6, kvs, rfl, hB7, kl7, kv7, sx7⟩ x H' ⟨rfl, hx⟩
          have ex := get_int (hx _ (SqL.of (sx7 _ _ LB h6)))
          subst ex
          obtain ⟨x, exx⟩ : ∃ x, (PM.ks ent)[i]? = some x := ⟨_, List.getElem?_eq_getElem (by omega)⟩
          have eg : (PM.ks ent).getD i 0 = x := by rw [List.getD_eq_getElem?_getD, exx]; rfl
          rw [eg]
          have vx : valV kvs (.inl x) = some (.int (PM.co ent x)) := by rw [kv7 i x exx, if_neg (Nat.lt_irrefl _)]
          refine ⟨_, rfl, _, rfl, B, _, rfl, dgk (k := .inl x) hB7 vx, _, _, rfl, rfl, _, rfl, _, rfl, B, _, rfl, DPut.k (k := .inl x) hB7 (sln (by omega)), ?_⟩
          refine ⟨_, _, rfl, upd_same, Nat.le_trans (length_putK _ _ _) (by omega), fun j y ey => ?_, sx7.trans .upd⟩
          rw [valV_put]
          by_cases e : y = x
          · subst e
            have : j = i := (List.getElem?_inj (List.getElem?_eq_some_iff.mp ey).1 nw.nd).mp (ey.trans exx.symm)
            subst this
            rw [if_pos rfl, if_pos (Nat.lt_succ_self _)]
          · rw [if_neg (fun z => e (Sum.inl.inj z)), kv7 j y ey]
            have ji : j ≠ i := fun z => e (by rw [z, exx] at ey; exact (Option.some.inj ey).symm)
            by_cases z : j < i
            · rw [if_pos z, if_pos (by omega)]
            · rw [if_neg z, if_neg (by omega)]
        · rintro σ H7 ⟨v6, kvs, rfl, hB7, kl7, kv7, sx7⟩
          refine restJ _ _ ⟨v6, kvs, fun x => 500 - PM.co ent x, rfl, hB7, fun c o z => sx7 _ _ (ne_of_none z hB0) (s6 _ _ (smx5 _ _ z)), fun x hx => ?_, fun x hx y hy e => inj0 x (mem2 x hx) y (mem2 y hy) (by have e : 500 - PM.co ent x = 500 - PM.co ent y := e; omega), fun x hx => ?_⟩
          · obtain ⟨j, hj, ej⟩ := List.mem_iff_getElem.mp (mem2 x hx)
            rw [kv7 j x (by rw [List.getElem?_eq_getElem hj, ej]), if_pos (by omega)]
          · have := small0 x (mem2 x hx)
            show (500 - PM.co ent x).natAbs ≤ _
            omega
      · refine ⟨v6, PM.dk ent, PM.co ent, rfl, hB5, smx5, fun x hx => ?_, fun x hx y hy => inj0 x (mem2 x hx) y (mem2 y hy), fun x hx => Nat.le_trans (small0 x (mem2 x hx)) (Nat.le_add_right _ _)⟩
        rw [PM.val_dk nw.nd, if_pos (mem2 x hx)]
end

end K25
namespace K25
open PySem L2 DM PM
abbrev s__law_mixed_up : Stmt := top 50
theorem sc__law_mixed_up : FnScope ["_law_some", "_law_cell", "_law_left", "_law_found"] ["_law_some", "_law_cell"] (defScope s__law_mixed_up) := ⟨rfl, rfl, rfl, by decide +kernel, rfl, by decide +kernel, by decide +kernel⟩
section
variable {P : Program} {w : World} {K : PySem.W.Frag} {mg : Str → Option Value} {base : Heap}
structure PMix (vs : List V) (H : Hp) (Q : VK) : Prop where
  get : ∃ (a : Addr) (cell : Int) (xs : List V), vs = [.ref a, .int cell] ∧ H a = some (.lst xs) ∧ xs.length ≤ 4000 ∧ ∀ (c : Addr) (H' : Hp) (ys : List V), H c = none → Same H H' → H' c = some (.lst ys) → ys.Perm xs → Q (.ref c) H'
def sp_mix : Sp := fun vs H Q _ => PMix vs H Q
def muL (L : Addr) (_ : St) (H : Hp) : Nat := match H L with
  | some (.lst l) => l.length
  | _ => 0
theorem muL_of {L : Addr} {σ : St} {H : Hp} {l : List V} (h : H L = some (.lst l)) : muL L σ H = l.length := by unfold muL; rw [h]
theorem erase_p {α : Type} : ∀ {l : List α} {i : Nat} {x : α}, l[i]? = some x → (x :: l.eraseIdx i).Perm l
  | [], _, _, h => by simp at h
  | a :: l, 0, x, h => by simp at h; subst h; exact .refl _
  | a :: l, i + 1, x, h => (List.Perm.swap _ _ _).trans ((erase_p (l := l) (i := i) (by simpa using h)).cons a)
theorem ok_mix {fa : Addr} {fd : FuncData} (F : FT K mg "_law_mixed_up" s__law_mixed_up ["_law_some", "_law_cell"] fa fd) (T : BN mg) : Cal P w K mg base 1 "_law_mixed_up" ["_law_some", "_law_cell"] sp_mix := by
  refine F.cal sc__law_mixed_up (fun vs H Q E h => ?_) (fun A outer s H vs Q E hr h => ?_)
  · obtain ⟨⟨a, cell, xs, rfl, _⟩⟩ := h; rfl
  · obtain ⟨⟨a, cell, xs, rfl, ha, xl, k⟩⟩ := h
    have nd := sc__law_mixed_up.nd
    refine ⟨_, (pss_cons (ps_set (i := 2) nd rfl (Or.inl rfl) (pe_callTy call_list_of (by rfl) T.list (by decide +kernel) (pa_cons (pv 0) pa_nil)))
      (pss_cons (ps_set (i := 3) nd rfl (Or.inl rfl) (pe_lst pa_nil))
      (pss_cons (ps_while PassesOwn.never (pt_cmpR (op_neNil (hu0 hr)) (pv 2) (pe_lst pa_nil) (nomark _))
        (pss_cons (ps_expr (pe_bm PySem.F.plainAttrs_list PySem.F.slot_list_append PySem.F.type_list_append mt_append (pv 3) (pa_cons (pe_bm PySem.F.plainAttrs_list PySem.F.slot_list_pop PySem.F.type_list_pop mt_popAt (pv 2) (pa_cons (pe_op op_mod (pv 1) (pe_len (by rfl) T.len (pv 2))) pa_nil)) pa_nil)))
        (pss_one (ps_set (i := 1) nd rfl (Or.inl rfl) (pe_op op_fdivB (pv 1) (pe_op op_add (pe_len (by rfl) T.len (pv 2)) pe_int))))))
      (pss_one (ps_ret (pv 3)))))), ?_⟩
    refine ⟨_, rfl, a, _, rfl, .inl (SqL.of ha), fun L hL => ?_⟩
    refine gen_new (.lst xs) hL fun H1 s1 h1 => ?_
    refine ⟨(by show 0 ≤ sizeLine; decide), fun D hD => ?_⟩
    refine gen_new (.lst []) hD fun H2 s2 h2 => ?_
    have LD : L ≠ D := ne_of_none h1 hD
    have hD0 : H D = none := s1.free hD
    refine while_by (fun σ H3 => ∃ (cell : Int) (left found : List V), σ = [some (.ref a), some (.int cell), some (.ref L), some (.ref D)] ∧ H3 L = some (.lst left) ∧ H3 D = some (.lst found) ∧ (found ++ left).Perm xs ∧ Same H H3) (muL L) ⟨cell, xs, [], rfl, s2 _ _ h1, h2, .refl _, s1.trans s2⟩ ?_ ?_
    · rintro σ H3 ⟨cell, left, found, rfl, hL3, hD3, pm, sm⟩
      refine ⟨_, rfl, (by show 0 ≤ sizeLine; decide), fun N hN => ?_⟩
      have s4 : Same H3 (upd H3 N (.lst [])) := Same.new hN
      have h4 : upd H3 N (.lst []) N = some (.lst []) := upd_same
      dsimp only
      generalize upd H3 N (.lst []) = H4 at s4 h4 ⊢
      have hL4 := s4 _ _ hL3
      have hD4 := s4 _ _ hD3
      have sm4 := sm.trans s4
      have hlen : found.length + left.length = xs.length := by have := pm.length_eq; simpa using this
      refine ⟨L, N, left, rfl, rfl, SqL.of hL4, SqL.of h4, _, rfl, ?_⟩
      refine ite2 (fun h => ?_) (fun h => ?_)
      · have l0 : 0 < left.length := by
          cases left with
          | nil => simp at h
          | cons => simp
        have b1 := Int.emod_nonneg cell (show (left.length : Int) ≠ 0 by omega)
        have b2 := Int.emod_lt_of_pos cell (show (0 : Int) < left.length by omega)
        obtain ⟨j, hj⟩ : ∃ j : Nat, cell % (left.length : Int) = j := ⟨_, (Int.toNat_of_nonneg b1).symm⟩
        obtain ⟨y, hy⟩ : ∃ y, left[j]? = some y := ⟨_, List.getElem?_eq_getElem (by omega)⟩
        refine ⟨_, rfl, .inl ⟨rfl, _, SqL.of hD4⟩, _, rfl, .inl ⟨rfl, _, SqL.of hL4⟩, _, rfl, _, rfl, L, left, rfl, .inl (SqL.of hL4), _, _, rfl, rfl, (by omega), L, left, _, j, y, rfl, rfl, hL4, (by omega), (by omega), ?_, hy, ?_⟩
        · rw [hj]
          have n1 : ¬ ((j : Int) < 0) := by omega
          simp only [seqIndex?, n1, if_false]
          rw [if_pos (by simp; omega)]; simp
        · have hD5 : upd H4 L (.lst (left.eraseIdx j)) D = some (.lst found) := by rw [upd_ne (Ne.symm LD)]; exact hD4
          have hL5 : upd H4 L (.lst (left.eraseIdx j)) L = some (.lst (left.eraseIdx j)) := upd_same
          have sm5 : Same H (upd H4 L (.lst (left.eraseIdx j))) := fun b o e => by rw [upd_ne (ne_of_none e hL)]; exact sm4 _ _ e
          generalize upd H4 L (.lst (left.eraseIdx j)) = H5 at hD5 hL5 sm5 ⊢
          refine ⟨D, found, _, rfl, rfl, hD5, sln (by omega), ?_⟩
          have hD6 : upd H5 D (.lst (found ++ [y])) D = some (.lst (found ++ [y])) := upd_same
          have hL6 : upd H5 D (.lst (found ++ [y])) L = some (.lst (left.eraseIdx j)) := by rw [upd_ne LD]; exact hL5
          have sm6 : Same H (upd H5 D (.lst (found ++ [y]))) := fun b o e => by rw [upd_ne (ne_of_none e hD0)]; exact sm5 _ _ e
          dsimp only
          generalize upd H5 D (.lst (found ++ [y])) = H6 at hD6 hL6 sm6 ⊢
          have el : (left.eraseIdx j).length + 1 = left.length := by rw [List.length_eraseIdx_of_lt (by omega)]; omega
          refine ⟨_, rfl, _, rfl, L, _, rfl, .inl (SqL.of hL6), _, _, rfl, rfl, _, _, rfl, rfl, db (by omega) ?_, ⟨_, _, _, rfl, hL6, hD6, ?_, sm6⟩, ?_⟩
          · have : (((left.eraseIdx j).length : Int) + 1).natAbs < 2 ^ 20 := by omega
            exact Nat.lt_of_lt_of_le this (Nat.pow_le_pow_right (by decide) (by decide))
          · rw [List.append_assoc]
            exact ((List.Perm.refl found).append (erase_p hy)).trans pm
          · rw [muL_of hL6, muL_of hL3]; omega
      · have l0 : left = [] := by
          cases left with
          | nil => rfl
          | cons => simp at h
        subst l0
        exact ⟨_, rfl, k D _ found hD0 sm4 hD4 (by simpa using pm)⟩
    · rintro σ H3 Q1 Q2 q ⟨x, e1, e2, c⟩
      refine ⟨x, e1, e2, fun N hN => ?_⟩
      obtain ⟨p, r, ys, e3, e4, e5, e6, b, e7, e8⟩ := c N hN
      exact ⟨p, r, ys, e3, e4, e5, e6, b, e7, q _ _ e8⟩
end

abbrev s__law_drawn : Stmt := top 60
theorem sc__law_drawn : FnScope ["_law_script", "_law_at", "_law_most", "_law_head", "_law_strands", "_law_drawing", "_law_cell", "_law_k", "_law_names_here", "_law_rest", "_law_way"] ["_law_script", "_law_at", "_law_most"] (defScope s__law_drawn) := ⟨rfl, rfl, rfl, by decide +kernel, rfl, by decide +kernel, by decide +kernel⟩
section
variable {P : Program} {w : World} {K : PySem.W.Frag} {mg : Str → Option Value} {base : Heap}
inductive Md : List Int → List Cr → Prop
  | closed {n most : Nat} {ls : List Int} : 1 ≤ n → Letters n most ls → Md (closedR n ls) (closedC n ls)
  | poke {rings : List Int} {cs : List Cr} {e f m : Int} {sl ol : Bool} : Md rings cs → Spot rings cs e f sl ol → m ∈ n1 rings cs → (∀ y ∈ n1 rings cs, y ≤ m) → Md (wo f (wo e rings)) (pokeS rings cs e f m (sgP sl (sl != ol)) (sl != ol))
  | curl {rings : List Int} {cs : List Cr} {e m sg : Int} {un : Bool} : Md rings cs → e ∈ n1 rings cs → m ∈ n1 rings cs → (∀ y ∈ n1 rings cs, y ≤ m) → sg = 1 ∨ sg = -1 → Md (wo e rings) (curlS rings cs e m sg un)
  | ren {rings : List Int} {cs : List Cr} {f : Int → Int} : Md rings cs → (∀ x ∈ n1 rings cs, ∀ y ∈ n1 rings cs, f x = f y → x = y) → Md (rings.map f) (cs.map (Cr.map f))
  | mix {rings rings' : List Int} {cs cs' : List Cr} : Md rings cs → rings'.Perm rings → cs'.Perm cs → Md rings' cs'
theorem Md.wf {rings : List Int} {cs : List Cr} (h : Md rings cs) : Wf rings cs := by
  induction h with
  | closed h1 h2 => exact .ofMk (.closed h1 h2)
  | @poke rings cs e f m sl ol _ sp _ mx ih => exact ih.poke sp.1 sp.2.1 (Ne.symm sp.2.2.1) mx (sgP_sg _ _)
  | curl _ he _ mx hs ih => exact ih.curl he mx hs
  | ren _ inj ih => exact ih.ren inj
  | mix _ p q ih => exact ih.mix p q
structure Good (most : Nat) (rings : List Int) (cs : List Cr) : Prop where
  made : Md rings cs
  len : cs.length ≤ most
  rl : rings.length ≤ 6
  ne : n1 rings cs ≠ []
theorem Good.wf {most : Nat} {rings : List Int} {cs : List Cr} (h : Good most rings cs) : Wf rings cs := h.made.wf
theorem ne_app {rings : List Int} {cs ds : List Cr} (h : ds ≠ []) : n1 rings (cs ++ ds) ≠ [] := fun z => by
  have := n1_len rings (cs ++ ds)
  have l : 0 < ds.length := List.length_pos_iff.mpr h
  rw [z, List.length_append] at this
  simp at this; omega
theorem wo_len (x : Int) (l : List Int) : (wo x l).length ≤ l.length := List.length_filter_le _ _
theorem pokeT_len (sd : Bool) (sg e f a b c d : Int) : (pokeT sd sg e f a b c d).length = 2 := by unfold pokeT; split <;> rfl
theorem pokeS_len (rings : List Int) (cs : List Cr) (e f m sg : Int) (sd : Bool) : (pokeS rings cs e f m sg sd).length = cs.length + 2 := by unfold pokeS; rw [List.length_append, List.length_map, List.length_map, pokeT_len]
theorem curlS_len (rings : List Int) (cs : List Cr) (e m sg : Int) (un : Bool) : (curlS rings cs e m sg un).length = cs.length + 1 := by unfold curlS; rw [List.length_append, List.length_map]; rfl
theorem Good.poke {most : Nat} {rings : List Int} {cs : List Cr} (h : Good most rings cs) {e f m : Int} {sl ol : Bool} (sp : Spot rings cs e f sl ol) (mm : m ∈ n1 rings cs) (mx : ∀ y ∈ n1 rings cs, y ≤ m) : Good (most + 2) (wo f (wo e rings)) (pokeS rings cs e f m (sgP sl (sl != ol)) (sl != ol)) :=
  ⟨.poke h.made sp mm mx, by rw [pokeS_len]; have := h.len; omega, Nat.le_trans (wo_len _ _) (Nat.le_trans (wo_len _ _) h.rl), ne_app (fun z => by have := congrArg List.length z; rw [pokeT_len] at this; cases this)⟩
theorem Good.curl {most : Nat} {rings : List Int} {cs : List Cr} (h : Good most rings cs) {e m sg : Int} {un : Bool} (he : e ∈ n1 rings cs) (mm : m ∈ n1 rings cs) (mx : ∀ y ∈ n1 rings cs, y ≤ m) (hs : sg = 1 ∨ sg = -1) : Good (most + 1) (wo e rings) (curlS rings cs e m sg un) :=
  ⟨.curl h.made he mm mx hs, by rw [curlS_len]; have := h.len; omega, Nat.le_trans (wo_len _ _) h.rl, ne_app (by simp)⟩
theorem Good.more {m m' : Nat} {rings : List Int} {cs : List Cr} (h : Good m rings cs) (l : m ≤ m') : Good m' rings cs := ⟨h.made, Nat.le_trans h.len l, h.rl, h.ne⟩
def Sml (rings : List Int) (cs : List Cr) : Prop := ∀ x ∈ n1 rings cs, x.natAbs ≤ 10 ^ 58 + 500
structure PDrn (K : PySem.W.Frag) (vs : List V) (H : Hp) (Q : VK) : Prop where
  get : ∃ (a : Addr) (ns : List Int) (at' most : Nat), vs = [.ref a, .int at', .int most] ∧ SqL K H a (ns.map V.int) ∧ at' ≤ 50 ∧ most ≤ 100 ∧ ∀ (d : Addr) (H' : Hp) (rings : List Int) (cs : List Cr), Same H H' → DrAt H' d rings cs → Good (most + 6) rings cs → Sml rings cs → Q (.ref d) H'
def sp_drawn (K : PySem.W.Frag) : Sp := fun vs H Q _ => PDrn K vs H Q
theorem num_of {K : PySem.W.Frag} {H : Hp} {a : Addr} {ns : List Int} {k : Nat} {z : Int} {Q : VK} (e : z = (k : Int)) (hS : SqL K H a (ns.map V.int)) (hk : k ≤ 100) (q : ∀ z : Int, Q (.int z) H) : PNum K [.ref a, .int z] H Q := ⟨a, ns, k, by rw [e], hS, hk, q⟩
theorem let_of {H : Hp} {cell : Int} {n most : Nat} {z : Int} {Q : VK} (e : z = (n : Int)) (n1 : 1 ≤ n) (n2 : n ≤ 100) (m : most ≤ 1000) (k : ∀ (c : Addr) (H' : Hp) (ls : List Int), H c = none → Same H H' → H' c = some (.lst (ls.map V.int)) → Letters n most ls → Q (.ref c) H') : PLet [.int cell, .int z, .int most] H Q := ⟨cell, n, most, by rw [e], n1, n2, m, k⟩
def st8 : List Int := [2, 3, 2, 1, 4, 3, 5, 6]
def cu4 : List Int := [0, 1, 0, 2]
theorem two_at {a b : Int} {k : Nat} (hk : k < 2) (ha : 0 < a ∧ a.natAbs < 2 ^ 200) (hb : 0 < b ∧ b.natAbs < 2 ^ 200) : ∃ z, atI [V.int a, V.int b] (0 + (k : Int)) = some (.int z) ∧ 0 < z ∧ z.natAbs < 2 ^ 200 := by
  rcases (show k = 0 ∨ k = 1 by omega) with e | e <;> subst e
  · exact ⟨a, rfl, ha⟩
  · exact ⟨b, rfl, hb⟩
theorem way_at (z : Int) : ∃ un, atI [V.str "under", V.str "over"] (z % 2) = some (.str (wayS un)) := by
  rcases (show z % 2 = 0 ∨ z % 2 = 1 by omega) with h | h <;> rw [h]
  · exact ⟨true, rfl⟩
  · exact ⟨false, rfl⟩
theorem closed_n1 {n most : Nat} {ls : List Int} (h1 : 1 ≤ n) (lt : Letters n most ls) : n1 (closedR n ls) (closedC n ls) ≠ [] := fun z => by
  have l1 := n1_len (closedR n ls) (closedC n ls)
  rw [z] at l1
  have l2 : (closedC n ls).length = 0 := by simp at l1; omega
  have l3 : (closedR n ls).length = 0 := by simp at l1; omega
  have h := names_len (closedR n ls) (closedC n ls)
  rw [l2, l3] at h
  exact closed_ne h1 ls (List.length_eq_zero_iff.mp (by omega))
theorem ok_drawn {fa : Addr} {fd : FuncData} (F : FT K mg "_law_drawn" s__law_drawn ["_law_script", "_law_at", "_law_most"] fa fd) (T : BN mg) (cN : Cal P w K mg base 2 "_law_number" ["_law_script", "_law_k"] (sp_number K)) (cL : Cal P w K mg base 1 "_law_letters" ["_law_cell", "_law_strands", "_law_most"] sp_letters) (cC : Cal P w K mg base 1 "_law_closed" ["_law_strands", "_law_letters_here"] (sp_closed K))
    (cP : Cal P w K mg base 5 "_law_some_poke" ["_law_drawing", "_law_cell"] sp_spk) (cA : Cal P w K mg base 1 "_law_names" ["_law_drawing"] sp_names) (cU : Cal P w K mg base 2 "_law_curl" ["_law_drawing", "_law_e", "_law_sign", "_law_way"] sp_crl) (cR : Cal P w K mg base 2 "_law_new_names" ["_law_drawing", "_law_cell"] sp_ren) (cM : Cal P w K mg base 1 "_law_mixed_up" ["_law_some", "_law_cell"] sp_mix) : Cal P w K mg base 6 "_law_drawn" ["_law_script", "_law_at", "_law_most"] (sp_drawn K) := by
  refine F.cal sc__law_drawn (fun vs H Q E h => ?_) (fun A outer s H vs Q E hr h => ?_)
  · obtain ⟨⟨a, ns, at', most, rfl, _⟩⟩ := h; rfl
  · obtain ⟨⟨a, zs, at', most, rfl, hS, a1, m1, k⟩⟩ := h
    have nd := sc__law_drawn.nd
    refine ⟨_, (pss_cons (ps_set (i := 3) nd rfl (Or.inl rfl) (pe_cal cN (hr.mono (by decide)) (by rfl) (pa_cons (pv 0) (pa_cons (pv 1) pa_nil))))
      (pss_cons (ps_set (i := 4) nd rfl (Or.inl rfl) (pe_ix ix_list (pe_lst (pa_cons pe_int (pa_cons pe_int (pa_cons pe_int (pa_cons pe_int (pa_cons pe_int (pa_cons pe_int (pa_cons pe_int (pa_cons pe_int pa_nil))))))))) (pe_op op_mod (pv 3) pe_int) (fun _ _ => rfl)))
      (pss_cons (ps_set (i := 5) nd rfl (Or.inl rfl) (pe_cal cC (hr.mono (by decide)) (by rfl) (pa_cons (pv 4) (pa_cons (pe_cal cL (hr.mono (by decide)) (by rfl) (pa_cons (pe_cal cN (hr.mono (by decide)) (by rfl) (pa_cons (pv 0) (pa_cons (pe_op op_add (pv 1) pe_int) pa_nil))) (pa_cons (pv 4) (pa_cons (pv 2) pa_nil)))) pa_nil))))
      (pss_cons (ps_set (i := 6) nd rfl (Or.inl rfl) (pe_cal cN (hr.mono (by decide)) (by rfl) (pa_cons (pv 0) (pa_cons (pe_op op_add (pv 1) pe_int) pa_nil))))
      (pss_cons (ps_for PassesOwn.never rfl (pi_range1 rfl T.range (pa_cons (pe_ix ix_list (pe_lst (pa_cons pe_int (pa_cons pe_int (pa_cons pe_int (pa_cons pe_int pa_nil))))) (pe_op op_mod (pe_op op_fdivB (pv 3) pe_int) pe_int) (fun _ _ => rfl)) pa_nil)) (pg_name (i := 7) nd rfl (Or.inl rfl))
        (pss_one (ps_set (i := 5) nd rfl (Or.inl rfl) (pe_cal cP (hr.mono (by decide)) (by rfl) (pa_cons (pv 5) (pa_cons (pe_op op_fdivB (pv 6) (pe_ix ix_list (pe_lst (pa_cons pe_int (pa_cons (pe_op op_pow pe_int pe_int) pa_nil))) (pv 7) (fun _ _ => rfl))) pa_nil))))))
      (pss_cons (ps_for PassesOwn.never rfl (pi_range1 rfl T.range (pa_cons (pe_ix ix_list (pe_lst (pa_cons pe_int (pa_cons pe_int (pa_cons pe_int (pa_cons pe_int pa_nil))))) (pe_op op_mod (pe_op op_fdivB (pv 3) pe_int) pe_int) (fun _ _ => rfl)) pa_nil)) (pg_name (i := 7) nd rfl (Or.inl rfl))
        (pss_cons (ps_set (i := 8) nd rfl (Or.inl rfl) (pe_cal cA (hr.mono (by decide)) (by rfl) (pa_cons (pv 5) pa_nil)))
        (pss_cons (ps_set (i := 9) nd rfl (Or.inl rfl) (pe_op op_fdivB (pv 6) (pe_ix ix_list (pe_lst (pa_cons (pe_op op_pow pe_int pe_int) (pa_cons (pe_op op_pow pe_int pe_int) pa_nil))) (pv 7) (fun _ _ => rfl))))
        (pss_cons (ps_set (i := 10) nd rfl (Or.inl rfl) (pe_ix ix_list (pe_lst (pa_cons pe_str (pa_cons pe_str pa_nil))) (pe_op op_mod (pe_op op_fdivB (pv 9) pe_int) pe_int) (fun _ _ => rfl)))
        (pss_one (ps_set (i := 5) nd rfl (Or.inl rfl) (pe_cal cU (hr.mono (by decide)) (by rfl) (pa_cons (pv 5) (pa_cons (pe_ix ix_list (pv 8) (pe_op op_mod (pv 9) (pe_len (by rfl) T.len (pv 8))) (fun _ _ => rfl)) (pa_cons (pe_ix ix_list (pe_lst (pa_cons pe_int (pa_cons (pe_un un_neg pe_int) pa_nil))) (pe_op op_mod (pe_op op_fdivB (pv 9) pe_int) pe_int) (fun _ _ => rfl)) (pa_cons (pv 10) pa_nil)))))))))))
      (pss_cons (ps_set (i := 5) nd rfl (Or.inl rfl) (pe_cal cR (hr.mono (by decide)) (by rfl) (pa_cons (pv 5) (pa_cons (pe_cal cN (hr.mono (by decide)) (by rfl) (pa_cons (pv 0) (pa_cons (pe_op op_add (pv 1) pe_int) pa_nil))) pa_nil))))
      (pss_cons (ps_set (i := 6) nd rfl (Or.inl rfl) (pe_cal cN (hr.mono (by decide)) (by rfl) (pa_cons (pv 0) (pa_cons (pe_op op_add (pv 1) pe_int) pa_nil))))
      (pss_one (ps_ret (pe_tup (pa_cons (pe_cal cM (hr.mono (by decide)) (by rfl) (pa_cons (pe_ix ix_tup (pv 5) pe_int (fun _ _ => rfl)) (pa_cons (pe_op op_fdivB (pv 6) pe_int) pa_nil))) (pa_cons (pe_cal cM (hr.mono (by decide)) (by rfl) (pa_cons (pe_ix ix_tup (pv 5) pe_int (fun _ _ => rfl)) (pa_cons (pv 6) pa_nil))) pa_nil))))))))))))), ?_⟩
    refine ⟨_, rfl, _, rfl, num_of (k := at') rfl hS (by omega) fun hd => ?_⟩
    refine ⟨(by show 8 ≤ sizeLine; decide), fun L hL => ?_⟩
    have s1 : Same H (upd H L (.lst [V.int 2, V.int 3, V.int 2, V.int 1, V.int 4, V.int 3, V.int 5, V.int 6])) := Same.new hL
    have h1 : upd H L (.lst [V.int 2, V.int 3, V.int 2, V.int 1, V.int 4, V.int 3, V.int 5, V.int 6]) L = some (.lst (st8.map V.int)) := upd_same
    dsimp only
    generalize upd H L (.lst [V.int 2, V.int 3, V.int 2, V.int 1, V.int 4, V.int 3, V.int 5, V.int 6]) = H1 at s1 h1 ⊢
    obtain ⟨st, est, _, mst⟩ := pick (xs := st8) (e := hd) (n := 8) (B := 6) rfl (by decide) (by decide)
    obtain ⟨n, rfl, n1', n4⟩ : ∃ n : Nat, st = (n : Int) ∧ 1 ≤ n ∧ n ≤ 6 := by
      have : 1 ≤ st ∧ st ≤ 6 := by
        simp only [st8, List.mem_cons, List.not_mem_nil, or_false] at mst
        omega
      exact ⟨st.toNat, by omega, by omega, by omega⟩
    refine ⟨_, rfl, _, _, rfl, rfl, (by show (0 : Int) < 8; decide), L, _, _, .int n, rfl, rfl, SqL.of h1, est, ?_⟩
    refine ⟨_, rfl, _, rfl, _, rfl, _, _, rfl, rfl, num_of (k := at' + 1) (by push_cast; rfl) (s1.seq hS) (by omega) fun z1 => ⟨_, rfl, _, rfl, let_of rfl n1' (by omega) (by omega) fun c H2 ls hc s2 h2 lt => ⟨⟨c, n, most, ls, rfl, n1', by omega, by omega, lt, h2, fun d H3 s3 d3 => ?_⟩⟩⟩⟩
    have sm3 := (s1.trans s2).trans s3
    refine ⟨_, rfl, _, rfl, _, _, rfl, rfl, num_of (k := at' + 2) (by push_cast; rfl) (sm3.seq hS) (by omega) fun cell => ?_⟩
    refine ⟨(by show 4 ≤ sizeLine; decide), fun L4 hL4 => ?_⟩
    have s4 : Same H3 (upd H3 L4 (.lst [V.int 0, V.int 1, V.int 0, V.int 2])) := Same.new hL4
    have h4 : upd H3 L4 (.lst [V.int 0, V.int 1, V.int 0, V.int 2]) L4 = some (.lst (cu4.map V.int)) := upd_same
    dsimp only
    generalize upd H3 L4 (.lst [V.int 0, V.int 1, V.int 0, V.int 2]) = H4 at s4 h4 ⊢
    obtain ⟨cu, ecu, _, mcu⟩ := pick (xs := cu4) (e := hd / 8) (n := 4) (B := 2) rfl (by decide) (by decide)
    have cu0 : 0 ≤ cu ∧ cu ≤ 2 := by
      simp only [cu4, List.mem_cons, List.not_mem_nil, or_false] at mcu
      omega
    have sm4 := sm3.trans s4
    refine ⟨_, rfl, _, _, rfl, rfl, db (by decide) (by decide), _, _, rfl, rfl, (by show (0 : Int) < 4; decide), L4, _, _, .int cu, rfl, rfl, SqL.of h4, ecu, _, rfl, by omega, by omega, ?_⟩
    refine for_by (D := { nx := _, rt := _ }) (n := cu.toNat) (fun i σ H5 => ∃ (d : Addr) (v7 : Option V) (rings : List Int) (cs : List Cr), σ = [some (.ref a), some (.int at'), some (.int most), some (.int hd), some (.int n), some (.ref d), some (.int cell), v7, none, none, none] ∧ DrAt H5 d rings cs ∧ Good (most + 2 * i) rings cs ∧ Same H H5) ⟨d, none, _, _, rfl, d3.mv s4, ⟨.closed n1' lt, by rw [closedC_len]; exact lt.1, Nat.le_trans (closedR_len n ls) n4, closed_n1 n1' lt⟩, sm4⟩ (fun i σ H5 hi _ => hi) (fun σ H5 _ => Nat.le_refl _) ?_ ?_
    · rintro i σ H5 hi ⟨d, v7, rings, cs, rfl, dr, gd, sm⟩ x H' ⟨rfl, rfl⟩
      have e1 := gd.len
      have e2 := gd.rl
      refine ⟨_, rfl, _, rfl, _, _, rfl, rfl, ⟨by decide, by decide, by decide⟩, (by show 2 ≤ sizeLine; decide), fun L5 hL5 => ?_⟩
      have s5 : Same H' (upd H' L5 (.lst [V.int 1, V.int (10 ^ (6 : Int).toNat)])) := Same.new hL5
      have h5 : upd H' L5 (.lst [V.int 1, V.int (10 ^ (6 : Int).toNat)]) L5 = some (.lst [V.int 1, V.int (10 ^ (6 : Int).toNat)]) := upd_same
      generalize upd H' L5 (.lst [V.int 1, V.int (10 ^ (6 : Int).toNat)]) = H6 at s5 h5 ⊢
      obtain ⟨z, ez, z0, z1⟩ := two_at (a := 1) (b := 10 ^ (6 : Int).toNat) (k := i) (by omega) (by decide) (by decide)
      have sm6 := sm.trans s5
      refine ⟨_, rfl, L5, _, _, .int z, rfl, rfl, SqL.of h5, ez, _, _, rfl, rfl, db z0 z1, ⟨⟨d, _, rings, cs, rfl, dr.mv s5, gd.wf, gd.ne, by omega, by omega, fun H7 s7 => ?_, fun d' H7 e f m sl ol s7 sp mm mx dr7 => ?_⟩⟩⟩
      · exact ⟨d, _, rings, cs, rfl, dr.mv (s5.trans s7), gd.more (by omega), sm6.trans s7⟩
      · exact ⟨d', _, _, _, rfl, dr7, (gd.poke sp mm mx).more (by omega), sm6.trans s7⟩
    · rintro σ H5 ⟨d, v7, rings, cs, rfl, dr, gd, sm5⟩
      have gd4 : Good (most + 4) rings cs := gd.more (by omega)
      clear gd
      refine ⟨(by show 4 ≤ sizeLine; decide), fun L4 hL4 => ?_⟩
      have s4 : Same H5 (upd H5 L4 (.lst [V.int 0, V.int 1, V.int 0, V.int 2])) := Same.new hL4
      have h4 : upd H5 L4 (.lst [V.int 0, V.int 1, V.int 0, V.int 2]) L4 = some (.lst (cu4.map V.int)) := upd_same
      dsimp only
      generalize upd H5 L4 (.lst [V.int 0, V.int 1, V.int 0, V.int 2]) = H6 at s4 h4 ⊢
      obtain ⟨cv, ecv, _, mcv⟩ := pick (xs := cu4) (e := hd / 32) (n := 4) (B := 2) rfl (by decide) (by decide)
      have cv0 : 0 ≤ cv ∧ cv ≤ 2 := by
        simp only [cu4, List.mem_cons, List.not_mem_nil, or_false] at mcv
        omega
      have sm6 := sm5.trans s4
      refine ⟨_, rfl, _, _, rfl, rfl, db (by decide) (by decide), _, _, rfl, rfl, (by show (0 : Int) < 4; decide), L4, _, _, .int cv, rfl, rfl, SqL.of h4, ecv, _, rfl, by omega, by omega, ?_⟩
      refine for_by (D := { nx := _, rt := _ }) (n := cv.toNat) (fun i σ H5 => ∃ (d : Addr) (v7 v8 v9 v10 : Option V) (rings : List Int) (cs : List Cr), σ = [some (.ref a), some (.int at'), some (.int most), some (.int hd), some (.int n), some (.ref d), some (.int cell), v7, v8, v9, v10] ∧ DrAt H5 d rings cs ∧ Good (most + 4 + i) rings cs ∧ Same H H5) ⟨d, _, _, _, _, _, _, rfl, dr.mv s4, gd4, sm6⟩ (fun i σ H5 hi _ => hi) (fun σ H5 _ => Nat.le_refl _) ?_ ?_
      · rintro i σ H7 hi ⟨d, v7, v8, v9, v10, rings, cs, rfl, dr, gd, sm⟩ x H' ⟨rfl, rfl⟩
        have e1 := gd.len
        have e2 := gd.rl
        refine ⟨_, rfl, ⟨⟨d, rings, cs, rfl, dr, by omega, by omega, fun N H8 ks hN s8 h8 pm up => ?_⟩⟩⟩
        have kl : 0 < ks.length := by rw [pm.length_eq]; exact List.length_pos_iff.mpr gd.ne
        refine ⟨_, rfl, _, _, rfl, rfl, ⟨by decide, by decide, by decide⟩, _, _, rfl, rfl, ⟨by decide, by decide, by decide⟩, (by show 2 ≤ sizeLine; decide), fun L5 hL5 => ?_⟩
        have s9 : Same H8 (upd H8 L5 (.lst [V.int (10 ^ (13 : Int).toNat), V.int (10 ^ (16 : Int).toNat)])) := Same.new hL5
        have h9 : upd H8 L5 (.lst [V.int (10 ^ (13 : Int).toNat), V.int (10 ^ (16 : Int).toNat)]) L5 = some (.lst [V.int (10 ^ (13 : Int).toNat), V.int (10 ^ (16 : Int).toNat)]) := upd_same
        generalize upd H8 L5 (.lst [V.int (10 ^ (13 : Int).toNat), V.int (10 ^ (16 : Int).toNat)]) = H9 at s9 h9 ⊢
        obtain ⟨z, ez, z0, z1⟩ := two_at (a := 10 ^ (13 : Int).toNat) (b := 10 ^ (16 : Int).toNat) (k := i) (by omega) (by decide) (by decide)
        refine ⟨_, rfl, L5, _, _, .int z, rfl, rfl, SqL.of h9, ez, _, _, rfl, rfl, db z0 z1, ?_⟩
        dsimp only
        generalize cell / z = rest
        refine ⟨(by show 2 ≤ sizeLine; decide), fun L6 hL6 => ?_⟩
        have s10 : Same H9 (upd H9 L6 (.lst [V.str "under", V.str "over"])) := Same.new hL6
        have h10 : upd H9 L6 (.lst [V.str "under", V.str "over"]) L6 = some (.lst [V.str "under", V.str "over"]) := upd_same
        generalize upd H9 L6 (.lst [V.str "under", V.str "over"]) = H10 at s10 h10 ⊢
        obtain ⟨un, eun⟩ := way_at (rest / 128)
        refine ⟨_, rfl, _, _, rfl, rfl, db (by decide) (by decide), _, _, rfl, rfl, (by show (0 : Int) < 2; decide), L6, _, _, .str (wayS un), rfl, rfl, SqL.of h10, eun, ?_⟩
        obtain ⟨e, ee, me⟩ := pickI (z := rest) kl
        have h10N := s10 _ _ (s9 _ _ h8)
        refine ⟨_, rfl, _, rfl, _, rfl, _, rfl, N, _, rfl, .inl (SqL.of h10N), _, _, rfl, rfl, (by rw [List.length_map]; omega), N, _, _, .int e, rfl, rfl, SqL.of h10N, (by rw [List.length_map]; exact ee), _, rfl, (by show 2 ≤ sizeLine; decide), fun L7 hL7 => ?_⟩
        have s11 : Same H10 (upd H10 L7 (.lst [V.int 1, V.int (-1)])) := Same.new hL7
        have h11 : upd H10 L7 (.lst [V.int 1, V.int (-1)]) L7 = some (.lst (sg2.map V.int)) := upd_same
        dsimp only
        generalize upd H10 L7 (.lst [V.int 1, V.int (-1)]) = H11 at s11 h11 ⊢
        obtain ⟨sg, esg, _, msg⟩ := pick (xs := sg2) (e := rest / 64) (n := 2) (B := 1) rfl (by decide) (by decide)
        have vsg : sg = 1 ∨ sg = -1 := by simpa [sg2] using msg
        have s811 := ((s8.trans s9).trans s10).trans s11
        have sm11 := sm.trans s811
        refine ⟨_, rfl, _, _, rfl, rfl, db (by decide) (by decide), _, _, rfl, rfl, (by show (0 : Int) < 2; decide), L7, _, _, .int sg, rfl, rfl, SqL.of h11, esg, _, rfl, ⟨⟨d, e, sg, un, rings, cs, rfl, dr.mv s811, pm.mem_iff.mp me, by omega, by omega, fun d' H12 m s12 mm mx dr12 => ?_⟩⟩⟩
        exact ⟨d', _, _, _, _, _, _, rfl, dr12, gd.curl (pm.mem_iff.mp me) mm mx vsg, sm11.trans s12⟩
      · rintro σ H5 ⟨d, v7, v8, v9, v10, rings, cs, rfl, dr, gd, sm⟩
        have e1 := gd.len
        have e2 := gd.rl
        refine ⟨_, rfl, _, rfl, _, rfl, _, _, rfl, rfl, num_of (k := at' + 3) (by push_cast; rfl) (sm.seq hS) (by omega) fun z3 => ⟨⟨d, z3, rings, cs, rfl, dr, gd.wf, by omega, by omega, fun d' H6 f s6 inj small dr6 => ?_⟩⟩⟩
        have sm6 := sm.trans s6
        refine ⟨_, rfl, _, rfl, _, _, rfl, rfl, num_of (k := at' + 4) (by push_cast; rfl) (sm6.seq hS) (by omega) fun z4 => ?_⟩
        obtain ⟨a6, b6, hd6, ha6, hcr6⟩ := dr6
        obtain ⟨ps, hb6, pp⟩ := id hcr6
        have hpl := pp.length
        rw [List.length_map] at hpl
        refine ⟨_, rfl, d', _, _, .ref a6, rfl, rfl, SqT.of hd6, rfl, _, rfl, _, _, rfl, rfl, db (by decide) (by decide), ⟨⟨a6, _, _, rfl, ha6, by rw [List.length_map, List.length_map]; omega, fun c7 H7 ys hc7 s7 h7 p7 => ?_⟩⟩⟩
        obtain ⟨rings', pr, rfl⟩ := perm_map_inv p7 _ rfl
        refine ⟨_, rfl, d', _, _, .ref b6, rfl, rfl, SqT.of (s7 _ _ hd6), rfl, _, rfl, ⟨⟨b6, _, _, rfl, s7 _ _ hb6, by rw [List.length_map]; omega, fun c8 H8 ys8 hc8 s8 h8 p8 => ?_⟩⟩⟩
        obtain ⟨qs, pq, rfl⟩ := perm_map_inv p8 _ rfl
        obtain ⟨cs', pc, pp'⟩ := paired_perm pq _ pp
        refine ⟨(by show 2 ≤ sizeLine; decide), fun dd hdd => ?_⟩
        have s9 : Same H8 (upd H8 dd (.tup [.ref c7, .ref c8])) := Same.new hdd
        have s69 := (s7.trans s8).trans s9
        have pn : (n1 rings' cs').Perm ((n1 rings cs).map f) := by
          unfold n1
          rw [List.map_append, ← insA_map]
          exact pr.append (pc.flatMap_right _)
        refine k dd _ rings' cs' (sm6.trans s69) ⟨c7, c8, upd_same, s9 _ _ (s8 _ _ h7), ⟨qs, s9 _ _ h8, Paired.mono (fun q c z => s69 _ _ z) pp'⟩⟩ ⟨.mix (.ren gd.made inj) pr pc, ?_, ?_, ?_⟩ ?_
        · rw [pc.length_eq, List.length_map]; omega
        · rw [pr.length_eq, List.length_map]; exact e2
        · intro z
          rw [z] at pn
          have := pn.length_eq
          have h3 := List.length_pos_iff.mpr gd.ne
          simp at this; omega
        · intro x hx
          obtain ⟨y, hy, rfl⟩ := List.mem_map.mp (pn.mem_iff.mp hx)
          exact small y hy
end

end K25
namespace DM
open PySem L2
section
variable {α : Type} {f : α → α} {D : List α}
structure Rnd (f : α → α) (D : List α) (s : α) (F : List α) : Prop where
  orb : Orb f D s F
  cl : ∀ x, F.getLast? = some x → f x = s
theorem Orb.ne {s : α} {F : List α} (h : Orb f D s F) : F ≠ [] := fun e => by have := h.hd; rw [e] at this; cases this
theorem Orb.last {s : α} {F : List α} (h : Orb f D s F) : ∃ x, F.getLast? = some x ∧ F[F.length - 1]? = some x ∧ x ∈ F := by
  have l := List.length_pos_iff.mpr h.ne
  refine ⟨F[F.length - 1], by rw [List.getLast?_eq_getElem?, List.getElem?_eq_getElem], List.getElem?_eq_getElem _, List.getElem_mem _⟩
theorem Rnd.closed {s : α} {F : List α} (h : Rnd f D s F) {y : α} (hy : y ∈ F) : f y ∈ F := by
  obtain ⟨i, hi, rfl⟩ := List.mem_iff_getElem.mp hy
  by_cases l : i + 1 < F.length
  · have := h.orb.st i F[i] F[i + 1] (List.getElem?_eq_getElem hi) (List.getElem?_eq_getElem l)
    rw [← this]; exact List.getElem_mem _
  · have e : i = F.length - 1 := by omega
    have := h.cl F[i] (by rw [List.getLast?_eq_getElem?, ← e, List.getElem?_eq_getElem hi])
    rw [this]; exact List.mem_of_getElem? h.orb.hd
theorem Rnd.pred {s : α} {F : List α} (h : Rnd f D s F) {z : α} (hz : z ∈ F) : ∃ y ∈ F, f y = z := by
  obtain ⟨i, hi, rfl⟩ := List.mem_iff_getElem.mp hz
  cases i with
  | zero =>
    obtain ⟨x, e1, e2, e3⟩ := h.orb.last
    have := h.orb.hd
    rw [List.getElem?_eq_getElem hi] at this
    exact ⟨x, e3, by rw [h.cl x e1]; exact (Option.some.inj this).symm⟩
  | succ i =>
    have l : i < F.length := by omega
    exact ⟨F[i], List.getElem_mem _, (h.orb.st i F[i] F[i + 1] (List.getElem?_eq_getElem l) (List.getElem?_eq_getElem hi)).symm⟩
theorem Rnd.back {s : α} {F : List α} (inj : ∀ d ∈ D, ∀ e ∈ D, f d = f e → d = e) (h : Rnd f D s F) {y : α} (hy : y ∈ D) (hf : f y ∈ F) : y ∈ F := by
  obtain ⟨z, hz, e⟩ := h.pred hf
  rw [inj y hy z (h.orb.sub z hz) e.symm]; exact hz
theorem Orb.at_eq {s : α} {F G : List α} (h : Orb f D s F) (k : Orb f D s G) : ∀ i, i < F.length → i < G.length → F[i]? = G[i]?
  | 0, _, _ => by rw [h.hd, k.hd]
  | i + 1, hi, hj => by
    have ih := Orb.at_eq h k i (by omega) (by omega)
    have l : i < F.length := by omega
    have e1 := h.st i F[i] F[i + 1] (List.getElem?_eq_getElem l) (List.getElem?_eq_getElem hi)
    have e2 := k.st i F[i] G[i + 1] (by rw [← ih]; exact List.getElem?_eq_getElem l) (List.getElem?_eq_getElem hj)
    rw [List.getElem?_eq_getElem hi, List.getElem?_eq_getElem hj, e1, e2]
theorem Rnd.not_lt {s : α} {F G : List α} (h : Rnd f D s F) (k : Rnd f D s G) : ¬ F.length < G.length := fun l => by
  obtain ⟨x, e1, e2, e3⟩ := h.orb.last
  have p := List.length_pos_iff.mpr h.orb.ne
  have e4 := h.orb.at_eq k.orb (F.length - 1) (by omega) (by omega)
  have e5 := k.orb.st (F.length - 1) x G[F.length] (by rw [← e4]; exact e2) (by rw [show F.length - 1 + 1 = F.length by omega]; exact List.getElem?_eq_getElem l)
  rw [h.cl x e1] at e5
  have e6 := k.orb.hd
  rw [← e5] at e6
  have := (List.getElem?_inj (by omega) k.orb.nd).mp (e6.trans (List.getElem?_eq_getElem l).symm)
  omega
theorem Rnd.uniq {s : α} {F G : List α} (h : Rnd f D s F) (k : Rnd f D s G) : F = G := by
  have l1 := h.not_lt k
  have l2 := k.not_lt h
  refine List.ext_getElem? fun i => ?_
  by_cases l : i < F.length
  · exact h.orb.at_eq k.orb i l (by omega)
  · rw [List.getElem?_eq_none (by omega), List.getElem?_eq_none (by omega)]
inductive Cw (f : α → α) (D : List α) : List α → List (List α) → Prop
  | nil : Cw f D [] []
  | skip {xs : List α} {L : List (List α)} {x : α} : Cw f D xs L → (∃ F ∈ L, x ∈ F) → Cw f D (xs ++ [x]) L
  | add {xs : List α} {L : List (List α)} {x : α} {F : List α} : Cw f D xs L → (∀ F ∈ L, x ∉ F) → Rnd f D x F → Cw f D (xs ++ [x]) (L ++ [F])
theorem Cw.rnd {xs : List α} {L : List (List α)} (h : Cw f D xs L) : ∀ F ∈ L, ∃ s ∈ xs, Rnd f D s F := by
  induction h with
  | nil => exact fun F h => nomatch h
  | skip _ _ ih => exact fun F h => let ⟨s, a, b⟩ := ih F h; ⟨s, List.mem_append_left _ a, b⟩
  | add _ _ r ih =>
    intro F h
    rcases List.mem_append.mp h with z | z
    · exact let ⟨s, a, b⟩ := ih F z; ⟨s, List.mem_append_left _ a, b⟩
    · rw [List.mem_singleton.mp z]; exact ⟨_, by simp, r⟩
theorem Cw.cov {xs : List α} {L : List (List α)} (h : Cw f D xs L) : ∀ x ∈ xs, ∃ F ∈ L, x ∈ F := by
  induction h with
  | nil => exact fun F h => nomatch h
  | skip _ q ih =>
    intro x h
    rcases List.mem_append.mp h with z | z
    · exact ih x z
    · rw [List.mem_singleton.mp z]; exact q
  | add _ _ r ih =>
    intro x h
    rcases List.mem_append.mp h with z | z
    · exact let ⟨F, a, b⟩ := ih x z; ⟨F, List.mem_append_left _ a, b⟩
    · rw [List.mem_singleton.mp z]; exact ⟨_, by simp, List.mem_of_getElem? r.orb.hd⟩
end
theorem putK_nk {κ : Type} [DecidableEq κ] {kvs : List (κ × V)} {k : κ} {v : V} (h : k ∉ kvs.map (·.1)) : putK kvs k v = kvs ++ [(k, v)] := by
  unfold putK
  rw [if_neg]
  intro z
  obtain ⟨p, hp, e⟩ := List.any_eq_true.mp z
  exact h (by rw [← of_decide_eq_true e]; exact List.mem_map.mpr ⟨p, hp, rfl⟩)
end DM
namespace L2
open PySem PySem.Spec PyProof.Rows
open MeetsSeq MeetsSeq2 MeetsSeq3 SeqRoads2
section
variable {X : Cx}
def isBv (b : Bool) : Value → Bool := fun v => match v with | .bool c => c == b | _ => false
theorem bools_of {bs : List Bool} : ∀ {its : List Value}, Vals (bs.map V.bl) its → its = bs.map Value.bool := by
  induction bs with
  | nil => intro its h; cases h; rfl
  | cons b bs ih => intro its h; cases h with
    | cons r1 r2 => cases r1; rw [ih r2]; rfl
def rCountB (K : PySem.W.Frag) : V → List V → Hp → VK → Prop := fun x vs H Q => ∃ (a : Addr) (bs : List Bool) (b : Bool), x = .ref a ∧ vs = [.bl b] ∧ SqL K H a (bs.map V.bl) ∧ Q (.int (bs.count b : Nat)) H
theorem mt_countB : MtR X "list.count" (rCountB X.K) := by
  intro pins s σ H x vs v us Q I rx rv h
  obtain ⟨a, bs, b, rfl, rfl, hs, q⟩ := h
  cases rx
  obtain ⟨u, rfl, ru⟩ := rv.one
  cases ru
  obtain ⟨its, r, pl, _⟩ := I.list hs
  have e := bools_of r
  subst e
  obtain ⟨⟨cls, dd, data, sl⟩, ho, hc, n, hd⟩ := id pl.isList
  simp only at hc hd
  subst hc hd
  refine call_meets F.slot_list_count ⟨_, ho, rfl⟩ F.entry_list_count (F.args_list_count_2 _ _) (SeqAt.list_countAt a (bs.map Value.bool).toArray n dd sl (.bool b) (isBv b)) ⟨ho, fun y hy => ?_, ?_⟩
  · have hv : y ∈ bs.map Value.bool := by simpa using hy
    obtain ⟨c, _, rfl⟩ := List.mem_map.mp hv
    exact SeqAt.EqAt.bool_bool c b
  · have : (bs.map Value.bool).toArray.toList.countP (isBv b) = bs.count b := by
      show (bs.map Value.bool).countP (isBv b) = _
      rw [List.countP_map, List.count]
      rfl
    rw [this]
    exact ⟨.int _, H, I.tok _, ⟨_, rfl⟩, q⟩
def rIndexB (K : PySem.W.Frag) : V → List V → Hp → VK → Prop := fun x vs H Q => ∃ (a : Addr) (bs : List Bool) (b : Bool) (j : Nat), x = .ref a ∧ vs = [.bl b] ∧ SqL K H a (bs.map V.bl) ∧ bs[j]? = some b ∧ (∀ m, m < j → bs[m]? ≠ some b) ∧ j ≤ 100000 ∧ Q (.int j) H
theorem mt_indexB : MtR X "list.index" (rIndexB X.K) := by
  intro pins s σ H x vs v us Q I rx rv h
  obtain ⟨a, bs, b, j, rfl, rfl, hs, hj, hno, jl, q⟩ := h
  cases rx
  obtain ⟨u, rfl, ru⟩ := rv.one
  cases ru
  obtain ⟨its, r, pl, _⟩ := I.list hs
  have e := bools_of r
  subst e
  obtain ⟨⟨cls, dd, data, sl⟩, ho, hc, n, hd⟩ := id pl.isList
  simp only at hc hd
  subst hc hd
  have hjl : j < bs.length := (List.getElem?_eq_some_iff.mp hj).1
  have hjv : bs[j] = b := (List.getElem?_eq_some_iff.mp hj).2
  refine call_meets F.slot_list_index ⟨_, ho, rfl⟩ F.entry_list_index (F.args_list_index_2 _ _) (SeqAt.list_indexAt a (bs.map Value.bool).toArray n dd sl (.bool b) (isBv b) j (by simpa using hjl) (by omega) ?_ fun m hm lt => ?_) ⟨ho, fun y hy => ?_, ?_⟩
  · simp [isBv, hjv]
  · have hm' : m < bs.length := by simpa using hm
    have := hno m lt
    rw [List.getElem?_eq_getElem hm'] at this
    have ne : bs[m] ≠ b := fun z => this (by rw [z])
    simp [isBv, ne]
  · have hv : y ∈ bs.map Value.bool := by simpa using hy
    obtain ⟨c, _, rfl⟩ := List.mem_map.mp hv
    exact SeqAt.EqAt.bool_bool c b
  · exact ⟨.int _, H, I.tok _, ⟨_, rfl⟩, q⟩
def rInS (K : PySem.W.Frag) (neg : Bool) : R2 := fun x y H Q => rIn K neg x y H Q ∨ ∃ (p a : Addr) (ss : List Str) (xs : List V), x = .ref a ∧ y = .ref p ∧ (SqL K H a xs ∨ SqT K H a xs) ∧ (SqL K H p (ss.map V.str) ∨ SqT K H p (ss.map V.str)) ∧ Q (.bl neg) H
theorem strs_of {ss : List Str} : ∀ {its : List Value}, Vals (ss.map V.str) its → ∀ y ∈ its, ∃ x t, y = .str x t := by
  induction ss with
  | nil => intro its h; cases h; exact fun y hy => nomatch hy
  | cons b bs ih => intro its h; cases h with
    | cons r1 r2 =>
      obtain ⟨t, rfl⟩ := r1
      intro y hy
      rcases List.mem_cons.mp hy with rfl | hy
      · exact ⟨_, _, rfl⟩
      · exact ih r2 y hy
theorem op_notInS (hu : X.A.units + 4 < cLine) : OpR X (compareOp .NotIn) (rInS X.K true) := by
  intro pins s σ H x y v u Q I rx ry h
  rcases h with h | ⟨p, a, ss, xs, rfl, rfl, ha, hp, q⟩
  · exact op_notIn_seq s σ H x y v u Q I rx ry h
  cases rx
  cases ry
  have he : ∀ (its : List Value), Vals (ss.map V.str) its → ∀ w ∈ its, SeqAt.EqAt X.A.in1 s w (.ref a) false := fun its r w hw => by
    obtain ⟨z, t, rfl⟩ := strs_of r w hw
    rcases ha with ha | ha
    · obtain ⟨_, _, pl, _⟩ := I.list ha
      exact SeqAt.EqAt.str_list z t pl.isList (by show X.A.units + 1 < cLine; omega)
    · obtain ⟨_, _, pl, _⟩ := I.tuple ha
      exact SeqAt.EqAt.str_tuple z t pl (by show X.A.units + 1 < cLine; omega)
  rcases hp with hp | hp
  · obtain ⟨its, r, pl, hz⟩ := I.list hp
    refine SeqAt.notIn_listAt (fun _ => false) pl.isList (fun w hw => he its r w (by simpa using hw)) ⟨.bl _, H, I, rfl, ?_⟩
    rw [show (!its.toArray.any fun _ => false) = true by simp]
    exact q
  · obtain ⟨its, r, pl, hz⟩ := I.tuple hp
    refine SeqAt.notIn_tupleAt (fun _ => false) pl (fun w hw => he its r w (by simpa using hw)) ⟨.bl _, H, I, rfl, ?_⟩
    rw [show (!its.toArray.any fun _ => false) = true by simp]
    exact q
end
end L2
namespace L2
open PySem PySem.Spec PyProof.Rows
mutual
inductive DH (H : Hp) : V → PyData → Prop
  | non : DH H .non .none
  | bl (b : Bool) : DH H (.bl b) (.bool b)
  | int (i : Int) : DH H (.int i) (.int i)
  | str (x : Str) : DH H (.str x) (.str x)
  | lst {a : Addr} {xs : List V} {ds : List PyData} : H a = some (.lst xs) → DHs H xs ds → DH H (.ref a) (.list ds)
  | tup {a : Addr} {xs : List V} {ds : List PyData} : H a = some (.tup xs) → DHs H xs ds → DH H (.ref a) (.tuple ds)
inductive DHs (H : Hp) : List V → List PyData → Prop
  | nil : DHs H [] []
  | cons {v : V} {vs : List V} {d : PyData} {ds : List PyData} : DH H v d → DHs H vs ds → DHs H (v :: vs) (d :: ds)
end
mutual
theorem DH.same {H H' : Hp} (s : Same H H') : ∀ (d : PyData) (v : V), DH H v d → DH H' v d
  | .none, _, h => by cases h; exact .non
  | .bool b, _, h => by cases h; exact .bl b
  | .int i, _, h => by cases h; exact .int i
  | .str x, _, h => by cases h; exact .str x
  | .list ds, _, h => by
    cases h with
    | lst ha hd => exact .lst (s _ _ ha) (DHs.same s ds _ hd)
  | .tuple ds, _, h => by
    cases h with
    | tup ha hd => exact .tup (s _ _ ha) (DHs.same s ds _ hd)
  | .dict _, _, h => by cases h
theorem DHs.same {H H' : Hp} (s : Same H H') : ∀ (ds : List PyData) (vs : List V), DHs H vs ds → DHs H' vs ds
  | [], _, h => by cases h; exact .nil
  | d :: ds, _, h => by
    cases h with
    | cons h1 h2 => exact .cons (DH.same s d _ h1) (DHs.same s ds _ h2)
end
mutual
theorem DH.dp {K : PySem.W.Frag} {H : Hp} : ∀ (d : PyData) (v : V), DH H v d → Dp K H v d
  | .none, _, h => by cases h; exact .non
  | .bool b, _, h => by cases h; exact .bl b
  | .int i, _, h => by cases h; exact .int i
  | .str x, _, h => by cases h; exact .str x
  | .list ds, _, h => by
    cases h with
    | lst ha hd => exact .lst (SqL.of ha) (DHs.dp ds _ hd)
  | .tuple ds, _, h => by
    cases h with
    | tup ha hd => exact .tup (SqT.of ha) (DHs.dp ds _ hd)
  | .dict _, _, h => by cases h
theorem DHs.dp {K : PySem.W.Frag} {H : Hp} : ∀ (ds : List PyData) (vs : List V), DHs H vs ds → DpAll K H vs ds
  | [], _, h => by cases h; exact .nil
  | d :: ds, _, h => by
    cases h with
    | cons h1 h2 => exact .cons (DH.dp d _ h1) (DHs.dp ds _ h2)
end
theorem DHs.length {H : Hp} : ∀ {vs : List V} {ds : List PyData}, DHs H vs ds → vs.length = ds.length
  | _, _, .nil => rfl
  | _, _, .cons _ t => by rw [List.length_cons, List.length_cons, DHs.length t]
theorem DHs.get {H : Hp} : ∀ {vs : List V} {ds : List PyData} {i : Nat} {d : PyData}, DHs H vs ds → ds[i]? = some d → ∃ v, vs[i]? = some v ∧ DH H v d
  | _, _, _, _, .nil, e => by simp at e
  | _, _, 0, _, .cons h _, e => by simp at e; subst e; exact ⟨_, rfl, h⟩
  | _, _, i + 1, d, .cons _ t, e => by
    obtain ⟨v, h1, h2⟩ := DHs.get (i := i) (d := d) t (by simpa using e)
    exact ⟨v, by simpa using h1, h2⟩
theorem DHs.append {H : Hp} : ∀ {vs us : List V} {ds es : List PyData}, DHs H vs ds → DHs H us es → DHs H (vs ++ us) (ds ++ es)
  | _, _, _, _, .nil, s => s
  | _, _, _, _, .cons r t, s => .cons r (DHs.append t s)
theorem DHs.ints {H : Hp} : ∀ r : List Int, DHs H (r.map V.int) (r.map PyData.int)
  | [] => .nil
  | i :: r => .cons (.int i) (DHs.ints r)

def tyD : PyData → String
  | .none => "NoneType" | .bool _ => "bool" | .int _ => "int" | .str _ => "str" | .list _ => "list" | .tuple _ => "tuple" | .dict _ => "dict"
theorem DH.ty {K : PySem.W.Frag} {H : Hp} {v : V} {d : PyData} (h : DH H v d) : TyOf K H v (.type (tyD d)) := by
  cases h with
  | non => exact .non
  | bl b => exact .bl b
  | int i => exact .int i
  | str x => exact .str x
  | lst ha _ => exact .lst ha
  | tup ha _ => exact .tup ha
structure OkD (d : PyData) (n k : Nat) : Prop where
  sh : d.showable = true
  lv : d.leavesShort 13 = true
  bk : d.bulk ≤ n
  dp : d.depth ≤ k
  nd : d.hasDict = false
def okB (d : PyData) (n k : Nat) : Bool := d.showable && (d.leavesShort 13 && (decide (d.bulk ≤ n) && (decide (d.depth ≤ k) && !d.hasDict)))
theorem OkD.of {d : PyData} {n k : Nat} (h : okB d n k = true) : OkD d n k := by
  unfold okB at h
  simp only [Bool.and_eq_true, decide_eq_true_eq, Bool.not_eq_true'] at h
  exact ⟨h.1, h.2.1, h.2.2.1, h.2.2.2.1, h.2.2.2.2⟩
theorem OkD.mono {d : PyData} {n k m j : Nat} (h : OkD d n k) (h1 : n ≤ m) (h2 : k ≤ j) : OkD d m j := ⟨h.sh, h.lv, Nat.le_trans h.bk h1, Nat.le_trans h.dp h2, h.nd⟩
theorem OkD.int {i : Int} (h : i.natAbs ≤ 999999999999) : OkD (.int i) 0 0 := by
  refine ⟨?_, ?_, by simp [PyData.bulk], by simp [PyData.depth], by simp [PyData.hasDict]⟩
  · simp only [PyData.showable, decide_eq_true_eq]
    have : i.natAbs.log2 ≤ 40 := by
      rcases Nat.eq_zero_or_pos i.natAbs with z | z
      · rw [z]; decide
      · exact Nat.le_of_lt_succ ((Nat.log2_lt (by omega)).mpr (by omega))
    omega
  · simp only [PyData.leavesShort, decide_eq_true_eq]
    exact PyData.shown_int_le2 (i := i) (by omega) (by omega)
structure OkDs (ds : List PyData) (n k : Nat) : Prop where
  sh : PyData.showableAll ds = true
  lv : PyData.leavesShortAll 13 ds = true
  bk : PyData.bulkAll ds ≤ n
  dp : PyData.depthAll ds ≤ k
  nd : PyData.hasDictAll ds = false
theorem OkDs.nil {k : Nat} : OkDs [] 0 k := ⟨by simp [PyData.showableAll], by simp [PyData.leavesShortAll], by simp [PyData.bulkAll], by simp [PyData.depthAll], by simp [PyData.hasDictAll]⟩
theorem OkDs.cons {d : PyData} {ds : List PyData} {n m k : Nat} (h : OkD d n k) (t : OkDs ds m k) : OkDs (d :: ds) (n + 1 + m) k := by
  refine ⟨by simp [PyData.showableAll, h.sh, t.sh], by simp [PyData.leavesShortAll, h.lv, t.lv], ?_, ?_, by simp [PyData.hasDictAll, h.nd, t.nd]⟩
  · simp only [PyData.bulkAll]; have := h.bk; have := t.bk; omega
  · simp only [PyData.depthAll]; have := h.dp; have := t.dp; omega
theorem OkDs.all {n k : Nat} : ∀ {ds : List PyData}, (∀ d ∈ ds, OkD d n k) → OkDs ds ((n + 1) * ds.length) k
  | [], _ => by simpa using OkDs.nil
  | d :: ds, h => by
    have z := OkDs.cons (h d List.mem_cons_self) (OkDs.all fun e he => h e (List.mem_cons_of_mem _ he))
    rw [List.length_cons, Nat.mul_succ, Nat.add_comm]; exact z
theorem OkDs.lst {ds : List PyData} {n k : Nat} (h : OkDs ds n k) : OkD (.list ds) n (k + 1) :=
  ⟨by simpa [PyData.showable] using h.sh, by simpa [PyData.leavesShort] using h.lv, by simpa [PyData.bulk] using h.bk, by have := h.dp; simp only [PyData.depth]; omega, by simpa [PyData.hasDict] using h.nd⟩
theorem OkDs.tup {ds : List PyData} {n k : Nat} (h : OkDs ds n k) : OkD (.tuple ds) n (k + 1) :=
  ⟨by simpa [PyData.showable] using h.sh, by simpa [PyData.leavesShort] using h.lv, by simpa [PyData.bulk] using h.bk, by have := h.dp; simp only [PyData.depth]; omega, by simpa [PyData.hasDict] using h.nd⟩
theorem OkDs.mono {ds : List PyData} {n k m j : Nat} (h : OkDs ds n k) (h1 : n ≤ m) (h2 : k ≤ j) : OkDs ds m j := ⟨h.sh, h.lv, Nat.le_trans h.bk h1, Nat.le_trans h.dp h2, h.nd⟩

section
variable {X : Cx} {e : Expr} {es : List Expr} {d : PyData} {ds : List PyData} {pos : Pos}
end
structure SE (X : Cx) (e : Expr) (t : TE) : Prop where
  go : PE X e t
structure S1 (X : Cx) (st : Stmt) (t : TS) : Prop where
  go : PS X st t
section
variable {X : Cx} {st : Stmt} {rest : List Stmt} {t u : TS} {e a b : Expr} {te ta tb : TE} {pos : Pos}
theorem s1 (h : PS X st t) : S1 X st t := ⟨h⟩
theorem se (h : PE X e te) : SE X e te := ⟨h⟩
end
end L2
namespace L2
open PySem PySem.Spec PyProof.Rows
def NoCtx (h : Heap) (e : Addr) : Prop := ∃ o fs, h.get? e = some o ∧ o.data = .fields fs ∧ fs[2]? = some Value.none
structure FlyC (base : Heap) (l : List Env) (e : Addr) (cls a0 : Value) (h : Heap) : Prop where
  w : Heap.FlyingW base l e cls a0 h
  c : NoCtx h e
section
variable {M : Model} {A : Around} {E : Value → Shared → Prop} {s : Shared}
theorem NoCtx.set {h : Heap} {e a : Addr} (c : NoCtx h e) {oa : Obj} {fa : Array Value} (ha : h.get? a = some oa) (da : oa.data = .fields fa) (i : Nat) (v : Value) (n : a = e → i ≠ 2) : NoCtx (h.update a (Obj.mapFields (·.setIfInBounds i v))) e := by
  obtain ⟨o, fs, he, hd, h2⟩ := c
  by_cases z : a = e
  · subst z
    rw [ha] at he; cases he
    rw [da] at hd; cases hd
    have d' := Obj.data_mapFields da (·.setIfInBounds i v)
    refine ⟨_, _, Heap.get?_update_self _ ha (Obj.isFreed_of_fields d'), d', ?_⟩
    have := n rfl
    rw [Array.getElem?_setIfInBounds_ne this]; exact h2
  · exact ⟨o, fs, by rw [Heap.get?_update_other _ _ z]; exact he, hd, h2⟩
theorem rest_c {base : Heap} {l : List Env} {e : Addr} {cls a0 fl : Value} {Q : Unit → Shared → Prop} (kb : base.StaysIn s.heap) (ff : s.heap.FunFrames base l) (tr : s.heap.TracedAtW base e cls a0 fl) (c : NoCtx s.heap e)
    (k : ∀ h', base.StaysIn h' → h'.FunFrames base l → h'.TracedW base e cls a0 → NoCtx h' e → s.heap.UpToSlots h' → Q () { s with heap := h' }) : wpAny M A (setFlight (.ref e) none) Q E s := by
  obtain ⟨o, fs, tb, ot, ts, he, hcls, hd, h1, ntb, tbe, htb, dtb, h3⟩ := tr
  have lt3 := (Array.getElem?_eq_some_iff.mp h3).1
  have go : ∀ h', h' = s.heap.update tb (Obj.mapFields (·.setIfInBounds 3 Value.none)) → Q () { s with heap := h' } := fun h' eh => by
    have off : ∀ b, b ≠ tb → h'.get? b = s.heap.get? b := fun b nb => by rw [eh]; exact Heap.get?_update_other _ _ (Ne.symm nb)
    have nof : ∀ b ob, s.heap.get? b = some ob → (∀ vs, ob.data ≠ .fields vs) → b ≠ tb := fun b ob eb nf z => by
      rw [z, htb] at eb; cases eb; exact nf _ dtb
    have d' := Obj.data_mapFields dtb (·.setIfInBounds 3 Value.none)
    refine k h' (fun b ob eb => ?_) (ff.of_keeps fun b ob eb nf => ⟨ob, ?_, rfl⟩) ⟨o, fs, tb, _, _, ?_, hcls, hd, h1, ntb, tbe, ?_, d', ?_⟩ ?_ fun b ob eb nf => ⟨ob.slots, ?_⟩
    · rw [off b fun z => by rw [z, ntb] at eb; cases eb]; exact kb b ob eb
    · rw [off b (nof b ob eb nf)]; exact eb
    · rw [off e tbe.symm]; exact he
    · rw [eh]; exact Heap.get?_update_self _ htb (Obj.isFreed_of_fields d')
    · rw [Array.getElem?_setIfInBounds_self_of_lt lt3]
    · rw [eh]; exact c.set htb dtb 3 _ fun _ => by decide
    · rw [off b (nof b ob eb nf)]; exact eb
  unfold setFlight
  refine wpAny_bind (wpAny_field he hd h1 ?_)
  rw [if_pos (by simp)]
  exact wpAny_setField htb dtb lt3 (go _ rfl)
theorem ent_c {base : Heap} {env : Env} {outer : List Env} {L e : Addr} {oe : Obj} {fs : Array Value} {head a0 : Value} {nx : Bool} {Q : Unit → Shared → Prop} (fr : A.frames = some (env :: outer)) (ff : s.heap.FunFrames base (env :: outer)) (hf : env.frame = some L)
    (he : s.heap.get? e = some oe) (kb : base.StaysIn s.heap) (nb : base.get? e = none) (hd : oe.data = .fields fs) (lt1 : 1 < fs.size) (h0 : fs[0]? = some a0) (h2 : fs[2]? = some Value.none)
    (k : ∀ h', base.StaysIn h' → h'.FunFrames base (env :: outer) → h'.TracedAtW base e oe.cls a0 (rawInt L) → NoCtx h' e → s.heap.UpToSlots h' → Q () { s with heap := h' }) :
    wpAny M A (do let f ← frameOf env; let pl ← entryPlaceOf L nx; let en ← EntryCells.newEntry head f .none (rawInt L) .none pl; setField (.ref e) 1 en) Q E s := by
  have eo : e ∉ (env :: outer).filterMap (·.frame) := fun z => by
    obtain ⟨_, ob, eb, nf⟩ := ff.mem z
    rw [he] at eb; cases eb; exact nf _ hd
  refine wpAny_bind (wpAny_frameOf_fun fr ff hf fun g ⟨_, sl1, sl2⟩ => wpAny_bind (wpAny_entryPlaceOf fun pl ip => ?_))
  unfold EntryCells.newEntry newFields
  refine wpAny_bind (wpAny_newObj_type ?_ (ip.sizeOk5 _ _ _ _ _))
  have eg : g.get? e = some oe := (sl1 e eo).trans he
  have kg : base.StaysIn g := fun b ob eb => (sl1 b fun z => by rw [(ff.mem z).1] at eb; cases eb).trans (kb b ob eb)
  generalize hcells : ([head, .ref L, .none, rawInt L, .none] ++ (if pl.isEmpty then List.replicate 6 Value.none else pl)).toArray = cells
  have c3 : cells[3]? = some (rawInt L) := by
    rw [← hcells]
    rcases ip with rfl | ⟨_, _, _, _, _, _, _, rfl⟩ <;> simp
  have ep := Heap.get?_push_of_some (h := g) { cls := .type "traceback", dict := none, data := .fields cells } eg
  refine wpAny_setField ep hd lt1 ?_
  have ne : g.objs.size ≠ e := Nat.ne_of_gt (Heap.lt_size eg)
  have d' := Obj.data_mapFields hd (·.setIfInBounds 1 (Value.ref g.objs.size))
  have gp : ∀ b ob, b ≠ e → g.get? b = some ob → ((g.push { cls := .type "traceback", dict := none, data := .fields cells }).update e (Obj.mapFields (·.setIfInBounds 1 (Value.ref g.objs.size)))).get? b = some ob := fun b ob n eb => by
    rw [Heap.get?_update_other _ _ (Ne.symm n)]
    exact Heap.get?_push_of_some _ eb
  have nof : ∀ b ob, s.heap.get? b = some ob → (∀ vs, ob.data ≠ .fields vs) → b ≠ e := fun b ob eb nf z => by
    rw [z, he] at eb; cases eb; exact nf _ hd
  have es := Heap.get?_update_self (Obj.mapFields (·.setIfInBounds 1 (Value.ref g.objs.size))) ep (Obj.isFreed_of_fields d')
  refine k _ (fun b ob eb => gp b ob (fun z => by rw [z, nb] at eb; cases eb) (kg b ob eb)) (ff.of_keeps fun b ob eb nf => ?_) ⟨_, _, g.objs.size, { cls := .type "traceback", dict := none, data := .fields cells }, cells, es, ⟨Obj.cls_mapFields _ _, ?_⟩, d', ?_, kg.fresh, ne, ?_, rfl, c3⟩ ⟨_, _, es, d', ?_⟩ fun b ob eb nf => ?_
  · obtain ⟨sl, e2⟩ := sl2 b ob eb
    exact ⟨_, gp b _ (nof b ob eb nf) e2, rfl⟩
  · rw [Array.getElem?_setIfInBounds_ne (by decide)]; exact h0
  · rw [Array.getElem?_setIfInBounds_self_of_lt lt1]
  · rw [Heap.get?_update_other _ _ (Ne.symm ne)]; exact Heap.get?_push_size g rfl
  · rw [Array.getElem?_setIfInBounds_ne (by decide)]; exact h2
  · obtain ⟨sl, e2⟩ := sl2 b ob eb
    exact ⟨sl, gp b _ (nof b ob eb nf) e2⟩
theorem note_c {base : Heap} {env : Env} {outer : List Env} {L e : Addr} {cls a0 : Value} {Q : Unit → Shared → Prop} (fr : A.frames = some (env :: outer)) (hf : env.frame = some L) (F : FlyC base (env :: outer) e cls a0 s.heap)
    (k : ∀ h', base.StaysIn h' → h'.FunFrames base (env :: outer) → h'.TracedAtW base e cls a0 (rawInt L) → NoCtx h' e → s.heap.UpToSlots h' → Q () { s with heap := h' }) : wpAny M A (noteFrame (.ref e) env) Q E s := by
  obtain ⟨⟨kb, nb, ff, o, fs, tb, ot, ts, he, ⟨hcls, h0⟩, hd, h1, ntb, tbe, htb, dtb, h3⟩, c⟩ := F
  subst hcls
  have c2 : fs[2]? = some Value.none := by
    obtain ⟨o', fs', e', d', z⟩ := c
    rw [he] at e'; cases e'; rw [hd] at d'; cases d'; exact z
  have lt3 := (Array.getElem?_eq_some_iff.mp h3).1
  unfold noteFrame
  simp only [hf]
  refine wpAny_bind (wpAny_field he hd h1 ?_)
  rw [if_pos (by simp)]
  refine wpAny_bind (wpAny_field htb dtb h3 ?_)
  rw [if_neg (by simp [rawInt])]
  refine wpAny_bind (wpAny_setField htb dtb lt3 ?_)
  have off : ∀ b, b ≠ tb → (s.heap.update tb (Obj.mapFields (·.setIfInBounds 3 Value.none))).get? b = s.heap.get? b := fun b n => Heap.get?_update_other _ _ (Ne.symm n)
  have nof : ∀ b ob, s.heap.get? b = some ob → (∀ vs, ob.data ≠ .fields vs) → b ≠ tb := fun b ob eb nf z => by
    rw [z, htb] at eb; cases eb; exact nf _ dtb
  refine ent_c fr (ff.of_keeps fun b ob eb nf => ⟨ob, (off b (nof b ob eb nf)).trans eb, rfl⟩) hf ((off e (Ne.symm tbe)).trans he) (fun b ob eb => (off b fun z => by rw [z, ntb] at eb; cases eb).trans (kb b ob eb)) nb hd (Array.getElem?_eq_some_iff.mp h1).1 h0 c2 fun h' y1 y2 y3 y4 y5 => ?_
  exact k h' y1 y2 y3 y4 fun b ob eb nf => y5 b ob ((off b (nof b ob eb nf)).trans eb) nf
theorem leaves_onC {base : Heap} {env : Env} {outer : List Env} {L e : Addr} {cls a0 : Value} {Q : Unit → Shared → Prop} (fr : A.frames = some (env :: outer)) (hf : env.frame = some L) (F : FlyC base (env :: outer) e cls a0 s.heap)
    (k : ∀ h', FlyC base outer e cls a0 h' → s.heap.UpToSlots h' → Q () { s with heap := h' }) : wpAny M A (leaving env (.ref e)) Q E s := by
  unfold leaving
  refine wpAny_bind (note_c fr hf F fun g y1 y2 y3 y4 y5 => ?_)
  refine rest_c y1 y2 y3 y4 fun h' z1 z2 z3 z4 z5 => ?_
  obtain ⟨_, _, z2⟩ := z2
  exact k h' ⟨⟨z1, F.w.2.1, z2, z3⟩, z4⟩ (y5.trans z5)
theorem looks_onC {base : Heap} {env : Env} {outer : List Env} {L e : Addr} {cls a0 : Value} {Q : Unit → Shared → Prop} (fr : A.frames = some (env :: outer)) (hf : env.frame = some L) (F : FlyC base (env :: outer) e cls a0 s.heap)
    (k : ∀ h', Heap.HeldW base (env :: outer) e cls a0 L h' → NoCtx h' e → s.heap.UpToSlots h' → Q () { s with heap := h' }) : wpAny M A (noteFrame (.ref e) env) Q E s :=
  note_c fr hf F fun h' y1 y2 y3 y4 y5 => k h' ⟨y1, F.w.2.1, y2, y3⟩ y4 y5
theorem landsC {base : Heap} {l : List Env} {e L : Addr} {cls a0 : Value} {Q : Unit → Shared → Prop} (hh : Heap.HeldW base l e cls a0 L s.heap) (c : NoCtx s.heap e) (k : ∀ h', FlyC base l e cls a0 h' → s.heap.UpToSlots h' → Q () { s with heap := h' }) : wpAny M A (setFlight (.ref e) none) Q E s :=
  rest_c hh.1 hh.2.2.1 hh.2.2.2 c fun h' z1 z2 z3 z4 z5 => k h' ⟨⟨z1, hh.2.1, z2, z3⟩, z4⟩ z5
theorem lands_againC {base : Heap} {l : List Env} {e : Addr} {cls a0 : Value} {Q : Unit → Shared → Prop} (F : FlyC base l e cls a0 s.heap) (k : ∀ h', FlyC base l e cls a0 h' → s.heap.UpToSlots h' → Q () { s with heap := h' }) : wpAny M A (setFlight (.ref e) none) Q E s :=
  rest_c F.w.1 F.w.2.2.1 F.w.2.2.2.at F.c fun h' z1 z2 z3 z4 z5 => k h' ⟨⟨z1, F.w.2.1, z2, z3⟩, z4⟩ z5
theorem leaves_madeC {base h : Heap} {env : Env} {outer : List Env} {L e : Addr} {cls : Value} {args : List Value} {Q : Unit → Shared → Prop} (fr : A.frames = some (env :: outer)) (hf : env.frame = some L) (kb : base.StaysIn h) (ff : h.FunFrames base (env :: outer)) (mx : Heap.MadeExcOf h s.heap e cls args)
    (k : ∀ h' t, FlyC base outer e cls (.ref t) h' → s.heap.UpToSlots h' → Q () { s with heap := h' }) : wpAny M A (leaving env (.ref e)) Q E s := by
  obtain ⟨t, he, tn, ht⟩ := mx.there
  have nb : base.get? e = none := by
    cases q : base.get? e with
    | none => rfl
    | some ob => exact absurd (kb e ob q) (by rw [mx.new]; exact fun z => nomatch z)
  unfold leaving noteFrame
  simp only [hf]
  refine wpAny_bind (wpAny_bind (wpAny_field he rfl (x := .none) rfl ?_))
  rw [if_neg (by decide)]
  refine ent_c (a0 := .ref t) fr (ff.of_keeps fun b ob eb _ => ⟨ob, mx.keeps b ob eb, rfl⟩) hf he (fun b ob eb => mx.keeps b ob (kb b ob eb)) nb rfl (by show 1 < 6; decide) rfl rfl fun g y1 y2 y3 y4 y5 => ?_
  refine rest_c y1 y2 y3 y4 fun h' z1 z2 z3 z4 z5 => ?_
  obtain ⟨_, _, z2⟩ := z2
  exact k h' t ⟨⟨z1, nb, z2, z3⟩, z4⟩ (y5.trans z5)
end
end L2
namespace L2
open PySem PySem.Spec PyProof.Rows
structure Fly (P : Program) (w : World) (outer : List Env) (H : Hp) (s : Shared) (ea : Addr) (cls a0 : Value) (B : Heap) (H' : Hp) (s' : Shared) : Prop where
  os : s'.os = s.os
  bare : AllBare s'.gens
  un : Un (frs outer) [] H H' s.heap s'.heap
  hok : HOk P w H' B
  old : ∀ b o, s.heap.get? b = some o → H b = none → b ∉ frs outer → B.get? b = some o
  some : ∀ b o, s.heap.get? b = some o → b ∉ frs outer → ∃ o', B.get? b = some o'
  fly : FlyC B outer ea cls a0 s'.heap
  new : H' ea = none
def FlyX (P : Program) (w : World) : CXT := fun outer H s E e s' => ∃ (ea : Addr) (cls a0 : Value) (B : Heap) (H' : Hp), e = .ref ea ∧ Fly P w outer H s ea cls a0 B H' s' ∧ E cls none H'
section
variable {X : Cx} {pins : List (Addr × Obj)} {σ : St} {H H' : Hp} {s s' : Shared} {B h'' : Heap}
theorem frs_cons {env : Env} {l : List Env} {L : Addr} (h : env.frame = some L) : frs (env :: l) = L :: frs l := by
  unfold frs; rw [List.filterMap_cons, h]
theorem fly_out (I : Inv X pins σ H s) (hs : X.stack = X.env :: X.outer) (hx : X.ex = []) (un : Un (frs X.stack) [] H H' s.heap s'.heap) (h1 : ∀ b o, s.heap.get? b = some o → H b = none → b ∉ frs X.stack → B.get? b = some o)
    (h2 : ∀ b o, s.heap.get? b = some o → b ∉ frs X.stack → ∃ o', B.get? b = some o') (hk : B.StaysIn h'') (up : s'.heap.UpToSlots h'') :
    Un (frs X.outer) [] X.H_0 H' X.s_0.heap h'' ∧ (∀ b o, X.s_0.heap.get? b = some o → X.H_0 b = none → b ∉ frs X.outer → B.get? b = some o) ∧ (∀ b o, X.s_0.heap.get? b = some o → b ∉ frs X.outer → ∃ o', B.get? b = some o') := by
  have nx : ∀ b : Addr, b ∉ X.ex := fun b z => by rw [hx] at z; cases z
  have ns : ∀ b o, X.s_0.heap.get? b = some o → b ∉ frs X.outer → b ∉ frs X.stack := fun b o e n z => by
    rcases List.mem_cons.mp (I.stkSub b z) with e1 | e1
    · have := Nat.lt_of_lt_of_le (Heap.lt_size e) I.ok.above
      rw [e1] at this; exact absurd this (Nat.lt_irrefl _)
    · exact n e1
  have k1 : ∀ b o, X.s_0.heap.get? b = some o → X.H_0 b = none → b ∉ frs X.outer → B.get? b = some o := fun b o e n nf => h1 b o (I.base.keep b o e n nf (nx b)) (I.base.free b o e n (nx b)) (ns b o e nf)
  have k2 : ∀ b o, X.s_0.heap.get? b = some o → b ∉ frs X.outer → ∃ o', B.get? b = some o' := fun b o e nf => by
    obtain ⟨o', e'⟩ := I.base.there b o e (nx b)
    exact h2 b o' e' (ns b o e nf)
  have sl : ∀ b o, X.s_0.heap.get? b = some o → X.H_0 b = none → b ∈ frs X.outer → ∃ sl, h''.get? b = some { o with slots := sl } := fun b o e n hb => by
    obtain ⟨_, o2, e2, nd⟩ := I.ok.funs.mem hb
    rw [e] at e2; cases e2
    obtain ⟨l1, e1⟩ := I.base.slot b o e n hb (nx b)
    have hb' : b ∈ frs X.stack := by
      rcases I.ok.stk with z | ⟨z, hf⟩
      · rw [z]; exact hb
      · rw [z, frs_cons hf]; exact List.mem_cons_of_mem _ hb
    obtain ⟨l2, e2⟩ := un.slot b _ e1 (I.base.free b o e n (nx b)) hb' (by simp)
    obtain ⟨l3, e3⟩ := up b _ e2 nd
    exact ⟨l3, e3⟩
  refine ⟨⟨fun b o e n nf _ => hk _ _ (k1 b o e n nf), fun b o e n hb _ => sl b o e n hb, fun b o e n _ => ?_, fun b o e _ => ?_, fun b xs e => un.tups b xs (I.base.tups b xs e), fun b o u e => un.frzs b o u (I.base.frzs b o u e), fun b ps e => ?_⟩, k1, k2⟩
  · obtain ⟨o', e'⟩ := I.base.there b o e (nx b)
    exact un.free b o' e' (I.base.free b o e n (nx b)) (by simp)
  · by_cases hb : b ∈ frs X.outer
    · obtain ⟨l, q⟩ := sl b o e (I.ok.frf b hb) hb
      exact ⟨_, q⟩
    · obtain ⟨o', q⟩ := k2 b o e hb
      exact ⟨o', hk _ _ q⟩
  · obtain ⟨m1, e1⟩ := I.base.tbls b ps e
    obtain ⟨m2, e2⟩ := un.tbls b _ e1
    exact ⟨m1 ++ m2, by rw [e2, Array.append_assoc]⟩
end
section
variable {P : Program} {w : World} {K : PySem.W.Frag} {mg : Str → Option Value} {base : Heap} {N : List Str} {qual : Str} {scope : Scope} {f : Addr} {cd : Value} {A : Around} {outer : List Env} {s : Shared} {H : Hp} {E : XK}
theorem passF : Passes (FlyX P w) (cxOf (FlyX P w) P w K mg base N qual scope f cd A outer s H E) E := by
  intro pins σ H1 s1 e s' I h
  obtain ⟨ea, cls, a0, B, H', rfl, F, q⟩ := h
  show wpAny (model P w) (A.deeper (envOfC qual scope s.heap.objs.size f cd)) (leaving (envOfC qual scope s.heap.objs.size f cd) (.ref ea)) (fun _ s'' => FlyX P w outer H s E (.ref ea) s'') (fun e' s'' => FlyX P w outer H s E e' s'') s'
  refine leaves_onC (base := B) (outer := outer) (L := s.heap.objs.size) I.ok.frames rfl F.fly fun h'' fl up => ?_
  obtain ⟨z1, z2, z3⟩ := fly_out (X := cxOf (FlyX P w) P w K mg base N qual scope f cd A outer s H E) I rfl rfl F.un F.old F.some fl.w.1 up
  exact ⟨ea, cls, a0, B, H', rfl, ⟨F.os.trans I.os, F.bare, z1, F.hok, z2, z3, fl, F.new⟩, q⟩
theorem HOk.sub {H : Hp} {h B : Heap} (x : HOk P w H h) (k : ∀ b u o, H b = some u → h.get? b = some o → B.get? b = some o) : HOk P w H B := fun a o e =>
  (x a o e).stay (fun b u hb q => by
    rcases hb with rfl | hb
    · exact k _ _ _ e q
    · exact k _ _ _ hb q) (fun _ q => q) fun _ _ q => q
theorem funs_base {h b1 b2 : Heap} : ∀ {l : List Env}, h.FunFrames b1 l → (∀ b ∈ frs l, b2.get? b = none) → h.FunFrames b2 l
  | [], _, _ => trivial
  | env :: l, ⟨hk, ⟨L, o, hf, hn, ho, hd⟩, hr⟩, hb => ⟨hk, ⟨L, o, hf, hb L (by rw [frs_cons hf]; exact List.mem_cons_self), ho, hd⟩, funs_base hr fun b hb' => hb b (by rw [frs_cons hf]; exact List.mem_cons_of_mem _ hb')⟩
structure XCls (K : PySem.W.Frag) (mg : Str → Option Value) (x : Str) (C : Addr) : Prop where
  bound : mg x = some (.ref C)
  exc : PySem.W.excIn K C [.type "ValueError", .type "Exception", .type "BaseException", .type "object"] "ValueError.__new__" = true
theorem XCls.own {x : Str} {C : Addr} (c : XCls K mg x C) {h : Heap} (X : K.In h) : OwnCls x C [.type "ValueError", .type "Exception", .type "BaseException", .type "object"] "ValueError.__new__" mg h := by
  refine ⟨c.bound, ?_⟩
  have q := c.exc
  unfold PySem.W.excIn at q
  split at q
  · rename_i dd cd sl ho
    split at q
    · rename_i C' bm k0 k1 k2 k3 n k5 hm hs
      simp only [Bool.and_eq_true, beq_iff_eq, Bool.not_eq_true'] at q
      obtain ⟨⟨⟨⟨⟨rfl, rfl⟩, hdel⟩, ht⟩, hok⟩, hni⟩ := q
      obtain ⟨nm, bs, mro, ns, qn, hd, sn, sub, ab, col, del⟩ := cd
      dsimp only at hm hdel hok hni
      subst hm hdel
      have hsl : sl = #[k0, k1, k2, k3, some (.builtin "ValueError.__new__"), k5] := by
        obtain ⟨l⟩ := sl
        simp only at hs
        rw [hs]
      subst hsl
      exact ⟨bm, ns, nm, qn, bs, hd, sn, sub, ab, col, dd, k0, k1, k2, k3, k5, _, X _ _ ho, .of_isNs (PySem.W.isNs_of_in X hok), PySem.W.nsMap_none_of_in X hok hni, PySem.W.tail_of_in X ht⟩
    · cases q
  · cases q
theorem ObjOk.ex {H : Hp} {h : Heap} {a : Addr} {o : HO} (x : ObjOk P w H h a o) : ∃ u, h.get? a = some u := by
  cases o with
  | lst xs => obtain ⟨_, _, _, _, e⟩ := x; exact ⟨_, e⟩
  | tup xs => obtain ⟨_, _, _, ob, e, _⟩ := x; exact ⟨_, e⟩
  | dK kvs => obtain ⟨_, _, _, _, o, _, _, e, _⟩ := x; exact ⟨_, e⟩
  | dT kvs => obtain ⟨_, _, _, _, o, _, _, e, _⟩ := x; exact ⟨_, e⟩
  | dN kvs => obtain ⟨_, _, _, _, o, _, _, e, _⟩ := x; exact ⟨_, e⟩
  | set S n => obtain ⟨o, _, _, _, e, _⟩ := x; exact ⟨_, e⟩
  | ins C dx fs => obtain ⟨_, _, _, e, _⟩ := x; exact ⟨_, e⟩
  | own y => exact x
  | xd fs => obtain ⟨_, ⟨_, _, _, e, _⟩, _⟩ := x; exact ⟨_, e⟩
  | rng lo hi => obtain ⟨_, _, _, e⟩ := x; exact ⟨_, e⟩
  | frz ob u => obtain ⟨e, _⟩ := x; exact ⟨_, e⟩
  | tbl ps => exact ⟨_, (show h.get? a = some _ from x)⟩
  | met f y => exact ⟨_, (show h.get? a = some _ from x)⟩
  | ext φ => obtain ⟨_, e, _⟩ := x; exact e
theorem HOk.noneOf {H : Hp} {h : Heap} {a : Addr} (x : HOk P w H h) (e : h.get? a = none) : H a = none := by
  cases q : H a with
  | none => rfl
  | some o => obtain ⟨u, e'⟩ := ObjOk.ex (x a o q); rw [e] at e'; cases e'
def tRaise (C : Addr) (E : XK) (t : TA) : TS := fun _ σ H => t σ H fun xs H1 => xs.length ≤ sizeLine ∧ E (.ref C) none H1
theorem ps_raise {x : Str} {C : Addr} {np cpos pos : Pos} {e₀ : Expr} {rest : List Expr} {t : TA} (hh : A.handled = none) (c : XCls K mg x C) (hg : Gl (cxOf (FlyX P w) P w K mg base N qual scope f cd A outer s H E) x)
    (ha : PA (cxOf (FlyX P w) P w K mg base N qual scope f cd A outer s H E) (e₀ :: rest) t)
    (he : starEach (e₀ :: rest) (envOfC qual scope s.heap.objs.size f cd) = (false, eval e₀ (envOfC qual scope s.heap.objs.size f cd)) :: starEach rest (envOfC qual scope s.heap.objs.size f cd) := by rfl)
    (hplain : (backTo cpos (starEach rest (envOfC qual scope s.heap.objs.size f cd))).any (·.1) = false := by rfl) (hd : (x == ("__debug__" : Str)) = false := by decide) :
    PS (cxOf (FlyX P w) P w K mg base N qual scope f cd A outer s H E) (.Raise (some (.Call (.Name x np) (e₀ :: rest) [] cpos)) none pos) (tRaise C E t) := by
  intro pins s1 σ H1 D I h
  obtain ⟨tl, Nn, nm, q, bs, hdct, sn, sub, ab, col, dd, k0, k1, k2, k3, k5, mN, hC, hN, hni, T⟩ := (c.own I.mod.kin).obj
  show wpAny (model P w) (A.deeper (envOfC qual scope s.heap.objs.size f cd)) (exec (.Raise (some (.Call (.Name x np) (e₀ :: rest) [] cpos)) none pos) (envOfC qual scope s.heap.objs.size f cd)) _ _ s1
  refine wpAny_Raise_call_subT (C := C) (nm := nm) (q := q) (N := Nn) (bs := bs) (bm := tl) (hdct := hdct) (sn := sn) (sub := sub) (ab := ab) (col := col) (dd := dd) (k0 := k0) (k1 := k1) (k2 := k2) (k3 := k3) (k5 := k5)
    PySem.F.excBase_ValueError (mN := mN) (T.hasType (by rfl)) hh (by rw [he]; show (false || (backTo cpos (starEach rest (envOfC qual scope s.heap.objs.size f cd))).any (·.1)) = false; rw [hplain]; rfl) hni (ld_glob I hg c.bound ⟨rfl, ?_⟩ hd)
  have hv := ha (pos := cpos) pins s1 σ H1 _ I h
  rw [show (cxOf (FlyX P w) P w K mg base N qual scope f cd A outer s H E).env = envOfC qual scope s.heap.objs.size f cd from rfl, he] at hv
  rw [he]
  refine Calls.evalArgs_plain (wpAny_mono hv (fun us s₂ ⟨xs, H2, I2, r, hz, qE⟩ => ⟨rfl, by rw [← r.length]; exact hz, I2.bk _ _ hC, hN.keeps I2.bk, T.keeps I2.bk, fun h' e mx => ?_⟩) fun _ _ y => y)
  have stk : (cxOf (FlyX P w) P w K mg base N qual scope f cd A outer s H E).stack = envOfC qual scope s.heap.objs.size f cd :: outer := rfl
  have hB : ∀ b o, s₂.heap.get? b = some o → b ∉ frs (envOfC qual scope s.heap.objs.size f cd :: outer) → (PySem.W.hideAll s₂.heap (frs (envOfC qual scope s.heap.objs.size f cd :: outer))).get? b = some o := fun b o e n => PySem.W.hideAll_get _ e n
  show wpAny (model P w) (A.deeper (envOfC qual scope s.heap.objs.size f cd)) (leaving (envOfC qual scope s.heap.objs.size f cd) (.ref e)) (fun _ s'' => FlyX P w outer H s E (.ref e) s'') (fun e' s'' => FlyX P w outer H s E e' s'') { s₂ with heap := h' }
  refine leaves_madeC (base := PySem.W.hideAll s₂.heap (frs (envOfC qual scope s.heap.objs.size f cd :: outer))) (h := s₂.heap) (outer := outer) (L := s.heap.objs.size) I2.ok.frames rfl (fun b o e => PySem.W.of_hideAll _ e) (funs_base I2.stack fun b hb => PySem.W.hideAll_none _ hb) mx fun h'' t fl up => ?_
  obtain ⟨z1, z2, z3⟩ := fly_out (X := cxOf (FlyX P w) P w K mg base N qual scope f cd A outer s H E) (s' := { s₂ with heap := h' }) I2 rfl rfl (Un.kept mx.keeps) (fun b o e _ n => hB b o e n) (fun b o e n => ⟨o, hB b o e n⟩) fl.w.1 up
  refine ⟨e, .ref C, .ref t, _, H2, rfl, ⟨I2.os, I2.bare, z1, I2.hok.sub fun b u o hb e => hB b o e fun z => ?_, z2, z3, fl, I2.hok.noneOf mx.new⟩, qE⟩
  rw [I2.stkFree b z] at hb; cases hb
end
end L2
namespace L2
open PySem PySem.Spec PyProof.Rows
def Exc (ea : Addr) (cls : Value) : HO := .ext fun h => ∃ o ws, h.get? ea = some o ∧ o.cls = cls ∧ o.data = .fields ws ∧ ws[2]? = some Value.none
theorem exc_ok {P : Program} {w : World} {H : Hp} {h : Heap} {ea : Addr} {cls : Value} (h1 : ∃ o ws, h.get? ea = some o ∧ o.cls = cls ∧ o.data = .fields ws ∧ ws[2]? = some Value.none) : ObjOk P w H h ea (Exc ea cls) :=
  ⟨h1, let ⟨o, _, e, _⟩ := h1; ⟨o, e⟩, fun a b ⟨o, ws, e, r⟩ k => ⟨o, ws, k o e, r⟩⟩
section
variable {X : Cx} {pins : List (Addr × Obj)} {σ : St} {H H' : Hp} {s s' : Shared} {B h'' : Heap} {ea : Addr} {cls a0 : Value}
theorem fly_in (I : Inv X pins σ H s) (F : Fly X.prog X.w X.stack H s ea cls a0 B H' s') (fl : FlyC B X.stack ea cls a0 h'') (up : s'.heap.UpToSlots h'') : Inv X pins σ (upd H' ea (Exc ea cls)) { s' with heap := h'' } := by
  have hB : B.get? ea = none := fl.w.2.1
  obtain ⟨oe, ws, he, hc, hd, _⟩ := fl.w.first
  have h2 : ws[2]? = some Value.none := by
    obtain ⟨o', fs', e', d', z⟩ := fl.c
    rw [he] at e'; cases e'; rw [hd] at d'; cases d'; exact z
  have neA : ∀ b o, s.heap.get? b = some o → b ≠ ea := fun b o e z => by
    subst z
    by_cases hb : b ∈ frs X.stack
    · obtain ⟨_, o2, e2, nd⟩ := fl.w.2.2.1.mem hb
      rw [he] at e2; cases e2; exact nd _ hd
    · obtain ⟨o', q⟩ := F.some b o e hb
      rw [hB] at q; cases q
  have sl : ∀ b o, s.heap.get? b = some o → H b = none → b ∈ frs X.stack → ∃ l, h''.get? b = some { o with slots := l } := fun b o e n hb => by
    obtain ⟨_, o2, e2, nd⟩ := I.stack.mem hb
    rw [e] at e2; cases e2
    obtain ⟨l2, e2⟩ := F.un.slot b o e n hb (by simp)
    obtain ⟨l3, e3⟩ := up b _ e2 nd
    exact ⟨l3, e3⟩
  have un : Un (frs X.stack) [] H (upd H' ea (Exc ea cls)) s.heap h'' := by
    refine ⟨fun b o e n nf _ => fl.w.1 _ _ (F.old b o e n nf), fun b o e n hb _ => sl b o e n hb, fun b o e n _ => ?_, fun b o e _ => ?_, fun b xs e => ?_, fun b o u e => ?_, fun b ps e => ?_⟩
    · rw [upd_ne (neA b o e)]; exact F.un.free b o e n (by simp)
    · by_cases hb : b ∈ frs X.stack
      · obtain ⟨l, q⟩ := sl b o e (I.stkFree b hb) hb
        exact ⟨_, q⟩
      · obtain ⟨o', q⟩ := F.some b o e hb
        exact ⟨o', fl.w.1 _ _ q⟩
    · have z := F.un.tups b xs e
      rw [upd_ne (ne_of_none z F.new)]; exact z
    · have z := F.un.frzs b o u e
      rw [upd_ne (ne_of_none z F.new)]; exact z
    · obtain ⟨m, z⟩ := F.un.tbls b ps e
      exact ⟨m, by rw [upd_ne (ne_of_none z F.new)]; exact z⟩
  have hok : HOk X.prog X.w (upd H' ea (Exc ea cls)) h'' := fun b u e => by
    by_cases hb : b = ea
    · subst hb; rw [upd_same] at e; cases e; exact exc_ok ⟨oe, ws, he, hc, hd, h2⟩
    · rw [upd_ne hb] at e
      exact ((F.hok.kept fl.w.1) b u e).stay (fun c v _ q => q) (fun c q => by rw [upd_ne (ne_of_none q F.new)]; exact q) fun c xs q => by rw [upd_ne (ne_of_none q F.new)]; exact q
  exact I.call' (s' := { s' with heap := h'' }) (ch := []) F.os un hok F.bare (fun b z => absurd z (by simp))
abbrev Cx.handler (X : Cx) (ea : Addr) : Cx := { X with A := X.A.mark (some (.ref ea)), calm := false, xe := fun _ _ => False }
theorem Inv.toHandler (I : Inv X pins σ H s) (ea : Addr) : Inv (X.handler ea) pins σ H s :=
  ⟨⟨I.ok.mod, I.ok.kind, I.ok.glob, I.ok.blt, I.ok.above, I.ok.inj, I.ok.has, I.ok.cab, fun z => (nomatch z), I.ok.frames, I.ok.stk, I.ok.exf, I.ok.bs, I.ok.bsz, I.ok.noex, I.ok.exfs, I.ok.funs, I.ok.frf⟩, I.os, I.bare, I.base, I.loc, I.cell, I.free, I.freeC, I.pin, I.hok, I.len⟩
theorem Inv.ofHandler {ea : Addr} (ok : X.Ok) (I : Inv (X.handler ea) pins σ H s) : Inv X pins σ H s := ⟨ok, I.os, I.bare, I.base, I.loc, I.cell, I.free, I.freeC, I.pin, I.hok, I.len⟩
theorem Inv.toWish (I : Inv X pins σ H s) (E : Value → Shared → Prop) : Inv (X.wish E) pins σ H s := ⟨I.ok.wish E, I.os, I.bare, I.base, I.loc, I.cell, I.free, I.freeC, I.pin, I.hok, I.len⟩
theorem Inv.ofWish {E : Value → Shared → Prop} (I : Inv (X.wish E) pins σ H s) : Inv X pins σ H s := ⟨I.ok.unwish, I.os, I.bare, I.base, I.loc, I.cell, I.free, I.freeC, I.pin, I.hok, I.len⟩
abbrev Cx.pinned (X : Cx) (pins : List (Addr × Obj)) : Cx := { X with pn := X.pn ++ pins }
theorem Cx.Ok.pinned (ok : X.Ok) (pins : List (Addr × Obj)) : (X.pinned pins).Ok :=
  ⟨ok.mod, ok.kind, ok.glob, ok.blt, ok.above, ok.inj, ok.has, ok.cab, ok.hd, ok.frames, ok.stk, ok.exf, ok.bs, ok.bsz, ok.noex, ok.exfs, ok.funs, ok.frf⟩
theorem Cx.Ok.unpinned {pins : List (Addr × Obj)} (ok : (X.pinned pins).Ok) : X.Ok :=
  ⟨ok.mod, ok.kind, ok.glob, ok.blt, ok.above, ok.inj, ok.has, ok.cab, ok.hd, ok.frames, ok.stk, ok.exf, ok.bs, ok.bsz, ok.noex, ok.exfs, ok.funs, ok.frf⟩
theorem Inv.pinIn (I : Inv X pins σ H s) : Inv (X.pinned pins) [] σ H s :=
  ⟨I.ok.pinned pins, I.os, I.bare, I.base, I.loc, I.cell, I.free, I.freeC, fun p hp => I.pin p (by rw [List.append_nil] at hp; exact hp), I.hok, I.len⟩
theorem Inv.pinOut {pins' : List (Addr × Obj)} (I : Inv (X.pinned pins) pins' σ H s) : Inv X pins σ H s :=
  ⟨I.ok.unpinned, I.os, I.bare, I.base, I.loc, I.cell, I.free, I.freeC, fun p hp => I.pin p (List.mem_append_left _ hp), I.hok, I.len⟩
theorem unbind_ok {M : Model} {A : Around} {E : Value → Shared → Prop} {i : Nat} {x : Str} {v : V} {Q : Unit → Shared → Prop} (I : Inv X pins σ H s) (hN : X.N.Nodup) (hi : X.N[i]? = some x) (hk : X.env.scope.names.lookup x = some .local) (hv : σ[i]? = some (some v))
    (h : ∀ s', Inv X pins (σ.set i none) H s' → Q () s') : wpAny M A (unbindName X.env x) Q E s := by
  obtain ⟨m, hn, hl⟩ := id I.loc
  have hcls : (X.env.scope.kind == .class || (X.env.scope.kind == .module && X.env.locals != X.env.globals)) = false := by rw [I.ok.kind]; rfl
  have hiσ : i < σ.length := by rw [I.len]; exact (List.getElem?_eq_some_iff.mp hi).1
  have cne := I.cne
  obtain ⟨u0, r0, lk⟩ := hl i x v hi hv (.inl hk)
  have hm : m x = some u0 := by
    rcases lk with ⟨_, z⟩ | ⟨z, _⟩
    · exact z
    · have z : X.env.scope.names.lookup x = some .cell ∨ X.env.scope.names.lookup x = some .free := z
      rw [hk] at z; rcases z with z | z <;> cases z
  have tracked : ∀ {h' : Heap}, Heap.SameBut X.env.locals s.heap h' → HOk X.prog X.w H h' := fun {h'} hs b ob e => by
    refine (I.hok b ob e).stay (fun c w' hc q => (hs.2 c ?_).trans q) (fun _ q => q) fun _ _ q => q
    rintro rfl
    rcases hc with z | hc
    · rw [← z, I.free] at e; cases e
    · rw [I.free] at hc; cases hc
  refine wpAny_unbindName_local hk hn hm hcls fun h' u hn' hs => ?_
  refine h _ ⟨I.ok, I.os, I.bare, ⟨fun b o e n hb hx => ?_, fun b o e n hb hx => ?_, I.base.free, fun b o e hx => ?_, I.base.tups, I.base.frzs, I.base.tbls⟩, ⟨_, hn', fun j y v' e1 e2 e3 => ?_⟩, fun y c e => ?_, I.free, I.freeC, fun p hp => ?_, tracked hs, by simpa using I.len⟩
  · exact (hs.2 b (Nat.ne_of_lt (Nat.lt_of_lt_of_le (Heap.lt_size e) I.ok.above))).trans (I.base.keep b o e n hb hx)
  · obtain ⟨sl, e1⟩ := I.base.slot b o e n hb hx
    exact ⟨sl, (hs.2 b (Nat.ne_of_lt (Nat.lt_of_lt_of_le (Heap.lt_size e) I.ok.above))).trans e1⟩
  · obtain ⟨o', e1⟩ := I.base.there b o e hx
    exact ⟨o', (hs.2 b (Nat.ne_of_lt (Nat.lt_of_lt_of_le (Heap.lt_size e) I.ok.above))).trans e1⟩
  · by_cases hj : j = i
    · subst hj
      rw [List.getElem?_set_self hiσ] at e2
      cases e2
    · rw [List.getElem?_set_ne (Ne.symm hj)] at e2
      obtain ⟨u', r', q⟩ := hl j y v' e1 e2 e3
      refine ⟨u', r', ?_⟩
      rcases q with ⟨k, e⟩ | ⟨k, c, e, z⟩
      · refine .inl ⟨k, ?_⟩
        have : y ≠ x := fun e => hj (nodup_ix hN e1 (e ▸ hi))
        simp [this, e]
      · exact .inr ⟨k, c, e, z.sameBut hs (cne y c e)⟩
  · obtain ⟨w', z⟩ := I.cell y c e
    exact ⟨w', z.sameBut hs (cne y c e)⟩
  · obtain ⟨e, n, ne, nf, d⟩ := I.pin p hp
    exact ⟨(hs.2 p.1 ne).trans e, n, ne, nf, d⟩
end
abbrev CK := Value → St → Hp → Prop
def Caught (X : Cx) (R : CK) : Value → Shared → Prop := fun e s' => ∃ (pins : List (Addr × Obj)) (σ : St) (H1 : Hp) (s1 : Shared) (ea : Addr) (cls a0 : Value) (B : Heap) (H' : Hp), e = .ref ea ∧ Inv X pins σ H1 s1 ∧ Fly X.prog X.w X.stack H1 s1 ea cls a0 B H' s' ∧ R cls σ H'
section
variable {X : Cx}
end
end L2
namespace PySem.W
open PySem PySem.Spec PySem.Calls PyProof.Rows
open Builtin Builtin.ObjectAttr Builtin.Getset_descriptor
section
variable {K : Frag} {M : Model} {h : Heap} {x C : Addr} {o : Obj}
structure XK1 (K : Frag) (C : Addr) : Prop where
  ga : findIn K (.ref C) "__getattribute__" = some (some (.builtin "BaseException.__getattribute__"))
  hk : findIn K (.ref C) "__getattr__" = some none
  ha : findIn K (.ref C) "__class__" = some (some (.builtin "object.__class__"))
  hn : specialIn K (.builtin "object.__class__") "__get__" = some (some (.builtin "getset_descriptor.__get__"))
  htk : takesIn K (.builtin "object.__class__") = some true
  hm : mroIn K C (.type "object") = some true
  hb : mroIn K C (.type "BaseException") = some true
  cl : (clsIn K C).isSome = true
theorem find_class (X : K.In h) (k : XK1 K C) : Looks M h (find (.ref x) (.ref C) "__class__") (.bind (.builtin "getset_descriptor.__get__") (.builtin "object.__class__")) := by
  have L1 := looks_findIn (M := M) X k.ha
  have L2 : Looks M h (getOf (some (.builtin "object.__class__"))) (some (.builtin "getset_descriptor.__get__")) := looks_specialIn X k.hn
  have L3 := looks_takesIn (M := M) X k.htk
  refine L1.andThen (L2.andThen ?_)
  exact (show Looks M h (dataDescriptor? (some (.builtin "object.__class__")) (some (.builtin "getset_descriptor.__get__"))) (some (.builtin "getset_descriptor.__get__", .builtin "object.__class__")) from L3.andThen .now).andThen (Looks.tag .now)
variable {prog : Program} {w : World} {A : Around} {E : Value → Shared → Prop} {s : Shared} {R : Result → Shared → Prop}
theorem exc_class_get {tp : Value} (X : K.In s.heap) (L0 : Looks (model prog w) s.heap (typeOf (.ref x)) (.ref C)) (hm : mroIn K C (.type "object") = some true)
    (h : R (.ok (.ret (.ref C))) s) : codeAny (model prog w) A (.call (.builtin "getset_descriptor.__get__") ⟨[.builtin "object.__class__", .ref x, tp], []⟩) R s := by
  obtain ⟨hh, g, dr, t, os⟩ := s
  have L1 := looks_mroIn (M := model prog w) X hm
  refine codeAny_call_builtin KF.slot_gs.plain KF.entry_gs (KF.slot_gs.check _ _ _ _ _ _ _ _ KF.type_class (KF.args_gs _ _ _) ?_)
  unfold Builtin.«getset_descriptor.__get__» descrGet
  rw [dga_obj]
  refine wpAny_bind (wpAny_pure ?_)
  unfold descrGetter descrCheckInstance descrNameAndClass isInstance
  simp only [KF.owner_class]
  repeat lk
  refine ⟨Code.quiet_builtin _ (by decide +kernel), codeAny_builtin KF.entry_class ?_⟩
  unfold Builtin.«object.__class__» shownTypeOf
  repeat lk
  exact h
theorem exc_ga {tk : Tok} (X : K.In s.heap) (L0 : Looks (model prog w) s.heap (typeOf (.ref x)) (.ref C)) (k : XK1 K C) (h : R (.ok (.ret (.ref C))) s) :
    codeAny (model prog w) A (.call (.builtin "BaseException.__getattribute__") ⟨[.ref x, .str "__class__" tk], []⟩) R s := by
  obtain ⟨hh, g, dr, t, os⟩ := s
  have LB := looks_mroIn (M := model prog w) X k.hb
  have LF := find_class (M := model prog w) (x := x) X k
  refine codeAny_call_builtin PySem.F.excAttr_ValueError.ga.plain PySem.F.entry_bexc_ga ?_
  have hk1 : builtinKind "BaseException.__getattribute__" = some .slot := by decide +kernel
  have hsplit : splitId "BaseException.__getattribute__" = some ("BaseException", "__getattribute__") := by decide +kernel
  have ha := PySem.F.args_bexc_ga (.ref x) (.str "__class__" tk)
  simp only [checkBuiltinCall, hk1, hsplit]
  refine wpAny_bind ?_
  unfold isInstance
  repeat (first | lk | wp_step)
  show wpAny _ A.in1 (run (Code.call (Value.builtin "getset_descriptor.__get__") ⟨[Value.builtin "object.__class__", Value.ref x, Value.ref C], []⟩)) _ _ _
  exact wpAny_run (exc_class_get X L0 k.hm (wpAny_pure (wpAny_pure h)))
theorem exc_attr {Q : Option Value → Shared → Prop} (X : K.In s.heap) (L0 : Looks (model prog w) s.heap (typeOf (.ref x)) (.ref C)) (k : XK1 K C) (h : Q (some (.ref C)) { s with toks := s.toks + 1 }) :
    wpAny (model prog w) A (getAttr? (.ref x) "__class__") Q E s := by
  obtain ⟨hh, g, d, t, os⟩ := s
  have L1 := looks_findIn (M := model prog w) X k.ga
  have L2 := looks_findIn (M := model prog w) X k.hk
  unfold getAttr? getAttrBy? getAttrBy
  refine wpAny_bind (wpAny_mkText (wpAny_bind (wpAny_attempt (wpAny_holding (wpAny_bind (L0.at (wpAny_bind (L1.at ?_))))))))
  show wpAny _ _ (getAttrByItsOwn _ _ _ _ _ _) _ _ _
  unfold getAttrByItsOwn hookBefore callGetattribute boundAndCalled
  refine wpAny_bind (L2.at (wpAny_bind (wpAny_attempt (wpAny_holding ?_))))
  rw [if_neg (by decide)]
  have f3 := PySem.F.excAttr_ValueError.ga.bind (.ref x)
  rw [f3]
  refine wpAny_bind (wpAny_pure (wpAny_call (exc_ga (s := ⟨hh, g, d, t + 1, os⟩) X L0 k ?_)))
  exact wpAny_pure (wpAny_pure h)
theorem kitx_exc (k : XK1 K C) : KitX K (.ref x) (.ref C) (fun h => ∃ o, h.get? x = some o ∧ o.cls = .ref C) where
  ty := fun _ _ _ ⟨o, e, c⟩ => c ▸ (Looks.ld e).andThen .now
  it := fun _ _ X _ => by
    obtain ⟨cdD, hcD⟩ := Option.isSome_iff_exists.mp k.cl
    unfold clsIn at hcD
    split at hcD
    · rename_i c' d' cd' sl' ho
      intro A' Q' E' s' k q
      unfold isType loadHead
      exact wpAny_bind (wpAny_loadPart (k _ _ (X _ _ ho)) (wpAny_pure q))
    · cases hcD
  ne := fun h tp dd its n sl X htp => by
    obtain ⟨cdD, hcD⟩ := Option.isSome_iff_exists.mp k.cl
    refine Bool.eq_false_iff.mpr fun q => ?_
    have e : C = tp := Value.ref.inj (beq_iff_eq.mp q)
    subst e
    unfold clsIn at hcD
    split at hcD
    · rename_i c' d' cd' sl' ho
      have z := (X _ _ ho).symm.trans htp
      cases z
    · cases hcD
  ca := fun X ⟨o, e, c⟩ q => exc_attr X (c ▸ (Looks.ld e).andThen .now) k q
end
end PySem.W
namespace L2
open PySem PySem.Spec PyProof.Rows
def rIsiX (K : PySem.W.Frag) : List V → Hp → VK → Prop := fun xs H Q => ∃ ea C, H ea = some (Exc ea (.ref C)) ∧ PySem.W.XK1 K C ∧
  ((∃ c b, xs = [.ref ea, .ref c] ∧ PySem.W.kitOne K (.ref C) (.ref c) = some b ∧ Q (.bl b) H) ∨ (∃ n b, xs = [.ref ea, .ty n] ∧ PySem.W.kitOne K (.ref C) (.type n) = some b ∧ Q (.bl b) H) ∨
    (∃ (tp : Addr) (cs : List Addr) (b : Bool), xs = [.ref ea, .ref tp] ∧ H tp = some (.tup (cs.map V.ref)) ∧ PySem.W.kitAny K (.ref C) (cs.map Value.ref) = some b ∧ Q (.bl b) H))
theorem vals_refs : ∀ {cs : List Addr} {us : List Value}, Vals (cs.map V.ref) us → us = cs.map Value.ref
  | [], _, .nil => rfl
  | c :: cs, _, .cons r t => by rw [vals_refs t, show _ = Value.ref c from r]; rfl
theorem cr_isiX {X : Cx} : CallR X (.builtin "isinstance") (rIsiX X.K) := by
  intro pins s σ H xs us Q I r h
  obtain ⟨ea, C, he, k, h⟩ := h
  obtain ⟨⟨o, ws, e1, e2, e3⟩, _, _⟩ := I.hok ea _ he
  have Z := PySem.W.kitx_exc (x := ea) k
  rcases h with ⟨c, b, rfl, e, q⟩ | ⟨n, b, rfl, e, q⟩ | ⟨tp, cs, b, rfl, ht, e, q⟩
  · cases r with
    | cons r1 r2 => cases r2 with
      | cons r2 r3 =>
        cases r3; cases r1; cases r2
        exact PySem.W.kia_one Z I.kIn ⟨o, e1, e2⟩ e (fun z => nomatch z) fun tk => ⟨.bl b, H, I.tok tk, rfl, q⟩
  · cases r with
    | cons r1 r2 => cases r2 with
      | cons r2 r3 =>
        cases r3; cases r1; cases r2
        exact PySem.W.kia_one Z I.kIn ⟨o, e1, e2⟩ e (fun z => nomatch z) fun tk => ⟨.bl b, H, I.tok tk, rfl, q⟩
  · cases r with
    | cons r1 r2 => cases r2 with
      | cons r2 r3 =>
        cases r3; cases r1; cases r2
        obtain ⟨_, its, rv, ot, h1, h2, n, h3, _⟩ := I.hok tp _ ht
        have ei := vals_refs rv
        subst ei
        obtain ⟨oc, od, da, sl⟩ := ot
        dsimp only at h2 h3
        subst h2 h3
        exact PySem.W.kia_tup Z I.kIn ⟨o, e1, e2⟩ h1 e (fun z => nomatch z) fun tk => ⟨.bl b, H, I.tok tk, rfl, q⟩
theorem run_fnS {X : Cx} {CX : CXT} {k : Nat} {f : Addr} {fd : FuncData} {ps : List Str} {sp : Sp} {E : XK} {pins : List (Addr × Obj)} {σ : St} {H : Hp} {s : Shared} {Q : VK} {us : List Value} {vs : List V} (F : FnOk X.prog X.w X.K X.mg X.base CX k f fd ps sp) (hr : Room k X.A) (hb : Binds X.K fd ps [])
    (hx : ∀ e s', CX X.stack H s E e s' → X.xe e s') (I : Inv X pins σ H s) (r : Vals vs us) (h : sp vs H Q E) : wpAny (model X.prog X.w) X.A (call (.ref f) us) (EP X pins σ Q) X.xe s := by
  have hl : (us ++ []).length = ps.length := by rw [List.append_nil, ← r.length]; exact F.len _ _ _ _ h
  refine wpAny_call (codeAny_mono (F.run X.A X.stack s H ⟨us, []⟩ (us ++ []) vs Q E hr I.env0 (hb s us I.kIn hl) (by rw [List.append_nil]; exact r) h) fun r s' hq => ?_)
  cases r with
  | error e => exact hx e s' hq
  | ok fl =>
    cases fl with
    | ret u => exact I.after hq
    | next => exact False.elim hq
    | brk => exact False.elim hq
    | cont => exact False.elim hq
structure FV (P : Program) (w : World) (K : PySem.W.Frag) (mg : Str → Option Value) (base : Heap) (CX : CXT) (k : Nat) (f : Addr) (ps : List Str) (sp : Sp) : Prop where
  ex : ∃ fd, FnOk P w K mg base CX k f fd ps sp ∧ PySem.W.keepIn K (.ref f) = true ∧ Binds K fd ps []
structure RoomH (k : Nat) (A : Around) : Prop where
  dp : A.depth + 3 * k + 5 < recursionLimit
  un : A.units + 16 * k + 200 < cLine
  gd : A.guards = some []
theorem Room.h {k : Nat} {A : Around} (r : Room k A) (e : Option Value) : RoomH k (A.mark e) := ⟨r.dp, r.un, r.gd⟩
theorem RoomH.mono {j k : Nat} {A : Around} (r : RoomH k A) (h : j ≤ k) : RoomH j A := ⟨by have := r.dp; omega, by have := r.un; omega, r.gd⟩
theorem RoomH.deeper {k : Nat} {A : Around} (r : RoomH (k + 1) A) (env : Env) : RoomH k (A.deeper env) :=
  ⟨by have := r.dp; show A.depth + 1 + 3 * k + 5 < _; omega, by have := r.un; show A.units + 3 + 16 * k + 200 < _; omega, r.gd⟩
structure FnH (P : Program) (w : World) (K : PySem.W.Frag) (mg : Str → Option Value) (base : Heap) (k : Nat) (f : Addr) (fd : FuncData) (ps : List Str) (sp : Sp) : Prop where
  len : ∀ vs H Q E, sp vs H Q E → vs.length = ps.length
  run : ∀ (A : Around) (outer : List Env) (s : Shared) (H : Hp) (args : Args) (us : List Value) (vs : List V) (Q : VK) (E : XK), RoomH k A → Env0 P w K mg base A outer s H → BindsTo s fd args (ps.zip us) → Vals vs us → sp vs H Q E →
    codeAny (model P w) A (.call (.ref f) args) (CR CX0 outer P w H s Q E) s
abbrev Cx.uncalm (X : Cx) : Cx := { X with calm := false, xe := fun _ _ => False }
theorem fn_ofH {P : Program} {w : World} {K : PySem.W.Frag} {mg : Str → Option Value} {base : Heap} {k : Nat} {f : Addr} {name qual : Str} {params : Arguments} {body : List Stmt} {scope : Scope} {dV kV doc pm cdv ct oc : Value} {an od : Option Addr}
    {osl : Array (Option Value)} {N ps : List Str} {sp : Sp} (lk : K.lookup f = some ⟨oc, od, .func (PySem.W.fnOf name qual params body scope dV kV doc pm an cdv ct), osl⟩) (hcd : PySem.W.codeIn K cdv qual = true) (S : FnScope N ps scope)
    (len : ∀ vs H Q E, sp vs H Q E → vs.length = ps.length)
    (hbody : ∀ (A : Around) (outer : List Env) (s : Shared) (H : Hp) (vs : List V) (Q : VK) (E : XK), RoomH k (A.deeper (envOfC qual scope s.heap.objs.size f cdv)) → sp vs H Q E →
      ∃ t, PSs (cxOf CX0 P w K mg base N qual scope f cdv A outer s H E).uncalm body t ∧ t { nx := fun _ H' => Q .non H', rt := Q } (start N vs) H) :
    FnH P w K mg base (k + 1) f (PySem.W.fnOf name qual params body scope dV kV doc pm an cdv ct) ps sp := by
  refine ⟨len, fun A outer s H args us vs Q E hr e0 hb r hsp => ?_⟩
  have hl := len _ _ _ _ hsp
  have KX : K.In s.heap := e0.mod.kin.keeps fun b o e => (e0.bs b o e).1
  have lim : s.heap.NoLimit := e0.mod.nolimit.keeps fun b o e => (e0.bs b o e).1
  have hkind : ∀ y ∈ ps.zip us, scope.names.lookup y.1 = some .local ∨ (scope.names.lookup y.1 = some .cell ∧ ((cellsFrom (s.heap.objs.size + 1) scope.names []).lookup y.1).isSome = true) := fun ⟨n, v⟩ hy => by
    rcases S.par n (List.of_mem_zip hy).1 with q | q
    · exact .inl q
    · exact .inr ⟨q, PySem.W.cellsFrom_some _ _ _ (.inl q)⟩
  refine codeAny_call_function (by have := hr.dp; omega) (KX _ _ lk) rfl S.co S.gen rfl (PySem.W.codeRec_of KX hcd) (hb _ _ _ _ ?_)
  refine wpAny_newFunctionEnv_cells S.kind hkind fun env he s1 x => ?_
  subst he
  refine ⟨lim.keeps x.toInCall.keep, codeAny_func ?_⟩
  obtain ⟨t, ht, hq⟩ := hbody A outer s H vs Q E (hr.deeper _) hsp
  have e0' : Env0 P w K mg base { A with handled := none } outer s H := ⟨e0.frames, e0.mod, e0.bs, e0.bsz, e0.funs, e0.frf, e0.hok, e0.bare⟩
  have I0 : Inv (cxOf CX0 P w K mg base N qual scope f cdv { A with handled := none } outer s H E) [] (start N vs) H s1 := inv_start S rfl e0' hl r x
  have I : Inv (cxOf CX0 P w K mg base N qual scope f cdv A outer s H E).uncalm [] (start N vs) H s1 :=
    ⟨⟨I0.ok.mod, I0.ok.kind, I0.ok.glob, I0.ok.blt, I0.ok.above, I0.ok.inj, I0.ok.has, I0.ok.cab, fun z => (nomatch z), Around.frames_deeper e0.frames, I0.ok.stk, I0.ok.exf, I0.ok.bs, I0.ok.bsz, I0.ok.noex, I0.ok.exfs, I0.ok.funs, I0.ok.frf⟩, I0.os, I0.bare, I0.base, I0.loc, I0.cell, I0.free, I0.freeC, I0.pin, I0.hok, I0.len⟩
  refine wpAny_mono (ht s1 (start N vs) H _ I hq) (fun fl s' hs => ?_) fun e s' hs => hs.elim
  have fin : ∀ {σ' : St} {H' : Hp} {v : V} {u : Value}, Inv (cxOf CX0 P w K mg base N qual scope f cdv A outer s H E).uncalm [] σ' H' s' → RelV v u → Q v H' → CE outer P w H s Q u s' :=
    fun {σ' H' v u} J rv q => ⟨v, H', J.os, J.bare, J.base, J.hok, rv, q⟩
  cases fl with
  | ret u =>
    obtain ⟨v, σ', H', J, rv, q⟩ := hs
    exact fin J rv q
  | next =>
    obtain ⟨σ', H', J, q⟩ := hs
    exact fin (v := V.non) (u := Value.none) J rfl q
  | brk =>
    obtain ⟨_, _, _, q⟩ := hs
    exact False.elim q
  | cont =>
    obtain ⟨_, _, _, q⟩ := hs
    exact False.elim q
def CalH (P : Program) (w : World) (K : PySem.W.Frag) (mg : Str → Option Value) (base : Heap) (k : Nat) (x : Str) (ps : List Str) (sp : Sp) : Prop :=
  ∃ f fd, FnH P w K mg base k f fd ps sp ∧ mg x = some (.ref f) ∧ PySem.W.keepIn K (.ref f) = true ∧ Binds K fd ps []
theorem pe_calH {X : Cx} {k : Nat} {x : Str} {ps : List Str} {sp : Sp} {p pos : Pos} {e : Expr} {es : List Expr} {t : TA} (C : CalH X.prog X.w X.K X.mg X.base k x ps sp) (hr : RoomH k X.A) (hg : Gl X x) (ha : PA X (e :: es) t)
    (hdb : (x == ("__debug__" : Str)) = false := by decide) (he : starEach (e :: es) X.env = (false, eval e X.env) :: starEach es X.env := by rfl) (hpl : (backTo pos (starEach es X.env)).any (·.1) = false := by rfl) :
    PE X (.Call (.Name x p) (e :: es) [] pos) (tCall sp [] E0 t) := by
  obtain ⟨f, fd, F, hm, kp, hb⟩ := C
  intro pins s σ H Q I h
  refine wpAny_Call_Name_kw (ld_glob I hg hm ?_ hdb)
  refine PySem.W.callWith_K (h₀ := X.base) I.ok.mod.kin kp (thn (ha pins s σ H _ I h) fun us s1 ⟨vs, H1, I1, r, q⟩ => ⟨I1.kIn, ?_⟩) he hpl
  have q : sp (vs ++ []) H1 Q E0 := q
  rw [List.append_nil] at q
  have hl : (us ++ []).length = ps.length := by rw [List.append_nil, ← r.length]; exact F.len _ _ _ _ q
  refine wpAny_call (codeAny_mono (F.run X.A X.stack s1 H1 ⟨us, []⟩ (us ++ []) vs Q E0 hr I1.env0 (hb s1 us I1.kIn hl) (by rw [List.append_nil]; exact r) q) fun r s' hq => ?_)
  cases r with
  | error e => exact hq.elim
  | ok fl =>
    cases fl with
    | ret u => exact I1.after hq
    | next => exact False.elim hq
    | brk => exact False.elim hq
    | cont => exact False.elim hq
section
variable {P : Program} {w : World} {K : PySem.W.Frag} {mg : Str → Option Value} {base : Heap}
theorem FT.calH {x : Str} {st : Stmt} {ps : List Str} {f : Addr} {fd : FuncData} {N : List Str} {k : Nat} {sp : Sp} (F : FT K mg x st ps f fd) (S : FnScope N ps (defScope st)) (len : ∀ vs H Q E, sp vs H Q E → vs.length = ps.length)
    (hbody : ∀ (A : Around) (outer : List Env) (s : Shared) (H : Hp) (vs : List V) (Q : VK) (E : XK), RoomH k (A.deeper (envOfC x (defScope st) s.heap.objs.size f fd.code)) → sp vs H Q E →
      ∃ t, PSs (cxOf CX0 P w K mg base N x (defScope st) f fd.code A outer s H E).uncalm (defBody st) t ∧ t { nx := fun _ H' => Q .non H', rt := Q } (start N vs) H) : CalH P w K mg base (k + 1) x ps sp := by
  refine ⟨f, fd, ?_, F.mg, F.fn.kp, F.bd⟩
  obtain ⟨oc, od, kV, doc, pm, an, cdv, ct, osl, rfl, lk, hcd⟩ := F.fn.ex
  exact fn_ofH lk hcd S len hbody
theorem FT.fv {x : Str} {st : Stmt} {ps : List Str} {f : Addr} {fd : FuncData} {N : List Str} {k : Nat} {sp : Sp} (F : FT K mg x st ps f fd) (S : FnScope N ps (defScope st)) (len : ∀ vs H Q E, sp vs H Q E → vs.length = ps.length)
    (hbody : ∀ (A : Around) (outer : List Env) (s : Shared) (H : Hp) (vs : List V) (Q : VK) (E : XK), Room k (A.deeper (envOfC x (defScope st) s.heap.objs.size f fd.code)) → sp vs H Q E →
      ∃ t, PSs (cxOf (FlyX P w) P w K mg base N x (defScope st) f fd.code A outer s H E) (defBody st) t ∧ t { nx := fun _ H' => Q .non H', rt := Q } (start N vs) H) : FV P w K mg base (FlyX P w) (k + 1) f ps sp := by
  obtain ⟨oc, od, kV, doc, pm, an, cdv, ct, osl, e, lk, hcd⟩ := F.fn.ex
  subst e
  exact ⟨_, fn_of lk hcd S len hbody, F.fn.kp, F.bd⟩
end
end L2
namespace L2
open PySem PySem.Spec PyProof.Rows
def CalX (P : Program) (w : World) (K : PySem.W.Frag) (mg : Str → Option Value) (base : Heap) (k : Nat) (x : Str) (ps : List Str) (sp : Sp) : Prop :=
  ∃ f fd, FnOk P w K mg base (FlyX P w) k f fd ps sp ∧ mg x = some (.ref f) ∧ PySem.W.keepIn K (.ref f) = true ∧ Binds K fd ps []
section
variable {P : Program} {w : World} {K : PySem.W.Frag} {mg : Str → Option Value} {base : Heap}
theorem FT.calX {x : Str} {st : Stmt} {ps : List Str} {f : Addr} {fd : FuncData} {N : List Str} {k : Nat} {sp : Sp} (F : FT K mg x st ps f fd) (S : FnScope N ps (defScope st)) (len : ∀ vs H Q E, sp vs H Q E → vs.length = ps.length)
    (hbody : ∀ (A : Around) (outer : List Env) (s : Shared) (H : Hp) (vs : List V) (Q : VK) (E : XK), Room k (A.deeper (envOfC x (defScope st) s.heap.objs.size f fd.code)) → sp vs H Q E →
      ∃ t, PSs (cxOf (FlyX P w) P w K mg base N x (defScope st) f fd.code A outer s H E) (defBody st) t ∧ t { nx := fun _ H' => Q .non H', rt := Q } (start N vs) H) : CalX P w K mg base (k + 1) x ps sp := by
  refine ⟨f, fd, ?_, F.mg, F.fn.kp, F.bd⟩
  obtain ⟨oc, od, kV, doc, pm, an, cdv, ct, osl, rfl, lk, hcd⟩ := F.fn.ex
  exact fn_of lk hcd S len hbody
theorem CalX.mono {j k : Nat} {x : Str} {ps : List Str} {sp : Sp} (C : CalX P w K mg base j x ps sp) (h : j ≤ k) : CalX P w K mg base k x ps sp := by
  obtain ⟨f, fd, G, r⟩ := C
  exact ⟨f, fd, G.mono h, r⟩
theorem CalX.cal {k : Nat} {x : Str} {ps : List Str} {sp : Sp} (C : CalX P w K mg base k x ps sp) : Cal P w K mg base k x ps (fun vs H Q _ => sp vs H Q E0) := by
  obtain ⟨f, fd, G, r⟩ := C
  refine ⟨f, fd, ⟨fun vs H Q E h => G.len vs H Q E0 h, fun A outer s H args us vs Q E hr he hb hv hs => codeAny_mono (G.run A outer s H args us vs Q E0 hr he hb hv hs) fun r s' q => ?_⟩, r⟩
  cases r with
  | ok f =>
    cases f with
    | ret u => exact q
    | next => exact q
    | brk => exact q
    | cont => exact q
  | error e =>
    obtain ⟨_, _, _, _, _, _, _, z⟩ := (show FlyX P w outer H s E0 e s' from q)
    exact z.elim
theorem Cal.imp {k : Nat} {x : Str} {ps : List Str} {sp sp' : Sp} (C : Cal P w K mg base k x ps sp) (h : ∀ vs H Q E, sp' vs H Q E → sp vs H Q E) : Cal P w K mg base k x ps sp' := by
  obtain ⟨f, fd, G, r⟩ := C
  exact ⟨f, fd, G.imp h, r⟩
theorem pe_calX {N : List Str} {qual : Str} {scope : Scope} {f : Addr} {cd : Value} {A : Around} {outer : List Env} {s : Shared} {H : Hp} {E : XK} {k : Nat} {x : Str} {ps : List Str} {sp : Sp} {p pos : Pos} {e : Expr} {es : List Expr} {t : TA}
    (C : CalX P w K mg base k x ps sp) (hr : Room k (cxOf (FlyX P w) P w K mg base N qual scope f cd A outer s H E).A) (hg : Gl (cxOf (FlyX P w) P w K mg base N qual scope f cd A outer s H E) x) (ha : PA (cxOf (FlyX P w) P w K mg base N qual scope f cd A outer s H E) (e :: es) t)
    (hdb : (x == ("__debug__" : Str)) = false := by decide)
    (he : starEach (e :: es) (cxOf (FlyX P w) P w K mg base N qual scope f cd A outer s H E).env = (false, eval e (cxOf (FlyX P w) P w K mg base N qual scope f cd A outer s H E).env) :: starEach es (cxOf (FlyX P w) P w K mg base N qual scope f cd A outer s H E).env := by rfl)
    (hpl : (backTo pos (starEach es (cxOf (FlyX P w) P w K mg base N qual scope f cd A outer s H E).env)).any (·.1) = false := by rfl) :
    PE (cxOf (FlyX P w) P w K mg base N qual scope f cd A outer s H E) (.Call (.Name x p) (e :: es) [] pos) (tCall sp [] E t) := by
  obtain ⟨g, fd, G, hm, kp, b⟩ := C
  exact pe_call (X := cxOf (FlyX P w) P w K mg base N qual scope f cd A outer s H E) G hr hg hm kp b .nil passF ha hdb he hpl
end
def tCallG (sp : Sp) (R : CK) (t : TA) : TE := fun σ H Q => t σ H fun vs H1 => sp vs H1 Q fun cls _ H' => R cls σ H'
theorem pe_callG {X : Cx} {R : CK} {k : Nat} {x : Str} {ps : List Str} {sp : Sp} {p pos : Pos} {e : Expr} {es : List Expr} {t : TA} (C : CalX X.prog X.w X.K X.mg X.base k x ps sp) (hr : Room k X.A) (hg : Gl (X.wish (Caught X R)) x) (ha : PA (X.wish (Caught X R)) (e :: es) t)
    (hdb : (x == ("__debug__" : Str)) = false := by decide) (he : starEach (e :: es) X.env = (false, eval e X.env) :: starEach es X.env := by rfl) (hpl : (backTo pos (starEach es X.env)).any (·.1) = false := by rfl) :
    PE (X.wish (Caught X R)) (.Call (.Name x p) (e :: es) [] pos) (tCallG sp R t) := by
  obtain ⟨f, fd, F, hm, hk, hb⟩ := C
  intro pins s σ H Q I h
  refine wpAny_Call_Name_kw (ld_glob I hg hm ?_ hdb)
  refine PySem.W.callWith_K (h₀ := X.base) I.ok.mod.kin hk (thn (ha pins s σ H _ I h) fun us s2 ⟨vs, H2, I2, r, q⟩ => ⟨I2.kIn, ?_⟩) he hpl
  exact run_fnS (X := X.wish (Caught X R)) F hr hb (fun e' s' ⟨ea, cls, a0, B, H', ee, Fl, qq⟩ => ⟨pins, σ, H2, s2, ea, cls, a0, B, H', ee, I2.ofWish, Fl, qq⟩) I2 r q
end L2
namespace HT
open PySem PyProof.Rows L2
section
variable {prog : Program} {w : World} {A : Around} {E : Value → Shared → Prop} {s : Shared}
end
end HT
namespace L2
open PySem PySem.Spec PyProof.Rows
section
variable {X : Cx}
end
end L2
namespace L2
open PySem PySem.Spec PyProof.Rows
def tTryE (K : PySem.W.Frag) (i : Nat) (C : Addr) (tb : TS) (th : Addr → TS) (R : CK) : TS := fun D σ H => tb D σ H ∧ ∀ cls σ' H', R cls σ' H' → PySem.W.exmOne K cls (.ref C) = some true ∧ ∀ ea, H' ea = none →
  th ea { nx := fun σ2 H2 => D.nx (σ2.set i none) H2, rt := D.rt } (σ'.set i (some (.ref ea))) (upd H' ea (Exc ea cls))
section
variable {X : Cx}
theorem ps_tryE {body suite : List Stmt} {b₀ : Stmt} {n x : Str} {np hpos pos : Pos} {i : Nat} {C : Addr} {tb : TS} {th : Addr → TS} {R : CK} (hs : X.stack = X.env :: X.outer) (hf : X.env.frame = some X.env.locals) (hN : X.N.Nodup) (hi : X.N[i]? = some n) (hk : X.env.scope.names.lookup n = some .local)
    (hg : Gl X x) (hm : X.mg x = some (.ref C)) (hb : ∀ pins, PSs ((X.pinned pins).wish (Caught (X.pinned pins) R)) body tb) (hh : ∀ pins ea, PSs ((X.pinned pins).handler ea) (b₀ :: suite) (th ea)) (hd : (x == ("__debug__" : Str)) = false := by decide) :
    PS X (.Try body [.ExceptHandler (some (.Name x np)) (some n) (b₀ :: suite) hpos] [] [] pos) (tTryE X.K i C tb th R) := by
  intro pins s σ H D I h
  obtain ⟨htb, hth⟩ := h
  refine wpAny_Try_except (wpAny_mono (hb pins s σ H D (I.pinIn.toWish _) htb) (fun f s1 q => ?_) fun e s1 q => ?_)
  · cases f with
    | next =>
      obtain ⟨σ', H', I', q⟩ := q
      exact wpAny_execs_nil ⟨σ', H', I'.ofWish.pinOut, q⟩
    | brk => obtain ⟨σ', H', I', q⟩ := q; exact ⟨σ', H', I'.ofWish.pinOut, q⟩
    | cont => obtain ⟨σ', H', I', q⟩ := q; exact ⟨σ', H', I'.ofWish.pinOut, q⟩
    | ret u => obtain ⟨v, σ', H', I', r, q⟩ := q; exact ⟨v, σ', H', I'.ofWish.pinOut, r, q⟩
  · obtain ⟨pins', σ', H1, s0, ea, cls, a0, B, H', rfl, I0, F, hR⟩ := q
    obtain ⟨hex, hsu⟩ := hth cls σ' H' hR
    have fr : X.A.frames = some (X.env :: X.outer) := by rw [I.ok.frames, hs]
    have fly0 : FlyC B (X.env :: X.outer) ea cls a0 s1.heap := by rw [← hs]; exact F.fly
    refine looks_onC fr hf fly0 fun h4 held c4 up4 => ?_
    refine landsC held c4 fun h5 fl5 up5 => ?_
    have up45 := up4.trans up5
    have I5 : Inv (X.pinned pins) pins' σ' (upd H' ea (Exc ea cls)) { s1 with heap := h5 } := fly_in I0 F (by rw [hs]; exact fl5) up45
    refine wpAny_handleBy_cons (codeAny_handlers_test ?_) (by intro q; cases q)
    refine Calls.Name_function_global I5.ok.kind hg (Calls.loadGlobal_global (by rw [I5.ok.glob]; exact I5.mod.glob.keeps I5.bk) hm ?_) hd
    obtain ⟨oe, ws, he, hc, hdt, _⟩ := fl5.w.first
    have LT : PySem.W.Looks (model X.prog X.w) h5 (typeOf (.ref ea)) cls := hc ▸ (PySem.W.Looks.ld he).andThen .now
    refine (PySem.W.exm_one (K := X.K) I5.kIn LT hex).here ?_
    refine codeAny_handlers_suite_as ?_
    refine lands_againC fl5 fun h6 fl6 up6 => ?_
    have I6 : Inv (X.pinned pins) pins' σ' (upd H' ea (Exc ea cls)) { s1 with heap := h6 } := fly_in I0 F (by rw [hs]; exact fl6) (up45.trans up6)
    refine store_ok (X := X.pinned pins) (v := .ref ea) I6 hN hi (.inl hk) rfl (fun s7 I7 => ?_) (.inr hk)
    refine wpAny_mono (hh pins ea s7 _ _ _ (I7.toHandler ea) (hsu ea F.new)) (fun f s8 q => ?_) fun e s8 q => q.elim
    have fin : ∀ {σ2 : St} {H2 : Hp} (Qf : Flow → Shared → Prop) (f : Flow), Inv ((X.pinned pins).handler ea) pins' σ2 H2 s8 → (∀ s9, Inv (X.pinned pins) pins' (σ2.set i none) H2 s9 → Qf f s9) → wpAny (model X.prog X.w) X.A (do bindName X.env n .none; unbindBehindTheSuite X.env n hpos) (fun _ s9 => Qf f s9) X.xe s8 := fun {σ2 H2} Qf f J k => by
      have J : Inv (X.pinned pins) pins' σ2 H2 s8 := J.ofHandler I0.ok
      refine wpAny_bind (wpAny_bindName (store_ok (X := X.pinned pins) (v := .non) J hN hi (.inl hk) rfl (fun s9 I9 => ?_) (.inr hk)))
      have hlt : i < σ2.length := by rw [J.len]; exact (List.getElem?_eq_some_iff.mp hi).1
      unfold unbindBehindTheSuite
      refine wpAny_onRaise (unbind_ok (X := X.pinned pins) (v := .non) I9 hN hi hk (by rw [List.getElem?_set_self hlt]) fun s10 I10 => ?_)
      rw [List.set_set] at I10
      exact k s10 I10
    cases f with
    | next =>
      obtain ⟨σ2, H2, J, q⟩ := q
      exact fin (SP X pins D) .next J fun s9 I9 => ⟨_, H2, I9.pinOut, q⟩
    | brk => obtain ⟨_, _, _, q⟩ := q; exact q.elim
    | cont => obtain ⟨_, _, _, q⟩ := q; exact q.elim
    | ret u =>
      obtain ⟨v, σ2, H2, J, r, q⟩ := q
      exact fin (SP X pins D) (.ret u) J fun s9 I9 => ⟨v, _, H2, I9.pinOut, r, q⟩
end
end L2
namespace L2
open PySem PySem.Spec PyProof.Rows
open PyProof
section
variable {prog : Program} {w : World} {A : Around} {s : Shared} {E : Value → Shared → Prop}
end
section
variable {X : Cx}
end
end L2
namespace L2
open PySem PySem.Spec PyProof.Rows
def tDead : TS := fun _ _ _ => False
theorem pss_dead {X : Cx} {ss : List Stmt} : PSs X ss tDead := fun _ _ _ _ _ _ h => h.elim
end L2
namespace K25
open PySem L2 DM PM
abbrev s_steps_along : Stmt := top 10
theorem sc_steps_along : FnScope ["crossings", "steps", "sign", "under_in", "under_out", "over_in", "over_out"] ["crossings"] (defScope s_steps_along) := ⟨rfl, rfl, rfl, by decide +kernel, rfl, by decide +kernel, by decide +kernel⟩
abbrev s_names_of : Stmt := top 33
theorem sc_names_of : FnScope ["drawing", "rings", "crossings"] ["drawing"] (defScope s_names_of) := ⟨rfl, rfl, rfl, by decide +kernel, rfl, by decide +kernel, by decide +kernel⟩
def stepKV (cs : List Cr) : List (Key × V) := cs.flatMap fun c => [(.inl c.i1, .int c.o1), (.inl c.i2, .int c.o2)]
theorem step_keys : ∀ cs : List Cr, (stepKV cs).map (·.1) = (insA cs).map Sum.inl
  | [] => rfl
  | c :: cs => by
    show ((.inl c.i1, .int c.o1) :: (.inl c.i2, .int c.o2) :: stepKV cs).map (·.1) = (c.i1 :: c.i2 :: insA cs).map Sum.inl
    rw [List.map_cons, List.map_cons, List.map_cons, List.map_cons, step_keys cs]
theorem stepKV_snoc (cs : List Cr) (c : Cr) : stepKV (cs ++ [c]) = stepKV cs ++ [(.inl c.i1, .int c.o1), (.inl c.i2, .int c.o2)] := by
  unfold stepKV; rw [List.flatMap_append]; simp
theorem ins_len : ∀ cs : List Cr, (insA cs).length = 2 * cs.length
  | [] => rfl
  | c :: cs => by
    show (c.i1 :: c.i2 :: insA cs).length = _
    rw [List.length_cons, List.length_cons, ins_len cs, List.length_cons]; omega
theorem insA_snoc (cs : List Cr) (c : Cr) : insA (cs ++ [c]) = insA cs ++ [c.i1, c.i2] := by
  unfold insA; rw [List.flatMap_append]; simp [Cr.ins]
section
variable {P : Program} {w : World} {K : PySem.W.Frag} {mg : Str → Option Value} {base : Heap}
structure PSa (vs : List V) (H : Hp) (Q : VK) : Prop where
  get : ∃ (b : Addr) (cs : List Cr), vs = [.ref b] ∧ CrsAt H b cs ∧ (insA cs).Nodup ∧ cs.length ≤ 1000 ∧ ∀ (D : Addr) (H' : Hp), Same H H' → H D = none → H' D = some (.dK (stepKV cs)) → Q (.ref D) H'
def sp_steps_along : Sp := fun vs H Q _ => PSa vs H Q
theorem ok_stepsalong {f : Addr} {fd : FuncData} (F : FT K mg "steps_along" s_steps_along ["crossings"] f fd) (T : BN mg) : Cal P w K mg base 1 "steps_along" ["crossings"] sp_steps_along := by
  refine F.cal sc_steps_along (fun vs H Q E h => ?_) (fun A outer s H vs Q E hr h => ?_)
  · obtain ⟨⟨b, cs, rfl, _⟩⟩ := h; rfl
  · obtain ⟨⟨b, cs, rfl, hcr, nd0, cl, q⟩⟩ := h
    have nd := sc_steps_along.nd
    obtain ⟨ps, hb, pp⟩ := id hcr
    have hpl := pp.length
    refine ⟨_, (pss_cons (ps_set (i := 1) nd rfl (Or.inl rfl) pe_dnewK)
      (pss_cons (ps_for PassesOwn.never rfl (pi_list (pv 0)) (pg_tup (by rfl) (pgs_cons (pg_name (i := 2) nd rfl (Or.inl rfl)) (pgs_cons (pg_name (i := 3) nd rfl (Or.inl rfl)) (pgs_cons (pg_name (i := 4) nd rfl (Or.inl rfl)) (pgs_cons (pg_name (i := 5) nd rfl (Or.inl rfl)) (pgs_cons (pg_name (i := 6) nd rfl (Or.inl rfl)) pgs_nil))))))
        (pss_cons (ps_dput (hu_of hr) (pv 1) (pv 3) (pv 4) rfl)
        (pss_one (ps_dput (hu_of hr) (pv 1) (pv 5) (pv 6) rfl))))
      (pss_one (ps_ret (pv 1))))), ?_⟩
    refine fun D hD => ?_
    have bD := ne_of_none hb hD
    have s1 : Same H (upd H D (.dK [])) := Same.new hD
    have h1 : upd H D (.dK []) D = some (.dK []) := upd_same
    try dsimp only
    generalize upd H D (.dK []) = H1 at s1 h1 ⊢
    have hb1 := s1 _ _ hb
    refine ⟨_, rfl, b, rfl, ⟨_, SqL.of hb1⟩, ?_⟩
    refine for_by (D := ⟨_, _, _, _⟩) (n := ps.length) (fun i σ H2 => ∃ v2 v3 v4 v5 v6 : Option V, σ = [some (.ref b), some (.ref D), v2, v3, v4, v5, v6] ∧ H2 D = some (.dK (stepKV (cs.take i))) ∧ SameX D H1 H2) ⟨none, none, none, none, none, rfl, h1, .refl _ _⟩ (fun i σ H2 hi ⟨_, _, _, _, _, _, _, sx⟩ => ⟨_, _, SqL.of (sx _ _ bD hb1), List.getElem?_eq_getElem (by rw [List.length_map]; exact hi)⟩) (fun σ H2 ⟨_, _, _, _, _, _, _, sx⟩ => ⟨_, SqL.of (sx _ _ bD hb1), by rw [List.length_map]; exact Nat.le_refl _⟩) ?_ ?_
    · rintro i σ H2 hi ⟨v2, v3, v4, v5, v6, rfl, hD2, sx⟩ x H' ⟨rfl, hx⟩
      have ex := hx _ (SqL.of (sx _ _ bD hb1))
      obtain ⟨p, ep⟩ : ∃ p, ps[i]? = some p := ⟨_, List.getElem?_eq_getElem hi⟩
      rw [List.getElem?_map, ep] at ex
      cases ex
      obtain ⟨c, ec, hc⟩ := paired_get pp ep
      have hc1' := s1 _ _ hc
      have hc2 := sx _ _ (ne_of hc1' h1 (fun z => nomatch z)) (s1 _ _ hc)
      refine ⟨p, _, rfl, SqT.of hc2, rfl, _, _, rfl, _, _, rfl, _, _, rfl, _, _, rfl, _, _, rfl, rfl, ?_⟩
      have tl : (stepKV (cs.take i)).length ≤ 2000 := by
        have := congrArg List.length (step_keys (cs.take i))
        rw [List.length_map, List.length_map] at this
        have l2 : (insA (cs.take i)).length = 2 * (cs.take i).length := ins_len _
        rw [this, l2, List.length_take]; omega
      have nd1 : (insA (cs.take i ++ [c])).Nodup := by
        have e : insA cs = insA (cs.take (i + 1)) ++ insA (cs.drop (i + 1)) := by
          unfold insA; rw [← List.flatMap_append, List.take_append_drop]
        rw [e] at nd0
        have := (List.nodup_append.mp nd0).1
        rwa [List.take_add_one, ec] at this
      rw [insA_snoc] at nd1
      obtain ⟨_, nd2, dj⟩ := List.nodup_append.mp nd1
      have n1 : (Sum.inl c.i1 : Key) ∉ (stepKV (cs.take i)).map (·.1) := fun z => by
        rw [step_keys] at z
        obtain ⟨y, hy, ey⟩ := List.mem_map.mp z
        exact dj y hy c.i1 (by simp) (Sum.inl.inj ey)
      have n2 : (Sum.inl c.i2 : Key) ∉ (stepKV (cs.take i) ++ [((.inl c.i1 : Key), V.int c.o1)]).map (·.1) := fun z => by
        rw [List.map_append, List.mem_append] at z
        rcases z with z | z
        · rw [step_keys] at z
          obtain ⟨y, hy, ey⟩ := List.mem_map.mp z
          exact dj y hy c.i2 (by simp) (Sum.inl.inj ey)
        · have : c.i2 = c.i1 := by simpa using z
          rw [this] at nd2; simp at nd2
      refine ⟨_, rfl, _, rfl, _, rfl, D, _, rfl, DPut.k (k := .inl c.i1) hD2 (sln (by omega)), ?_⟩
      rw [DM.putK_nk n1]
      refine ⟨_, rfl, _, rfl, _, rfl, D, _, rfl, DPut.k (k := .inl c.i2) upd_same (sln (by rw [List.length_append]; simp; omega)), ?_⟩
      rw [DM.putK_nk n2]
      refine ⟨_, _, _, _, _, rfl, ?_, sx.trans (SameX.upd.trans .upd)⟩
      rw [upd_same, List.take_add_one, ec]
      show _ = some (HO.dK (stepKV (cs.take i ++ [c])))
      rw [stepKV_snoc, List.append_assoc]; rfl
    · rintro σ H2 ⟨v2, v3, v4, v5, v6, rfl, hD2, sx⟩
      rw [hpl, List.take_length] at hD2
      refine ⟨_, rfl, q D H2 (fun c z e => sx _ _ (ne_of_none e hD) (s1 _ _ e)) hD hD2⟩
structure PNa (vs : List V) (H : Hp) (Q : VK) : Prop where
  get : ∃ (d : Addr) (rings : List Int) (cs : List Cr), vs = [.ref d] ∧ DrAt H d rings cs ∧ (insA cs).Nodup ∧ rings.length + (insA cs).length ≤ 4000 ∧ cs.length ≤ 1000 ∧ ∀ (l : Addr) (H' : Hp) (ns : List Int), Same H H' → H l = none → H' l = some (.lst (ns.map V.int)) → ns.Perm (rings ++ insA cs) → ns.Pairwise (· ≤ ·) → Q (.ref l) H'
def sp_names_of : Sp := fun vs H Q _ => PNa vs H Q
theorem sa_of {H : Hp} {b : Addr} {cs : List Cr} {Q : VK} (h : CrsAt H b cs) (n : (insA cs).Nodup) (cl : cs.length ≤ 1000) (k : ∀ (D : Addr) (H' : Hp), Same H H' → H D = none → H' D = some (.dK (stepKV cs)) → Q (.ref D) H') : PSa [.ref b] H Q := ⟨b, cs, rfl, h, n, cl, k⟩
theorem ok_namesof {f : Addr} {fd : FuncData} (F : FT K mg "names_of" s_names_of ["drawing"] f fd) (T : BN mg) (cs : Cal P w K mg base 1 "steps_along" ["crossings"] sp_steps_along) : Cal P w K mg base 2 "names_of" ["drawing"] sp_names_of := by
  refine F.cal sc_names_of (fun vs H Q E h => ?_) (fun A outer s H vs Q E hr h => ?_)
  · obtain ⟨⟨d, rings, cr, rfl, _⟩⟩ := h; rfl
  · obtain ⟨⟨d, rings, cr, rfl, dr, nd0, few, cl, q⟩⟩ := h
    have nd := sc_names_of.nd
    obtain ⟨a, b, hd, ha, hcr⟩ := id dr
    refine ⟨_, (pss_cons (ps_asg (pv 0) (pg_tup (by rfl) (pgs_cons (pg_name (i := 1) nd rfl (Or.inl rfl)) (pgs_cons (pg_name (i := 2) nd rfl (Or.inl rfl)) pgs_nil))))
      (pss_one (ps_ret (pe_callB cr_sortedB' (by rfl) T.sorted (by decide +kernel) (pa_cons (pe_op op_cat (pv 1) (pe_callTy (cr_listD hr.hd) (by rfl) T.list (by decide +kernel) (pa_cons (pe_cal cs (hr.mono (by decide)) (by rfl) (pa_cons (pv 2) pa_nil)) pa_nil))) pa_nil))))), ?_⟩
    refine ⟨_, rfl, d, _, rfl, SqT.of hd, rfl, _, _, rfl, _, _, rfl, rfl, ?_⟩
    refine ⟨_, rfl, _, rfl, sa_of hcr nd0 cl fun D H1 s1 nD hD => ?_⟩
    refine ⟨D, _, rfl, .inl hD, fun l hl => ?_⟩
    have el : (stepKV cr).map (fun p => kV p.1) = (insA cr).map V.int := by
      have := congrArg (List.map kV) (step_keys cr)
      rw [List.map_map, List.map_map] at this; exact this
    rw [el]
    have s2 : Same H1 (upd H1 l (.lst ((insA cr).map V.int))) := Same.new hl
    have h2 : upd H1 l (.lst ((insA cr).map V.int)) l = some (.lst ((insA cr).map V.int)) := upd_same
    try dsimp only
    generalize upd H1 l (.lst ((insA cr).map V.int)) = H2 at s2 h2 ⊢
    have s12 := s1.trans s2
    refine ⟨a, l, _, _, rfl, rfl, s12 _ _ ha, h2, Nat.le_of_lt (sln (by rw [List.length_map, List.length_map]; omega)), fun p hp => ?_⟩
    rw [← List.map_append]
    have s3 : Same H2 (upd H2 p (.lst ((rings ++ insA cr).map V.int))) := Same.new hp
    have h3 : upd H2 p (.lst ((rings ++ insA cr).map V.int)) p = some (.lst ((rings ++ insA cr).map V.int)) := upd_same
    try dsimp only
    generalize upd H2 p (.lst ((rings ++ insA cr).map V.int)) = H3 at s3 h3 ⊢
    refine ⟨p, _, rfl, SqL.of h3, fun ns l2 perm rising new => ?_⟩
    have s13 := s12.trans s3
    exact q l2 _ ns (s13.trans (Same.new new)) (s13.free new) upd_same perm rising
theorem na_of {H : Hp} {d : Addr} {rings : List Int} {cs : List Cr} {Q : VK} (dr : DrAt H d rings cs) (n : (insA cs).Nodup) (few : rings.length + (insA cs).length ≤ 4000) (cl : cs.length ≤ 1000) (k : ∀ (l : Addr) (H' : Hp) (ns : List Int), Same H H' → H l = none → H' l = some (.lst (ns.map V.int)) → ns.Perm (rings ++ insA cs) → ns.Pairwise (· ≤ ·) → Q (.ref l) H') : PNa [.ref d] H Q := ⟨d, rings, cs, rfl, dr, n, few, cl, k⟩
end

abbrev s_is_whole : Stmt := top 30
theorem sc_is_whole : FnScope ["thing"] ["thing"] (defScope s_is_whole) := ⟨rfl, rfl, rfl, by decide +kernel, rfl, by decide +kernel, by decide +kernel⟩
section
variable {P : Program} {w : World} {K : PySem.W.Frag} {mg : Str → Option Value} {base : Heap}
inductive Sim (H : Hp) : V → Prop
  | non : Sim H .non
  | bl (b : Bool) : Sim H (.bl b)
  | int (i : Int) : Sim H (.int i)
  | str (x : Str) : Sim H (.str x)
  | tup {a : Addr} {xs : List V} (e : H a = some (.tup xs)) : Sim H (.ref a)
  | lst {a : Addr} {xs : List V} (e : H a = some (.lst xs)) : Sim H (.ref a)
theorem Sim.mv {H H' : Hp} {v : V} (h : Sim H v) (s : Same H H') : Sim H' v := by
  cases h with
  | non => exact .non
  | bl b => exact .bl b
  | int i => exact .int i
  | str x => exact .str x
  | tup e => exact .tup (s _ _ e)
  | lst e => exact .lst (s _ _ e)
def wholeV : V → Bool
  | .int _ => true
  | _ => false
theorem kit_ni (K : PySem.W.Frag) : PySem.W.kitOne K (.type "NoneType") (.type "int") = some false := by rfl
theorem kit_bi (K : PySem.W.Frag) : PySem.W.kitOne K (.type "bool") (.type "int") = some true := by rfl
theorem kit_bb (K : PySem.W.Frag) : PySem.W.kitOne K (.type "bool") (.type "bool") = some true := by rfl
theorem kit_si (K : PySem.W.Frag) : PySem.W.kitOne K (.type "str") (.type "int") = some false := by rfl
theorem kit_ti (K : PySem.W.Frag) : PySem.W.kitOne K (.type "tuple") (.type "int") = some false := by rfl
theorem kit_li (K : PySem.W.Frag) : PySem.W.kitOne K (.type "list") (.type "int") = some false := by rfl
def sp_wholeX : Sp := fun vs H Q _ => ∃ v, vs = [v] ∧ Sim H v ∧ Q (.bl (wholeV v)) H
theorem ok_whole {f : Addr} {fd : FuncData} (F : FT K mg "is_whole" s_is_whole ["thing"] f fd) (T : BN mg) : Cal P w K mg base 1 "is_whole" ["thing"] sp_wholeX := by
  refine F.cal sc_is_whole (fun vs H Q E h => ?_) (fun A outer s H vs Q E hr h => ?_)
  · obtain ⟨n, rfl, _⟩ := h; rfl
  · obtain ⟨v, rfl, sv, k⟩ := h
    refine ⟨_, (pss_one (ps_ret (pe_and (pe_isi (n := "int") (by rfl) T.isi (pv 0) (by rfl) T.int (by decide +kernel)) (pe_one (pe_not (pe_isi (n := "bool") (by rfl) T.isi (pv 0) (by rfl) T.bool (by decide +kernel))))))), ?_⟩
    cases sv with
    | non => exact ⟨_, rfl, _, _, _, _, rfl, .non, kit_ni _, false, rfl, iteF k⟩
    | bl b => exact ⟨_, rfl, _, _, _, _, rfl, .bl b, kit_bi _, true, rfl, iteT ⟨_, rfl, _, _, _, _, rfl, .bl b, kit_bb _, true, rfl, k⟩⟩
    | int i => exact ⟨_, rfl, _, _, _, _, rfl, .int i, kit_ii _, true, rfl, iteT ⟨_, rfl, _, _, _, _, rfl, .int i, kit_ib _, false, rfl, k⟩⟩
    | str x => exact ⟨_, rfl, _, _, _, _, rfl, .str x, kit_si _, false, rfl, iteF k⟩
    | tup e => exact ⟨_, rfl, _, _, _, _, rfl, .tup e, kit_ti _, false, rfl, iteF k⟩
    | lst e => exact ⟨_, rfl, _, _, _, _, rfl, .lst e, kit_li _, false, rfl, iteF k⟩
end

abbrev s_has_name : Stmt := top 34
theorem sc_has_name : FnScope ["drawing", "name"] ["drawing", "name"] (defScope s_has_name) := ⟨rfl, rfl, rfl, by decide +kernel, rfl, by decide +kernel, by decide +kernel⟩
abbrev s_refuse_no_name : Stmt := top 35
theorem sc_refuse_no_name : FnScope ["drawing", "name"] ["drawing", "name"] (defScope s_refuse_no_name) := ⟨rfl, rfl, rfl, by decide +kernel, rfl, by decide +kernel, by decide +kernel⟩
section
variable {P : Program} {w : World} {K : PySem.W.Frag} {mg : Str → Option Value} {base : Heap}
def hasV (v : V) (l : List Int) : Bool := match v with | .int n => decide (n ∈ l) | _ => false
structure PHa (vs : List V) (H : Hp) (Q : VK) : Prop where
  get : ∃ (d : Addr) (v : V) (rings : List Int) (cs : List Cr), vs = [.ref d, v] ∧ DrAt H d rings cs ∧ Sim H v ∧ (insA cs).Nodup ∧ rings.length ≤ 400 ∧ cs.length ≤ 400 ∧ ∀ H', Same H H' → Q (.bl (hasV v (n1 rings cs))) H'
def sp_has_name : Sp := fun vs H Q _ => PHa vs H Q
theorem flat_ints' : ∀ ns : List Int, (ns.map V.int).all flatV = true
  | [] => rfl
  | n :: ns => by rw [List.map_cons, List.all_cons, flat_ints' ns]; rfl
theorem ok_hasname {f : Addr} {fd : FuncData} (F : FT K mg "has_name" s_has_name ["drawing", "name"] f fd) (T : BN mg) (c1 : Cal P w K mg base 1 "is_whole" ["thing"] sp_wholeX) (cn : Cal P w K mg base 2 "names_of" ["drawing"] sp_names_of) : Cal P w K mg base 3 "has_name" ["drawing", "name"] sp_has_name := by
  refine F.cal sc_has_name (fun vs H Q E h => ?_) (fun A outer s H vs Q E hr h => ?_)
  · obtain ⟨⟨d, n, rings, cr, rfl, _⟩⟩ := h; rfl
  · obtain ⟨⟨d, v, rings, cr, rfl, dr, sv, nd0, rl, cl, q⟩⟩ := h
    have nd := sc_has_name.nd
    have il := insA_len cr
    refine ⟨_, (pss_one (ps_ret (pe_and (pe_cal c1 (hr.mono (by decide)) (by rfl) (pa_cons (pv 1) pa_nil)) (pe_one (pe_cmpR op_in_seq (pv 1) (pe_cal cn (hr.mono (by decide)) (by rfl) (pa_cons (pv 0) pa_nil)) (by with_unfolding_all rfl)))))), ?_⟩
    refine ⟨_, rfl, ⟨v, rfl, sv, ?_⟩⟩
    cases sv with
    | int n =>
      refine ⟨true, rfl, iteT ?_⟩
      refine ⟨_, rfl, _, rfl, na_of dr nd0 (by omega) (by omega) fun l H1 ns s1 nl hl perm rising => ?_⟩
      refine ⟨l, _, rfl, .inl (SqL.of hl), rfl, flat_ints' ns, ?_⟩
      have e : inV (.int n) (ns.map V.int) = decide (n ∈ rings ++ insA cr) := by
        rw [in_ints]
        by_cases z : n ∈ ns
        · rw [decide_eq_true z, decide_eq_true (perm.mem_iff.mp z)]
        · rw [decide_eq_false z, decide_eq_false (fun y => z (perm.mem_iff.mpr y))]
      rw [e]
      exact q H1 s1
    | non => exact ⟨false, rfl, iteF (q H (.refl _))⟩
    | bl b => exact ⟨false, rfl, iteF (q H (.refl _))⟩
    | str x => exact ⟨false, rfl, iteF (q H (.refl _))⟩
    | tup e => exact ⟨false, rfl, iteF (q H (.refl _))⟩
    | lst e => exact ⟨false, rfl, iteF (q H (.refl _))⟩
theorem ha_of {H : Hp} {d : Addr} {v : V} {rings : List Int} {cs : List Cr} {Q : VK} (dr : DrAt H d rings cs) (sv : Sim H v) (nd : (insA cs).Nodup) (rl : rings.length ≤ 400) (cl : cs.length ≤ 400) (k : ∀ H', Same H H' → Q (.bl (hasV v (n1 rings cs))) H') : PHa [.ref d, v] H Q := ⟨d, v, rings, cs, rfl, dr, sv, nd, rl, cl, k⟩
structure PRn (Cp : Addr) (vs : List V) (H : Hp) (Q : VK) (E : XK) : Prop where
  get : ∃ (d : Addr) (v : V) (rings : List Int) (cs : List Cr), vs = [.ref d, v] ∧ DrAt H d rings cs ∧ Sim H v ∧ (insA cs).Nodup ∧ rings.length ≤ 400 ∧ cs.length ≤ 400 ∧ ((hasV v (n1 rings cs) = true ∧ ∀ H', Same H H' → Q .non H') ∨ (hasV v (n1 rings cs) = false ∧ ∀ H', Same H H' → E (.ref Cp) none H'))
def sp_refuse_no_name (Cp : Addr) : Sp := fun vs H Q E => PRn Cp vs H Q E
theorem ok_noname {f Cp : Addr} {fd : FuncData} (F : FT K mg "refuse_no_name" s_refuse_no_name ["drawing", "name"] f fd) (T : BN mg) (xp : XCls K mg "NoPlace" Cp) (ch : Cal P w K mg base 3 "has_name" ["drawing", "name"] sp_has_name) : CalX P w K mg base 4 "refuse_no_name" ["drawing", "name"] (sp_refuse_no_name Cp) := by
  refine F.calX sc_refuse_no_name (fun vs H Q E h => ?_) (fun A outer s H vs Q E hr h => ?_)
  · obtain ⟨⟨d, n, rings, cr, rfl, _⟩⟩ := h; rfl
  · obtain ⟨⟨d, v, rings, cr, rfl, dr, sv, nd0, rl, cl, k⟩⟩ := h
    have nd := sc_refuse_no_name.nd
    refine ⟨_, (pss_one (ps_if (pt_not (pt_val (pe_cal ch (hr.mono (by decide)) (by rfl) (pa_cons (pv 0) (pa_cons (pv 1) pa_nil)))))
        (pss_one (ps_raise hr.hd xp (by rfl) (pa_cons pe_str pa_nil)))
        pss_nil)), ?_⟩
    refine ⟨_, rfl, _, rfl, ha_of dr sv nd0 rl cl fun H1 s1 => ?_⟩
    rcases k with ⟨z, k⟩ | ⟨z, k⟩
    · rw [z]
      exact ⟨true, rfl, iteF (k H1 s1)⟩
    · rw [z]
      exact ⟨false, rfl, iteT ⟨by show 1 ≤ sizeLine; decide, k H1 s1⟩⟩
end

structure XG (mg : Str → Option Value) (C0 Dm Dp Dw Dx Dt Dy : Addr) : Prop where
  m0 : mg "CordError" = some (.ref C0)
  mm : mg "NoMove" = some (.ref Dm)
  mp : mg "NoPlace" = some (.ref Dp)
  mw : mg "NoWord" = some (.ref Dw)
  mx : mg "NoText" = some (.ref Dx)
  mt : mg "NoTable" = some (.ref Dt)
  my : mg "TooMany" = some (.ref Dy)
structure XC (K : PySem.W.Frag) (C0 Dm Dp Dw Dx Dt Dy C : Addr) (b0 b1 b2 b3 b4 b5 : Bool) : Prop where
  xk : PySem.W.XK1 K C
  val : PySem.W.kitOne K (.ref C) (.type "ValueError") = some true
  exm : PySem.W.exmOne K (.ref C) (.ref C0) = some true
  k0 : PySem.W.kitOne K (.ref C) (.ref Dm) = some b0
  k1 : PySem.W.kitOne K (.ref C) (.ref Dp) = some b1
  k2 : PySem.W.kitOne K (.ref C) (.ref Dw) = some b2
  k3 : PySem.W.kitOne K (.ref C) (.ref Dx) = some b3
  k4 : PySem.W.kitOne K (.ref C) (.ref Dt) = some b4
  k5 : PySem.W.kitOne K (.ref C) (.ref Dy) = some b5
abbrev s__law_kinds : Stmt := top 62
theorem sc__law_kinds : FnScope ["_law_e", "_law_kinds_here"] ["_law_e"] (defScope s__law_kinds) := ⟨rfl, rfl, rfl, by decide +kernel, rfl, by decide +kernel, by decide +kernel⟩
section
variable {P : Program} {w : World} {K : PySem.W.Frag} {mg : Str → Option Value} {base : Heap}
def kindsL : List Str := ["NoMove", "NoPlace", "NoWord", "NoText", "NoTable", "TooMany"]
structure PKd (K : PySem.W.Frag) (C0 Dm Dp Dw Dx Dt Dy : Addr) (vs : List V) (H : Hp) (Q : VK) : Prop where
  get : ∃ (ea C : Addr) (b0 b1 b2 b3 b4 b5 : Bool) (j : Nat) (x : Str), vs = [.ref ea] ∧ H ea = some (Exc ea (.ref C)) ∧ XC K C0 Dm Dp Dw Dx Dt Dy C b0 b1 b2 b3 b4 b5 ∧ [b0, b1, b2, b3, b4, b5].count true = 1 ∧ [b0, b1, b2, b3, b4, b5][j]? = some true ∧ (∀ m, m < j → [b0, b1, b2, b3, b4, b5][m]? ≠ some true) ∧ kindsL[j]? = some x ∧ ∀ H', Same H H' → Q (.str x) H'
def sp_kinds (K : PySem.W.Frag) (C0 Dm Dp Dw Dx Dt Dy : Addr) : Sp := fun vs H Q _ => PKd K C0 Dm Dp Dw Dx Dt Dy vs H Q
theorem ok_kinds {f C0 Dm Dp Dw Dx Dt Dy : Addr} {fd : FuncData} (F : FT K mg "_law_kinds" s__law_kinds ["_law_e"] f fd) (T : BN mg) (XX : XG mg C0 Dm Dp Dw Dx Dt Dy) : CalH P w K mg base 1 "_law_kinds" ["_law_e"] (sp_kinds K C0 Dm Dp Dw Dx Dt Dy) := by
  refine F.calH sc__law_kinds (fun vs H Q E h => ?_) (fun A outer s H vs Q E hr h => ?_)
  · obtain ⟨⟨ea, C, b0, b1, b2, b3, b4, b5, j, x, rfl, _⟩⟩ := h; rfl
  · obtain ⟨⟨ea, C, b0, b1, b2, b3, b4, b5, j, x, rfl, he, xc, c1, hj, hno, hx, k⟩⟩ := h
    have nd := sc__law_kinds.nd
    refine ⟨_, (pss_cons (ps_set (i := 1) nd rfl (Or.inl rfl) (pe_lst (pa_cons (pe_callB cr_isiX (by rfl) T.isi (by decide +kernel) (pa_cons (pv 0) (pa_cons (pe_glob (v := .ref Dm) (by rfl) XX.mm rfl) pa_nil))) (pa_cons (pe_callB cr_isiX (by rfl) T.isi (by decide +kernel) (pa_cons (pv 0) (pa_cons (pe_glob (v := .ref Dp) (by rfl) XX.mp rfl) pa_nil))) (pa_cons (pe_callB cr_isiX (by rfl) T.isi (by decide +kernel) (pa_cons (pv 0) (pa_cons (pe_glob (v := .ref Dw) (by rfl) XX.mw rfl) pa_nil))) (pa_cons (pe_callB cr_isiX (by rfl) T.isi (by decide +kernel) (pa_cons (pv 0) (pa_cons (pe_glob (v := .ref Dx) (by rfl) XX.mx rfl) pa_nil))) pa_nil))))))
      (pss_cons (ps_set (i := 1) nd rfl (Or.inl rfl) (pe_op op_cat (pv 1) (pe_lst (pa_cons (pe_callB cr_isiX (by rfl) T.isi (by decide +kernel) (pa_cons (pv 0) (pa_cons (pe_glob (v := .ref Dt) (by rfl) XX.mt rfl) pa_nil))) (pa_cons (pe_callB cr_isiX (by rfl) T.isi (by decide +kernel) (pa_cons (pv 0) (pa_cons (pe_glob (v := .ref Dy) (by rfl) XX.my rfl) pa_nil))) pa_nil)))))
      (pss_cons (ps_if (PW.pt (pw_or (pt_cmpR op_ne (pe_bm PySem.F.plainAttrs_list PySem.F.slot_list_count PySem.F.type_list_count mt_countB (pv 1) (pa_cons pe_bl pa_nil)) pe_int (nomark _)) (pw_or1 (pt_not (pt_val (pe_callB cr_isiX (by rfl) T.isi (by decide +kernel) (pa_cons (pv 0) (pa_cons (pe_bltn (v := .ty "ValueError") (by rfl) T.ve (by decide +kernel) rfl) pa_nil))))))))
        (pss_one (ps_ret pe_str))
        pss_nil)
      (pss_one (ps_ret (pe_ix ix_list (pe_lst (pa_cons pe_str (pa_cons pe_str (pa_cons pe_str (pa_cons pe_str (pa_cons pe_str (pa_cons pe_str pa_nil))))))) (pe_bm PySem.F.plainAttrs_list PySem.F.slot_list_index PySem.F.type_list_index mt_indexB (pv 1) (pa_cons pe_bl pa_nil)) (fun _ _ => rfl))))))), ?_⟩
    refine ⟨_, rfl, ea, C, he, xc.xk, .inl ⟨Dm, b0, rfl, xc.k0, _, rfl, ea, C, he, xc.xk, .inl ⟨Dp, b1, rfl, xc.k1, _, rfl, ea, C, he, xc.xk, .inl ⟨Dw, b2, rfl, xc.k2, _, rfl, ea, C, he, xc.xk, .inl ⟨Dx, b3, rfl, xc.k3, (by show 4 ≤ sizeLine; decide), fun l hl => ?_⟩⟩⟩⟩⟩
    have s2 : Same H (upd H l (.lst [.bl b0, .bl b1, .bl b2, .bl b3])) := Same.new hl
    have h2 : upd H l (.lst [.bl b0, .bl b1, .bl b2, .bl b3]) l = some (.lst [.bl b0, .bl b1, .bl b2, .bl b3]) := upd_same
    have e2 := s2 _ _ he
    try dsimp only
    generalize upd H l (.lst [.bl b0, .bl b1, .bl b2, .bl b3]) = H2 at s2 h2 e2 ⊢
    refine ⟨_, rfl, _, rfl, ea, C, e2, xc.xk, .inl ⟨Dt, b4, rfl, xc.k4, _, rfl, ea, C, e2, xc.xk, .inl ⟨Dy, b5, rfl, xc.k5, (by show 2 ≤ sizeLine; decide), fun l2 hl2 => ?_⟩⟩⟩
    have s3 : Same H2 (upd H2 l2 (.lst [.bl b4, .bl b5])) := Same.new hl2
    have h3 : upd H2 l2 (.lst [.bl b4, .bl b5]) l2 = some (.lst [.bl b4, .bl b5]) := upd_same
    have e3 := s3 _ _ e2
    try dsimp only
    generalize upd H2 l2 (.lst [.bl b4, .bl b5]) = H3 at s3 h3 e3 ⊢
    refine ⟨l, l2, _, _, rfl, rfl, s3 _ _ h2, h3, (by show 4 + 2 ≤ sizeLine; decide), fun p hp => ?_⟩
    have s4 : Same H3 (upd H3 p (.lst ([V.bl b0, .bl b1, .bl b2, .bl b3] ++ [.bl b4, .bl b5]))) := Same.new hp
    have h4 : upd H3 p (.lst ([V.bl b0, .bl b1, .bl b2, .bl b3] ++ [.bl b4, .bl b5])) p = some (.lst ([b0, b1, b2, b3, b4, b5].map V.bl)) := upd_same
    have e4 := s4 _ _ e3
    try dsimp only
    generalize upd H3 p (.lst ([V.bl b0, .bl b1, .bl b2, .bl b3] ++ [.bl b4, .bl b5])) = H4 at s4 h4 e4 ⊢
    have s04 := ((s2.trans s3).trans s4)
    refine ⟨_, rfl, .inl ⟨rfl, _, SqL.of h4⟩, p, _, true, rfl, rfl, SqL.of h4, rfl, _, rfl, ?_⟩
    rw [c1]
    refine ite2 (fun h => absurd h (by simp)) (fun _ => ?_)
    refine ⟨_, rfl, ea, C, e4, xc.xk, .inr (.inl ⟨"ValueError", true, rfl, xc.val, true, rfl, iteF ?_⟩)⟩
    refine ⟨(by show 6 ≤ sizeLine; decide), fun q hq => ?_⟩
    have s5 : Same H4 (upd H4 q (.lst [.str "NoMove", .str "NoPlace", .str "NoWord", .str "NoText", .str "NoTable", .str "TooMany"])) := Same.new hq
    have h5 : upd H4 q (.lst [.str "NoMove", .str "NoPlace", .str "NoWord", .str "NoText", .str "NoTable", .str "TooMany"]) q = some (.lst (kindsL.map V.str)) := upd_same
    try dsimp only
    generalize upd H4 q (.lst [.str "NoMove", .str "NoPlace", .str "NoWord", .str "NoText", .str "NoTable", .str "TooMany"]) = H5 at s5 h5 ⊢
    have j6 : j < 6 := by have := (List.getElem?_eq_some_iff.mp hj).1; simpa using this
    refine ⟨_, rfl, .inl ⟨rfl, _, SqL.of (s5 _ _ h4)⟩, p, _, true, j, rfl, rfl, SqL.of (s5 _ _ h4), hj, hno, by omega, q, _, _, .str x, rfl, rfl, SqL.of h5, atI_nat (by rw [List.getElem?_map, hx]; rfl), k _ (s04.trans s5)⟩
theorem kd_of {H : Hp} {ea C C0 Dm Dp Dw Dx Dt Dy : Addr} {b0 b1 b2 b3 b4 b5 : Bool} {Q : VK} (j : Nat) (x : Str) (he : H ea = some (Exc ea (.ref C))) (xc : XC K C0 Dm Dp Dw Dx Dt Dy C b0 b1 b2 b3 b4 b5) (c1 : [b0, b1, b2, b3, b4, b5].count true = 1) (hj : [b0, b1, b2, b3, b4, b5][j]? = some true) (hno : ∀ m, m < j → [b0, b1, b2, b3, b4, b5][m]? ≠ some true) (hx : kindsL[j]? = some x) (k : ∀ H', Same H H' → Q (.str x) H') : PKd K C0 Dm Dp Dw Dx Dt Dy [.ref ea] H Q := ⟨ea, C, b0, b1, b2, b3, b4, b5, j, x, rfl, he, xc, c1, hj, hno, hx, k⟩
end

abbrev s_is_place : Stmt := top 31
theorem sc_is_place : FnScope ["thing", "many"] ["thing", "many"] (defScope s_is_place) := ⟨rfl, rfl, rfl, by decide +kernel, rfl, by decide +kernel, by decide +kernel⟩
section
variable {P : Program} {w : World} {K : PySem.W.Frag} {mg : Str → Option Value} {base : Heap}
def placeV (v : V) (n : Nat) : Bool := match v with
  | .int i => decide (0 ≤ i) && decide (i < (n : Int))
  | _ => false
def sp_place : Sp := fun vs H Q _ => ∃ (v : V) (n : Nat), vs = [v, .int n] ∧ Sim H v ∧ Q (.bl (placeV v n)) H
theorem ok_place {f : Addr} {fd : FuncData} (F : FT K mg "is_place" s_is_place ["thing", "many"] f fd) (c1 : Cal P w K mg base 1 "is_whole" ["thing"] sp_wholeX) : Cal P w K mg base 2 "is_place" ["thing", "many"] sp_place := by
  refine F.cal sc_is_place (fun vs H Q E h => ?_) (fun A outer s H vs Q E hr h => ?_)
  · obtain ⟨v, n, rfl, _⟩ := h; rfl
  · obtain ⟨v, n, rfl, sv, k⟩ := h
    refine ⟨_, (pss_one (ps_ret (pe_and (pe_cal c1 hr (by rfl) (pa_cons (pv 0) pa_nil)) (pe_one (pe_chain op_le op_lt pe_int (pv 0) (pv 1)))))), ?_⟩
    refine ⟨_, rfl, _, rfl, sv, wholeV v, rfl, ?_⟩
    cases v with
    | int i =>
      refine iteT ?_
      refine ⟨_, rfl, _, _, rfl, rfl, decide (0 ≤ i), rfl, ?_⟩
      by_cases z : 0 ≤ i
      · rw [decide_eq_true z]
        refine iteT ⟨_, rfl, _, _, rfl, rfl, ?_⟩
        have e : placeV (.int i) n = decide (i < (n : Int)) := by show (decide (0 ≤ i) && decide (i < (n : Int))) = _; rw [decide_eq_true z]; rfl
        rw [e] at k; exact k
      · rw [decide_eq_false z]
        have e : placeV (.int i) n = false := by show (decide (0 ≤ i) && decide (i < (n : Int))) = _; rw [decide_eq_false z]; rfl
        rw [e] at k; exact iteF k
    | non => exact iteF k
    | bl b => exact iteF k
    | str x => exact iteF k
    | ref a => exact iteF k
    | _ => cases sv
end

abbrev s_refuse_no_crossing : Stmt := top 43
theorem sc_refuse_no_crossing : FnScope ["drawing", "k"] ["drawing", "k"] (defScope s_refuse_no_crossing) := ⟨rfl, rfl, rfl, by decide +kernel, rfl, by decide +kernel, by decide +kernel⟩
section
variable {P : Program} {w : World} {K : PySem.W.Frag} {mg : Str → Option Value} {base : Heap}
structure PRc (Cp : Addr) (vs : List V) (H : Hp) (Q : VK) (E : XK) : Prop where
  get : ∃ (d : Addr) (v : V) (rings : List Int) (cs : List Cr), vs = [.ref d, v] ∧ DrAt H d rings cs ∧ Sim H v ∧ ((placeV v cs.length = true ∧ Q .non H) ∨ (placeV v cs.length = false ∧ E (.ref Cp) none H))
def sp_refuse_no_crossing (Cp : Addr) : Sp := fun vs H Q E => PRc Cp vs H Q E
theorem ok_nocrossing {f Cp : Addr} {fd : FuncData} (F : FT K mg "refuse_no_crossing" s_refuse_no_crossing ["drawing", "k"] f fd) (T : BN mg) (xp : XCls K mg "NoPlace" Cp) (cp : Cal P w K mg base 2 "is_place" ["thing", "many"] sp_place) : CalX P w K mg base 3 "refuse_no_crossing" ["drawing", "k"] (sp_refuse_no_crossing Cp) := by
  refine F.calX sc_refuse_no_crossing (fun vs H Q E h => ?_) (fun A outer s H vs Q E hr h => ?_)
  · obtain ⟨⟨d, v, rings, cr, rfl, _⟩⟩ := h; rfl
  · obtain ⟨⟨d, v, rings, cs, rfl, dr, sv, k⟩⟩ := h
    have nd := sc_refuse_no_crossing.nd
    obtain ⟨a, b, hd, ha, ps, hb, pp⟩ := id dr
    have hpl := pp.length
    refine ⟨_, (pss_one (ps_if (pt_not (pt_val (pe_cal cp (hr.mono (by decide)) (by rfl) (pa_cons (pv 1) (pa_cons (pe_len (by rfl) T.len (pe_ix ix_tup (pv 0) pe_int (fun _ _ => rfl))) pa_nil)))))
        (pss_one (ps_raise hr.hd xp (by rfl) (pa_cons pe_str pa_nil)))
        pss_nil)), ?_⟩
    refine ⟨_, rfl, _, rfl, d, _, _, .ref b, rfl, rfl, SqT.of hd, rfl, b, _, rfl, .inl (SqL.of hb), ?_⟩
    rw [List.length_map, hpl]
    refine ⟨v, cs.length, rfl, sv, ?_⟩
    rcases k with ⟨z, k⟩ | ⟨z, k⟩
    · rw [z]
      exact ⟨true, rfl, iteF k⟩
    · rw [z]
      exact ⟨false, rfl, iteT ⟨by show 1 ≤ sizeLine; decide, k⟩⟩
theorem rc_of {H : Hp} {d Cp : Addr} {v : V} {rings : List Int} {cs : List Cr} {Q : VK} {E : XK} (dr : DrAt H d rings cs) (sv : Sim H v) (k : (placeV v cs.length = true ∧ Q .non H) ∨ (placeV v cs.length = false ∧ E (.ref Cp) none H)) : PRc Cp [.ref d, v] H Q E := ⟨d, v, rings, cs, rfl, dr, sv, k⟩
end

end K25
namespace K25
open PySem L2 DM PM
def okD : V → Bool
  | .ref _ => false
  | v => inV v [.str "left", .str "right"]
theorem side_not {K : PySem.W.Frag} {H : Hp} {v : V} {fS : Addr} {Q : VK} (sv : Sim H v) (hS : SqT K H fS [.str "left", .str "right"]) (k : Q (.bl (!okD v)) H) : rInS K true v (.ref fS) H Q := by
  cases sv with
  | tup e => exact .inr ⟨fS, _, ["left", "right"], _, rfl, rfl, .inr (SqT.of e), .inr hS, k⟩
  | lst e => exact .inr ⟨fS, _, ["left", "right"], _, rfl, rfl, .inl (SqL.of e), .inr hS, k⟩
  | non => exact .inl ⟨fS, _, rfl, .inr hS, rfl, rfl, k⟩
  | bl b => exact .inl ⟨fS, _, rfl, .inr hS, rfl, rfl, k⟩
  | int b => exact .inl ⟨fS, _, rfl, .inr hS, rfl, rfl, k⟩
  | str b => exact .inl ⟨fS, _, rfl, .inr hS, rfl, rfl, k⟩
theorem side_ok {H : Hp} {l : Addr} (hl : H l = some (.lst [.str "right"])) {v : V} (hv : v ∈ [V.str "", .str "Left", .str "under", .non, .int 1, .ref l, .bl false, .str "l"]) : Sim H v ∧ okD v = false := by
  simp only [List.mem_cons, List.not_mem_nil, or_false] at hv
  rcases hv with rfl | rfl | rfl | rfl | rfl | rfl | rfl | rfl
  · exact ⟨.str _, by decide +kernel⟩
  · exact ⟨.str _, by decide +kernel⟩
  · exact ⟨.str _, by decide +kernel⟩
  · exact ⟨.non, rfl⟩
  · exact ⟨.int _, rfl⟩
  · exact ⟨.lst hl, rfl⟩
  · exact ⟨.bl _, rfl⟩
  · exact ⟨.str _, by decide +kernel⟩

abbrev s_poked : Stmt := top 38
theorem sc_poked : FnScope ["drawing", "e", "side", "f", "other_side", "rings", "crossings", "e1", "e2", "f1", "f2", "alike", "sign", "unders", "crossing", "other"] ["drawing", "e", "side", "f", "other_side"] (defScope s_poked) := ⟨rfl, rfl, rfl, by decide +kernel, rfl, by decide +kernel, by decide +kernel⟩
abbrev s_unpoked : Stmt := top 40
theorem sc_unpoked : FnScope ["drawing", "j", "k", "rings", "crossings", "one", "other", "over_in", "over_out", "under_in", "under_out", "at", "crossing", "others"] ["drawing", "j", "k"] (defScope s_unpoked) := ⟨rfl, rfl, rfl, by decide +kernel, rfl, by decide +kernel, by decide +kernel⟩
abbrev s__law_put_refused : Stmt := top 63
theorem sc__law_put_refused : FnScope ["_law_drawing", "_law_wrong", "fault"] ["_law_drawing", "_law_wrong"] (defScope s__law_put_refused) := ⟨rfl, rfl, rfl, by decide +kernel, rfl, by decide +kernel, by decide +kernel⟩
abbrev s__law_taken_refused : Stmt := top 64
theorem sc__law_taken_refused : FnScope ["_law_drawing", "_law_j", "_law_k", "fault"] ["_law_drawing", "_law_j", "_law_k"] (defScope s__law_taken_refused) := ⟨rfl, rfl, rfl, by decide +kernel, rfl, by decide +kernel, by decide +kernel⟩
section
variable {P : Program} {w : World} {K : PySem.W.Frag} {mg : Str → Option Value} {base : Heap}
structure PPo (K : PySem.W.Frag) (fS Cp : Addr) (vs : List V) (H : Hp) (E : XK) : Prop where
  get : ∃ (d : Addr) (v sv u su : V) (rings : List Int) (cs : List Cr), vs = [.ref d, v, sv, u, su] ∧ DrAt H d rings cs ∧ Sim H v ∧ Sim H sv ∧ Sim H u ∧ Sim H su ∧ Wf rings cs ∧ rings.length ≤ 400 ∧ cs.length ≤ 400 ∧ (∀ G : Hp, SqT K G fS [.str "left", .str "right"]) ∧
    (hasV v (n1 rings cs) = false ∨ okD sv = false ∨ hasV u (n1 rings cs) = false ∨ okD su = false) ∧ ∀ H', Same H H' → E (.ref Cp) none H'
def sp_poked (K : PySem.W.Frag) (fS Cp : Addr) : Sp := fun vs H _ E => PPo K fS Cp vs H E
theorem ok_poked {f fS Cp : Addr} {fd : FuncData} (F : FT K mg "poked" s_poked ["drawing", "e", "side", "f", "other_side"] f fd) (T : BN mg) (xp : XCls K mg "NoPlace" Cp) (eS : mg "SIDES" = some (.ref fS)) (cx : CalX P w K mg base 4 "refuse_no_name" ["drawing", "name"] (sp_refuse_no_name Cp)) : CalX P w K mg base 5 "poked" ["drawing", "e", "side", "f", "other_side"] (sp_poked K fS Cp) := by
  refine F.calX sc_poked (fun vs H Q E h => ?_) (fun A outer s H vs Q E hr h => ?_)
  · obtain ⟨⟨d, v, sv, u, su, rings, cr, rfl, _⟩⟩ := h; rfl
  · obtain ⟨⟨d, v, sv, u, su, rings, cs, rfl, dr, simv, sims, simu, simt, wf, rl, cl, hS, bad, k⟩⟩ := h
    have nd := sc_poked.nd
    refine ⟨_, (pss_cons (ps_expr (pe_calX cx (hr.mono (by decide)) (by rfl) (pa_cons (pv 0) (pa_cons (pv 1) pa_nil))))
      (pss_cons (ps_expr (pe_calX cx (hr.mono (by decide)) (by rfl) (pa_cons (pv 0) (pa_cons (pv 3) pa_nil))))
      (pss_cons (ps_if (PW.pt (pw_or (pt_cmpR (op_notInS (hu_of hr)) (pv 2) (pe_glob (v := .ref fS) (by rfl) eS rfl) (by with_unfolding_all rfl)) (pw_or1 (pt_cmpR (op_notInS (hu_of hr)) (pv 4) (pe_glob (v := .ref fS) (by rfl) eS rfl) (by with_unfolding_all rfl)))))
        (pss_one (ps_raise hr.hd xp (by rfl) (pa_cons pe_str pa_nil)))
        pss_nil)
      pss_dead))), ?_⟩
    refine ⟨_, rfl, _, rfl, ⟨⟨d, v, rings, cs, rfl, dr, simv, wf.insnd, rl, cl, ?_⟩⟩⟩
    cases hv : hasV v (n1 rings cs) with
    | false => exact .inr ⟨rfl, k⟩
    | true =>
    refine .inl ⟨rfl, fun H1 s1 => ?_⟩
    refine ⟨_, rfl, _, rfl, ⟨⟨d, u, rings, cs, rfl, dr.mv s1, simu.mv s1, wf.insnd, rl, cl, ?_⟩⟩⟩
    cases hu : hasV u (n1 rings cs) with
    | false => exact .inr ⟨rfl, fun H' s => k H' (s1.trans s)⟩
    | true =>
    refine .inl ⟨rfl, fun H2 s2 => ?_⟩
    have s12 := s1.trans s2
    have one : (1 : Nat) ≤ sizeLine := by decide
    refine ⟨_, rfl, side_not (sims.mv s12) (hS _) ?_⟩
    cases ho : okD sv with
    | false => exact ⟨true, rfl, iteT ⟨one, k _ s12⟩⟩
    | true =>
    refine ⟨false, rfl, iteF ?_⟩
    refine ⟨_, rfl, side_not (simt.mv s12) (hS _) ?_⟩
    cases hp : okD su with
    | false => exact ⟨true, rfl, iteT ⟨one, k _ s12⟩⟩
    | true => rw [hv, hu, ho, hp] at bad; simp at bad
structure PUp (Cp : Addr) (vs : List V) (H : Hp) (E : XK) : Prop where
  get : ∃ (d : Addr) (v u : V) (rings : List Int) (cs : List Cr), vs = [.ref d, v, u] ∧ DrAt H d rings cs ∧ Sim H v ∧ Sim H u ∧ (placeV v cs.length = false ∨ placeV u cs.length = false) ∧ E (.ref Cp) none H
def sp_unpoked (Cp : Addr) : Sp := fun vs H _ E => PUp Cp vs H E
theorem ok_unpoked {f Cp : Addr} {fd : FuncData} (F : FT K mg "unpoked" s_unpoked ["drawing", "j", "k"] f fd) (cx : CalX P w K mg base 3 "refuse_no_crossing" ["drawing", "k"] (sp_refuse_no_crossing Cp)) : CalX P w K mg base 4 "unpoked" ["drawing", "j", "k"] (sp_unpoked Cp) := by
  refine F.calX sc_unpoked (fun vs H Q E h => ?_) (fun A outer s H vs Q E hr h => ?_)
  · obtain ⟨⟨d, v, u, rings, cr, rfl, _⟩⟩ := h; rfl
  · obtain ⟨⟨d, v, u, rings, cs, rfl, dr, sv, su, bad, k⟩⟩ := h
    have nd := sc_unpoked.nd
    refine ⟨_, (pss_cons (ps_expr (pe_calX cx (hr.mono (by decide)) (by rfl) (pa_cons (pv 0) (pa_cons (pv 1) pa_nil))))
      (pss_cons (ps_expr (pe_calX cx (hr.mono (by decide)) (by rfl) (pa_cons (pv 0) (pa_cons (pv 2) pa_nil))))
      pss_dead)), ?_⟩
    refine ⟨_, rfl, _, rfl, rc_of dr sv ?_⟩
    cases hv : placeV v cs.length with
    | false => exact .inr ⟨rfl, k⟩
    | true =>
    refine .inl ⟨rfl, ?_⟩
    refine ⟨_, rfl, _, rfl, rc_of dr su ?_⟩
    cases hu : placeV u cs.length with
    | false => exact .inr ⟨rfl, k⟩
    | true => rw [hv, hu] at bad; simp at bad
def RT (Dp : Addr) (l : St) (Q : VK) : CK := fun cls σ H' => cls = .ref Dp ∧ σ = l ∧ ∀ H'', Same H' H'' → Q (.bl true) H''
structure Wr4 (H : Hp) (ns : List Int) (p : Addr) : Prop where
  get : ∃ v s u t, H p = some (.tup [v, s, u, t]) ∧ Sim H v ∧ Sim H s ∧ Sim H u ∧ Sim H t ∧ (hasV v ns = false ∨ okD s = false ∨ hasV u ns = false ∨ okD t = false)
theorem Wr4.mv {H H' : Hp} {ns : List Int} {p : Addr} (h : Wr4 H ns p) (s : Same H H') : Wr4 H' ns p := let ⟨v, x, y, z, e, a, b, c, d, r⟩ := h; ⟨v, x, y, z, s _ _ e, a.mv s, b.mv s, c.mv s, d.mv s, r⟩
structure PPr (K : PySem.W.Frag) (fS : Addr) (vs : List V) (H : Hp) (Q : VK) : Prop where
  get : ∃ (d p : Addr) (rings : List Int) (cs : List Cr), vs = [.ref d, .ref p] ∧ DrAt H d rings cs ∧ Wr4 H (n1 rings cs) p ∧ Wf rings cs ∧ rings.length ≤ 400 ∧ cs.length ≤ 400 ∧ (∀ G : Hp, SqT K G fS [.str "left", .str "right"]) ∧ ∀ H', Same H H' → Q (.bl true) H'
def sp_put (K : PySem.W.Frag) (fS : Addr) : Sp := fun vs H Q _ => PPr K fS vs H Q
theorem ok_put {fa fS C0 Dm Dp Dw Dx Dt Dy : Addr} {fd : FuncData} (F : FT K mg "_law_put_refused" s__law_put_refused ["_law_drawing", "_law_wrong"] fa fd) (T : BN mg) (XX : XG mg C0 Dm Dp Dw Dx Dt Dy) (xc : XC K C0 Dm Dp Dw Dx Dt Dy Dp false true false false false false) (cJ : CalH P w K mg base 1 "_law_kinds" ["_law_e"] (sp_kinds K C0 Dm Dp Dw Dx Dt Dy)) (cc : CalX P w K mg base 5 "poked" ["drawing", "e", "side", "f", "other_side"] (sp_poked K fS Dp)) : Cal P w K mg base 6 "_law_put_refused" ["_law_drawing", "_law_wrong"] (sp_put K fS) := by
  refine F.cal sc__law_put_refused (fun vs H Q E h => ?_) (fun A outer s H vs Q E hr h => ?_)
  · obtain ⟨⟨d, p, rings, cs, rfl, _⟩⟩ := h; rfl
  · obtain ⟨⟨d, p, rings, cs, rfl, dr, ⟨v, x, u, y, hp, s1, s2, s3, s4, bad⟩, wf, rl, cl, hW, k⟩⟩ := h
    have nd := sc__law_put_refused.nd
    refine ⟨_, (pss_cons (ps_tryE (i := 2) (C := C0) (R := (RT Dp [some (.ref d), some (.ref p), none] Q)) (tb := tDrop (tCallG (sp_poked K fS Dp) (RT Dp [some (.ref d), some (.ref p), none] Q) (tCons (tVar 0) (tCons (tOp (rIxT K) (tVar 1) (tC (.int 0))) (tCons (tOp (rIxT K) (tVar 1) (tC (.int 1))) (tCons (tOp (rIxT K) (tVar 1) (tC (.int 2))) (tCons (tOp (rIxT K) (tVar 1) (tC (.int 3))) tNil))))))) (th := (fun ea => tRet (tOp rEq (tCall (sp_kinds K C0 Dm Dp Dw Dx Dt Dy) [] E0 (tCons (tVar 2) tNil)) (tC (.str "NoPlace"))))) rfl rfl nd rfl rfl (by rfl) XX.m0
        (fun pins => pss_one (ps_expr (pe_callG (X := Cx.pinned (cxOf CX0 P w K mg base ["_law_drawing", "_law_wrong", "fault"] "_law_put_refused" (defScope s__law_put_refused) fa fd.code A outer s H E).nox pins) (R := (RT Dp [some (.ref d), some (.ref p), none] Q)) cc (hr.mono (by decide)) (by rfl) (pa_cons (pv 0) (pa_cons (pe_ix ix_tup (pv 1) pe_int (fun _ _ => rfl)) (pa_cons (pe_ix ix_tup (pv 1) pe_int (fun _ _ => rfl)) (pa_cons (pe_ix ix_tup (pv 1) pe_int (fun _ _ => rfl)) (pa_cons (pe_ix ix_tup (pv 1) pe_int (fun _ _ => rfl)) pa_nil))))))))
        (fun pins ea => (pss_one (ps_ret (pe_cmpR op_eq (pe_calH cJ ((Room.h hr _).mono (by decide)) (by rfl) (pa_cons (pv 2) pa_nil)) pe_str (nomark _))))))
      (pss_one (ps_ret pe_bl))), ?_⟩
    refine ⟨?_, ?_⟩
    · exact ⟨_, rfl, _, rfl, p, _, _, v, rfl, rfl, SqT.of hp, rfl, _, rfl, p, _, _, x, rfl, rfl, SqT.of hp, rfl, _, rfl, p, _, _, u, rfl, rfl, SqT.of hp, rfl, _, rfl, p, _, _, y, rfl, rfl, SqT.of hp, rfl, ⟨d, v, x, u, y, rings, cs, rfl, dr, s1, s2, s3, s4, wf, rl, cl, hW, bad, fun H' s => ⟨rfl, rfl, fun H'' s' => k H'' (s.trans s')⟩⟩⟩
    · rintro cls σ' H' ⟨rfl, rfl, k⟩
      refine ⟨xc.exm, fun ea hea => ?_⟩
      have s1 : Same H' (upd H' ea (Exc ea (.ref Dp))) := Same.new hea
      have e1 : upd H' ea (Exc ea (.ref Dp)) ea = some (Exc ea (.ref Dp)) := upd_same
      generalize upd H' ea (Exc ea (.ref Dp)) = H1 at s1 e1 ⊢
      refine ⟨_, rfl, kd_of 1 "NoPlace" e1 xc rfl rfl (fun m hm => by rw [show m = 0 by omega]; simp) rfl fun H2 s2 => ⟨rfl, ?_⟩⟩
      exact k _ (s1.trans s2)
structure PTr (vs : List V) (H : Hp) (Q : VK) : Prop where
  get : ∃ (d : Addr) (v u : V) (rings : List Int) (cs : List Cr), vs = [.ref d, v, u] ∧ DrAt H d rings cs ∧ Sim H v ∧ Sim H u ∧ (placeV v cs.length = false ∨ placeV u cs.length = false) ∧ ∀ H', Same H H' → Q (.bl true) H'
def sp_taken : Sp := fun vs H Q _ => PTr vs H Q
theorem ok_taken {fa C0 Dm Dp Dw Dx Dt Dy : Addr} {fd : FuncData} (F : FT K mg "_law_taken_refused" s__law_taken_refused ["_law_drawing", "_law_j", "_law_k"] fa fd) (T : BN mg) (XX : XG mg C0 Dm Dp Dw Dx Dt Dy) (xc : XC K C0 Dm Dp Dw Dx Dt Dy Dp false true false false false false) (cJ : CalH P w K mg base 1 "_law_kinds" ["_law_e"] (sp_kinds K C0 Dm Dp Dw Dx Dt Dy)) (cu : CalX P w K mg base 4 "unpoked" ["drawing", "j", "k"] (sp_unpoked Dp)) : Cal P w K mg base 5 "_law_taken_refused" ["_law_drawing", "_law_j", "_law_k"] sp_taken := by
  refine F.cal sc__law_taken_refused (fun vs H Q E h => ?_) (fun A outer s H vs Q E hr h => ?_)
  · obtain ⟨⟨d, v, u, rings, cs, rfl, _⟩⟩ := h; rfl
  · obtain ⟨⟨d, v, u, rings, cs, rfl, dr, sv, su, z, k⟩⟩ := h
    have nd := sc__law_taken_refused.nd
    refine ⟨_, (pss_cons (ps_tryE (i := 3) (C := C0) (R := (RT Dp [some (.ref d), some v, some u, none] Q)) (tb := tDrop (tCallG (sp_unpoked Dp) (RT Dp [some (.ref d), some v, some u, none] Q) (tCons (tVar 0) (tCons (tVar 1) (tCons (tVar 2) tNil))))) (th := (fun ea => tRet (tOp rEq (tCall (sp_kinds K C0 Dm Dp Dw Dx Dt Dy) [] E0 (tCons (tVar 3) tNil)) (tC (.str "NoPlace"))))) rfl rfl nd rfl rfl (by rfl) XX.m0
        (fun pins => pss_one (ps_expr (pe_callG (X := Cx.pinned (cxOf CX0 P w K mg base ["_law_drawing", "_law_j", "_law_k", "fault"] "_law_taken_refused" (defScope s__law_taken_refused) fa fd.code A outer s H E).nox pins) (R := (RT Dp [some (.ref d), some v, some u, none] Q)) cu (hr.mono (by decide)) (by rfl) (pa_cons (pv 0) (pa_cons (pv 1) (pa_cons (pv 2) pa_nil))))))
        (fun pins ea => (pss_one (ps_ret (pe_cmpR op_eq (pe_calH cJ ((Room.h hr _).mono (by decide)) (by rfl) (pa_cons (pv 3) pa_nil)) pe_str (nomark _))))))
      (pss_one (ps_ret pe_bl))), ?_⟩
    refine ⟨?_, ?_⟩
    · exact ⟨_, rfl, _, rfl, _, rfl, ⟨d, v, u, rings, cs, rfl, dr, sv, su, z, ⟨rfl, rfl, k⟩⟩⟩
    · rintro cls σ' H' ⟨rfl, rfl, k⟩
      refine ⟨xc.exm, fun ea hea => ?_⟩
      have s1 : Same H' (upd H' ea (Exc ea (.ref Dp))) := Same.new hea
      have e1 : upd H' ea (Exc ea (.ref Dp)) ea = some (Exc ea (.ref Dp)) := upd_same
      generalize upd H' ea (Exc ea (.ref Dp)) = H1 at s1 e1 ⊢
      refine ⟨_, rfl, kd_of 1 "NoPlace" e1 xc rfl rfl (fun m hm => by rw [show m = 0 by omega]; simp) rfl fun H2 s2 => ⟨rfl, ?_⟩⟩
      exact k _ (s1.trans s2)
end
end K25
namespace K25
open PySem L2 DM PM
abbrev s__law_copied : Stmt := top 61
theorem sc__law_copied : FnScope ["_law_drawing"] ["_law_drawing"] (defScope s__law_copied) := ⟨rfl, rfl, rfl, by decide +kernel, rfl, by decide +kernel, by decide +kernel⟩
section
variable {P : Program} {w : World} {K : PySem.W.Frag} {mg : Str → Option Value} {base : Heap}
structure PCop (vs : List V) (H : Hp) (Q : VK) : Prop where
  get : ∃ (d : Addr) (rings : List Int) (cs : List Cr), vs = [.ref d] ∧ DrAt H d rings cs ∧ ∀ (d' : Addr) (H' : Hp), Same H H' → DrAt H' d' rings cs → Q (.ref d') H'
def sp_copied : Sp := fun vs H Q _ => PCop vs H Q
theorem ok_copied {fa : Addr} {fd : FuncData} (F : FT K mg "_law_copied" s__law_copied ["_law_drawing"] fa fd) (T : BN mg) : Cal P w K mg base 1 "_law_copied" ["_law_drawing"] sp_copied := by
  refine F.cal sc__law_copied (fun vs H Q E h => ?_) (fun A outer s H vs Q E hr h => ?_)
  · obtain ⟨⟨d, rings, cs, rfl, _⟩⟩ := h; rfl
  · obtain ⟨⟨d, rings, cs, rfl, ⟨a, b, hd, ha, hcr⟩, k⟩⟩ := h
    have nd := sc__law_copied.nd
    obtain ⟨ps, hb, pp⟩ := id hcr
    refine ⟨_, (pss_one (ps_ret (pe_tup (pa_cons (pe_callTy call_list_of (by rfl) T.list (by decide +kernel) (pa_cons (pe_ix ix_tup (pv 0) pe_int (fun _ _ => rfl)) pa_nil)) (pa_cons (pe_callTy call_list_of (by rfl) T.list (by decide +kernel) (pa_cons (pe_ix ix_tup (pv 0) pe_int (fun _ _ => rfl)) pa_nil)) pa_nil))))), ?_⟩
    refine ⟨_, rfl, d, _, _, .ref a, rfl, rfl, SqT.of hd, rfl, a, _, rfl, .inl (SqL.of ha), fun L1 hL1 => ?_⟩
    have s1 : Same H (upd H L1 (.lst (rings.map V.int))) := Same.new hL1
    have h1 : upd H L1 (.lst (rings.map V.int)) L1 = some (.lst (rings.map V.int)) := upd_same
    generalize upd H L1 (.lst (rings.map V.int)) = H1 at s1 h1 ⊢
    refine ⟨_, rfl, d, _, _, .ref b, rfl, rfl, SqT.of (s1 _ _ hd), rfl, b, _, rfl, .inl (SqL.of (s1 _ _ hb)), fun L2 hL2 => ?_⟩
    have s2 : Same H1 (upd H1 L2 (.lst (ps.map V.ref))) := Same.new hL2
    have h2 : upd H1 L2 (.lst (ps.map V.ref)) L2 = some (.lst (ps.map V.ref)) := upd_same
    generalize upd H1 L2 (.lst (ps.map V.ref)) = H2 at s2 h2 ⊢
    refine ⟨(by show 2 ≤ sizeLine; decide), fun d' hd' => ?_⟩
    have s3 : Same H2 (upd H2 d' (.tup [.ref L1, .ref L2])) := Same.new hd'
    have s03 := (s1.trans s2).trans s3
    exact k d' _ s03 ⟨L1, L2, upd_same, s3 _ _ (s2 _ _ h1), ⟨ps, s3 _ _ h2, Paired.mono (fun q c z => s03 _ _ z) pp⟩⟩
end

theorem drn_of {H : Hp} {a : Addr} {ns : List Int} {at' most : Nat} {x y : Int} {Q : VK} (e1 : x = (at' : Int)) (e2 : y = (most : Int)) (hS : SqL K H a (ns.map V.int)) (a1 : at' ≤ 50) (m1 : most ≤ 100) (k : ∀ (d : Addr) (H' : Hp) (rings : List Int) (cs : List Cr), Same H H' → DrAt H' d rings cs → Good (most + 6) rings cs → Sml rings cs → Q (.ref d) H') : PDrn K [.ref a, .int x, .int y] H Q := ⟨a, ns, at', most, by rw [e1, e2], hS, a1, m1, k⟩
theorem cop_of {H : Hp} {d : Addr} {rings : List Int} {cs : List Cr} {Q : VK} (dr : DrAt H d rings cs) (k : ∀ (d' : Addr) (H' : Hp), Same H H' → DrAt H' d' rings cs → Q (.ref d') H') : PCop [.ref d] H Q := ⟨d, rings, cs, rfl, dr, k⟩
def mo30 : List Int := [6, 6, 6, 6, 6, 6, 6, 30]
theorem pick30 {z : Int} : ∃ (most : Nat), atI (mo30.map V.int) (z % 8) = some (.int (most : Int)) ∧ most ≤ 30 := by
  obtain ⟨mo, emo, _, mmo⟩ := pick (xs := mo30) (e := z) (n := 8) (B := 30) rfl (by decide) (by decide)
  have : 0 ≤ mo ∧ mo ≤ 30 := by
    simp only [mo30, List.mem_cons, List.not_mem_nil, or_false] at mmo
    omega
  have h : atI (mo30.map V.int) (z % 8) = some (.int mo) := emo
  exact ⟨mo.toNat, by rw [h, Int.toNat_of_nonneg this.1], by omega⟩

theorem small_log {x : Int} (h : x.natAbs ≤ 10 ^ 59) : x.natAbs.log2 < 1920 := by
  by_cases z : x.natAbs = 0
  · rw [z]; decide
  · exact (Nat.log2_lt z).mpr (Nat.lt_of_le_of_lt h (by decide +kernel))
theorem low_of {ks ns : List Int} (up : ks.Pairwise (· ≤ ·)) (pm : ks.Perm ns) (ne : ns ≠ []) : ∃ z, atI (ks.map V.int) 0 = some (.int z) ∧ z ∈ ns ∧ ∀ y ∈ ns, z ≤ y := by
  cases ks with
  | nil => exact absurd pm.symm.eq_nil ne
  | cons z ks =>
    refine ⟨z, atI_nat (show ((z :: ks).map V.int)[0]? = some (.int z) from rfl), pm.mem_iff.mp List.mem_cons_self, fun y hy => ?_⟩
    rcases List.mem_cons.mp (pm.mem_iff.mpr hy) with e | e
    · omega
    · exact (List.pairwise_cons.mp up).1 y e
theorem odd_ok {H : Hp} {ns : List Int} {m z : Int} {x : Str} {l t : Addr} {y y' : Int} (mx : ∀ y ∈ ns, y ≤ m) (mn : ∀ y ∈ ns, z ≤ y) (hl : H l = some (.lst [.int y])) (ht : H t = some (.tup [.int y'])) {v : V} (hv : v ∈ [V.int (m + 1), .int (z - 1), .non, .bl true, .str x, .ref l, .ref t]) : Sim H v ∧ hasV v ns = false := by
  simp only [List.mem_cons, List.not_mem_nil, or_false] at hv
  rcases hv with rfl | rfl | rfl | rfl | rfl | rfl | rfl
  · exact ⟨.int _, decide_eq_false fun h => by have := mx _ h; omega⟩
  · exact ⟨.int _, decide_eq_false fun h => by have := mn _ h; omega⟩
  · exact ⟨.non, rfl⟩
  · exact ⟨.bl _, rfl⟩
  · exact ⟨.str _, rfl⟩
  · exact ⟨.lst hl, rfl⟩
  · exact ⟨.tup ht, rfl⟩
theorem placeI (i : Int) (n : Nat) : placeV (.int i) n = (decide (0 ≤ i) && decide (i < (n : Int))) := rfl
theorem badplace_ok {H : Hp} {n : Nat} {c : Int} {l t : Addr} {z : Int} (hc : 0 ≤ c) (hl : H l = some (.lst [.int z])) (ht : H t = some (.tup [.int z])) {v : V} (hv : v ∈ [V.int n, .int (-1), .int ((n : Int) + c), .bl true, .non, .str "0", .ref l, .ref t, .int (-1 - (n : Int))]) : Sim H v ∧ placeV v n = false := by
  simp only [List.mem_cons, List.not_mem_nil, or_false] at hv
  rcases hv with rfl | rfl | rfl | rfl | rfl | rfl | rfl | rfl | rfl
  · exact ⟨.int _, by rw [placeI, decide_eq_false (show ¬ (n : Int) < (n : Int) by omega), Bool.and_false]⟩
  · exact ⟨.int _, by rw [placeI, decide_eq_false (show ¬ (0 : Int) ≤ -1 by omega), Bool.false_and]⟩
  · exact ⟨.int _, by rw [placeI, decide_eq_false (show ¬ (n : Int) + c < (n : Int) by omega), Bool.and_false]⟩
  · exact ⟨.bl _, rfl⟩
  · exact ⟨.non, rfl⟩
  · exact ⟨.str _, rfl⟩
  · exact ⟨.lst hl, rfl⟩
  · exact ⟨.tup ht, rfl⟩
  · exact ⟨.int _, by rw [placeI, decide_eq_false (show ¬ (0 : Int) ≤ -1 - (n : Int) by omega), Bool.false_and]⟩

theorem wf_more {rings : List Int} {cs : List Cr} (h : Wf rings cs) {x : Int} (hx : ∀ y ∈ n1 rings cs, y < x) : Wf (rings ++ [x]) cs := by
  refine ⟨h.sg, h.perm, ?_⟩
  have hx' : ∀ y ∈ rings ++ insA cs, y < x := hx
  rw [List.append_assoc]
  have p : (rings ++ ([x] ++ insA cs)).Perm (x :: (rings ++ insA cs)) := List.perm_middle
  refine p.nodup_iff.mpr (List.nodup_cons.mpr ⟨fun m => ?_, h.nd⟩)
  have := hx' x m; omega
theorem n1_more {rings : List Int} {cs : List Cr} {x y : Int} (hy : y ∈ n1 (rings ++ [x]) cs) : y = x ∨ y ∈ n1 rings cs := by
  have : y ∈ (rings ++ [x]) ++ insA cs := hy
  rcases List.mem_append.mp this with z | z
  · rcases List.mem_append.mp z with w | w
    · exact .inr (List.mem_append_left (insA cs) w)
    · exact .inl (List.mem_singleton.mp w)
  · exact .inr (List.mem_append_right rings z)

abbrev s_law : Stmt := top 65
theorem sc_law : FnScope ["_law_script", "_law_drawing", "_law_handed", "_law_names_here", "_law_many", "_law_k", "_law_cell", "_law_e", "_law_f", "_law_odd", "_law_side", "_law_some", "_law_wrong", "_law_place", "_law_other"] ["_law_script"] (defScope s_law) := ⟨rfl, rfl, rfl, by decide +kernel, rfl, by decide +kernel, by decide +kernel⟩
section
variable {P : Program} {w : World} {K : PySem.W.Frag} {mg : Str → Option Value} {base : Heap}
def sp_law (K : PySem.W.Frag) : Sp := fun vs H Q _ => ∃ (a : Addr) (ns : List Int), vs = [.ref a] ∧ SqL K H a (ns.map V.int) ∧ ∀ H', Same H H' → Q (.bl true) H'
theorem nam_of {H : Hp} {d : Addr} {rings : List Int} {cs : List Cr} {Q : VK} (dr : DrAt H d rings cs) (rl : rings.length ≤ 400) (cl : cs.length ≤ 400) (k : ∀ (p : Addr) (H' : Hp) (ks : List Int), H p = none → Same H H' → H' p = some (.lst (ks.map V.int)) → ks.Perm (n1 rings cs) → ks.Pairwise (· ≤ ·) → Q (.ref p) H') : PNam [.ref d] H Q := ⟨d, rings, cs, rfl, dr, rl, cl, k⟩
theorem ok_law {fa fS : Addr} {fd : FuncData} (F : FT K mg "law" s_law ["_law_script"] fa fd) (T : BN mg) (hT : ∀ G : Hp, SqT K G fS [.str "left", .str "right"]) (cN : Cal P w K mg base 2 "_law_number" ["_law_script", "_law_k"] (sp_number K)) (cD : Cal P w K mg base 6 "_law_drawn" ["_law_script", "_law_at", "_law_most"] (sp_drawn K)) (cC : Cal P w K mg base 1 "_law_copied" ["_law_drawing"] sp_copied)
    (cA : Cal P w K mg base 1 "_law_names" ["_law_drawing"] sp_names) (cP : Cal P w K mg base 6 "_law_put_refused" ["_law_drawing", "_law_wrong"] (sp_put K fS)) (cK : Cal P w K mg base 5 "_law_taken_refused" ["_law_drawing", "_law_j", "_law_k"] sp_taken) : Cal P w K mg base 7 "law" ["_law_script"] (sp_law K) := by
  refine F.cal sc_law (fun vs H Q E h => ?_) (fun A outer s H vs Q E hr h => ?_)
  · obtain ⟨a, ns, rfl, _⟩ := h; rfl
  · obtain ⟨a, zs, rfl, hS, k⟩ := h
    have nd := sc_law.nd
    refine ⟨_, (pss_cons (ps_set (i := 1) nd rfl (Or.inl rfl) (pe_cal cD (hr.mono (by decide)) (by rfl) (pa_cons (pv 0) (pa_cons pe_int (pa_cons (pe_ix ix_list (pe_lst (pa_cons pe_int (pa_cons pe_int (pa_cons pe_int (pa_cons pe_int (pa_cons pe_int (pa_cons pe_int (pa_cons pe_int (pa_cons pe_int pa_nil))))))))) (pe_op op_mod (pe_cal cN (hr.mono (by decide)) (by rfl) (pa_cons (pv 0) (pa_cons pe_int pa_nil))) pe_int) (fun _ _ => rfl)) pa_nil)))))
      (pss_cons (ps_if (pt_cmpR op_eq (pe_op op_mod (pe_cal cN (hr.mono (by decide)) (by rfl) (pa_cons (pv 0) (pa_cons pe_int pa_nil))) pe_int) pe_int (nomark _))
        (pss_one (ps_set (i := 1) nd rfl (Or.inl rfl) (pe_tup (pa_cons (pe_op op_cat (pe_ix ix_tup (pv 1) pe_int (fun _ _ => rfl)) (pe_lst (pa_cons (pe_op op_add (pe_ix ix_list (pe_cal cA (hr.mono (by decide)) (by rfl) (pa_cons (pv 1) pa_nil)) (pe_un un_neg pe_int) (fun _ _ => rfl)) pe_int) pa_nil))) (pa_cons (pe_ix ix_tup (pv 1) pe_int (fun _ _ => rfl)) pa_nil)))))
        pss_nil)
      (pss_cons (ps_set (i := 2) nd rfl (Or.inr rfl) (pe_cal cC (hr.mono (by decide)) (by rfl) (pa_cons (pv 1) pa_nil)))
      (pss_cons (ps_set (i := 3) nd rfl (Or.inl rfl) (pe_cal cA (hr.mono (by decide)) (by rfl) (pa_cons (pv 1) pa_nil)))
      (pss_cons (ps_set (i := 4) nd rfl (Or.inl rfl) (pe_len (by rfl) T.len (pe_ix ix_tup (pv 1) pe_int (fun _ _ => rfl))))
      (pss_cons (ps_for PassesOwn.never rfl (pi_range1 rfl T.range (pa_cons pe_int pa_nil)) (pg_name (i := 5) nd rfl (Or.inl rfl))
        (pss_cons (ps_set (i := 6) nd rfl (Or.inl rfl) (pe_cal cN (hr.mono (by decide)) (by rfl) (pa_cons (pv 0) (pa_cons (pe_op op_add pe_int (pv 5)) pa_nil))))
        (pss_cons (ps_set (i := 7) nd rfl (Or.inl rfl) (pe_ix ix_list (pv 3) (pe_op op_mod (pv 6) (pe_len (by rfl) T.len (pv 3))) (fun _ _ => rfl)))
        (pss_cons (ps_set (i := 8) nd rfl (Or.inl rfl) (pe_ix ix_list (pv 3) (pe_op op_mod (pe_op op_fdivB (pv 6) pe_int) (pe_len (by rfl) T.len (pv 3))) (fun _ _ => rfl)))
        (pss_cons (ps_set (i := 9) nd rfl (Or.inl rfl) (pe_ix ix_list (pe_lst (pa_cons (pe_op op_add (pe_ix ix_list (pv 3) (pe_un un_neg pe_int) (fun _ _ => rfl)) pe_int) (pa_cons (pe_op op_sub (pe_ix ix_list (pv 3) pe_int (fun _ _ => rfl)) pe_int) (pa_cons pe_non (pa_cons pe_bl (pa_cons (pe_callTy call_str_int (by rfl) T.str (by decide +kernel) (pa_cons (pv 7) pa_nil)) (pa_cons (pe_lst (pa_cons (pv 7) pa_nil)) (pa_cons (pe_tup (pa_cons (pv 8) pa_nil)) pa_nil)))))))) (pe_op op_mod (pe_op op_fdivB (pv 6) (pe_op op_pow pe_int pe_int)) pe_int) (fun _ _ => rfl)))
        (pss_cons (ps_set (i := 10) nd rfl (Or.inl rfl) (pe_ix ix_list (pe_lst (pa_cons pe_str (pa_cons pe_str (pa_cons pe_str (pa_cons pe_non (pa_cons pe_int (pa_cons (pe_lst (pa_cons pe_str pa_nil)) (pa_cons pe_bl (pa_cons pe_str pa_nil))))))))) (pe_op op_mod (pe_op op_fdivB (pv 6) (pe_op op_pow pe_int pe_int)) pe_int) (fun _ _ => rfl)))
        (pss_cons (ps_set (i := 11) nd rfl (Or.inl rfl) (pe_lst (pa_cons (pe_tup (pa_cons (pv 9) (pa_cons pe_str (pa_cons (pv 8) (pa_cons pe_str pa_nil))))) (pa_cons (pe_tup (pa_cons (pv 7) (pa_cons (pv 10) (pa_cons (pv 8) (pa_cons pe_str pa_nil))))) (pa_cons (pe_tup (pa_cons (pv 7) (pa_cons pe_str (pa_cons (pv 9) (pa_cons pe_str pa_nil))))) (pa_cons (pe_tup (pa_cons (pv 7) (pa_cons pe_str (pa_cons (pv 8) (pa_cons (pv 10) pa_nil))))) pa_nil))))))
        (pss_cons (ps_set (i := 11) nd rfl (Or.inl rfl) (pe_op op_cat (pv 11) (pe_lst (pa_cons (pe_tup (pa_cons (pv 9) (pa_cons (pv 10) (pa_cons (pv 9) (pa_cons (pv 10) pa_nil))))) (pa_cons (pe_tup (pa_cons (pv 7) (pa_cons (pv 10) (pa_cons (pv 7) (pa_cons pe_str pa_nil))))) (pa_cons (pe_tup (pa_cons (pv 9) (pa_cons pe_str (pa_cons (pv 7) (pa_cons (pv 10) pa_nil))))) (pa_cons (pe_tup (pa_cons (pv 7) (pa_cons pe_str (pa_cons (pv 7) (pa_cons (pv 10) pa_nil))))) pa_nil)))))))
        (pss_cons (ps_if (pt_not (pt_val (pe_callB (cr_all rfl) (by rfl) T.all (by decide +kernel) (pa_cons (pe_lc (own := [("_law_wrong", 12)]) (g := (gName 12)) (wi := (iList K (tVar 11))) (tt := tYes) (te := (tCall (sp_put K fS) [] E0 (tCons (tVar 2) (tCons (tVar 12) tNil)))) (by rfl) nd (pi_list (pv 11)) (blkOk_by (by kernel_rfl)) (fun _ _ _ _ _ => (pg_name (i := 12) nd rfl (Or.inl rfl))) (fun _ _ _ _ _ => pts_nil) (fun _ _ _ _ _ => (pe_cal cP (hr.mono (by decide)) (by rfl) (pa_cons (pv 2) (pa_cons (pv 12) pa_nil))))) pa_nil))))
          (pss_one (ps_ret pe_bl))
          pss_nil)
        (pss_cons (ps_set (i := 13) nd rfl (Or.inl rfl) (pe_ix ix_list (pe_lst (pa_cons (pv 4) (pa_cons (pe_un un_neg pe_int) (pa_cons (pe_op op_add (pv 4) (pe_op op_mod (pv 6) (pe_op op_pow pe_int pe_int))) (pa_cons pe_bl (pa_cons pe_non (pa_cons pe_str (pa_cons (pe_lst (pa_cons pe_int pa_nil)) (pa_cons (pe_tup (pa_cons pe_int pa_nil)) (pa_cons (pe_op op_sub (pe_un un_neg pe_int) (pv 4)) pa_nil)))))))))) (pe_op op_mod (pe_op op_fdivB (pv 6) (pe_op op_pow pe_int pe_int)) pe_int) (fun _ _ => rfl)))
        (pss_cons (ps_set (i := 14) nd rfl (Or.inl rfl) (pe_op op_sub (pe_op op_mod (pe_op op_fdivB (pv 6) (pe_op op_pow pe_int pe_int)) (pe_op op_add (pv 4) pe_int)) pe_int))
        (pss_one (ps_if (PW.pt (pw_or (pt_not (pt_val (pe_cal cK (hr.mono (by decide)) (by rfl) (pa_cons (pv 2) (pa_cons (pv 13) (pa_cons (pv 14) pa_nil)))))) (pw_or1 (pt_not (pt_val (pe_cal cK (hr.mono (by decide)) (by rfl) (pa_cons (pv 2) (pa_cons (pv 14) (pa_cons (pv 13) pa_nil)))))))))
          (pss_one (ps_ret pe_bl))
          pss_nil)))))))))))))
      (pss_one (ps_ret (pe_cmpR (op_eqD hr.units) (pv 2) (pv 1) (nomark _)))))))))), ?_⟩
    refine ⟨_, rfl, (by show 8 ≤ sizeLine; decide), fun L hL => ?_⟩
    have s1 : Same H (upd H L (.lst [V.int 6, V.int 6, V.int 6, V.int 6, V.int 6, V.int 6, V.int 6, V.int 30])) := Same.new hL
    have h1 : upd H L (.lst [V.int 6, V.int 6, V.int 6, V.int 6, V.int 6, V.int 6, V.int 6, V.int 30]) L = some (.lst (mo30.map V.int)) := upd_same
    try dsimp only
    generalize upd H L (.lst [V.int 6, V.int 6, V.int 6, V.int 6, V.int 6, V.int 6, V.int 6, V.int 30]) = H1 at s1 h1 ⊢
    refine ⟨_, rfl, num_of (k := 0) rfl (s1.seq hS) (by decide) fun z0 => ?_⟩
    obtain ⟨most, emo, m30⟩ := pick30 (z := z0)
    refine ⟨_, _, rfl, rfl, (by show (0 : Int) < 8; decide), L, _, _, .int most, rfl, rfl, SqL.of h1, emo, ?_⟩
    refine drn_of (at' := 1) (most := most) rfl rfl (s1.seq hS) (by decide) (by omega) fun d0 H2 rings0 cr s2 dr0 gd sml0 => ?_
    clear emo z0
    have wf0 := gd.wf
    have cl : cr.length ≤ 36 := by have := gd.len; omega
    have rl0 := gd.rl
    have il := insA_len cr
    have sm2 := s1.trans s2
    refine ⟨_, rfl, num_of (k := 7) rfl (sm2.seq hS) (by decide) fun z7 => ⟨_, _, rfl, rfl, (by show (0 : Int) < 3; decide), rfl, _, rfl, ?_⟩⟩
    refine ite2 (fun _ => ?inl) (fun _ => ?inr)
    case' inl =>
      obtain ⟨a1, b1, hd1, ha1, hcr1⟩ := id dr0
      refine ⟨_, rfl, d0, _, _, .ref a1, rfl, rfl, SqT.of hd1, rfl, _, rfl, nam_of dr0 (by omega) (by omega) fun N0 H3 ks0 nN0 s3 hN0 pm0 up0 => ?_⟩
      obtain ⟨m0, hm0, mm0, mx0⟩ := top_of up0 pm0 gd.ne
      refine ⟨_, rfl, N0, _, _, .int m0, rfl, rfl, SqL.of hN0, hm0, _, _, rfl, rfl, (by show 1 ≤ sizeLine; decide), fun l0 hl0 => ?_⟩
      have s4 : Same H3 (upd H3 l0 (.lst [.int (m0 + 7)])) := Same.new hl0
      have h4 : upd H3 l0 (.lst [.int (m0 + 7)]) l0 = some (.lst ([m0 + 7].map V.int)) := upd_same
      try dsimp only
      generalize upd H3 l0 (.lst [.int (m0 + 7)]) = H4 at s4 h4 ⊢
      have s24 := s3.trans s4
      refine ⟨a1, l0, _, _, rfl, rfl, s24 _ _ ha1, h4, Nat.le_of_lt (sln (by rw [List.length_map]; simp; omega)), fun p0 hp0 => ?_⟩
      rw [← List.map_append]
      have s5 : Same H4 (upd H4 p0 (.lst ((rings0 ++ [m0 + 7]).map V.int))) := Same.new hp0
      have h5 : upd H4 p0 (.lst ((rings0 ++ [m0 + 7]).map V.int)) p0 = some (.lst ((rings0 ++ [m0 + 7]).map V.int)) := upd_same
      try dsimp only
      generalize upd H4 p0 (.lst ((rings0 ++ [m0 + 7]).map V.int)) = H5 at s5 h5 ⊢
      have s25 := s24.trans s5
      refine ⟨_, rfl, d0, _, _, .ref b1, rfl, rfl, SqT.of (s25 _ _ hd1), rfl, (by show 2 ≤ sizeLine; decide), fun d hd9 => ?_⟩
      have s6 : Same H5 (upd H5 d (.tup [.ref p0, .ref b1])) := Same.new hd9
      have h6 : upd H5 d (.tup [.ref p0, .ref b1]) d = some (.tup [.ref p0, .ref b1]) := upd_same
      try dsimp only
      generalize upd H5 d (.tup [.ref p0, .ref b1]) = H6 at s6 h6 ⊢
      have s26 := s25.trans s6
      have dr : DrAt H6 d (rings0 ++ [m0 + 7]) cr := ⟨p0, b1, h6, s6 _ _ h5, hcr1.mv s26⟩
      have sm6 := sm2.trans s26
      have wf : Wf (rings0 ++ [m0 + 7]) cr := wf_more wf0 fun y hy => by have := mx0 y hy; omega
      have rl : (rings0 ++ [m0 + 7]).length ≤ 7 := by simp; omega
      have sml : ∀ x ∈ n1 (rings0 ++ [m0 + 7]) cr, x.natAbs ≤ 10 ^ 59 := fun x hx => by
        rcases n1_more hx with e | e
        · have := sml0 _ mm0; omega
        · have := sml0 _ e; omega
      have ne : n1 (rings0 ++ [m0 + 7]) cr ≠ [] := List.ne_nil_of_mem (List.mem_append_left _ (List.mem_append_right _ (List.mem_singleton.mpr rfl)))
      generalize rings0 ++ [m0 + 7] = rings at dr wf rl sml ne
      clear h6 h5 hm0 mm0 mx0 ha1 hd1 hcr1 hN0 pm0 up0
    case' inr =>
      obtain ⟨d, rfl⟩ : ∃ x, x = d0 := ⟨_, rfl⟩
      obtain ⟨H6, rfl⟩ : ∃ x, x = H2 := ⟨_, rfl⟩
      obtain ⟨rings, rfl⟩ : ∃ x, x = rings0 := ⟨_, rfl⟩
      have dr := dr0
      have wf := wf0
      have sm6 := sm2
      have rl : rings.length ≤ 7 := by omega
      have sml : ∀ x ∈ n1 rings cr, x.natAbs ≤ 10 ^ 59 := fun x hx => by have := sml0 x hx; omega
      have ne := gd.ne
    all_goals
      refine ⟨_, rfl, cop_of dr fun d' H7 s7 dr' => ?_⟩
      have dr7 := dr.mv s7
      refine ⟨_, rfl, nam_of dr7 (by omega) (by omega) fun N H8 ks nN s8 hN pm up => ?_⟩
      have dr8 := dr7.mv s8
      have drh8 := dr'.mv s8
      have sm8 := (sm6.trans s7).trans s8
      obtain ⟨a0, b0, hd0, ha0, hcr0⟩ := id dr8
      obtain ⟨ps, hb0, pp⟩ := id hcr0
      have hpl := pp.length
      have k0 : 0 < ks.length := by rw [pm.length_eq]; exact List.length_pos_iff.mpr ne
      obtain ⟨m, hm, mm, mx⟩ := top_of up pm ne
      obtain ⟨z, hz, mz, mn⟩ := low_of up pm ne
      refine ⟨_, rfl, d, _, _, .ref b0, rfl, rfl, SqT.of hd0, rfl, b0, _, rfl, .inl (SqL.of hb0), ?_⟩
      rw [List.length_map, hpl]
      clear hd0 ha0 hcr0 hb0 pp hpl
      refine ⟨4, rfl, by decide, by decide, ?_⟩
      refine for_by (D := { nx := _, rt := _ }) (n := 4) (fun i σ H9 => ∃ v5 v6 v7 v8 v9 v10 v11 v13 v14 : Option V, σ = [some (.ref a), some (.ref d), some (.ref d'), some (.ref N), some (.int (cr.length : Nat)), v5, v6, v7, v8, v9, v10, v11, none, v13, v14] ∧ Same H8 H9) ⟨none, none, none, none, none, none, none, none, none, rfl, .refl _⟩ (fun i σ H9 hi _ => by show i < (4 : Int).toNat; exact hi) (fun σ H9 _ => by show (4 : Int).toNat ≤ 4; decide) ?_ ?_
      · rintro i σ H9 hi ⟨v5, v6, v7, v8, v9, v10, v11, v13, v14, rfl, s89⟩ x H' ⟨rfl, rfl⟩
        have sm9 := sm8.trans s89
        have hN9 := s89 _ _ hN
        refine ⟨_, rfl, _, rfl, _, _, rfl, rfl, num_of (k := 8 + i) (by push_cast; omega) (sm9.seq hS) (by omega) fun z1 => ?_⟩
        obtain ⟨e1, he1, me1⟩ := pickI (ks := ks) (z := z1) k0
        refine ⟨_, rfl, _, rfl, _, rfl, N, _, rfl, .inl (SqL.of hN9), ?_⟩
        rw [List.length_map]
        refine ⟨_, _, rfl, rfl, (by show (0 : Int) < (ks.length : Nat); omega), N, _, _, .int e1, rfl, rfl, SqL.of hN9, he1, ?_⟩
        obtain ⟨f1, hf1, mf1⟩ := pickI (ks := ks) (z := z1 / 128) k0
        refine ⟨_, rfl, _, rfl, _, _, rfl, rfl, db (by decide) (by decide), _, rfl, N, _, rfl, .inl (SqL.of hN9), ?_⟩
        rw [List.length_map]
        refine ⟨_, _, rfl, rfl, (by show (0 : Int) < (ks.length : Nat); omega), N, _, _, .int f1, rfl, rfl, SqL.of hN9, hf1, ?_⟩
        have hnn : e1 ∈ n1 rings cr := pm.mem_iff.mp me1
        -- what is no name
        refine ⟨_, rfl, _, rfl, N, _, _, .int m, rfl, rfl, SqL.of hN9, hm, _, _, rfl, rfl, _, rfl, N, _, _, .int z, rfl, rfl, SqL.of hN9, hz, _, _, rfl, rfl, _, rfl, _, rfl, small_log (sml _ hnn), _, rfl, (by show 1 ≤ sizeLine; decide), fun l1 hl1 => ?_⟩
        have t1 : Same H' (upd H' l1 (.lst [.int e1])) := Same.new hl1
        have g1 : upd H' l1 (.lst [.int e1]) l1 = some (.lst [.int e1]) := upd_same
        try dsimp only
        generalize upd H' l1 (.lst [.int e1]) = G1 at t1 g1 ⊢
        refine ⟨_, rfl, (by show 1 ≤ sizeLine; decide), fun l2 hl2 => ?_⟩
        have t2 : Same G1 (upd G1 l2 (.tup [.int f1])) := Same.new hl2
        have g2 : upd G1 l2 (.tup [.int f1]) l2 = some (.tup [.int f1]) := upd_same
        try dsimp only
        generalize upd G1 l2 (.tup [.int f1]) = G2 at t2 g2 ⊢
        refine ⟨(by show 7 ≤ sizeLine; decide), fun l3 hl3 => ?_⟩
        have t3 : Same G2 (upd G2 l3 (.lst [.int (m + 1), .int (z - 1), .non, .bl true, .str (toString e1), .ref l1, .ref l2])) := Same.new hl3
        have g3 : upd G2 l3 (.lst [.int (m + 1), .int (z - 1), .non, .bl true, .str (toString e1), .ref l1, .ref l2]) l3 = some (.lst [.int (m + 1), .int (z - 1), .non, .bl true, .str (toString e1), .ref l1, .ref l2]) := upd_same
        try dsimp only
        generalize upd G2 l3 (.lst [.int (m + 1), .int (z - 1), .non, .bl true, .str (toString e1), .ref l1, .ref l2]) = G3 at t3 g3 ⊢
        obtain ⟨od, eod, mod⟩ := pickV (xs := [.int (m + 1), .int (z - 1), .non, .bl true, .str (toString e1), .ref l1, .ref l2]) (e := z1 / 2 ^ (14 : Int).toNat) (n := 7) rfl (by decide)
        refine ⟨_, rfl, _, _, rfl, rfl, ⟨by decide, by decide, by decide⟩, _, _, rfl, rfl, db (by decide +kernel) (by decide +kernel), _, _, rfl, rfl, (by show (0 : Int) < 7; decide), l3, _, _, od, rfl, rfl, SqL.of g3, eod, ?_⟩
        obtain ⟨so, ho⟩ := odd_ok mx mn ((t2.trans t3) _ _ g1) (t3 _ _ g2) mod
        have u3 := (t1.trans t2).trans t3
        clear eod mod
        -- what is no side
        refine ⟨(by show 1 ≤ sizeLine; decide), fun l6 hl6 => ?_⟩
        have t6 : Same G3 (upd G3 l6 (.lst [.str "right"])) := Same.new hl6
        have g6 : upd G3 l6 (.lst [.str "right"]) l6 = some (.lst [.str "right"]) := upd_same
        try dsimp only
        generalize upd G3 l6 (.lst [.str "right"]) = G6 at t6 g6 ⊢
        refine ⟨(by show 8 ≤ sizeLine; decide), fun l7 hl7 => ?_⟩
        have t7 : Same G6 (upd G6 l7 (.lst [.str "", .str "Left", .str "under", .non, .int 1, .ref l6, .bl false, .str "l"])) := Same.new hl7
        have g7 : upd G6 l7 (.lst [.str "", .str "Left", .str "under", .non, .int 1, .ref l6, .bl false, .str "l"]) l7 = some (.lst [.str "", .str "Left", .str "under", .non, .int 1, .ref l6, .bl false, .str "l"]) := upd_same
        try dsimp only
        generalize upd G6 l7 (.lst [.str "", .str "Left", .str "under", .non, .int 1, .ref l6, .bl false, .str "l"]) = G7 at t7 g7 ⊢
        obtain ⟨wv, ewv, mwv⟩ := pickV (xs := [.str "", .str "Left", .str "under", .non, .int 1, .ref l6, .bl false, .str "l"]) (e := z1 / 2 ^ (18 : Int).toNat) (n := 8) rfl (by decide)
        refine ⟨_, rfl, _, _, rfl, rfl, ⟨by decide, by decide, by decide⟩, _, _, rfl, rfl, db (by decide +kernel) (by decide +kernel), _, _, rfl, rfl, (by show (0 : Int) < 8; decide), l7, _, _, wv, rfl, rfl, SqL.of g7, ewv, ?_⟩
        obtain ⟨sw, hw⟩ := side_ok (t7 _ _ g6) mwv
        have u7 := (u3.trans t6).trans t7
        have so := so.mv (t6.trans t7)
        clear ewv mwv
        -- eight wrong ones
        refine ⟨_, rfl, _, rfl, (by show 4 ≤ sizeLine; decide), fun q1 hq1 => ?_⟩
        have t8 : Same G7 (upd G7 q1 (.tup [od, .str "left", .int f1, .str "left"])) := Same.new hq1
        have g8 : upd G7 q1 (.tup [od, .str "left", .int f1, .str "left"]) q1 = some (.tup [od, .str "left", .int f1, .str "left"]) := upd_same
        try dsimp only
        generalize upd G7 q1 (.tup [od, .str "left", .int f1, .str "left"]) = G8 at t8 g8 ⊢
        refine ⟨_, rfl, _, rfl, _, rfl, (by show 4 ≤ sizeLine; decide), fun q2 hq2 => ?_⟩
        have t9 : Same G8 (upd G8 q2 (.tup [.int e1, wv, .int f1, .str "right"])) := Same.new hq2
        have g9 : upd G8 q2 (.tup [.int e1, wv, .int f1, .str "right"]) q2 = some (.tup [.int e1, wv, .int f1, .str "right"]) := upd_same
        try dsimp only
        generalize upd G8 q2 (.tup [.int e1, wv, .int f1, .str "right"]) = G9 at t9 g9 ⊢
        refine ⟨_, rfl, _, rfl, (by show 4 ≤ sizeLine; decide), fun q3 hq3 => ?_⟩
        have t10 : Same G9 (upd G9 q3 (.tup [.int e1, .str "left", od, .str "right"])) := Same.new hq3
        have g10 : upd G9 q3 (.tup [.int e1, .str "left", od, .str "right"]) q3 = some (.tup [.int e1, .str "left", od, .str "right"]) := upd_same
        try dsimp only
        generalize upd G9 q3 (.tup [.int e1, .str "left", od, .str "right"]) = G10 at t10 g10 ⊢
        refine ⟨_, rfl, _, rfl, _, rfl, (by show 4 ≤ sizeLine; decide), fun q4 hq4 => ?_⟩
        have t11 : Same G10 (upd G10 q4 (.tup [.int e1, .str "right", .int f1, wv])) := Same.new hq4
        have g11 : upd G10 q4 (.tup [.int e1, .str "right", .int f1, wv]) q4 = some (.tup [.int e1, .str "right", .int f1, wv]) := upd_same
        try dsimp only
        generalize upd G10 q4 (.tup [.int e1, .str "right", .int f1, wv]) = G11 at t11 g11 ⊢
        refine ⟨(by show 4 ≤ sizeLine; decide), fun l8 hl8 => ?_⟩
        have t12 : Same G11 (upd G11 l8 (.lst [.ref q1, .ref q2, .ref q3, .ref q4])) := Same.new hl8
        have g12 : upd G11 l8 (.lst [.ref q1, .ref q2, .ref q3, .ref q4]) l8 = some (.lst [.ref q1, .ref q2, .ref q3, .ref q4]) := upd_same
        try dsimp only
        generalize upd G11 l8 (.lst [.ref q1, .ref q2, .ref q3, .ref q4]) = G12 at t12 g12 ⊢
        refine ⟨_, rfl, _, rfl, _, rfl, _, rfl, _, rfl, (by show 4 ≤ sizeLine; decide), fun q5 hq5 => ?_⟩
        have t13 : Same G12 (upd G12 q5 (.tup [od, wv, od, wv])) := Same.new hq5
        have g13 : upd G12 q5 (.tup [od, wv, od, wv]) q5 = some (.tup [od, wv, od, wv]) := upd_same
        try dsimp only
        generalize upd G12 q5 (.tup [od, wv, od, wv]) = G13 at t13 g13 ⊢
        refine ⟨_, rfl, _, rfl, _, rfl, (by show 4 ≤ sizeLine; decide), fun q6 hq6 => ?_⟩
        have t14 : Same G13 (upd G13 q6 (.tup [.int e1, wv, .int e1, .str "left"])) := Same.new hq6
        have g14 : upd G13 q6 (.tup [.int e1, wv, .int e1, .str "left"]) q6 = some (.tup [.int e1, wv, .int e1, .str "left"]) := upd_same
        try dsimp only
        generalize upd G13 q6 (.tup [.int e1, wv, .int e1, .str "left"]) = G14 at t14 g14 ⊢
        refine ⟨_, rfl, _, rfl, _, rfl, (by show 4 ≤ sizeLine; decide), fun q7 hq7 => ?_⟩
        have t15 : Same G14 (upd G14 q7 (.tup [od, .str "left", .int e1, wv])) := Same.new hq7
        have g15 : upd G14 q7 (.tup [od, .str "left", .int e1, wv]) q7 = some (.tup [od, .str "left", .int e1, wv]) := upd_same
        try dsimp only
        generalize upd G14 q7 (.tup [od, .str "left", .int e1, wv]) = G15 at t15 g15 ⊢
        refine ⟨_, rfl, _, rfl, _, rfl, (by show 4 ≤ sizeLine; decide), fun q8 hq8 => ?_⟩
        have t15b : Same G15 (upd G15 q8 (.tup [.int e1, .str "right", .int e1, wv])) := Same.new hq8
        have g15b : upd G15 q8 (.tup [.int e1, .str "right", .int e1, wv]) q8 = some (.tup [.int e1, .str "right", .int e1, wv]) := upd_same
        try dsimp only
        generalize upd G15 q8 (.tup [.int e1, .str "right", .int e1, wv]) = G15b at t15b g15b ⊢
        refine ⟨(by show 4 ≤ sizeLine; decide), fun l9 hl9 => ?_⟩
        have t16 : Same G15b (upd G15b l9 (.lst [.ref q5, .ref q6, .ref q7, .ref q8])) := Same.new hl9
        have g16 : upd G15b l9 (.lst [.ref q5, .ref q6, .ref q7, .ref q8]) l9 = some (.lst [.ref q5, .ref q6, .ref q7, .ref q8]) := upd_same
        try dsimp only
        generalize upd G15b l9 (.lst [.ref q5, .ref q6, .ref q7, .ref q8]) = G16 at t16 g16 ⊢
        have w8 := t15b.trans t16
        have w7 := t15.trans w8
        have w6 := t14.trans w7
        have w5 := t13.trans w6
        have w4 := t12.trans w5
        have w3 := t11.trans w4
        have w2 := t10.trans w3
        have w1 := t9.trans w2
        have u716 := t8.trans w1
        have u16 := u7.trans u716
        have so := so.mv u716
        have sw := sw.mv u716
        refine ⟨l8, l9, _, _, rfl, rfl, w5 _ _ g12, g16, (by show 4 + 4 ≤ sizeLine; decide), fun l10 hl10 => ?_⟩
        have t17 : Same G16 (upd G16 l10 (.lst ([V.ref q1, .ref q2, .ref q3, .ref q4] ++ [.ref q5, .ref q6, .ref q7, .ref q8]))) := Same.new hl10
        have g17 : upd G16 l10 (.lst ([V.ref q1, .ref q2, .ref q3, .ref q4] ++ [.ref q5, .ref q6, .ref q7, .ref q8])) l10 = some (.lst ([q1, q2, q3, q4, q5, q6, q7, q8].map V.ref)) := upd_same
        have all8 : ∀ q ∈ [q1, q2, q3, q4, q5, q6, q7, q8], Wr4 G16 (n1 rings cr) q := fun q hq => by
          simp only [List.mem_cons, List.not_mem_nil, or_false] at hq
          rcases hq with rfl | rfl | rfl | rfl | rfl | rfl | rfl | rfl
          · exact ⟨_, _, _, _, w1 _ _ g8, so, .str _, .int _, .str _, .inl ho⟩
          · exact ⟨_, _, _, _, w2 _ _ g9, .int _, sw, .int _, .str _, .inr (.inl hw)⟩
          · exact ⟨_, _, _, _, w3 _ _ g10, .int _, .str _, so, .str _, .inr (.inr (.inl ho))⟩
          · exact ⟨_, _, _, _, w4 _ _ g11, .int _, .str _, .int _, sw, .inr (.inr (.inr hw))⟩
          · exact ⟨_, _, _, _, w6 _ _ g13, so, sw, so, sw, .inl ho⟩
          · exact ⟨_, _, _, _, w7 _ _ g14, .int _, sw, .int _, .str _, .inr (.inl hw)⟩
          · exact ⟨_, _, _, _, w8 _ _ g15, so, .str _, .int _, sw, .inl ho⟩
          · exact ⟨_, _, _, _, t16 _ _ g15b, .int _, .str _, .int _, sw, .inr (.inr (.inr hw))⟩
        try dsimp only
        generalize upd G16 l10 (.lst ([V.ref q1, .ref q2, .ref q3, .ref q4] ++ [.ref q5, .ref q6, .ref q7, .ref q8])) = G17 at t17 g17 ⊢
        generalize hqs : [q1, q2, q3, q4, q5, q6, q7, q8] = qs at g17 all8
        have ql : qs.length ≤ 8 := by rw [← hqs]; exact Nat.le_refl 8
        have u17 := u16.trans t17
        refine ⟨_, rfl, l10, rfl, ⟨_, SqL.of g17⟩, fun D hD => ?_⟩
        have dl := ne_of_none g17 hD
        refine lc_inv (n := qs.length) (fun j G => G D = some (.lst ((List.replicate j true).map V.bl)) ∧ SameX D G17 G) ⟨upd_same, .upd⟩ (fun j G hj ⟨_, sx⟩ => ⟨_, _, SqL.of (sx _ _ dl g17), List.getElem?_eq_getElem (by rw [List.length_map]; omega)⟩) (fun G ⟨_, sx⟩ => ⟨_, SqL.of (sx _ _ dl g17), by rw [List.length_map]; omega⟩) ?_ ?_
        · rintro j G hj ⟨hDG, sx⟩ y G' ⟨rfl, hy⟩
          obtain ⟨q, eq⟩ : ∃ q, qs[j]? = some q := ⟨_, List.getElem?_eq_getElem hj⟩
          have ey := hy _ (SqL.of (sx _ _ dl g17))
          rw [List.getElem?_map, eq] at ey
          cases ey
          have wq := (all8 q (List.mem_of_getElem? eq)).mv t17
          obtain ⟨v, x1, x2, x3, hq, h1, h2, h3, h4', bad⟩ := id wq
          have drG := (drh8.mv s89).mv u17
          have mvx : ∀ c o, G17 c = some o → G' c = some o := fun c o e => sx _ _ (ne_of_none e hD) e
          have wq' := wq.mv mvx
          have drG' := drG.mv mvx
          refine ⟨rfl, ?_⟩
          refine yesT ?_
          refine ⟨_, rfl, _, rfl, ⟨⟨d', q, rings, cr, rfl, drG', wq', wf, by omega, by omega, hT, fun G2 sy => ?_⟩⟩⟩
          refine ⟨_, sy _ _ hDG, sln (by rw [List.length_map, List.length_replicate]; omega), ?_, (sx.trans sy.x).trans .upd⟩
          rw [upd_same, List.replicate_succ', List.map_append]; rfl
        rintro G ⟨hDG, sx⟩
        have u18 := u17.trans (sx.same hD)
        refine ⟨D, _, rfl, SqL.of hDG, true, ?_, iteF ?_⟩
        · rw [show (List.replicate qs.length true).all id = true from by simp]
        -- what is no place
        refine ⟨_, rfl, _, rfl, _, rfl, _, rfl, _, _, rfl, rfl, ⟨by decide, by decide, by decide⟩, _, _, rfl, rfl, (by show (0 : Int) < 10 ^ (50 : Int).toNat; decide +kernel), _, _, rfl, rfl, (by show 1 ≤ sizeLine; decide), fun m1 hm1 => ?_⟩
        have t18 : Same G (upd G m1 (.lst [.int 0])) := Same.new hm1
        have g18 : upd G m1 (.lst [.int 0]) m1 = some (.lst [.int 0]) := upd_same
        try dsimp only
        generalize upd G m1 (.lst [.int 0]) = G18 at t18 g18 ⊢
        refine ⟨(by show 1 ≤ sizeLine; decide), fun m2 hm2 => ?_⟩
        have t19 : Same G18 (upd G18 m2 (.tup [.int 0])) := Same.new hm2
        have g19 : upd G18 m2 (.tup [.int 0]) m2 = some (.tup [.int 0]) := upd_same
        try dsimp only
        generalize upd G18 m2 (.tup [.int 0]) = G19 at t19 g19 ⊢
        refine ⟨_, rfl, _, rfl, _, _, rfl, rfl, (by show 9 ≤ sizeLine; decide), fun m3 hm3 => ?_⟩
        have t20 : Same G19 (upd G19 m3 (.lst [.int (cr.length : Nat), .int (-1), .int ((cr.length : Nat) + z1 % 10 ^ (50 : Int).toNat), .bl true, .non, .str "0", .ref m1, .ref m2, .int (-1 - (cr.length : Nat))])) := Same.new hm3
        have g20 : upd G19 m3 (.lst [.int (cr.length : Nat), .int (-1), .int ((cr.length : Nat) + z1 % 10 ^ (50 : Int).toNat), .bl true, .non, .str "0", .ref m1, .ref m2, .int (-1 - (cr.length : Nat))]) m3 = some (.lst [.int (cr.length : Nat), .int (-1), .int ((cr.length : Nat) + z1 % 10 ^ (50 : Int).toNat), .bl true, .non, .str "0", .ref m1, .ref m2, .int (-1 - (cr.length : Nat))]) := upd_same
        try dsimp only
        generalize upd G19 m3 (.lst [.int (cr.length : Nat), .int (-1), .int ((cr.length : Nat) + z1 % 10 ^ (50 : Int).toNat), .bl true, .non, .str "0", .ref m1, .ref m2, .int (-1 - (cr.length : Nat))]) = G20 at t20 g20 ⊢
        obtain ⟨pv, epv, mpv⟩ := pickV (xs := [.int (cr.length : Nat), .int (-1), .int ((cr.length : Nat) + z1 % 10 ^ (50 : Int).toNat), .bl true, .non, .str "0", .ref m1, .ref m2, .int (-1 - (cr.length : Nat))]) (e := z1 / 2 ^ (22 : Int).toNat) (n := 9) rfl (by decide)
        refine ⟨_, rfl, _, _, rfl, rfl, ⟨by decide, by decide, by decide⟩, _, _, rfl, rfl, db (by decide +kernel) (by decide +kernel), _, _, rfl, rfl, (by show (0 : Int) < 9; decide), m3, _, _, pv, rfl, rfl, SqL.of g20, epv, ?_⟩
        obtain ⟨sp, hp⟩ := badplace_ok (Int.emod_nonneg _ (by decide +kernel)) ((t19.trans t20) _ _ g18) (t20 _ _ g19) mpv
        have u20 := ((u18.trans t18).trans t19).trans t20
        have drh20 := (drh8.mv s89).mv u20
        refine ⟨_, rfl, _, _, rfl, rfl, ⟨by decide, by decide, by decide⟩, _, _, rfl, rfl, db (by decide +kernel) (by decide +kernel), _, rfl, _, _, rfl, rfl, _, _, rfl, rfl, (by show (0 : Int) < (cr.length : Nat) + 2; omega), _, _, rfl, rfl, ?_⟩
        refine ⟨_, rfl, _, rfl, _, rfl, ⟨⟨d', pv, .int _, rings, cr, rfl, drh20, sp, .int _, .inl hp, fun G21 s21 => ?_⟩⟩⟩
        refine ⟨true, rfl, iteF ?_⟩
        refine ⟨_, rfl, _, rfl, _, rfl, ⟨⟨d', .int _, pv, rings, cr, rfl, drh20.mv s21, .int _, sp.mv s21, .inr hp, fun G22 s22 => ?_⟩⟩⟩
        refine ⟨true, rfl, iteF ?_⟩
        exact ⟨_, _, _, _, _, _, _, _, _, rfl, ((s89.trans u20).trans s21).trans s22⟩
      · rintro σ H9 ⟨v5, v6, v7, v8, v9, v10, v11, v13, v14, rfl, s89⟩
        refine ⟨_, rfl, _, rfl, _, _, dr_dp (drh8.mv s89), dr_dp (dr8.mv s89), dr_sh _ _, dr_sh _ _, ?_⟩
        rw [dr_eq]
        exact k _ (sm8.trans s89)
end
end K25
namespace K25
open PySem PySem.Spec L2 PyProof.Rows
theorem all_mk {P : Program} {w : World} {K : PySem.W.Frag} {h : Heap} {mg : Str → Option Value} {q : Program} (X : K.In h) (G : h.Ns mainGlobals mg)
    (tabs : ∀ e ∈ recsOf q, ∃ a o fd c P, mg e.name = some (.ref a) ∧ h.get? a = some o ∧ o.data = .func fd ∧ fd.code = .ref c ∧ h.IsCode c P #[] ∧ h.TableAt c P #[])
    {f0 f1 f2 f3 f4 f5 f6 f7 f8 f9 f10 f11 f12 f13 f14 f15 f16 f17 f18 f19 f20 f21 f22 f23 f24 f25 f26 f27 f28 f29 : Addr}
    {od0 an0 od1 an1 od2 an2 od3 an3 od4 an4 od5 an5 od6 an6 od7 an7 od8 an8 od9 an9 od10 an10 od11 an11 od12 an12 od13 an13 od14 an14 od15 an15 od16 an16 od17 an17 od18 an18 od19 an19 od20 an20 od21 an21 od22 an22 od23 an23 od24 an24 od25 an25 od26 an26 od27 an27 od28 an28 od29 an29 : Option Addr} {sl0 sl1 sl2 sl3 sl4 sl5 sl6 sl7 sl8 sl9 sl10 sl11 sl12 sl13 sl14 sl15 sl16 sl17 sl18 sl19 sl20 sl21 sl22 sl23 sl24 sl25 sl26 sl27 sl28 sl29 : Array (Option Value)}
    {oc0 kV0 dc0 pm0 cd0 ct0 oc1 kV1 dc1 pm1 cd1 ct1 oc2 kV2 dc2 pm2 cd2 ct2 oc3 kV3 dc3 pm3 cd3 ct3 oc4 kV4 dc4 pm4 cd4 ct4 oc5 kV5 dc5 pm5 cd5 ct5 oc6 kV6 dc6 pm6 cd6 ct6 oc7 kV7 dc7 pm7 cd7 ct7 oc8 kV8 dc8 pm8 cd8 ct8 oc9 kV9 dc9 pm9 cd9 ct9 oc10 kV10 dc10 pm10 cd10 ct10 oc11 kV11 dc11 pm11 cd11 ct11 oc12 kV12 dc12 pm12 cd12 ct12 oc13 kV13 dc13 pm13 cd13 ct13 oc14 kV14 dc14 pm14 cd14 ct14 oc15 kV15 dc15 pm15 cd15 ct15 oc16 kV16 dc16 pm16 cd16 ct16 oc17 kV17 dc17 pm17 cd17 ct17 oc18 kV18 dc18 pm18 cd18 ct18 oc19 kV19 dc19 pm19 cd19 ct19 oc20 kV20 dc20 pm20 cd20 ct20 oc21 kV21 dc21 pm21 cd21 ct21 oc22 kV22 dc22 pm22 cd22 ct22 oc23 kV23 dc23 pm23 cd23 ct23 oc24 kV24 dc24 pm24 cd24 ct24 oc25 kV25 dc25 pm25 cd25 ct25 oc26 kV26 dc26 pm26 cd26 ct26 oc27 kV27 dc27 pm27 cd27 ct27 oc28 kV28 dc28 pm28 cd28 ct28 oc29 kV29 dc29 pm29 cd29 ct29 : Value}
    (a0 : PySem.W.nsIn K mainGlobals "steps_along" = some (some (.ref f0))) (l0 : K.lookup f0 = some ⟨oc0, od0, .func (PySem.W.fnOf "steps_along" "steps_along" (defArgs s_steps_along) (defBody s_steps_along) (defScope s_steps_along) .none kV0 dc0 pm0 an0 cd0 ct0), sl0⟩) (c0 : PySem.W.codeIn K cd0 "steps_along" = true) (k0 : PySem.W.keepIn K (.ref f0) = true)
    (a1 : PySem.W.nsIn K mainGlobals "is_whole" = some (some (.ref f1))) (l1 : K.lookup f1 = some ⟨oc1, od1, .func (PySem.W.fnOf "is_whole" "is_whole" (defArgs s_is_whole) (defBody s_is_whole) (defScope s_is_whole) .none kV1 dc1 pm1 an1 cd1 ct1), sl1⟩) (c1 : PySem.W.codeIn K cd1 "is_whole" = true) (k1 : PySem.W.keepIn K (.ref f1) = true)
    (a2 : PySem.W.nsIn K mainGlobals "is_place" = some (some (.ref f2))) (l2 : K.lookup f2 = some ⟨oc2, od2, .func (PySem.W.fnOf "is_place" "is_place" (defArgs s_is_place) (defBody s_is_place) (defScope s_is_place) .none kV2 dc2 pm2 an2 cd2 ct2), sl2⟩) (c2 : PySem.W.codeIn K cd2 "is_place" = true) (k2 : PySem.W.keepIn K (.ref f2) = true)
    (a3 : PySem.W.nsIn K mainGlobals "names_of" = some (some (.ref f3))) (l3 : K.lookup f3 = some ⟨oc3, od3, .func (PySem.W.fnOf "names_of" "names_of" (defArgs s_names_of) (defBody s_names_of) (defScope s_names_of) .none kV3 dc3 pm3 an3 cd3 ct3), sl3⟩) (c3 : PySem.W.codeIn K cd3 "names_of" = true) (k3 : PySem.W.keepIn K (.ref f3) = true)
    (a4 : PySem.W.nsIn K mainGlobals "has_name" = some (some (.ref f4))) (l4 : K.lookup f4 = some ⟨oc4, od4, .func (PySem.W.fnOf "has_name" "has_name" (defArgs s_has_name) (defBody s_has_name) (defScope s_has_name) .none kV4 dc4 pm4 an4 cd4 ct4), sl4⟩) (c4 : PySem.W.codeIn K cd4 "has_name" = true) (k4 : PySem.W.keepIn K (.ref f4) = true)
    (a5 : PySem.W.nsIn K mainGlobals "refuse_no_name" = some (some (.ref f5))) (l5 : K.lookup f5 = some ⟨oc5, od5, .func (PySem.W.fnOf "refuse_no_name" "refuse_no_name" (defArgs s_refuse_no_name) (defBody s_refuse_no_name) (defScope s_refuse_no_name) .none kV5 dc5 pm5 an5 cd5 ct5), sl5⟩) (c5 : PySem.W.codeIn K cd5 "refuse_no_name" = true) (k5 : PySem.W.keepIn K (.ref f5) = true)
    (a6 : PySem.W.nsIn K mainGlobals "poked" = some (some (.ref f6))) (l6 : K.lookup f6 = some ⟨oc6, od6, .func (PySem.W.fnOf "poked" "poked" (defArgs s_poked) (defBody s_poked) (defScope s_poked) .none kV6 dc6 pm6 an6 cd6 ct6), sl6⟩) (c6 : PySem.W.codeIn K cd6 "poked" = true) (k6 : PySem.W.keepIn K (.ref f6) = true)
    (a7 : PySem.W.nsIn K mainGlobals "unpoked" = some (some (.ref f7))) (l7 : K.lookup f7 = some ⟨oc7, od7, .func (PySem.W.fnOf "unpoked" "unpoked" (defArgs s_unpoked) (defBody s_unpoked) (defScope s_unpoked) .none kV7 dc7 pm7 an7 cd7 ct7), sl7⟩) (c7 : PySem.W.codeIn K cd7 "unpoked" = true) (k7 : PySem.W.keepIn K (.ref f7) = true)
    (a8 : PySem.W.nsIn K mainGlobals "refuse_no_crossing" = some (some (.ref f8))) (l8 : K.lookup f8 = some ⟨oc8, od8, .func (PySem.W.fnOf "refuse_no_crossing" "refuse_no_crossing" (defArgs s_refuse_no_crossing) (defBody s_refuse_no_crossing) (defScope s_refuse_no_crossing) .none kV8 dc8 pm8 an8 cd8 ct8), sl8⟩) (c8 : PySem.W.codeIn K cd8 "refuse_no_crossing" = true) (k8 : PySem.W.keepIn K (.ref f8) = true)
    (a9 : PySem.W.nsIn K mainGlobals "_law_cell_at" = some (some (.ref f9))) (l9 : K.lookup f9 = some ⟨oc9, od9, .func (PySem.W.fnOf "_law_cell_at" "_law_cell_at" (defArgs s__law_cell_at) (defBody s__law_cell_at) (defScope s__law_cell_at) .none kV9 dc9 pm9 an9 cd9 ct9), sl9⟩) (c9 : PySem.W.codeIn K cd9 "_law_cell_at" = true) (k9 : PySem.W.keepIn K (.ref f9) = true)
    (a10 : PySem.W.nsIn K mainGlobals "_law_number" = some (some (.ref f10))) (l10 : K.lookup f10 = some ⟨oc10, od10, .func (PySem.W.fnOf "_law_number" "_law_number" (defArgs s__law_number) (defBody s__law_number) (defScope s__law_number) .none kV10 dc10 pm10 an10 cd10 ct10), sl10⟩) (c10 : PySem.W.codeIn K cd10 "_law_number" = true) (k10 : PySem.W.keepIn K (.ref f10) = true)
    (a11 : PySem.W.nsIn K mainGlobals "_law_letters" = some (some (.ref f11))) (l11 : K.lookup f11 = some ⟨oc11, od11, .func (PySem.W.fnOf "_law_letters" "_law_letters" (defArgs s__law_letters) (defBody s__law_letters) (defScope s__law_letters) .none kV11 dc11 pm11 an11 cd11 ct11), sl11⟩) (c11 : PySem.W.codeIn K cd11 "_law_letters" = true) (k11 : PySem.W.keepIn K (.ref f11) = true)
    (a12 : PySem.W.nsIn K mainGlobals "_law_closed" = some (some (.ref f12))) (l12 : K.lookup f12 = some ⟨oc12, od12, .func (PySem.W.fnOf "_law_closed" "_law_closed" (defArgs s__law_closed) (defBody s__law_closed) (defScope s__law_closed) .none kV12 dc12 pm12 an12 cd12 ct12), sl12⟩) (c12 : PySem.W.codeIn K cd12 "_law_closed" = true) (k12 : PySem.W.keepIn K (.ref f12) = true)
    (a13 : PySem.W.nsIn K mainGlobals "_law_new_names" = some (some (.ref f13))) (l13 : K.lookup f13 = some ⟨oc13, od13, .func (PySem.W.fnOf "_law_new_names" "_law_new_names" (defArgs s__law_new_names) (defBody s__law_new_names) (defScope s__law_new_names) .none kV13 dc13 pm13 an13 cd13 ct13), sl13⟩) (c13 : PySem.W.codeIn K cd13 "_law_new_names" = true) (k13 : PySem.W.keepIn K (.ref f13) = true)
    (a14 : PySem.W.nsIn K mainGlobals "_law_mixed_up" = some (some (.ref f14))) (l14 : K.lookup f14 = some ⟨oc14, od14, .func (PySem.W.fnOf "_law_mixed_up" "_law_mixed_up" (defArgs s__law_mixed_up) (defBody s__law_mixed_up) (defScope s__law_mixed_up) .none kV14 dc14 pm14 an14 cd14 ct14), sl14⟩) (c14 : PySem.W.codeIn K cd14 "_law_mixed_up" = true) (k14 : PySem.W.keepIn K (.ref f14) = true)
    (a15 : PySem.W.nsIn K mainGlobals "_law_ends" = some (some (.ref f15))) (l15 : K.lookup f15 = some ⟨oc15, od15, .func (PySem.W.fnOf "_law_ends" "_law_ends" (defArgs s__law_ends) (defBody s__law_ends) (defScope s__law_ends) .none kV15 dc15 pm15 an15 cd15 ct15), sl15⟩) (c15 : PySem.W.codeIn K cd15 "_law_ends" = true) (k15 : PySem.W.keepIn K (.ref f15) = true)
    (a16 : PySem.W.nsIn K mainGlobals "_law_onward" = some (some (.ref f16))) (l16 : K.lookup f16 = some ⟨oc16, od16, .func (PySem.W.fnOf "_law_onward" "_law_onward" (defArgs s__law_onward) (defBody s__law_onward) (defScope s__law_onward) .none kV16 dc16 pm16 an16 cd16 ct16), sl16⟩) (c16 : PySem.W.codeIn K cd16 "_law_onward" = true) (k16 : PySem.W.keepIn K (.ref f16) = true)
    (a17 : PySem.W.nsIn K mainGlobals "_law_face" = some (some (.ref f17))) (l17 : K.lookup f17 = some ⟨oc17, od17, .func (PySem.W.fnOf "_law_face" "_law_face" (defArgs s__law_face) (defBody s__law_face) (defScope s__law_face) .none kV17 dc17 pm17 an17 cd17 ct17), sl17⟩) (c17 : PySem.W.codeIn K cd17 "_law_face" = true) (k17 : PySem.W.keepIn K (.ref f17) = true)
    (a18 : PySem.W.nsIn K mainGlobals "_law_names" = some (some (.ref f18))) (l18 : K.lookup f18 = some ⟨oc18, od18, .func (PySem.W.fnOf "_law_names" "_law_names" (defArgs s__law_names) (defBody s__law_names) (defScope s__law_names) .none kV18 dc18 pm18 an18 cd18 ct18), sl18⟩) (c18 : PySem.W.codeIn K cd18 "_law_names" = true) (k18 : PySem.W.keepIn K (.ref f18) = true)
    (a19 : PySem.W.nsIn K mainGlobals "_law_in_moved" = some (some (.ref f19))) (l19 : K.lookup f19 = some ⟨oc19, od19, .func (PySem.W.fnOf "_law_in_moved" "_law_in_moved" (defArgs s__law_in_moved) (defBody s__law_in_moved) (defScope s__law_in_moved) .none kV19 dc19 pm19 an19 cd19 ct19), sl19⟩) (c19 : PySem.W.codeIn K cd19 "_law_in_moved" = true) (k19 : PySem.W.keepIn K (.ref f19) = true)
    (a20 : PySem.W.nsIn K mainGlobals "_law_curl" = some (some (.ref f20))) (l20 : K.lookup f20 = some ⟨oc20, od20, .func (PySem.W.fnOf "_law_curl" "_law_curl" (defArgs s__law_curl) (defBody s__law_curl) (defScope s__law_curl) .none kV20 dc20 pm20 an20 cd20 ct20), sl20⟩) (c20 : PySem.W.codeIn K cd20 "_law_curl" = true) (k20 : PySem.W.keepIn K (.ref f20) = true)
    (a21 : PySem.W.nsIn K mainGlobals "_law_poke" = some (some (.ref f21))) (l21 : K.lookup f21 = some ⟨oc21, od21, .func (PySem.W.fnOf "_law_poke" "_law_poke" (defArgs s__law_poke) (defBody s__law_poke) (defScope s__law_poke) .none kV21 dc21 pm21 an21 cd21 ct21), sl21⟩) (c21 : PySem.W.codeIn K cd21 "_law_poke" = true) (k21 : PySem.W.keepIn K (.ref f21) = true)
    (a22 : PySem.W.nsIn K mainGlobals "_law_spot" = some (some (.ref f22))) (l22 : K.lookup f22 = some ⟨oc22, od22, .func (PySem.W.fnOf "_law_spot" "_law_spot" (defArgs s__law_spot) (defBody s__law_spot) (defScope s__law_spot) .none kV22 dc22 pm22 an22 cd22 ct22), sl22⟩) (c22 : PySem.W.codeIn K cd22 "_law_spot" = true) (k22 : PySem.W.keepIn K (.ref f22) = true)
    (a23 : PySem.W.nsIn K mainGlobals "_law_some_poke" = some (some (.ref f23))) (l23 : K.lookup f23 = some ⟨oc23, od23, .func (PySem.W.fnOf "_law_some_poke" "_law_some_poke" (defArgs s__law_some_poke) (defBody s__law_some_poke) (defScope s__law_some_poke) .none kV23 dc23 pm23 an23 cd23 ct23), sl23⟩) (c23 : PySem.W.codeIn K cd23 "_law_some_poke" = true) (k23 : PySem.W.keepIn K (.ref f23) = true)
    (a24 : PySem.W.nsIn K mainGlobals "_law_drawn" = some (some (.ref f24))) (l24 : K.lookup f24 = some ⟨oc24, od24, .func (PySem.W.fnOf "_law_drawn" "_law_drawn" (defArgs s__law_drawn) (defBody s__law_drawn) (defScope s__law_drawn) .none kV24 dc24 pm24 an24 cd24 ct24), sl24⟩) (c24 : PySem.W.codeIn K cd24 "_law_drawn" = true) (k24 : PySem.W.keepIn K (.ref f24) = true)
    (a25 : PySem.W.nsIn K mainGlobals "_law_copied" = some (some (.ref f25))) (l25 : K.lookup f25 = some ⟨oc25, od25, .func (PySem.W.fnOf "_law_copied" "_law_copied" (defArgs s__law_copied) (defBody s__law_copied) (defScope s__law_copied) .none kV25 dc25 pm25 an25 cd25 ct25), sl25⟩) (c25 : PySem.W.codeIn K cd25 "_law_copied" = true) (k25 : PySem.W.keepIn K (.ref f25) = true)
    (a26 : PySem.W.nsIn K mainGlobals "_law_kinds" = some (some (.ref f26))) (l26 : K.lookup f26 = some ⟨oc26, od26, .func (PySem.W.fnOf "_law_kinds" "_law_kinds" (defArgs s__law_kinds) (defBody s__law_kinds) (defScope s__law_kinds) .none kV26 dc26 pm26 an26 cd26 ct26), sl26⟩) (c26 : PySem.W.codeIn K cd26 "_law_kinds" = true) (k26 : PySem.W.keepIn K (.ref f26) = true)
    (a27 : PySem.W.nsIn K mainGlobals "_law_put_refused" = some (some (.ref f27))) (l27 : K.lookup f27 = some ⟨oc27, od27, .func (PySem.W.fnOf "_law_put_refused" "_law_put_refused" (defArgs s__law_put_refused) (defBody s__law_put_refused) (defScope s__law_put_refused) .none kV27 dc27 pm27 an27 cd27 ct27), sl27⟩) (c27 : PySem.W.codeIn K cd27 "_law_put_refused" = true) (k27 : PySem.W.keepIn K (.ref f27) = true)
    (a28 : PySem.W.nsIn K mainGlobals "_law_taken_refused" = some (some (.ref f28))) (l28 : K.lookup f28 = some ⟨oc28, od28, .func (PySem.W.fnOf "_law_taken_refused" "_law_taken_refused" (defArgs s__law_taken_refused) (defBody s__law_taken_refused) (defScope s__law_taken_refused) .none kV28 dc28 pm28 an28 cd28 ct28), sl28⟩) (c28 : PySem.W.codeIn K cd28 "_law_taken_refused" = true) (k28 : PySem.W.keepIn K (.ref f28) = true)
    (a29 : PySem.W.nsIn K mainGlobals "law" = some (some (.ref f29))) (l29 : K.lookup f29 = some ⟨oc29, od29, .func (PySem.W.fnOf "law" "law" (defArgs s_law) (defBody s_law) (defScope s_law) .none kV29 dc29 pm29 an29 cd29 ct29), sl29⟩) (c29 : PySem.W.codeIn K cd29 "law" = true) (k29 : PySem.W.keepIn K (.ref f29) = true)
    (b0 : PySem.W.nsIn K mainGlobals "isinstance" = some none)
    (b1 : PySem.W.nsIn K mainGlobals "all" = some none)
    (b2 : PySem.W.nsIn K mainGlobals "int" = some none)
    (b3 : PySem.W.nsIn K mainGlobals "bool" = some none)
    (b4 : PySem.W.nsIn K mainGlobals "list" = some none)
    (b5 : PySem.W.nsIn K mainGlobals "len" = some none)
    (b6 : PySem.W.nsIn K mainGlobals "range" = some none)
    (b7 : PySem.W.nsIn K mainGlobals "sorted" = some none)
    (b8 : PySem.W.nsIn K mainGlobals "set" = some none)
    (b9 : PySem.W.nsIn K mainGlobals "tuple" = some none)
    (b10 : PySem.W.nsIn K mainGlobals "abs" = some none)
    (b11 : PySem.W.nsIn K mainGlobals "sum" = some none)
    (b12 : PySem.W.nsIn K mainGlobals "max" = some none)
    (b13 : PySem.W.nsIn K mainGlobals "min" = some none)
    (b14 : PySem.W.nsIn K mainGlobals "any" = some none)
    (b15 : PySem.W.nsIn K mainGlobals "zip" = some none)
    (b16 : PySem.W.nsIn K mainGlobals "enumerate" = some none)
    (b17 : PySem.W.nsIn K mainGlobals "dict" = some none)
    (b18 : PySem.W.nsIn K mainGlobals "str" = some none)
    (b19 : PySem.W.nsIn K mainGlobals "ValueError" = some none)
    {C0 Dm Dp Dw Dx Dt Dy : Addr} {fS : Addr} {dS : Option Addr} {tS0 tS1 : Tok} {nS : Nat} {sS : Array (Option Value)}
    (xC0 : PySem.W.nsIn K mainGlobals "CordError" = some (some (.ref C0)))
    (xDm : PySem.W.nsIn K mainGlobals "NoMove" = some (some (.ref Dm)))
    (xDp : PySem.W.nsIn K mainGlobals "NoPlace" = some (some (.ref Dp)))
    (xDw : PySem.W.nsIn K mainGlobals "NoWord" = some (some (.ref Dw)))
    (xDx : PySem.W.nsIn K mainGlobals "NoText" = some (some (.ref Dx)))
    (xDt : PySem.W.nsIn K mainGlobals "NoTable" = some (some (.ref Dt)))
    (xDy : PySem.W.nsIn K mainGlobals "TooMany" = some (some (.ref Dy)))
    (w4 : PySem.W.specialIn K (.builtin "object.__class__") "__get__" = some (some (.builtin "getset_descriptor.__get__")))
    (w5 : PySem.W.takesIn K (.builtin "object.__class__") = some true)
    (xeDp : PySem.W.excIn K Dp [.type "ValueError", .type "Exception", .type "BaseException", .type "object"] "ValueError.__new__" = true)
    (w1Dp : PySem.W.findIn K (.ref Dp) "__getattribute__" = some (some (.builtin "BaseException.__getattribute__")))
    (w2Dp : PySem.W.findIn K (.ref Dp) "__getattr__" = some none)
    (w3Dp : PySem.W.findIn K (.ref Dp) "__class__" = some (some (.builtin "object.__class__")))
    (w6Dp : PySem.W.mroIn K Dp (.type "object") = some true)
    (w7Dp : PySem.W.mroIn K Dp (.type "BaseException") = some true)
    (w8Dp : (PySem.W.clsIn K Dp).isSome = true)
    (wbDp : PySem.W.kitOne K (.ref Dp) (.type "ValueError") = some true)
    (wcDp : PySem.W.exmOne K (.ref Dp) (.ref C0) = some true)
    (kDpDm : PySem.W.kitOne K (.ref Dp) (.ref Dm) = some false)
    (kDpDp : PySem.W.kitOne K (.ref Dp) (.ref Dp) = some true)
    (kDpDw : PySem.W.kitOne K (.ref Dp) (.ref Dw) = some false)
    (kDpDx : PySem.W.kitOne K (.ref Dp) (.ref Dx) = some false)
    (kDpDt : PySem.W.kitOne K (.ref Dp) (.ref Dt) = some false)
    (kDpDy : PySem.W.kitOne K (.ref Dp) (.ref Dy) = some false)
    (xS : PySem.W.nsIn K mainGlobals "SIDES" = some (some (.ref fS)))
    (lS : K.lookup fS = some ⟨.type "tuple", dS, .seq #[.str "left" tS0, .str "right" tS1] nS, sS⟩)
     :
    ∃ sp : Sp, (∀ base : Heap, K.In base → base.Ns mainGlobals mg → BMain mg base → Cal P w K mg base 7 "law" ["_law_script"] sp) ∧
      ∀ (H : Hp) (a : Addr) (ns : List Int), ns.length ≤ 63 → TabsIn h H → SqL K H a (ns.map V.int) → sp [.ref a] H (fun v H' => v = .bl true ∧ Same H H') fun _ _ _ => False := by
  have T : BN mg := ⟨PySem.W.mg_none_of X G b0, PySem.W.mg_none_of X G b1, PySem.W.mg_none_of X G b2, PySem.W.mg_none_of X G b3, PySem.W.mg_none_of X G b4, PySem.W.mg_none_of X G b5, PySem.W.mg_none_of X G b6, PySem.W.mg_none_of X G b7, PySem.W.mg_none_of X G b8, PySem.W.mg_none_of X G b9, PySem.W.mg_none_of X G b10, PySem.W.mg_none_of X G b11, PySem.W.mg_none_of X G b12, PySem.W.mg_none_of X G b13, PySem.W.mg_none_of X G b14, PySem.W.mg_none_of X G b15, PySem.W.mg_none_of X G b16, PySem.W.mg_none_of X G b17, PySem.W.mg_none_of X G b18, PySem.W.mg_none_of X G b19⟩
  have F_steps_along := FT_mk (st := s_steps_along) (ps := ["crossings"]) X G a0 l0 c0 k0 fun _ _ _ _ _ _ us hl => match us, hl with | [_], _ => rfl
  have F_is_whole := FT_mk (st := s_is_whole) (ps := ["thing"]) X G a1 l1 c1 k1 fun _ _ _ _ _ _ us hl => match us, hl with | [_], _ => rfl
  have F_is_place := FT_mk (st := s_is_place) (ps := ["thing", "many"]) X G a2 l2 c2 k2 fun _ _ _ _ _ _ us hl => match us, hl with | [_, _], _ => rfl
  have F_names_of := FT_mk (st := s_names_of) (ps := ["drawing"]) X G a3 l3 c3 k3 fun _ _ _ _ _ _ us hl => match us, hl with | [_], _ => rfl
  have F_has_name := FT_mk (st := s_has_name) (ps := ["drawing", "name"]) X G a4 l4 c4 k4 fun _ _ _ _ _ _ us hl => match us, hl with | [_, _], _ => rfl
  have F_refuse_no_name := FT_mk (st := s_refuse_no_name) (ps := ["drawing", "name"]) X G a5 l5 c5 k5 fun _ _ _ _ _ _ us hl => match us, hl with | [_, _], _ => rfl
  have F_poked := FT_mk (st := s_poked) (ps := ["drawing", "e", "side", "f", "other_side"]) X G a6 l6 c6 k6 fun _ _ _ _ _ _ us hl => match us, hl with | [_, _, _, _, _], _ => rfl
  have F_unpoked := FT_mk (st := s_unpoked) (ps := ["drawing", "j", "k"]) X G a7 l7 c7 k7 fun _ _ _ _ _ _ us hl => match us, hl with | [_, _, _], _ => rfl
  have F_refuse_no_crossing := FT_mk (st := s_refuse_no_crossing) (ps := ["drawing", "k"]) X G a8 l8 c8 k8 fun _ _ _ _ _ _ us hl => match us, hl with | [_, _], _ => rfl
  have F__law_cell_at := FT_mk (st := s__law_cell_at) (ps := ["_law_script", "_law_k"]) X G a9 l9 c9 k9 fun _ _ _ _ _ _ us hl => match us, hl with | [_, _], _ => rfl
  have F__law_number := FT_mk (st := s__law_number) (ps := ["_law_script", "_law_k"]) X G a10 l10 c10 k10 fun _ _ _ _ _ _ us hl => match us, hl with | [_, _], _ => rfl
  have F__law_letters := FT_mk (st := s__law_letters) (ps := ["_law_cell", "_law_strands", "_law_most"]) X G a11 l11 c11 k11 fun _ _ _ _ _ _ us hl => match us, hl with | [_, _, _], _ => rfl
  have F__law_closed := FT_mk (st := s__law_closed) (ps := ["_law_strands", "_law_letters_here"]) X G a12 l12 c12 k12 fun _ _ _ _ _ _ us hl => match us, hl with | [_, _], _ => rfl
  have F__law_new_names := FT_mk (st := s__law_new_names) (ps := ["_law_drawing", "_law_cell"]) X G a13 l13 c13 k13 fun _ _ _ _ _ _ us hl => match us, hl with | [_, _], _ => rfl
  have F__law_mixed_up := FT_mk (st := s__law_mixed_up) (ps := ["_law_some", "_law_cell"]) X G a14 l14 c14 k14 fun _ _ _ _ _ _ us hl => match us, hl with | [_, _], _ => rfl
  have F__law_ends := FT_mk (st := s__law_ends) (ps := ["_law_row"]) X G a15 l15 c15 k15 fun _ _ _ _ _ _ us hl => match us, hl with | [_], _ => rfl
  have F__law_onward := FT_mk (st := s__law_onward) (ps := ["_law_crossings"]) X G a16 l16 c16 k16 fun _ _ _ _ _ _ us hl => match us, hl with | [_], _ => rfl
  have F__law_face := FT_mk (st := s__law_face) (ps := ["_law_crossings", "_law_walk"]) X G a17 l17 c17 k17 fun _ _ _ _ _ _ us hl => match us, hl with | [_, _], _ => rfl
  have F__law_names := FT_mk (st := s__law_names) (ps := ["_law_drawing"]) X G a18 l18 c18 k18 fun _ _ _ _ _ _ us hl => match us, hl with | [_], _ => rfl
  have F__law_in_moved := FT_mk (st := s__law_in_moved) (ps := ["_law_crossings", "_law_name", "_law_new"]) X G a19 l19 c19 k19 fun _ _ _ _ _ _ us hl => match us, hl with | [_, _, _], _ => rfl
  have F__law_curl := FT_mk (st := s__law_curl) (ps := ["_law_drawing", "_law_e", "_law_sign", "_law_way"]) X G a20 l20 c20 k20 fun _ _ _ _ _ _ us hl => match us, hl with | [_, _, _, _], _ => rfl
  have F__law_poke := FT_mk (st := s__law_poke) (ps := ["_law_drawing", "_law_e", "_law_side", "_law_f", "_law_other"]) X G a21 l21 c21 k21 fun _ _ _ _ _ _ us hl => match us, hl with | [_, _, _, _, _], _ => rfl
  have F__law_spot := FT_mk (st := s__law_spot) (ps := ["_law_drawing", "_law_cell"]) X G a22 l22 c22 k22 fun _ _ _ _ _ _ us hl => match us, hl with | [_, _], _ => rfl
  have F__law_some_poke := FT_mk (st := s__law_some_poke) (ps := ["_law_drawing", "_law_cell"]) X G a23 l23 c23 k23 fun _ _ _ _ _ _ us hl => match us, hl with | [_, _], _ => rfl
  have F__law_drawn := FT_mk (st := s__law_drawn) (ps := ["_law_script", "_law_at", "_law_most"]) X G a24 l24 c24 k24 fun _ _ _ _ _ _ us hl => match us, hl with | [_, _, _], _ => rfl
  have F__law_copied := FT_mk (st := s__law_copied) (ps := ["_law_drawing"]) X G a25 l25 c25 k25 fun _ _ _ _ _ _ us hl => match us, hl with | [_], _ => rfl
  have F__law_kinds := FT_mk (st := s__law_kinds) (ps := ["_law_e"]) X G a26 l26 c26 k26 fun _ _ _ _ _ _ us hl => match us, hl with | [_], _ => rfl
  have F__law_put_refused := FT_mk (st := s__law_put_refused) (ps := ["_law_drawing", "_law_wrong"]) X G a27 l27 c27 k27 fun _ _ _ _ _ _ us hl => match us, hl with | [_, _], _ => rfl
  have F__law_taken_refused := FT_mk (st := s__law_taken_refused) (ps := ["_law_drawing", "_law_j", "_law_k"]) X G a28 l28 c28 k28 fun _ _ _ _ _ _ us hl => match us, hl with | [_, _, _], _ => rfl
  have F_law := FT_mk (st := s_law) (ps := ["_law_script"]) X G a29 l29 c29 k29 fun _ _ _ _ _ _ us hl => match us, hl with | [_], _ => rfl
  refine ⟨sp_law K, fun base kb nb bm => ?_, fun H a ns _ hT hS => ⟨a, ns, rfl, hS, fun H' s => ⟨rfl, s⟩⟩⟩
  have C5 := ok_number (P := P) (w := w) (base := base) F__law_number T (ok_cell F__law_cell_at T)
  have C6 := ok_names (P := P) (w := w) (base := base) F__law_names T
  have C7 := ok_inm (P := P) (w := w) (base := base) F__law_in_moved T
  have CON := ok_onw (P := P) (w := w) (base := base) F__law_onward T (ok_eds F__law_ends)
  have CFA := ok_fac (P := P) (w := w) (base := base) F__law_face T CON
  have C9 := ok_spk (P := P) (w := w) (base := base) F__law_some_poke T (ok_spt F__law_spot T C6 CFA) (ok_pok F__law_poke T C6 C7)
  have CD := ok_drawn (P := P) (w := w) (base := base) F__law_drawn T C5 (ok_letters F__law_letters T) (ok_closed F__law_closed T) C9 C6 (ok_crl F__law_curl T C6 C7) (ok_ren F__law_new_names T C6) (ok_mix F__law_mixed_up T)
  have XX : XG mg C0 Dm Dp Dw Dx Dt Dy := ⟨PySem.W.mg_of X G xC0, PySem.W.mg_of X G xDm, PySem.W.mg_of X G xDp, PySem.W.mg_of X G xDw, PySem.W.mg_of X G xDx, PySem.W.mg_of X G xDt, PySem.W.mg_of X G xDy⟩
  have XODp : XCls K mg "NoPlace" Dp := ⟨PySem.W.mg_of X G xDp, xeDp⟩
  have XCDp : XC K C0 Dm Dp Dw Dx Dt Dy Dp false true false false false false := ⟨⟨w1Dp, w2Dp, w3Dp, w4, w5, w6Dp, w7Dp, w8Dp⟩, wbDp, wcDp, kDpDm, kDpDp, kDpDw, kDpDx, kDpDt, kDpDy⟩
  have CJ := ok_kinds (P := P) (w := w) (base := base) F__law_kinds T XX
  have hS : ∀ G : Hp, SqT K G fS [.str "left", .str "right"] := fun _ => .inr ⟨_, _, _, lS, rfl, rfl, (by show 2 ≤ sizeLine; decide), (.cons ⟨_, rfl⟩ (.cons ⟨_, rfl⟩ .nil))⟩
  have CW := ok_whole (P := P) (w := w) (base := base) F_is_whole T
  have CN := ok_namesof (P := P) (w := w) (base := base) F_names_of T (ok_stepsalong (P := P) (w := w) (base := base) F_steps_along T)
  have CR := ok_noname (P := P) (w := w) (base := base) F_refuse_no_name T XODp (ok_hasname (P := P) (w := w) (base := base) F_has_name T CW CN)
  have CC := ok_poked (P := P) (w := w) (base := base) F_poked T XODp (PySem.W.mg_of X G xS) CR
  have CX := ok_nocrossing (P := P) (w := w) (base := base) F_refuse_no_crossing T XODp (ok_place (P := P) (w := w) (base := base) F_is_place CW)
  have CU := ok_unpoked (P := P) (w := w) (base := base) F_unpoked CX
  exact ok_law F_law T hS C5 CD (ok_copied F__law_copied T) C6 (ok_put (P := P) (w := w) (base := base) F__law_put_refused T XX XCDp CJ CC) (ok_taken (P := P) (w := w) (base := base) F__law_taken_refused T XX XCDp CJ CU)
end K25
open PySem PySem.W PyProof.Rows
set_option maxRecDepth 100000 in
set_option maxHeartbeats 0 in
theorem PySem.Challenge.cw_loopcube_k25_no_pokes_holds : PySem.Challenge.rw_loopcube_k25_no_pokes.Holds := by
  w_on; o_law; k_head; (case hw => w_witness2)
  k_fill
  refine L2.walk_ofC (l := PySem.Challenge.rw_loopcube_k25_no_pokes) (n := 63) (k := 7) (x := "_law_script") rfl (by decide) rfl ⟨rfl, by decide, by decide, rfl⟩ (fun w h Y => PySem.W.kIn_of Y) (fun w => by kernel_rfl) ?F
  case F =>
    intro w mg h KX G tabs
    refine' K25.all_mk KX G tabs ?a0 ?l0 ?c0 ?k0 ?a1 ?l1 ?c1 ?k1 ?a2 ?l2 ?c2 ?k2 ?a3 ?l3 ?c3 ?k3 ?a4 ?l4 ?c4 ?k4 ?a5 ?l5 ?c5 ?k5 ?a6 ?l6 ?c6 ?k6 ?a7 ?l7 ?c7 ?k7 ?a8 ?l8 ?c8 ?k8 ?a9 ?l9 ?c9 ?k9 ?a10 ?l10 ?c10 ?k10 ?a11 ?l11 ?c11 ?k11 ?a12 ?l12 ?c12 ?k12 ?a13 ?l13 ?c13 ?k13 ?a14 ?l14 ?c14 ?k14 ?a15 ?l15 ?c15 ?k15 ?a16 ?l16 ?c16 ?k16 ?a17 ?l17 ?c17 ?k17 ?a18 ?l18 ?c18 ?k18 ?a19 ?l19 ?c19 ?k19 ?a20 ?l20 ?c20 ?k20 ?a21 ?l21 ?c21 ?k21 ?a22 ?l22 ?c22 ?k22 ?a23 ?l23 ?c23 ?k23 ?a24 ?l24 ?c24 ?k24 ?a25 ?l25 ?c25 ?k25 ?a26 ?l26 ?c26 ?k26 ?a27 ?l27 ?c27 ?k27 ?a28 ?l28 ?c28 ?k28 ?a29 ?l29 ?c29 ?k29 ?b0 ?b1 ?b2 ?b3 ?b4 ?b5 ?b6 ?b7 ?b8 ?b9 ?b10 ?b11 ?b12 ?b13 ?b14 ?b15 ?b16 ?b17 ?b18 ?b19 ?xC0 ?xDm ?xDp ?xDw ?xDx ?xDt ?xDy ?w4 ?w5 ?xeDp ?w1Dp ?w2Dp ?w3Dp ?w6Dp ?w7Dp ?w8Dp ?wbDp ?wcDp ?kDpDm ?kDpDp ?kDpDw ?kDpDx ?kDpDt ?kDpDy ?xS ?lS
    (case a0 => k_is)
    (case l0 => k_is)
    (case c0 => k_is)
    (case k0 => k_is)
    (case a1 => k_is)
    (case l1 => k_is)
    (case c1 => k_is)
    (case k1 => k_is)
    (case a2 => k_is)
    (case l2 => k_is)
    (case c2 => k_is)
    (case k2 => k_is)
    (case a3 => k_is)
    (case l3 => k_is)
    (case c3 => k_is)
    (case k3 => k_is)
    (case a4 => k_is)
    (case l4 => k_is)
    (case c4 => k_is)
    (case k4 => k_is)
    (case a5 => k_is)
    (case l5 => k_is)
    (case c5 => k_is)
    (case k5 => k_is)
    (case a6 => k_is)
    (case l6 => k_is)
    (case c6 => k_is)
    (case k6 => k_is)
    (case a7 => k_is)
    (case l7 => k_is)
    (case c7 => k_is)
    (case k7 => k_is)
    (case a8 => k_is)
    (case l8 => k_is)
    (case c8 => k_is)
    (case k8 => k_is)
    (case a9 => k_is)
    (case l9 => k_is)
    (case c9 => k_is)
    (case k9 => k_is)
    (case a10 => k_is)
    (case l10 => k_is)
    (case c10 => k_is)
    (case k10 => k_is)
    (case a11 => k_is)
    (case l11 => k_is)
    (case c11 => k_is)
    (case k11 => k_is)
    (case a12 => k_is)
    (case l12 => k_is)
    (case c12 => k_is)
    (case k12 => k_is)
    (case a13 => k_is)
    (case l13 => k_is)
    (case c13 => k_is)
    (case k13 => k_is)
    (case a14 => k_is)
    (case l14 => k_is)
    (case c14 => k_is)
    (case k14 => k_is)
    (case a15 => k_is)
    (case l15 => k_is)
    (case c15 => k_is)
    (case k15 => k_is)
    (case a16 => k_is)
    (case l16 => k_is)
    (case c16 => k_is)
    (case k16 => k_is)
    (case a17 => k_is)
    (case l17 => k_is)
    (case c17 => k_is)
    (case k17 => k_is)
    (case a18 => k_is)
    (case l18 => k_is)
    (case c18 => k_is)
    (case k18 => k_is)
    (case a19 => k_is)
    (case l19 => k_is)
    (case c19 => k_is)
    (case k19 => k_is)
    (case a20 => k_is)
    (case l20 => k_is)
    (case c20 => k_is)
    (case k20 => k_is)
    (case a21 => k_is)
    (case l21 => k_is)
    (case c21 => k_is)
    (case k21 => k_is)
    (case a22 => k_is)
    (case l22 => k_is)
    (case c22 => k_is)
    (case k22 => k_is)
    (case a23 => k_is)
    (case l23 => k_is)
    (case c23 => k_is)
    (case k23 => k_is)
    (case a24 => k_is)
    (case l24 => k_is)
    (case c24 => k_is)
    (case k24 => k_is)
    (case a25 => k_is)
    (case l25 => k_is)
    (case c25 => k_is)
    (case k25 => k_is)
    (case a26 => k_is)
    (case l26 => k_is)
    (case c26 => k_is)
    (case k26 => k_is)
    (case a27 => k_is)
    (case l27 => k_is)
    (case c27 => k_is)
    (case k27 => k_is)
    (case a28 => k_is)
    (case l28 => k_is)
    (case c28 => k_is)
    (case k28 => k_is)
    (case a29 => k_is)
    (case l29 => k_is)
    (case c29 => k_is)
    (case k29 => k_is)
    (case b0 => k_is)
    (case b1 => k_is)
    (case b2 => k_is)
    (case b3 => k_is)
    (case b4 => k_is)
    (case b5 => k_is)
    (case b6 => k_is)
    (case b7 => k_is)
    (case b8 => k_is)
    (case b9 => k_is)
    (case b10 => k_is)
    (case b11 => k_is)
    (case b12 => k_is)
    (case b13 => k_is)
    (case b14 => k_is)
    (case b15 => k_is)
    (case b16 => k_is)
    (case b17 => k_is)
    (case b18 => k_is)
    (case b19 => k_is)
    (case xC0 => k_is)
    (case xDm => k_is)
    (case xDp => k_is)
    (case xDw => k_is)
    (case xDx => k_is)
    (case xDt => k_is)
    (case xDy => k_is)
    (case w4 => first | k_is | kit_is | kts_exm | k_exc | kernel_rfl)
    (case w5 => first | k_is | kit_is | kts_exm | k_exc | kernel_rfl)
    (case xeDp => first | k_is | kit_is | kts_exm | k_exc | kernel_rfl)
    (case w1Dp => first | k_is | kit_is | kts_exm | k_exc | kernel_rfl)
    (case w2Dp => first | k_is | kit_is | kts_exm | k_exc | kernel_rfl)
    (case w3Dp => first | k_is | kit_is | kts_exm | k_exc | kernel_rfl)
    (case w6Dp => first | k_is | kit_is | kts_exm | k_exc | kernel_rfl)
    (case w7Dp => first | k_is | kit_is | kts_exm | k_exc | kernel_rfl)
    (case w8Dp => first | k_is | kit_is | kts_exm | k_exc | kernel_rfl)
    (case wbDp => first | k_is | kit_is | kts_exm | k_exc | kernel_rfl)
    (case wcDp => first | k_is | kit_is | kts_exm | k_exc | kernel_rfl)
    (case kDpDm => first | k_is | kit_is | kts_exm | k_exc | kernel_rfl)
    (case kDpDp => first | k_is | kit_is | kts_exm | k_exc | kernel_rfl)
    (case kDpDw => first | k_is | kit_is | kts_exm | k_exc | kernel_rfl)
    (case kDpDx => first | k_is | kit_is | kts_exm | k_exc | kernel_rfl)
    (case kDpDt => first | k_is | kit_is | kts_exm | k_exc | kernel_rfl)
    (case kDpDy => first | k_is | kit_is | kts_exm | k_exc | kernel_rfl)
    (case xS => k_is)
    (case lS => k_is)
