/-
  A region that draws its order, by what each operation yields: whatever may come up, each operation's slot holds what is said of it, and what lay ahead of the region lies as it lay.
-/
import Derived.Test.YthokjkllmflgkaaRgnJ
namespace Go.Proofs.Ythokjkllmflgkaa.Rgn
open Go Go.RowKit

/-- The slot of an operation. -/
def dstAt (ops : Array Oper) (i : Nat) : Option Tmp := (ops[i]?).bind (·.dst)
/-- No two operations have one slot, and each slot is there. -/
def uniq (ops : Array Oper) (n : Nat) : Bool :=
  (List.range ops.size).all fun i => match dstAt ops i with
    | none => true
    | some s => decide (s < n) && (List.range ops.size).all fun j => j == i || dstAt ops j != some s
theorem dstAt_lt {ops : Array Oper} {i s : Nat} (h : dstAt ops i = some s) : i < ops.size := by
  unfold dstAt at h
  rcases Nat.lt_or_ge i ops.size with h' | h'
  · exact h'
  · rw [Array.getElem?_eq_none h'] at h; cases h
theorem uniq_of {ops : Array Oper} {n i s : Nat} (hu : uniq ops n = true) (h : dstAt ops i = some s) : s < n ∧ ∀ j, dstAt ops j = some s → j = i := by
  have h1 := List.all_eq_true.1 hu i (List.mem_range.2 (dstAt_lt h))
  simp only [h, Bool.and_eq_true, decide_eq_true_eq] at h1
  refine ⟨h1.1, fun j hj => ?_⟩
  have h2 := List.all_eq_true.1 h1.2 j (List.mem_range.2 (dstAt_lt hj))
  rw [Bool.or_eq_true] at h2
  rcases h2 with h2 | h2
  · exact beq_iff_eq.1 h2
  · rw [hj] at h2; simp at h2

/-- What is so while the region goes on. -/
structure InvV (V : Nat → World → Value → Prop) (ops : Array Oper) (a0 : Act) (w0 : World) (d : Nat → Bool) (a : Act) (w : World) : Prop where
  below : Below w0.heap.size w0 w
  defs : a.defers = a0.defers
  size : a.tmps.size = a0.tmps.size
  val : ∀ i s, dstAt ops i = some s → d i = true → V i w (a.tmps[s]?.getD undef)
  old : ∀ s, (∀ i, dstAt ops i = some s → d i = false) → a.tmps[s]?.getD undef = a0.tmps[s]?.getD undef

section
variable {P : Program} {ops : Array Oper} {Q : Exit → Act → World → Prop} {V : Nat → World → Value → Prop} {a0 a : Act} {w0 w : World} {d : Nat → Bool} {i : Nat} {o : Oper}

theorem getD_put_same {t : Array Value} {s : Nat} (hs : s < t.size) (v : Value) : (t.setIfInBounds s v)[s]?.getD undef = v := by simp [hs]
theorem getD_put_other {t : Array Value} {s r : Nat} (hr : r ≠ s) (v : Value) : (t.setIfInBounds s v)[r]?.getD undef = t[r]?.getD undef := by
  simp [Ne.symm hr]

theorem InvV.put (h : InvV V ops a0 w0 d a w) (hu : uniq ops a0.tmps.size = true) (hV : ∀ j w w' v, V j w v → Below w.heap.size w w' → V j w' v) (ho : ops[i]? = some o) {v : Value} {w' : World} (hb : Below w.heap.size w w') (hv : V i w' v) :
    InvV V ops a0 w0 (upd d i) (a.put o.dst v) w' := by
  have hd : dstAt ops i = o.dst := by unfold dstAt; rw [ho]; rfl
  cases hdst : o.dst with
  | none =>
    rw [hdst] at hd
    refine ⟨h.below.trans (hb.mono h.below.size), h.defs, h.size, fun j s hj hdj => ?_, fun s hs => h.old s fun j hj => ?_⟩
    · have hne : j ≠ i := fun e => by rw [e, hd] at hj; cases hj
      rw [upd_other d hne] at hdj
      exact hV _ _ _ _ (h.val j s hj hdj) hb
    · have hne : j ≠ i := fun e => by rw [e, hd] at hj; cases hj
      have := hs j hj; rwa [upd_other d hne] at this
  | some s0 =>
    rw [hdst] at hd
    obtain ⟨hlt, huq⟩ := uniq_of hu hd
    rw [← h.size] at hlt
    refine ⟨h.below.trans (hb.mono h.below.size), h.defs, by show (a.tmps.setIfInBounds s0 v).size = _; rw [Array.size_setIfInBounds]; exact h.size, fun j s hj hdj => ?_, fun s hs => ?_⟩
    · show V j w' ((a.tmps.setIfInBounds s0 v)[s]?.getD undef)
      by_cases e : j = i
      · subst e
        rw [hd] at hj; cases hj
        rw [getD_put_same hlt]; exact hv
      · rw [upd_other d e] at hdj
        have hne : s ≠ s0 := fun e' => by subst e'; exact e (huq j hj)
        rw [getD_put_other hne]
        exact hV _ _ _ _ (h.val j s hj hdj) hb
    · show (a.tmps.setIfInBounds s0 v)[s]?.getD undef = _
      have hne : s ≠ s0 := fun e => by subst e; have := hs i hd; rw [upd_same] at this; cases this
      rw [getD_put_other hne]
      refine h.old s fun j hj => ?_
      have := hs j hj
      by_cases e : j = i
      · rw [e, upd_same] at this; cases this
      · rwa [upd_other d e] at this

/-- An operation that is done. -/
theorem InvV.does (h : InvV V ops a0 w0 d a w) (hu : uniq ops a0.tmps.size = true) (hV : ∀ j w w' v, V j w v → Below w.heap.size w w' → V j w' v) (ho : ops[i]? = some o) (hw : Region.wanted o (yielded ops a.tmps) = true)
    (H : ∀ K' : Act → World → Prop, (∀ v w', Below w.heap.size w w' → V i w' v → K' (a.put o.dst v) w') → Oper.wp P o a w K' Q) :
    wpOp P ops Q i (fun a' w' => InvV V ops a0 w0 (upd d i) a' w') a w := by
  refine wpOp_step ho fun K hK => ?_
  rw [if_pos hw]
  exact H K fun v w' hb hv => hK _ _ (h.put hu hV ho hb hv)
/-- An operation that is left out. -/
theorem InvV.leaves (h : InvV V ops a0 w0 d a w) (hu : uniq ops a0.tmps.size = true) (hV : ∀ j w w' v, V j w v → Below w.heap.size w w' → V j w' v) (ho : ops[i]? = some o) (hw : Region.wanted o (yielded ops a.tmps) = false) (hv : V i w undef) :
    wpOp P ops Q i (fun a' w' => InvV V ops a0 w0 (upd d i) a' w') a w := by
  refine wpOp_step ho fun K hK => ?_
  rw [if_neg (by rw [hw]; simp)]
  exact hK _ _ (h.put hu hV ho (Below.refl _ _) hv)
theorem wanted_free {y : Nat → Option Bool} (h : o.guard = none) : Region.wanted o y = true := by unfold Region.wanted; rw [h]
theorem wanted_if {j s : Nat} {want b : Bool} (hg : o.guard = some (j, want)) (hs : dstAt ops j = some s) (hb : a.tmps[s]?.getD undef = .bool b) : Region.wanted o (yielded ops a.tmps) = (b == want) := by
  have h1 : a.tmps[s]? = some (.bool b) := by
    cases h : a.tmps[s]? with
    | none => rw [h] at hb; simp [undef] at hb
    | some v => rw [h] at hb; simp at hb; rw [hb]
  unfold Region.wanted yielded
  unfold dstAt at hs
  rw [hg]
  simp only [hs, Option.bind_some, h1]
  cases b <;> cases want <;> rfl

/-- What is asked of an operation: done, it yields what is said; or it is left out, and nothing is said of it. -/
def StepV (P : Program) (ops : Array Oper) (Q : Exit → Act → World → Prop) (V : Nat → World → Value → Prop) (i : Nat) (a : Act) (w : World) : Prop :=
  ∃ o, ops[i]? = some o ∧ ((Region.wanted o (yielded ops a.tmps) = true ∧ ∀ K' : Act → World → Prop, (∀ v w', Below w.heap.size w w' → V i w' v → K' (a.put o.dst v) w') → Oper.wp P o a w K' Q) ∨ (Region.wanted o (yielded ops a.tmps) = false ∧ V i w undef))
theorem StepV.done (ho : ops[i]? = some o) (hw : Region.wanted o (yielded ops a.tmps) = true) (H : ∀ K' : Act → World → Prop, (∀ v w', Below w.heap.size w w' → V i w' v → K' (a.put o.dst v) w') → Oper.wp P o a w K' Q) : StepV P ops Q V i a w := ⟨o, ho, .inl ⟨hw, H⟩⟩
theorem StepV.left (ho : ops[i]? = some o) (hw : Region.wanted o (yielded ops a.tmps) = false) (hv : V i w undef) : StepV P ops Q V i a w := ⟨o, ho, .inr ⟨hw, hv⟩⟩

/-- A region that draws, by what its operations yield. -/
theorem wp_region_val {id : Nat} (V : Nat → World → Value → Prop) (hV : ∀ j w w' v, V j w v → Below w.heap.size w w' → V j w' v) (hm : P.follows .mixedOrders = true) (ha : ahead .any ops = true) (hu : uniq ops a.tmps.size = true)
    (hstep : ∀ d a' w' i, i < ops.size → (∀ j, waits .any ops i j = true → d j = true) → InvV V ops a w d a' w' → StepV P ops Q V i a' w')
    (hdone : ∀ a' w', (∀ i s, dstAt ops i = some s → V i w' (a'.tmps[s]?.getD undef)) → InvV V ops a w (fun _ => true) a' w' → Q .normal a' w') : (Code.region id ops true).wp P Q a w := by
  refine wp_region_inv (fun d a' w' => InvV V ops a w d a' w') hm ha (fun d a' w' i hi hd hall h => ?_) (fun d a' w' hall h => ?_) ⟨(Below.refl _ w).drew, rfl, rfl, (fun i s _ h => by cases h), fun s _ => rfl⟩
  · obtain ⟨o, ho, ⟨hw, H⟩ | ⟨hw, hv⟩⟩ := hstep d a' w' i hi hall h
    · exact h.does hu hV ho hw H
    · exact h.leaves hu hV ho hw hv
  · refine hdone a' w' (fun i s hs => h.val i s hs (hall i (dstAt_lt hs))) ⟨h.below, h.defs, h.size, fun i s hs _ => h.val i s hs (hall i (dstAt_lt hs)), fun s hs => h.old s fun i hi => ?_⟩
    have := hs i hi; cases this
end

/-- No operation writes a slot. -/
def unwritten (ops : Array Oper) (s : Nat) : Bool := (List.range ops.size).all fun i => dstAt ops i != some s
theorem unwritten_of {ops : Array Oper} {s : Nat} (h : unwritten ops s = true) (d : Nat → Bool) : ∀ i, dstAt ops i = some s → d i = false := by
  intro i hi
  have := List.all_eq_true.1 h i (List.mem_range.2 (dstAt_lt hi))
  rw [hi] at this; simp at this

section
variable {P : Program} {Q : Exit → Act → World → Prop} {a : Act} {w : World} {o : Oper} {K : Act → World → Prop}
/-- An operation that yields a value. -/
theorem op_run (v : Value) (w' : World) (h : (execOp a.eval o).run P w = .ok (.value v) w') (H : K (a.put o.dst v) w') : Oper.wp P o a w K Q := by
  unfold Oper.wp; rw [h]; exact H
theorem eval_tmp (s : Nat) : a.eval (.tmp s) = a.tmps[s]?.getD undef := by
  show a.tmps.getD s undef = _
  rw [Array.getD_eq_getD_getElem?]
/-- An operation that hands on what a slot holds. -/
theorem op_move {s : Nat} (ho : o.op = .move (.tmp s)) (H : K (a.put o.dst (a.tmps[s]?.getD undef)) w) : Oper.wp P o a w K Q := by
  rw [← eval_tmp] at H
  refine op_run _ w ?_ H
  unfold execOp; rw [ho]; rfl
theorem op_assign {s : Nat} (ho : o.op = .assign (.tmp s)) (H : K (a.put o.dst (a.tmps[s]?.getD undef)) w) : Oper.wp P o a w K Q := by
  rw [← eval_tmp] at H
  refine op_run _ w ?_ H
  unfold execOp; rw [ho]; rfl
/-- An operation that picks. -/
theorem op_pick_yes {c : Nat} {x y : Operand} (ho : o.op = .pick (.tmp c) x y) (hc : a.tmps[c]?.getD undef = .bool true) (H : K (a.put o.dst (a.eval x)) w) : Oper.wp P o a w K Q := by
  rw [← eval_tmp] at hc
  refine op_run _ w ?_ H
  unfold execOp; rw [ho]
  simp only [hc]; rfl
theorem op_pick_no {c : Nat} {x y : Operand} (ho : o.op = .pick (.tmp c) x y) (hc : a.tmps[c]?.getD undef = .bool false) (H : K (a.put o.dst (a.eval y)) w) : Oper.wp P o a w K Q := by
  rw [← eval_tmp] at hc
  refine op_run _ w ?_ H
  unfold execOp; rw [ho]
  simp only [hc]; rfl
/-- An operation that calls. -/
theorem op_call (f : FuncId) (args : Array Value) (R : Value → World → Prop) (h : (execOp a.eval o).run P w = .ok (.enter f args) w) (C : Calls P f args w fun e w' => ∃ v, e = .returned v ∧ R v w') (H : ∀ v w', R v w' → K (a.put o.dst v) w') : Oper.wp P o a w K Q := by
  unfold Oper.wp; rw [h, Oper.upon_enter]
  refine C.mono ?_
  rintro e w' ⟨v, rfl, hr⟩
  exact H v w' hr
end
/-- A frame by its slots. -/
def slotsFrom (y : Nat → Value) : Nat → Nat → List Value
  | _, 0 => []
  | s, n + 1 => y s :: slotsFrom y (s + 1) n
theorem slots_get (y : Nat → Value) : ∀ (n s i : Nat), i < n → (slotsFrom y s n)[i]? = some (y (s + i)) := by
  intro n
  induction n with
  | zero => intro s i h; omega
  | succ n ih =>
    intro s i h
    unfold slotsFrom
    cases i with
    | zero => rfl
    | succ i => rw [List.getElem?_cons_succ, ih (s + 1) i (by omega)]; congr 2; omega
theorem slots_length (y : Nat → Value) : ∀ (n s : Nat), (slotsFrom y s n).length = n := by
  intro n
  induction n with
  | zero => intro s; rfl
  | succ n ih => intro s; unfold slotsFrom; rw [List.length_cons, ih]
theorem arr_slots (t : Array Value) (n : Nat) (h : t.size = n) : ∃ y : Nat → Value, (∀ s, t[s]?.getD undef = y s) ∧ t = (slotsFrom y 0 n).toArray := by
  refine ⟨fun s => t[s]?.getD undef, fun _ => rfl, ?_⟩
  apply Array.ext
  · simp [slots_length, h]
  · intro i h1 h2
    have := slots_get (fun s => t[s]?.getD undef) n 0 i (by omega)
    have h3 : i < (slotsFrom (fun s => t[s]?.getD undef) 0 n).length := by rw [slots_length]; omega
    rw [List.getElem?_eq_getElem h3] at this
    simp only [Nat.zero_add, Option.some.injEq] at this
    show t[i] = (slotsFrom (fun s => t[s]?.getD undef) 0 n)[i]
    rw [this]
    simp [h1]
end Go.Proofs.Ythokjkllmflgkaa.Rgn
