/-
  A region that draws its order and ends in a tail of one order: the operations ahead of the tail by what each yields (RgnV), then the tail as a list.
-/
import Derived.Test.YtfjpdoamalbpjaaRgnV
namespace Go.Proofs.Ytfjpdoamalbpjaa.Rgn
open Go Go.RowKit

/-- Whatever stands ahead of m is waited for, and from m on each waits for the one ahead of it. -/
def tails (ops : Array Oper) (m : Nat) : Bool :=
  decide (m < ops.size) && ((List.range m).all fun j => (List.range (m + 1)).any fun i => decide (j < i) && waits .any ops i j) && (List.range ops.size).all fun i => decide (i ≤ m) || waits .any ops i (i - 1)

/-- The tail alone writes a slot. -/
def late (ops : Array Oper) (m s : Nat) : Bool := (List.range ops.size).all fun i => dstAt ops i != some s || decide (m ≤ i)
theorem late_of {ops : Array Oper} {m s : Nat} {d : Nat → Bool} (h : late ops m s = true) (hno : ∀ j, m ≤ j → d j = false) : ∀ i, dstAt ops i = some s → d i = false := by
  intro i hi
  have := List.all_eq_true.1 h i (List.mem_range.2 (dstAt_lt hi))
  rw [hi] at this
  simp at this
  exact hno i this

section
variable {P : Program} {ops : Array Oper} {Q : Exit → Act → World → Prop} {a : Act} {w : World} {d : Nat → Bool} {i : Nat} {o : Oper}

/-- With an operation, all that it waits for is done. -/
def Shut (ops : Array Oper) (d : Nat → Bool) : Prop := ∀ i j, d i = true → waits .any ops i j = true → d j = true
theorem Shut.upd (h : Shut ops d) (hall : ∀ j, waits .any ops i j = true → d j = true) : Shut ops (upd d i) := by
  intro k j hk hw
  by_cases e : j = i
  · rw [e, upd_same]
  · rw [upd_other d e]
    by_cases e' : k = i
    · subst e'; exact hall j hw
    · rw [upd_other d e'] at hk; exact h k j hk hw
theorem tails_all {m : Nat} (ht : tails ops m = true) (h : Shut ops d) (hall : ∀ j, waits .any ops m j = true → d j = true) : ∀ j, j < m → d j = true := by
  unfold tails at ht
  simp only [Bool.and_eq_true, List.all_eq_true, List.any_eq_true, List.mem_range, decide_eq_true_eq] at ht
  have key : ∀ n j, m - j ≤ n → j < m → d j = true := by
    intro n
    induction n with
    | zero => intro j h1 h2; omega
    | succ n ih =>
      intro j h1 h2
      obtain ⟨k, hk, hjk, hw⟩ := ht.1.2 j h2
      by_cases e : k = m
      · subst e; exact hall j hw
      · exact h k j (ih k (by omega) (by omega)) hw
  exact fun j hj => key _ j (Nat.le_refl _) hj
theorem tails_prev {m : Nat} (ht : tails ops m = true) (hi : i < ops.size) (hm : m < i) : waits .any ops i (i - 1) = true := by
  unfold tails at ht
  simp only [Bool.and_eq_true, List.all_eq_true, Bool.or_eq_true, List.mem_range, decide_eq_true_eq] at ht
  rcases ht.2 i hi with h | h
  · omega
  · exact h
theorem tails_lt {m : Nat} (ht : tails ops m = true) : m < ops.size := by
  unfold tails at ht
  simp only [Bool.and_eq_true, decide_eq_true_eq] at ht
  exact ht.1.1
theorem drop_at (h : ops[i]? = some o) : ops.toList.drop i = o :: ops.toList.drop (i + 1) := by
  obtain ⟨hi, e⟩ := Array.getElem?_eq_some_iff.1 h
  rw [List.drop_eq_getElem_cons (by simpa using hi)]
  simp [e]
theorem wpOp_of_list {K : Act → World → Prop} (ho : ops[i]? = some o) (h : wpList P ops Q (ops.toList.drop i) a w) (hK : ∀ a w, wpList P ops Q (ops.toList.drop (i + 1)) a w → K a w) : wpOp P ops Q i K a w := by
  rw [drop_at ho] at h
  unfold wpList at h
  unfold wpOp
  rw [ho]
  show if Region.wanted o (yielded ops a.tmps) = true then _ else _
  split
  · rename_i hw
    rw [if_pos hw] at h
    exact h.imp (fun h => Oper.wp_mono hK h) id
  · rename_i hw
    rw [if_neg hw] at h
    exact hK _ _ h

/-- A region that draws and ends in a tail of one order. -/
theorem wp_region_tail {id : Nat} (m : Nat) (V : Nat → World → Value → Prop) (hV : ∀ j w w' v, V j w v → Below w.heap.size w w' → V j w' v) (hm : P.follows .mixedOrders = true) (ha : ahead .any ops = true) (hu : uniq ops a.tmps.size = true) (ht : tails ops m = true)
    (hstep : ∀ d a' w' i, i < m → (∀ j, m ≤ j → d j = false) → (∀ j, waits .any ops i j = true → d j = true) → InvV V ops a w d a' w' → StepV P ops Q V i a' w')
    (hdone : ∀ d a' w', (∀ j, j < m → d j = true) → (∀ j, m ≤ j → d j = false) → InvV V ops a w d a' w' → wpList P ops Q (ops.toList.drop m) a' w') : (Code.region id ops true).wp P Q a w := by
  have hlt := tails_lt ht
  refine wp_region_inv (fun d a' w' => Shut ops d ∧ (((∀ j, m ≤ j → d j = false) ∧ InvV V ops a w d a' w') ∨ ∃ k, m < k ∧ k ≤ ops.size ∧ (∀ j, j < k → d j = true) ∧ (∀ j, k ≤ j → d j = false) ∧ wpList P ops Q (ops.toList.drop k) a' w')) hm ha (fun d a' w' i hi hd hall h => ?_) (fun d a' w' hall h => ?_) ⟨(fun _ _ h => by cases h), .inl ⟨fun _ _ => rfl, (Below.refl _ w).drew, rfl, rfl, (fun i s _ h => by cases h), fun s _ => rfl⟩⟩
  · obtain ⟨hc, ⟨hno, hI⟩ | ⟨k, hmk, hk, hyes, hno, hl⟩⟩ := h
    · rcases Nat.lt_or_ge i m with him | him
      · have hs := hstep d a' w' i him hno hall hI
        have hstp : wpOp P ops Q i (fun a'' w'' => InvV V ops a w (upd d i) a'' w'') a' w' := by
          obtain ⟨o, ho, ⟨hw, H⟩ | ⟨hw, hv⟩⟩ := hs
          · exact hI.does hu hV ho hw H
          · exact hI.leaves hu hV ho hw hv
        have ho : ops[i]? = some ops[i] := Array.getElem?_eq_getElem hi
        unfold wpOp at hstp ⊢
        rw [ho] at hstp ⊢
        have hK : ∀ a'' w'', InvV V ops a w (upd d i) a'' w'' → Shut ops (upd d i) ∧ (((∀ j, m ≤ j → upd d i j = false) ∧ InvV V ops a w (upd d i) a'' w'') ∨ ∃ k, m < k ∧ k ≤ ops.size ∧ (∀ j, j < k → upd d i j = true) ∧ (∀ j, k ≤ j → upd d i j = false) ∧ wpList P ops Q (ops.toList.drop k) a'' w'') :=
          fun a'' w'' h => ⟨hc.upd hall, .inl ⟨fun j hj => by rw [upd_other d (by omega)]; exact hno j hj, h⟩⟩
        revert hstp
        dsimp only
        split
        · exact fun h => h.imp (fun h => Oper.wp_mono hK h) (fun h => h)
        · exact fun h => hK _ _ h
      · have e : i = m := by
          rcases Nat.lt_or_ge m i with h | h
          · have := hall _ (tails_prev ht hi h)
            rw [hno _ (by omega)] at this; cases this
          · omega
        subst e
        have hyes := tails_all ht hc hall
        refine wpOp_of_list (Array.getElem?_eq_getElem hi) (hdone d a' w' hyes hno hI) fun a'' w'' h => ⟨hc.upd hall, .inr ⟨i + 1, by omega, by omega, fun j hj => ?_, fun j hj => by rw [upd_other d (by omega)]; exact hno j (by omega), h⟩⟩
        by_cases e : j = i
        · rw [e, upd_same]
        · rw [upd_other d e]; exact hyes j (by omega)
    · have e : i = k := by
        rcases Nat.lt_trichotomy i k with h | h | h
        · rw [hyes i h] at hd; cases hd
        · exact h
        · have := hall _ (tails_prev ht hi (by omega))
          rw [hno _ (by omega)] at this; cases this
      subst e
      refine wpOp_of_list (Array.getElem?_eq_getElem hi) hl fun a'' w'' h => ⟨hc.upd hall, .inr ⟨i + 1, by omega, by omega, fun j hj => ?_, fun j hj => by rw [upd_other d (by omega)]; exact hno j (by omega), h⟩⟩
      by_cases e : j = i
      · rw [e, upd_same]
      · rw [upd_other d e]; exact hyes j (by omega)
  · obtain ⟨_, ⟨hno, _⟩ | ⟨k, _, hk, _, hno, hl⟩⟩ := h
    · have := hall m hlt
      rw [hno m (Nat.le_refl _)] at this; cases this
    · have e : k = ops.size := by
        rcases Nat.lt_or_ge k ops.size with h | h
        · have := hall k h
          rw [hno k (Nat.le_refl _)] at this; cases this
        · omega
      rw [e, ← Array.length_toList, List.drop_length] at hl
      exact hl
end
end Go.Proofs.Ytfjpdoamalbpjaa.Rgn
