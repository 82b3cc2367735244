/-
  Slots as they lie, and the plain ones.
-/
import Derived.Test.YtefdnnmgmdaapaaGreatSloF
namespace Go.Proofs.YtefdnnmgmdaapaaGreat.Slo

/-- A slot, without where its pool lies. -/
def absS (x : SlotM) : Slot (List (Int × Int)) := if x.st = 2 then .ready x.pool else if x.st = 1 then .built else .spoilt
abbrev absL (l : List SlotM) : List (Slot (List (Int × Int))) := l.map absS
theorem abs_new (n : Int) : absL (newM n) = new n := by unfold absL newM new; rw [List.map_replicate]; rfl
theorem is_abs (l : List SlotM) (i : Int) : isB l.length i = true ↔ Is (absL l) i := by
  unfold isB Is absL
  rw [decide_eq_true_iff, List.length_map]
theorem at_abs {l : List SlotM} {i : Int} (h : isB l.length i = true) : at' (absL l) i = absS (l.getD i.toNat slot0) := by
  unfold at'
  rw [if_pos ((is_abs l i).1 h), List.getD_eq_getElem?_getD, List.getElem?_map, List.getD_eq_getElem?_getD]
  cases l[i.toNat]? <;> rfl
theorem abs_begin (l : List SlotM) (i : Int) : absL (beginM l i).1 = (begin (absL l) i).1 ∧ (beginM l i).2 = (begin (absL l) i).2 := by
  unfold beginM begin
  by_cases h : isB l.length i = true
  · rw [if_pos h, if_pos ((is_abs l i).1 h)]
    exact ⟨List.map_set, rfl⟩
  · rw [if_neg h, if_neg fun e => h ((is_abs l i).2 e)]
    exact ⟨rfl, rfl⟩
theorem abs_spoil (l : List SlotM) (i : Int) : absL (spoilM l i).1 = (spoil (absL l) i).1 ∧ (spoilM l i).2 = (spoil (absL l) i).2 := by
  unfold spoilM spoil
  by_cases h : isB l.length i = true
  · rw [if_pos h, if_pos ((is_abs l i).1 h)]
    exact ⟨List.map_set, rfl⟩
  · rw [if_neg h, if_neg fun e => h ((is_abs l i).2 e)]
    exact ⟨rfl, rfl⟩
theorem abs_fill (right : List (Int × Int) → Bool) (l : List SlotM) (i : Int) (p : Option Addr) (c : Nat) (P : List (Int × Int)) : absL (fillM l i p c P (right P)).1 = (fill right (absL l) i P).1 ∧ (fillM l i p c P (right P)).2 = (fill right (absL l) i P).2 := by
  unfold fillM fill
  by_cases h : isB l.length i = true
  · rw [at_abs h]
    have hst : stateM l i = (l.getD i.toNat slot0).st := rfl
    unfold absS
    rw [← hst]
    by_cases h1 : stateM l i = 1
    · rw [if_neg (by omega : ¬ stateM l i = 2), if_pos h1]
      show _ = (if right P = true then _ else _ : List _ × Bool).1 ∧ _ = (if right P = true then _ else _ : List _ × Bool).2
      cases hg : right P with
      | true => rw [if_pos ⟨h, h1, rfl⟩, if_pos rfl]; exact ⟨List.map_set, rfl⟩
      | false => rw [if_neg (fun e => by cases e.2.2), if_neg (by decide)]; exact ⟨rfl, rfl⟩
    · rw [if_neg (fun e => h1 e.2.1)]
      by_cases h2 : stateM l i = 2
      · rw [if_pos h2]; exact ⟨rfl, rfl⟩
      · rw [if_neg h2, if_neg h1]; exact ⟨rfl, rfl⟩
  · rw [if_neg (fun e => h e.1), at_none fun e => h ((is_abs l i).2 e)]
    exact ⟨rfl, rfl⟩
/-- What is read of a slot. -/
theorem abs_read (l : List SlotM) (i : Int) : read (absL l) i = if readyB l i = true then some (poolM l i) else none := by
  unfold read readyB
  by_cases h : isB l.length i = true
  · rw [at_abs h, h, Bool.true_and]
    unfold absS
    by_cases h2 : (l.getD i.toNat slot0).st = 2
    · rw [if_pos h2, if_pos (by rw [h2]; rfl)]; rfl
    · have e : ((l.getD i.toNat slot0).st == 2) = false := beq_false_of_ne h2
      rw [if_neg h2, e]
      by_cases h1 : (l.getD i.toNat slot0).st = 1
      · rw [if_pos h1]; rfl
      · rw [if_neg h1]; rfl
  · rw [at_none fun e => h ((is_abs l i).2 e)]
    have : isB l.length i = false := by simpa using h
    rw [this]; rfl
end Go.Proofs.YtefdnnmgmdaapaaGreat.Slo
