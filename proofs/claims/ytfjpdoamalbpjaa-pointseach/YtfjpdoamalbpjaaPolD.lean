/-
  Pools: the document's With (package gangplankref08).
-/
import Derived.Test.YtfjpdoamalbpjaaPolB
namespace Go.Proofs.Ytfjpdoamalbpjaa.Pol
open Go.RowKit Go.Shelf Rgn

/-- A pool with a backend: instead of the first of its Id, or behind all. -/
def with_ : List Bk → Bk → List Bk
  | [], y => [y]
  | x :: bs, y => if x.1 = y.1 then y :: bs else x :: with_ bs y
/-- y instead of what stands at a place, counted from m on. -/
def inst (p : Int) (y : Bk) : Nat → List Bk → List Bk
  | _, [] => []
  | m, x :: bs => (if (m : Int) = p then y else x) :: inst p y (m + 1) bs
theorem inst_length (p : Int) (y : Bk) (bs : List Bk) : ∀ m, (inst p y m bs).length = bs.length := by
  induction bs with
  | nil => intro m; rfl
  | cons x bs ih => intro m; simp [inst, ih]
theorem inst_more (p : Int) (y x : Bk) (bs : List Bk) : ∀ m, inst p y m (bs ++ [x]) = inst p y m bs ++ [if ((m + bs.length : Nat) : Int) = p then y else x] := by
  induction bs with
  | nil => intro m; rfl
  | cons z bs ih =>
    intro m
    simp only [List.cons_append, inst, ih (m + 1), List.length_cons]
    rw [show m + 1 + bs.length = m + (bs.length + 1) by omega]
theorem inst_past (p : Int) (y : Bk) (bs : List Bk) : ∀ m : Nat, p < (m : Int) → inst p y m bs = bs := by
  induction bs with
  | nil => intro m _; rfl
  | cons x bs ih =>
    intro m h
    simp only [inst]
    rw [if_neg (by omega), ih (m + 1) (by omega)]
theorem find_ge (bs : List Bk) (id : Int) : ∀ m, find bs id m = -1 ∨ (m : Int) ≤ find bs id m := by
  induction bs with
  | nil => intro m; exact .inl rfl
  | cons x bs ih =>
    intro m
    unfold find
    split
    · exact .inr (Int.le_refl _)
    · rcases ih (m + 1) with h | h
      · exact .inl h
      · exact .inr (by omega)
theorem with_eq (y : Bk) (bs : List Bk) : ∀ m, inst (find bs y.1 m) y m bs ++ (if find bs y.1 m < 0 then [y] else []) = with_ bs y := by
  induction bs with
  | nil => intro m; simp [inst, find, with_]
  | cons x bs ih =>
    intro m
    unfold with_
    by_cases h : x.1 = y.1
    · rw [if_pos h, show find (x :: bs) y.1 m = (m : Int) from if_pos h]
      simp only [inst]
      rw [if_pos trivial, inst_past _ _ _ _ (by omega), if_neg (by omega), List.append_nil]
    · rw [if_neg h, show find (x :: bs) y.1 m = find bs y.1 (m + 1) from if_neg h]
      have hg := find_ge bs y.1 (m + 1)
      simp only [inst]
      rw [if_neg (by omega), List.cons_append, ih (m + 1)]
end Go.Proofs.Ytfjpdoamalbpjaa.Pol
