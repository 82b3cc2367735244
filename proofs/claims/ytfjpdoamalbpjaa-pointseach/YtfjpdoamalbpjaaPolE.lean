/-
  Pools: the document's put and Sorted (package gangplankref08).
-/
import Derived.Test.YtfjpdoamalbpjaaPolB
import Derived.BigQuiet
import Derived.WalkSmall
namespace Go.Proofs.Ytfjpdoamalbpjaa.Pol
open Go.RowKit Go.Shelf Rgn

/-- A backend among others, behind those of no greater Id. -/
def ins : List Bk → Bk → List Bk
  | [], y => [y]
  | x :: bs, y => if y.1 < x.1 then y :: x :: bs else x :: ins bs y
/-- In order. -/
def sorted (bs : List Bk) : List Bk := bs.foldl ins []
/-- Whether one of a greater Id stands among the first ones. -/
def seen (bs : List Bk) (y : Bk) : Bool := bs.any fun x => decide (y.1 < x.1)
/-- What put has laid behind some rounds. -/
def part (bs : List Bk) (y : Bk) : List Bk := if seen bs y then ins bs y else bs
theorem ins_seen (bs : List Bk) (y : Bk) (h : seen bs y = false) : ins bs y = bs ++ [y] := by
  induction bs with
  | nil => rfl
  | cons x bs ih =>
    simp only [seen, List.any_cons, Bool.or_eq_false_iff, decide_eq_false_iff_not] at h
    unfold ins
    rw [if_neg h.1, ih h.2, List.cons_append]
theorem ins_lt (x : Bk) (bs : List Bk) (y : Bk) (h : y.1 < x.1) : ins (x :: bs) y = y :: x :: bs := if_pos h
theorem ins_ge (x : Bk) (bs : List Bk) (y : Bk) (h : ¬ y.1 < x.1) : ins (x :: bs) y = x :: ins bs y := if_neg h
theorem ins_more (bs : List Bk) (y x : Bk) (h : seen bs y = true) : ins (bs ++ [x]) y = ins bs y ++ [x] := by
  induction bs with
  | nil => simp [seen] at h
  | cons z bs ih =>
    rw [List.cons_append]
    by_cases hz : y.1 < z.1
    · rw [ins_lt _ _ _ hz, ins_lt _ _ _ hz]; rfl
    · have h' : seen bs y = true := by simpa [seen, hz] using h
      rw [ins_ge _ _ _ hz, ins_ge _ _ _ hz, ih h']; rfl
theorem ins_hit (bs : List Bk) (y x : Bk) (h : seen bs y = false) (hx : y.1 < x.1) : ins (bs ++ [x]) y = bs ++ [y] ++ [x] := by
  induction bs with
  | nil => simp [ins, hx]
  | cons z bs ih =>
    simp only [seen, List.any_cons, Bool.or_eq_false_iff, decide_eq_false_iff_not] at h
    show ins (z :: (bs ++ [x])) y = _
    unfold ins; rw [if_neg h.1, ih h.2]; rfl
theorem seen_more (bs : List Bk) (y x : Bk) : seen (bs ++ [x]) y = (seen bs y || decide (y.1 < x.1)) := by simp [seen]
theorem part_done (bs : List Bk) (y x : Bk) (h : seen bs y = true) : part (bs ++ [x]) y = part bs y ++ [x] := by
  unfold part; rw [seen_more, h, Bool.true_or, if_pos rfl, if_pos rfl, ins_more bs y x h]
theorem part_hit (bs : List Bk) (y x : Bk) (h : seen bs y = false) (hx : y.1 < x.1) : part (bs ++ [x]) y = part bs y ++ [y] ++ [x] := by
  unfold part; rw [seen_more, h, decide_eq_true hx, Bool.false_or, if_pos rfl, if_neg (by simp), ins_hit bs y x h hx]
theorem part_not (bs : List Bk) (y x : Bk) (h : seen bs y = false) (hx : ¬ y.1 < x.1) : part (bs ++ [x]) y = part bs y ++ [x] := by
  unfold part; rw [seen_more, h, decide_eq_false hx, Bool.false_or, if_neg (by simp), if_neg (by simp)]
theorem part_length (bs : List Bk) (y : Bk) : (part bs y).length ≤ bs.length + 1 := by
  have hi : ∀ bs : List Bk, (ins bs y).length = bs.length + 1 := by
    intro bs
    induction bs with
    | nil => rfl
    | cons x bs ih => unfold ins; split <;> simp [ih]
  unfold part; split
  · rw [hi]; exact Nat.le_refl _
  · omega
end Go.Proofs.Ytfjpdoamalbpjaa.Pol
