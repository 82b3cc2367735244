/-
  Points, plain facts: their order, and what is sorted by it.
-/
import Derived.Test.YtfjpdoamalbpjaaPtsA
namespace Go.Proofs.Ytfjpdoamalbpjaa.Pts

/-- Does one stand ahead? -/
def less (x y : Pt) : Bool := decide (x.1 < y.1 ∨ x.1 = y.1 ∧ x.2 < y.2)
theorem less_iff (x y : Pt) : less x y = true ↔ x.1 < y.1 ∨ x.1 = y.1 ∧ x.2 < y.2 := decide_eq_true_iff
theorem less_not (x y : Pt) : less x y = false ↔ ¬ (x.1 < y.1 ∨ x.1 = y.1 ∧ x.2 < y.2) := decide_eq_false_iff_not
/-- Not behind. -/
def le (x y : Pt) : Bool := !less y x
theorem le_iff (x y : Pt) : le x y = true ↔ x.1 < y.1 ∨ x.1 = y.1 ∧ x.2 ≤ y.2 := by
  unfold le
  rw [Bool.not_eq_true', less_not]
  omega
theorem le_trans (x y z : Pt) (h1 : le x y = true) (h2 : le y z = true) : le x z = true := by rw [le_iff] at *; omega
theorem le_total (x y : Pt) : (le x y || le y x) = true := by rw [Bool.or_eq_true, le_iff, le_iff]; omega
theorem le_antisymm (x y : Pt) (h1 : le x y = true) (h2 : le y x = true) : x = y := by
  rw [le_iff] at h1 h2
  exact Prod.ext (by omega) (by omega)
/-- In order. -/
abbrev Rise (l : List Pt) : Prop := l.Pairwise fun x y => le x y = true
def psort (l : List Pt) : List Pt := l.mergeSort le
theorem psort_perm (l : List Pt) : (psort l).Perm l := List.mergeSort_perm l le
theorem psort_rise (l : List Pt) : Rise (psort l) := List.pairwise_mergeSort le_trans le_total l
/-- What rises is told by what it has. -/
theorem psort_is (l s : List Pt) (hp : s.Perm l) (hr : Rise s) : psort l = s :=
  List.Perm.eq_of_pairwise (le := fun x y => le x y = true) (fun a b _ _ h1 h2 => le_antisymm a b h1 h2) (psort_rise l) hr ((psort_perm l).trans hp.symm)
theorem psort_of_perm {l k : List Pt} (h : l.Perm k) : psort l = psort k := psort_is l _ ((psort_perm k).trans h.symm) (psort_rise k)
theorem psort_self (l : List Pt) (h : Rise l) : psort l = l := psort_is l l (List.Perm.refl l) h
theorem psort_length (l : List Pt) : (psort l).length = l.length := (psort_perm l).length_eq
theorem psort_short (l : List Pt) (h : l.length < 2) : psort l = l := by
  refine psort_self l ?_
  match l, h with
  | [], _ => exact List.Pairwise.nil
  | [x], _ => exact List.pairwise_singleton _ x
theorem psort_filter (l : List Pt) (f : Pt → Bool) : psort (l.filter f) = (psort l).filter f :=
  psort_is _ _ ((psort_perm l).filter f) ((psort_rise l).filter f)
/-- Two lists in order, in one. -/
def mrg (a b : List Pt) : List Pt := List.merge a b le
theorem mrg_nil_left (b : List Pt) : mrg [] b = b := List.nil_merge b
theorem mrg_nil_right (a : List Pt) : mrg a [] = a := List.merge_right a
theorem mrg_left (x : Pt) (a : List Pt) (y : Pt) (b : List Pt) (h : le x y = true) : mrg (x :: a) (y :: b) = x :: mrg a (y :: b) := by
  unfold mrg; rw [List.cons_merge_cons, if_pos h]
theorem mrg_right (x : Pt) (a : List Pt) (y : Pt) (b : List Pt) (h : ¬ le x y = true) : mrg (x :: a) (y :: b) = y :: mrg (x :: a) b := by
  unfold mrg; rw [List.cons_merge_cons, if_neg h]
theorem mrg_length (a b : List Pt) : (mrg a b).length = a.length + b.length := by
  have := (List.merge_perm_append (le := le) (xs := a) (ys := b)).length_eq
  rw [List.length_append] at this; exact this
theorem psort_app (a b : List Pt) : psort (a ++ b) = mrg (psort a) (psort b) := by
  refine psort_is _ _ ?_ ?_
  · exact (List.merge_perm_append (le := le)).trans ((psort_perm a).append (psort_perm b))
  · exact List.pairwise_merge le_trans le_total _ _ (psort_rise a) (psort_rise b)
end Go.Proofs.Ytfjpdoamalbpjaa.Pts
