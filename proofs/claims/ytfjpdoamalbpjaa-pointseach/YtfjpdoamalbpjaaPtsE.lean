/-
  Points, plain facts: a pool's points.
-/
import Derived.Test.YtfjpdoamalbpjaaPtsB
namespace Go.Proofs.Ytfjpdoamalbpjaa.Pts
open Pol (Bk without sorted with_ chk)

/-- How many points a weight asks for. -/
def cnt (g : Int) : Nat := 8 * (max 0 (min g 16)).toNat
/-- The points of one backend, where hash tells where each is. -/
def own (hash : Int → Nat → Int) (x : Bk) : List Pt := (List.range (cnt x.2)).map fun n => (hash x.1 n, x.1)
/-- The points of a pool, one backend behind the other. -/
def pts (hash : Int → Nat → Int) (z : List Bk) : List Pt := z.flatMap (own hash)
/-- The points of a pool, in order. -/
def ofL (hash : Int → Nat → Int) (z : List Bk) : List Pt := psort (pts hash z)
section
variable (hash : Int → Nat → Int)
theorem own_id (x : Bk) (p : Pt) (h : p ∈ own hash x) : p.2 = x.1 := by
  obtain ⟨n, _, rfl⟩ := List.mem_map.1 h; rfl
theorem own_length (x : Bk) : (own hash x).length = cnt x.2 := by simp [own]
theorem pts_length (z : List Bk) : (pts hash z).length = (z.map fun x => cnt x.2).sum := by
  unfold pts
  rw [List.length_flatMap]
  congr 1
  exact List.map_congr_left fun x _ => own_length hash x
theorem ofL_length (z : List Bk) : (ofL hash z).length = (z.map fun x => cnt x.2).sum := by unfold ofL; rw [psort_length, pts_length]
theorem ofL_rise (z : List Bk) : Rise (ofL hash z) := psort_rise _
/-- A pool's points hang on no order. -/
theorem ofL_perm {z z' : List Bk} (h : z.Perm z') : ofL hash z = ofL hash z' := psort_of_perm (h.flatMap_right _)
theorem ofL_sorted (z : List Bk) : ofL hash (sorted z) = ofL hash z := ofL_perm hash (Pol.sorted_perm z)
theorem own_filter (x : Bk) (id : Int) : (own hash x).filter (fun p => p.2 != id) = if x.1 = id then [] else own hash x := by
  by_cases e : x.1 = id
  · rw [if_pos e, List.filter_eq_nil_iff]
    intro p hp
    rw [own_id hash x p hp, e]; simp
  · rw [if_neg e, List.filter_eq_self]
    intro p hp
    rw [own_id hash x p hp]; simpa using e
theorem pts_filter (z : List Bk) (id : Int) : (pts hash z).filter (fun p => p.2 != id) = pts hash (without z id) := by
  induction z with
  | nil => rfl
  | cons x z ih =>
    have e1 : pts hash (x :: z) = own hash x ++ pts hash z := by simp [pts]
    rw [e1, List.filter_append, ih, own_filter]
    by_cases e : x.1 = id
    · rw [if_pos e, show without (x :: z) id = without z id by simp [without, e]]; rfl
    · rw [if_neg e, show without (x :: z) id = x :: without z id by simp [without, e]]
      simp [pts]
/-- Without a backend all other points stay. -/
theorem ofL_without (z : List Bk) (id : Int) : ofL hash (without z id) = (ofL hash z).filter (fun p => p.2 != id) := by
  unfold ofL; rw [← psort_filter, pts_filter]
theorem without_new (z : List Bk) (y : Bk) : ∀ x ∈ without z y.1, x.1 ≠ y.1 := by
  intro x hx
  have := (List.mem_filter.1 hx).2
  simpa using this
/-- With a backend more all other points stay. -/
theorem ofL_with (z : List Bk) (y : Bk) : (ofL hash (with_ (without z y.1) y)).filter (fun p => p.2 != y.1) = ofL hash (without z y.1) ∧ (ofL hash (with_ (without z y.1) y)).length = (ofL hash (without z y.1)).length + cnt y.2 := by
  have e : without (with_ (without z y.1) y) y.1 = without z y.1 := by rw [Pol.without_with, Pol.without_twice]
  have ew : ∀ l : List Bk, (∀ x ∈ l, x.1 ≠ y.1) → with_ l y = l ++ [y] := by
    intro l hl
    induction l with
    | nil => rfl
    | cons x l ih =>
      unfold with_
      rw [if_neg (hl x (by simp)), ih (fun z hz => hl z (by simp [hz]))]; rfl
  constructor
  · rw [← ofL_without, e]
  · rw [ofL_length, ofL_length, ew _ (without_new z y)]
    simp
theorem own_in (x : Bk) (n : Nat) (hn : n < cnt x.2) : (hash x.1 n, x.1) ∈ own hash x := List.mem_map.2 ⟨n, List.mem_range.2 hn, rfl⟩
/-- How many points of an Id there are. -/
theorem count_id (z : List Bk) (id : Int) : ((ofL hash z).filter (fun p => p.2 == id)).length = ((z.filter fun x => x.1 == id).map fun x => cnt x.2).sum := by
  have h1 : ((ofL hash z).filter (fun p => p.2 == id)).length = ((pts hash z).filter (fun p => p.2 == id)).length := ((psort_perm (pts hash z)).filter _).length_eq
  rw [h1]
  clear h1
  induction z with
  | nil => rfl
  | cons x z ih =>
    have e1 : pts hash (x :: z) = own hash x ++ pts hash z := by simp [pts]
    rw [e1, List.filter_append, List.length_append, ih]
    by_cases e : x.1 = id
    · have : (own hash x).filter (fun p => p.2 == id) = own hash x := by
        rw [List.filter_eq_self]; intro p hp; rw [own_id hash x p hp]; simpa using e
      rw [this, own_length]
      simp [e]
    · have : (own hash x).filter (fun p => p.2 == id) = [] := by
        rw [List.filter_eq_nil_iff]; intro p hp; rw [own_id hash x p hp]; simpa using e
      rw [this]
      simp [e]
theorem in_ofL (z : List Bk) (x : Bk) (hx : x ∈ z) (n : Nat) (hn : n < cnt x.2) : (hash x.1 n, x.1) ∈ ofL hash z :=
  (psort_perm _).mem_iff.2 (List.mem_flatMap.2 ⟨x, hx, own_in hash x n hn⟩)
end
end Go.Proofs.Ytfjpdoamalbpjaa.Pts
