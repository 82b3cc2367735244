/-
  Pools: the document's Gone (package gangplankref08).
-/
import Derived.Test.YtfjpdoamalbpjaaPolG
namespace Go.Proofs.Ytfjpdoamalbpjaa.Pol
open Go.RowKit Go.Shelf Rgn

/-- The Id of the last one. -/
def lastId (t : List Bk) : Option Int := t.getLast?.map (·.1)
/-- Is x's Id told behind t? -/
def tells (bs' : List Bk) (t : List Bk) (x : Bk) : Bool := decide (find bs' x.1 0 < 0) && decide (lastId t ≠ some x.1)
/-- The Ids of a row in order that are none of bs', each once. -/
def gonL (bs' : List Bk) (t : List Bk) : List Bk → List Int
  | [] => []
  | x :: s => (if tells bs' t x then [x.1] else []) ++ gonL bs' (t ++ [x]) s
def gone (bs bs' : List Bk) : List Int := gonL bs' [] (sorted bs)
theorem gonL_more (bs' : List Bk) (x : Bk) (s : List Bk) : ∀ t, gonL bs' t (s ++ [x]) = gonL bs' t s ++ (if tells bs' (t ++ s) x then [x.1] else []) := by
  induction s with
  | nil => intro t; simp [gonL]
  | cons y s ih =>
    intro t
    rw [List.cons_append]
    unfold gonL
    rw [ih, List.append_assoc, List.append_assoc]; rfl
theorem gonL_length (bs' : List Bk) (s : List Bk) : ∀ t, (gonL bs' t s).length ≤ s.length := by
  induction s with
  | nil => intro t; exact Nat.le_refl _
  | cons y s ih =>
    intro t
    unfold gonL
    rw [List.length_append, List.length_cons]
    have := ih (t ++ [y])
    split
    · rw [List.length_singleton]; omega
    · simp; omega
theorem lastId_take (s : List Bk) (j : Nat) (h : j < s.length) : lastId (s.take (j + 1)) = some s[j].1 := by
  unfold lastId
  rw [List.take_succ_eq_append_getElem h, List.getLast?_append]
  rfl
end Go.Proofs.Ytfjpdoamalbpjaa.Pol
