/-
  Pools: the document's Sorted, Same and Ints (package gangplankref08).
-/
import Derived.Test.YtfjpdoamalbpjaaPolE
namespace Go.Proofs.Ytfjpdoamalbpjaa.Pol
open Go.RowKit Go.Shelf Rgn

theorem ins_length (bs : List Bk) (y : Bk) : (ins bs y).length = bs.length + 1 := by
  induction bs with
  | nil => rfl
  | cons x bs ih => unfold ins; split <;> simp [ih]
theorem sorted_more (bs : List Bk) (x : Bk) : sorted (bs ++ [x]) = ins (sorted bs) x := by simp [sorted]
theorem sorted_length (bs : List Bk) : (sorted bs).length = bs.length := by
  have h : ∀ (bs os : List Bk), (bs.foldl ins os).length = os.length + bs.length := by
    intro bs
    induction bs with
    | nil => intro os; rfl
    | cons x bs ih => intro os; rw [List.foldl_cons, ih, ins_length, List.length_cons]; omega
  unfold sorted; rw [h]; simp

/-- How two backends are compared. -/
theorem bk_cmp (x y : Bk) (c : Bool) (h : x = y ↔ c = true) (W : World) : (Op.equalIn 10000 35 (.agg #[.int .i64 x.1, .int .i64 x.2]) (.agg #[.int .i64 y.1, .int .i64 y.2])).run Try.prog W = .ok c W := by
  rw [Prod.ext_iff] at h
  go_simp
  cases c <;> (repeat' split) <;> simp_all
end Go.Proofs.Ytfjpdoamalbpjaa.Pol
