/-
  A head of version 4 that is cut (no program): which fault is the first.
-/
import Derived.Test.YtcdgcjpdlhknoaaIp4E
namespace Go.Proofs.Ytcdgcjpdlhknoaa.Ip4
open Go.RowKit Go.Shelf

/-- A head that is cut: the length tells more than there is. -/
theorem cut_so (x y : ByteArray) (p : Nat) (r : ByteArray) (n : Nat) (hx : x.size = 4) (hy : y.size = 4) (hp : p ≤ 255) (hr : r.size ≤ 65515) (hn : n < 20 + r.size) (h20 : 20 ≤ n) :
    (∀ i, i < 3 → so ((putS x y p r).extract 0 n) i = false) ∧ so ((putS x y p r).extract 0 n) 3 = true := by
  have hz := putS_size x y p r hx hy
  obtain ⟨g0, g2, _⟩ := putS_fields x y p r hx hy hp hr
  have hs : ((putS x y p r).extract 0 n).size = n := by rw [ByteArray.size_extract]; omega
  have e : putS x y p r = (putS x y p r).extract 0 n ++ (putS x y p r).extract n (20 + r.size) := by
    apply ba_ext
    rw [app_list, ext_list, ext_list, List.drop_zero, Nat.sub_zero]
    conv => lhs; rw [← List.take_append_drop n (putS x y p r).data.toList]
    congr 1
    rw [List.take_of_length_le (by rw [List.length_drop, len_list]; omega)]
  have k0 : gv ((putS x y p r).extract 0 n) 0 1 = 69 := by
    rw [← g0]; conv => rhs; rw [e]
    exact (gv_app _ _ 0 1 (by omega)).symm
  have k2 : gv ((putS x y p r).extract 0 n) 2 2 = 20 + r.size := by
    rw [← g2]; conv => rhs; rw [e]
    exact (gv_app _ _ 2 2 (by omega)).symm
  generalize (putS x y p r).extract 0 n = T at *
  clear e g0 g2
  have es : siz T = 20 := by unfold siz; rw [k0]
  constructor
  · intro i hi
    obtain rfl | rfl | rfl : i = 0 ∨ i = 1 ∨ i = 2 := by omega
    · rw [so_0]; exact decide_eq_false (by omega)
    · rw [so_1]; exact decide_eq_false (by unfold ver; rw [k0]; simp)
    · rw [so_2]; exact decide_eq_false (by rw [es]; omega)
  · rw [so_3]; exact decide_eq_true (.inr (by unfold len; rw [k2]; omega))
end Go.Proofs.Ytcdgcjpdlhknoaa.Ip4
