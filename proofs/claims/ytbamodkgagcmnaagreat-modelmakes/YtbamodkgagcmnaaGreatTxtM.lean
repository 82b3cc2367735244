/-
  Plain facts on texts (lists of their bytes, parts of them), and on worlds behind calls. No program but the seat's own name.
-/
import Derived.Test.YtbamodkgagcmnaaGreatBOctGM
set_option maxRecDepth 100000
namespace Go.Proofs.YtbamodkgagcmnaaGreat.Txt
open Go.RowKit Go.Shelf

theorem ba_ext {a b : ByteArray} (h : a.data.toList = b.data.toList) : a = b := by
  cases a; cases b; congr; exact Array.toList_inj.1 h
theorem len_list (a : ByteArray) : a.data.toList.length = a.size := by rw [Array.length_toList]; rfl
theorem ext_list (s : ByteArray) (a b : Nat) : (s.extract a b).data.toList = (s.data.toList.drop a).take (b - a) := by
  rw [ByteArray.data_extract, Array.toList_extract, List.extract_eq_take_drop]
theorem ext_size (s : ByteArray) (a b : Nat) (h : b ≤ s.size) : (s.extract a b).size = b - a := by
  rw [← len_list, ext_list, List.length_take, List.length_drop, len_list]; omega
theorem app_list (a b : ByteArray) : (a ++ b).data.toList = a.data.toList ++ b.data.toList := by simp only [ByteArray.data_append, Array.toList_append]
theorem app_nil (S : ByteArray) : S ++ (⟨#[]⟩ : ByteArray) = S := ba_ext (by rw [app_list]; exact List.append_nil _)
theorem take_app (l m : List UInt8) (a n : Nat) (h : a + n ≤ l.length) : ((l ++ m).drop a).take n = (l.drop a).take n := by
  rw [List.drop_append_of_le_length (by omega), List.take_append_of_le_length (by rw [List.length_drop]; omega)]
theorem ext_app (s b : ByteArray) (a c : Nat) (h : c ≤ s.size) : (s ++ b).extract a c = s.extract a c := by
  apply ba_ext
  rw [ext_list, ext_list, app_list]
  by_cases hac : a ≤ c
  · exact take_app _ _ _ _ (by rw [len_list]; omega)
  · rw [show c - a = 0 by omega]; rfl
/-- A part of a part. -/
theorem ext_ext (s : ByteArray) (a b c d : Nat) (h : a + d ≤ b) : (s.extract a b).extract c d = s.extract (a + c) (a + d) := by
  apply ba_ext
  rw [ext_list, ext_list, ext_list, List.drop_take, List.take_take, List.drop_drop, show a + d - (a + c) = d - c by omega, show min (d - c) (b - a - c) = d - c by omega]
theorem str_size (l : List UInt8) : (Oct.str l).size = l.length := by simp [ByteArray.size]

/-- The number that a part of a text tells. -/
def gv (s : ByteArray) (a n : Nat) : Nat := Oct.num ((s.data.toList.drop a).take n)
theorem gv_ext (s : ByteArray) (a b : Nat) : Oct.num (s.extract a b).data.toList = gv s a (b - a) := by rw [ext_list]; rfl
theorem gv_lt (s : ByteArray) (a n : Nat) (h : a + n ≤ s.size) : gv s a n < 256 ^ n := by
  have := Oct.num_lt ((s.data.toList.drop a).take n)
  rwa [List.length_take, List.length_drop, len_list, Nat.min_eq_left (by omega)] at this
theorem gv_app (s b : ByteArray) (a n : Nat) (h : a + n ≤ s.size) : gv (s ++ b) a n = gv s a n := by
  unfold gv
  rw [app_list, take_app _ _ _ _ (by rw [len_list]; exact h)]

theorem below2 {w0 w1 w2 : World} (h1 : Below w0.heap.size w0 w1) (h2 : Below w1.heap.size w1 w2) : Below w0.heap.size w0 w2 := h1.trans (h2.mono h1.size)
theorem below_alloc (W : World) (o : Obj) : Below W.heap.size W (W.alloc o) := (Below.refl _ W).alloc (Nat.le_refl _) o
end Go.Proofs.YtbamodkgagcmnaaGreat.Txt
