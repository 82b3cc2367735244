/-
  A word that is put into a text: its two bytes tell it again.
-/
import Derived.Test.YtmdidkjdobjbgaaOctC
import Derived.Test.YtmdidkjdobjbgaaSumD
namespace Go.Proofs.Ytmdidkjdobjbgaa.Cks
open Go.RowKit Go.Shelf

theorem tot_bytes (v : Nat) (h : v < 65536) : tot (Oct.bytes v 2) = v := by
  have e : Oct.bytes v 2 = [UInt8.ofNat (v / 256), UInt8.ofNat v] := rfl
  rw [e, tot_two, tot_nil, Oct.toNat_ofNat, Oct.toNat_ofNat]; omega

/-- What Put answers of a word, under a name of its own. -/
theorem Put_word (v : Int) (w : World) (h : 0 ≤ v ∧ v ≤ 65535) :
    Calls Try.prog 15 #[.int .u64 v, .int .i64 2] w fun e W' => ∃ S : ByteArray, e = .returned (.string S) ∧ S.size ≤ 2 ∧ Hid (tot S.data.toList = v.toNat ∧ S.data.toList.length = 2) ∧ Below w.heap.size w W' :=
  (Oct.Put_yes v 2 w (by omega) (by omega) (by omega)).mono fun e W' ⟨he, hb⟩ => ⟨_, he, by simp [ByteArray.size, Oct.bytes_length], Lib.hid ⟨tot_bytes v.toNat (by omega), Oct.bytes_length _ _⟩, hb⟩

theorem len_list (a : ByteArray) : a.data.toList.length = a.size := by rw [Array.length_toList]; rfl
/-- A text of whole words, words, and whatever is behind: their totals together. -/
theorem tot_three (a b c : ByteArray) (ha : a.size % 2 = 0) (hb : b.data.toList.length = 2) : tot (a ++ b ++ c).data.toList = tot a.data.toList + tot b.data.toList + tot c.data.toList := by
  simp only [ByteArray.data_append, Array.toList_append]
  rw [List.append_assoc, tot_append _ _ (by rw [len_list]; exact ha), tot_append _ _ (by rw [hb])]; omega
theorem tot_2 (a b : ByteArray) (ha : a.size % 2 = 0) : tot (a ++ b).data.toList = tot a.data.toList + tot b.data.toList := by
  simp only [ByteArray.data_append, Array.toList_append]
  exact tot_append _ _ (by rw [len_list]; exact ha)
/-- With what is left of it a total is full. -/
theorem fc_own (T v : Nat) (h : v = 65535 - fc T) : fc (T + v) = 65535 := by
  have h1 := fc_le T
  rw [fc_add, fc_small v (by omega)]; split <;> omega
/-- Another word makes another rest. -/
theorem fc_other (A B x y : Nat) (hx : x ≤ 65535) (hy : y ≤ 65535) (hn : x ≠ y) (h0 : ¬ (x % 65535 = 0 ∧ y % 65535 = 0)) : fc (A + x + B) ≠ fc (A + y + B) := by
  intro h
  have := fc_inj _ _ h
  omega
end Go.Proofs.Ytmdidkjdobjbgaa.Cks
