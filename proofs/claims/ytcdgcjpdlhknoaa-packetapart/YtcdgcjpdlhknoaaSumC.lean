/-
  The document's answer for sum (package gangplankref03).
-/
import Derived.Test.YtcdgcjpdlhknoaaSumB
namespace Go.Proofs.Ytcdgcjpdlhknoaa.Cks
open Go.RowKit Go.Shelf

theorem by_at (s : ByteArray) (i : Nat) (h : i < s.size) : by_ s i = s[i] := Oct.byte_at s i h
theorem by_end (s : ByteArray) (i : Nat) (h : s.size ≤ i) : by_ s i = 0 := by
  unfold by_
  rw [List.getElem?_eq_none (by rw [Array.length_toList]; exact h)]; rfl
/-- One word on. -/
theorem fc_word (s : ByteArray) (k : Nat) (h : 2 * k < s.size) : fc (tt ((ws s).take (k + 1))) = if 65535 < fc (tt ((ws s).take k)) + ((by_ s (2 * k)).toNat * 256 + (by_ s (2 * k + 1)).toNat) then fc (tt ((ws s).take k)) + ((by_ s (2 * k)).toNat * 256 + (by_ s (2 * k + 1)).toNat) - 65535 else fc (tt ((ws s).take k)) + ((by_ s (2 * k)).toNat * 256 + (by_ s (2 * k + 1)).toNat) := by
  rw [ws_take s k h, tt_snoc, fc_add, fc_small _ (wd (by_ s (2 * k)) (by_ s (2 * k + 1))).2]; rfl

set_option maxRecDepth 100000 in
set_option maxHeartbeats 2000000 in
theorem refFold_any (s : ByteArray) (hs : s.size ≤ 1099511627776) (w : World) :
    Calls Try.prog 80 #[.string s] w fun e W' => e = .returned (.int .i64 (fc (tot s.data.toList) : Nat)) ∧ w = W' := by
  go_enter Try.func80, Try.ntmps80
  go_wp2
  go_loop [3, 4] (fun v i => ∃ k j : Nat, k ≤ (s.size + 1) / 2 ∧ j = 2 * k ∧ i = .int .i64 j ∧ v = .int .i64 (fc (tt ((ws s).take k)) : Nat)) (fun _ i => s.size + 1 - (intOf i).toNat)
  case atStart => exact ⟨0, 0, Nat.zero_le _, rfl, rfl, rfl⟩
  case round =>
    obtain ⟨k, j, hk, hj, rfl, rfl⟩ := hrel
    by_cases hlt : j < s.size
    · have hl := fc_le (tt ((ws s).take k))
      have hs0 := fc_word s k (by omega)
      rw [← hj, by_at s j hlt] at hs0
      have hx : (s[j]).toNat < 256 := (s[j]).toNat_lt
      generalize fc (tt ((ws s).take k)) = q at *
      have HJ := Lib.hid hj
      by_cases h1 : j + 1 < s.size
      · rw [by_at s (j + 1) h1] at hs0
        have hy : (s[j + 1]).toNat < 256 := (s[j + 1]).toNat_lt
        by_cases hg : 65535 < q + ((s[j]).toNat * 256 + (s[j + 1]).toNat)
        · rw [if_pos hg] at hs0
          have HS := Lib.hid hs0
          clear hj hs0
          go_wp2
          have hj := HJ.out
          have hs0 := HS.out
          exact ⟨⟨k + 1, j + 2, by omega, by omega, by simp, congrArg (Value.int .i64) (by rw [hs0]; omega)⟩, by simp [intOf]; omega⟩
        · rw [if_neg hg] at hs0
          have HS := Lib.hid hs0
          clear hj hs0
          go_wp2
          have hj := HJ.out
          have hs0 := HS.out
          exact ⟨⟨k + 1, j + 2, by omega, by omega, by simp, congrArg (Value.int .i64) (by rw [hs0]; omega)⟩, by simp [intOf]; omega⟩
      · rw [by_end s (j + 1) (by omega)] at hs0
        simp only [UInt8.toNat_zero, Nat.add_zero] at hs0
        by_cases hg : 65535 < q + (s[j]).toNat * 256
        · rw [if_pos hg] at hs0
          have HS := Lib.hid hs0
          clear hj hs0
          go_wp2
          have hj := HJ.out
          have hs0 := HS.out
          exact ⟨⟨k + 1, j + 2, by omega, by omega, by simp, congrArg (Value.int .i64) (by rw [hs0]; omega)⟩, by simp [intOf]; omega⟩
        · rw [if_neg hg] at hs0
          have HS := Lib.hid hs0
          clear hj hs0
          go_wp2
          have hj := HJ.out
          have hs0 := HS.out
          exact ⟨⟨k + 1, j + 2, by omega, by omega, by simp, congrArg (Value.int .i64) (by rw [hs0]; omega)⟩, by simp [intOf]; omega⟩
    · have hj2 := Lib.hid hj
      go_wp2
      go_ret
      have hj3 := hj2.out
      exact ⟨by rw [List.take_of_length_le (by rw [ws_length]; omega)]; rfl, rfl⟩

set_option maxHeartbeats 800000 in
theorem refSum_any (s : ByteArray) (hs : s.size ≤ 1099511627776) (w : World) :
    Calls Try.prog 68 #[.string s] w fun e W' => e = .returned (.int .i64 (65535 - (fc (tot s.data.toList) : Nat) : Int)) ∧ w = W' := by
  have hf := fc_le (tot s.data.toList)
  go_enter Try.func68, Try.ntmps68
  go_wp2_with fail
  refine (refFold_any s hs _).mono ?_
  rintro e w1 ⟨rfl, rfl⟩
  go_wp2_with fail
  go_ret
  exact ⟨rfl, rfl⟩

set_option maxHeartbeats 800000 in
theorem refGood_any (s : ByteArray) (hs : s.size ≤ 1099511627776) (w : World) :
    Calls Try.prog 78 #[.string s] w fun e W' => e = .returned (.bool (decide (fc (tot s.data.toList) = 65535))) ∧ w = W' := by
  have hf := fc_le (tot s.data.toList)
  by_cases h : fc (tot s.data.toList) = 65535
  · rw [decide_eq_true h]
    go_enter Try.func78, Try.ntmps78
    go_wp2_with fail
    refine (refFold_any s hs _).mono ?_
    rintro e w1 ⟨rfl, rfl⟩
    rw [h]
    go_wp2_with fail
    go_ret
    exact ⟨rfl, rfl⟩
  · rw [decide_eq_false h]
    have N1 := Lib.hid (show (((fc (tot s.data.toList) : Nat) : Int) == 65535) = false from beq_false_of_ne (by omega))
    go_enter Try.func78, Try.ntmps78
    go_wp2_with fail
    refine (refFold_any s hs _).mono ?_
    rintro e w1 ⟨rfl, rfl⟩
    go_wp2_with fail
    go_ret
    exact ⟨by first | rfl | (rw [N1.out]; rfl), rfl⟩

end Go.Proofs.Ytcdgcjpdlhknoaa.Cks
