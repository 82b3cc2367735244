/-
  The document's answer for fnv (package gangplankref02) and the document's examples.
-/
import Derived.Test.YtfjpdoamalbpjaaFnvB
namespace Go.Proofs.Ytfjpdoamalbpjaa.Fnv
open Go.RowKit Go.Shelf


set_option maxHeartbeats 800000 in
theorem refNext_any (h : Nat) (b : UInt8) (w : World) (hh : h < 18446744073709551616) :
    Calls Try.prog 68 #[.int .u64 (h : Int), .int .u8 (b.toNat : Int)] w fun e W' => e = .returned (.int .u64 (nx h b : Nat)) ∧ w = W' := by
  go_enter Try.func68, Try.ntmps68
  go_wp2
  go_ret
  exact ⟨by rw [step_nx h b hh]; rfl, rfl⟩

set_option maxRecDepth 100000 in
set_option maxHeartbeats 800000 in
theorem refJoin_any (h : Nat) (s : ByteArray) (w : World) (hs : s.size ≤ 4611686018427387904) (hh : h < 18446744073709551616) :
    Calls Try.prog 53 #[.int .u64 (h : Int), .string s] w fun e W' => e = .returned (.int .u64 (jn h s.data.toList : Nat)) ∧ w = W' := by
  go_enter Try.func53, Try.ntmps53
  go_wp2
  go_loop [0, 5] (fun v i => ∃ k : Nat, k ≤ s.size ∧ i = .int .i64 k ∧ v = .int .u64 (jn h (s.data.toList.take k) : Nat)) (fun _ i => s.size - (intOf i).toNat)
  case atStart => exact ⟨0, Nat.zero_le _, rfl, rfl⟩
  case round =>
    obtain ⟨k, hk, rfl, rfl⟩ := hrel
    by_cases hlt : k < s.size
    · have hl := jn_lt h (s.data.toList.take k) hh
      have HS := Lib.hid ((congrArg (jn h) (take_snoc s k hlt)).trans (jn_snoc _ _ _))
      generalize jn h (s.data.toList.take k) = q at *
      go_wp2_with fail
      refine (refNext_any q s[k] _ hl).mono ?_
      rintro e w1 ⟨rfl, rfl⟩
      rw [← HS.out]
      go_wp2_with fail
      exact ⟨⟨k + 1, by omega, by go_num, rfl⟩, by simp [intOf]; omega⟩
    · go_wp2_with fail
      go_ret
      exact ⟨by rw [show k = s.size by omega, List.take_of_length_le (by rw [Array.length_toList]; exact Nat.le_refl _)]; rfl, rfl⟩

set_option maxHeartbeats 800000 in
theorem refSum_any (s : ByteArray) (w : World) (hs : s.size ≤ 4611686018427387904) :
    Calls Try.prog 30 #[.string s] w fun e W' => e = .returned (.int .u64 (jn 14695981039346656037 s.data.toList : Nat)) ∧ w = W' := by
  go_enter Try.func30, Try.ntmps30
  go_wp2_with fail
  refine (refJoin_any 14695981039346656037 s _ hs (by decide)).mono ?_
  rintro e w1 ⟨rfl, rfl⟩
  go_wp2_with fail
  go_ret
  exact ⟨rfl, rfl⟩

end Go.Proofs.Ytfjpdoamalbpjaa.Fnv
