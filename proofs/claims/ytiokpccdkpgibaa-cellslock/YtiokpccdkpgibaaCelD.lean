/-
  Package cells: within; rows of numbers that are made; slices.Repeat of one number.
-/
import Derived.Test.YtiokpccdkpgibaaCelC
import Derived.Laws.MakeOwn
import Derived.Laws.CopyOwn
import Derived.Laws.Bits64b
import Derived.Lib.SliceRun
namespace Go.Proofs.Ytiokpccdkpgibaa.Cel
open Go.RowKit Go.Shelf Go.WideShapes RowG

attribute [local go_sem] Oper.semAt_some

theorem size_low {n : Int} (h : n < 0) : size n = 0 := by unfold size; omega
theorem size_high {n : Int} (h : 1024 < n) : size n = 1024 := by unfold size; omega
theorem size_in {n : Nat} (h : n ≤ 1024) : size (n : Int) = n := by unfold size; omega

set_option maxHeartbeats 400000 in
theorem within_told (n : Int) (w : World) : Calls Try.prog 21 #[.int .i64 n] w fun e W' => e = .returned (.int .i64 (size n : Nat)) ∧ W' = w := by
  go_enter Try.func21, Try.ntmps21
  by_cases h1 : n < 0
  · rw [size_low h1]
    go_wp2_with fail
    all_goals first
      | omega
      | (go_ret; exact ⟨rfl, rfl⟩)
  by_cases h2 : 1024 < n
  · rw [size_high h2]
    go_wp2_with fail
    all_goals first
      | omega
      | (go_ret; exact ⟨rfl, rfl⟩)
  · obtain ⟨m, rfl⟩ := Int.eq_ofNat_of_zero_le (show 0 ≤ n by omega)
    have hs := Lib.hid (show size (m : Int) = m from size_in (by omega))
    go_wp2_with fail
    all_goals first
      | omega
      | (go_ret; rw [hs.out]; exact ⟨rfl, rfl⟩)

theorem info_int : (Try.prog.info? 3).map (fun i => (i.zero, i.size, i.bytes)) = some (some (.int .i64 0), numK.c, 8) := by kernel_rfl
abbrev zeroI : Array Value := #[.int .i64 0]
/-- A new row of numbers. -/
theorem run_nums (n : Nat) (hn : n ≤ 1000000000) (W : World) : (Instr.makeSlice 26 (.int .i64 (n : Int)) (.int .i64 (n : Int))).run Try.prog W = .ok (.slice (some ⟨W.heap.size, 0, none⟩) n n) (W.alloc (.cells (madeCells zeroI n) 3)) := by
  obtain ⟨i0, hi, hz0, hz1, hz2⟩ := info_parts info_int
  have := run_make (P := Try.prog) W 26 3 i0 (.int .i64 0) Try.underlying26 hi hz0 .i64 .i64 n n (by omega) (Int.le_refl _) (by rw [hz2]; omega) (by omega)
  rw [hz1, Int.toNat_natCast, show n * numK.c = n from Nat.mul_one n, show (Value.int .i64 0).cells = zeroI from rfl] at this
  simpa using this
theorem row_nums (w : World) (n : Nat) (h : n ≤ maxLen) : Row numK 3 (w.alloc (.cells (madeCells zeroI n) 3)) w.heap.size n (List.replicate n 0) :=
  ⟨_, World.alloc_heap_new w _, by simp, h, by simp [madeCells]; exact (Nat.mul_one n).symm, by
    have := made_flat (K := numK) zeroI (0 : Int) rfl n
    rw [show n * numK.c = n from Nat.mul_one n] at this
    rw [this, List.take_of_length_le (by rw [flat_length]; simp)]⟩

set_option maxHeartbeats 1000000 in
theorem Mul64_told (m : Nat) (hm : m ≤ 1024) (w : World) : Calls Try.prog 35 #[.int .u64 1, .int .u64 (m : Nat)] w fun e W' => e = .returned (.tuple #[.int .u64 0, .int .u64 (m : Nat)]) ∧ W' = w := by
  have a1 : bits .and .u64 (m : Int) 4294967295 = (m : Int) := by
    have h := bits_and_u64_nat m 4294967295 (by omega) (by omega)
    rw [show m &&& 4294967295 = m % 4294967296 from Nat.and_two_pow_sub_one_eq_mod m 32, Nat.mod_eq_of_lt (by omega)] at h
    exact h
  have a2 : bits .and .u64 1 4294967295 = 1 := by
    have h := bits_and_u64_nat 1 4294967295 (by omega) (by omega)
    exact h
  have a3 : bits .and .u64 0 4294967295 = 0 := by
    have h := bits_and_u64_nat 0 4294967295 (by omega) (by omega)
    exact h
  have d1 : (m : Int) / 4294967296 = 0 := by omega
  have w1 : IntKind.u64.wrap (m : Int) = (m : Int) := by rw [IntKind.wrap_u64]; omega
  go_enter Try.func35, Try.ntmps35
  go_wp2
  go_ret2
  exact ⟨rfl, rfl⟩
set_option maxHeartbeats 400000 in
theorem Mul_told (m : Nat) (hm : m ≤ 1024) (w : World) : Calls Try.prog 30 #[.int .u64 1, .int .u64 (m : Nat)] w fun e W' => e = .returned (.tuple #[.int .u64 0, .int .u64 (m : Nat)]) ∧ W' = w := by
  have C := Lib.hid (Mul64_told m hm w)
  go_enter Try.func30, Try.ntmps30
  go_wp2_with fail
  refine C.out.mono ?_
  rintro e w1 ⟨rfl, rfl⟩
  go_wp2_with fail
  go_ret2
  exact ⟨rfl, rfl⟩
end Go.Proofs.Ytiokpccdkpgibaa.Cel
