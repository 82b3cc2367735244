/-
  The document's answer for octet (package gangplankref01): its Put tells what octet's tells.
-/
import Derived.Test.YtfjpdoamalbpjaaOctCp
namespace Go.Proofs.Ytfjpdoamalbpjaa.Oct
open Go.RowKit Go.Shelf

theorem u64_in (x : Nat) (h : x < 18446744073709551616) : IntKind.u64.wrap (x : Int) = (x : Int) := by
  simp only [IntKind.wrap, IntKind.signed, IntKind.bits]; simp; omega
theorem u64_in' (x : Int) (y : Nat) (e : x = (y : Int)) (h : y < 18446744073709551616) : IntKind.u64.wrap x = (y : Int) := by rw [e]; exact u64_in y h
theorem ret_tup {k : IntKind} {a b : Int} {c : Bool} (h : a = b) : Ending.returned (.tuple #[.int k a, .bool c]) = .returned (.tuple #[.int k b, .bool c]) := by rw [h]

theorem take_snoc (s : ByteArray) (a k : Nat) (h : a + k < s.size) : (s.data.toList.drop a).take (k + 1) = (s.data.toList.drop a).take k ++ [s[a + k]] := by
  have h4 : a + k < s.data.toList.length := by rw [Array.length_toList]; exact h
  rw [List.take_succ_eq_append_getElem (by rw [List.length_drop]; omega), List.getElem_drop]; rfl

theorem take_lt (s : ByteArray) (a k : Nat) (h : k ≤ 7) : num ((s.data.toList.drop a).take k) < 72057594037927936 := by
  have h1 := num_lt ((s.data.toList.drop a).take k)
  have h2 : ((s.data.toList.drop a).take k).length ≤ 7 := Nat.le_trans (List.length_take_le _ _) h
  exact Nat.lt_of_lt_of_le h1 (pow_le7 h2)

set_option maxRecDepth 100000 in
set_option maxHeartbeats 800000 in
theorem refPut_no (v n : Int) (w : World) (h : ¬ (1 ≤ n ∧ n ≤ 8)) :
    Calls Try.prog 31 #[.int .u64 v, .int .i64 n] w fun e W' => e = .returned (.string ⟨#[]⟩) ∧ w = W' := by
  by_cases h1 : n < 1
  · have d1 : decide (n < 1) = true := by simpa using h1
    go_enter Try.func31, Try.ntmps31
    go_wp2
    go_ret
    exact ⟨rfl, rfl⟩
  have d1 : decide (n < 1) = false := by simpa using h1
  have d2 : decide (8 < n) = true := by simp; omega
  go_enter Try.func31, Try.ntmps31
  go_wp2
  go_ret
  exact ⟨rfl, rfl⟩

theorem one_byte (q : Nat) : strOfNums [(q : Int) % 256] = str [UInt8.ofNat q] := by
  have h : ((q : Int) % 256).toNat = q % 256 := by omega
  have h2 : UInt8.ofNat (q % 256) = UInt8.ofNat q := by apply UInt8.toNat_inj.1; rw [toNat_ofNat, toNat_ofNat, Nat.mod_mod]
  simp [strOfNums, str, h, h2]
theorem str_append (l k : List UInt8) : str l ++ str k = str (l ++ k) := by
  apply ByteArray.ext; simp [str]

/-- The lowest k bytes, one more ahead. -/
theorem bytes_cons (v k : Nat) : bytes v (k + 1) = UInt8.ofNat (v / 256 ^ k) :: bytes v k := by
  rw [Nat.add_comm k 1, bytes_parts]; rfl

set_option maxRecDepth 100000 in
set_option maxHeartbeats 800000 in
theorem refPut_yes' (v n : Nat) (w : World) (hv : v < 18446744073709551616) (hn1 : 1 ≤ n) (hn8 : n ≤ 8) :
    Calls Try.prog 31 #[.int .u64 (v : Int), .int .i64 (n : Int)] w fun e W' => e = .returned (.string (str (bytes v n))) ∧ Below w.heap.size w W' := by
  have d1 : decide ((n : Int) < 1) = false := by simp; omega
  have d2 : decide ((8 : Int) < (n : Int)) = false := by simp; omega
  go_enter Try.func31, Try.ntmps31
  go_wp2
  go_loopw [0, 5, 6] (fun q s i wr => ∃ k : Nat, k ≤ n ∧ i = .int .i64 k ∧ s = .string (str (bytes v k)) ∧ q = .int .u64 ((v / 256 ^ k : Nat) : Int) ∧ Below w.heap.size w wr) (fun _ _ i _ => n - (intOf i).toNat)
  case atStart => exact ⟨0, Nat.zero_le _, rfl, rfl, by simp, Below.refl _ _⟩
  case round =>
    obtain ⟨k, hk, rfl, rfl, rfl, hB⟩ := hrel
    by_cases hlt : k < n
    · have hq64 : v / 256 ^ k < 18446744073709551616 := Nat.lt_of_le_of_lt (Nat.div_le_self _ _) hv
      have HC := Lib.hid (bytes_cons v k)
      have HD : Hid (v / 256 ^ (k + 1) = v / 256 ^ k / 256) := by rw [Nat.pow_succ, ← Nat.div_div_eq_div_mul]; exact Lib.hid rfl
      have hl : (bytes v k).length ≤ 8 := by rw [bytes_length]; omega
      generalize v / 256 ^ k = q at *
      generalize bytes v k = bs at *
      have hcv := run_convert_bytes_arg (P := Try.prog) (wr.alloc (.cells #[.int .u8 ((q : Int) % 256)] 5)) 76 5 Try.underlying76 Try.underlying5 wr.heap.size 0 1 1 [(q : Int) % 256] rfl
        (fun i hi => by obtain rfl : i = 0 := by omega
                        exact (Boxed.new wr 5 _).cell) 9 Try.underlying9
      rw [one_byte] at hcv
      go_wp2
      refine ⟨⟨k + 1, by omega, by go_num, ?_, ?_, hB.alloc hB.size _⟩, by simp [intOf]; omega⟩
      · rw [HC.out, str_append]; rfl
      · rw [HD.out]; rfl
    · go_wp2
      go_ret
      rw [show k = n by omega]
      exact ⟨rfl, hB⟩

theorem refPut_yes (v n : Int) (w : World) (hv0 : 0 ≤ v) (hv : v ≤ 18446744073709551615) (h : 1 ≤ n ∧ n ≤ 8) :
    Calls Try.prog 31 #[.int .u64 v, .int .i64 n] w fun e W' => e = .returned (.string (str (bytes v.toNat n.toNat))) ∧ Below w.heap.size w W' := by
  obtain ⟨v, rfl⟩ := Int.eq_ofNat_of_zero_le hv0
  obtain ⟨n, rfl⟩ := Int.eq_ofNat_of_zero_le (show 0 ≤ n by omega)
  exact refPut_yes' v n w (by omega) (by omega) (by omega)
end Go.Proofs.Ytfjpdoamalbpjaa.Oct
