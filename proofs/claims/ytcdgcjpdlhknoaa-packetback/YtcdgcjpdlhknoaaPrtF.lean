/-
  The document's answer for port (package gangplankref06): its Parse tells what port's tells.
-/
import Derived.Test.YtcdgcjpdlhknoaaPrtE
import Derived.Test.YtcdgcjpdlhknoaaOctD
namespace Go.Proofs.Ytcdgcjpdlhknoaa.Prt
open Go.RowKit Go.Shelf Txt
open Oct (num)

set_option maxHeartbeats 800000 in
theorem refWord_any (s : ByteArray) (hs : s.size ≤ 1099511627776) (a : Nat) (ha : a + 2 ≤ s.size) (w : World) :
    Calls Try.prog 41 #[.string s, .int .i64 (a : Nat)] w fun e W' => e = .returned (.int .i64 (gv s a 2 : Nat)) ∧ w = W' := by
  have hl := gv_lt s a 2 ha
  have E := Lib.hid (show Oct.getV s (a : Nat) 2 = gv s a 2 from rfl)
  go_enter Try.func41, Try.ntmps41
  go_wp2_with fail
  refine (Oct.refGet_yes s a 2 w (by omega) (by omega)).mono ?_
  rintro e w1 ⟨rfl, rfl⟩
  rw [E.out]
  go_wp2_with fail
  go_ret
  exact ⟨rfl, rfl⟩

theorem gv_byte (s : ByteArray) (a : Nat) (h : a < s.size) : gv s a 1 = (s[a]).toNat := by
  have h4 : a < s.data.toList.length := by rw [len_list]; exact h
  unfold gv
  rw [List.drop_eq_getElem_cons h4]
  show num [s.data.toList[a]] = _
  rw [← Oct.byte_at s a h, List.getElem?_eq_getElem h4]
  simp [num]

set_option maxRecDepth 100000 in
set_option maxHeartbeats 3200000 in
theorem refParse_none (p : Int) (h6 : p ≠ 6) (h17 : p ≠ 17) (s : ByteArray) (w : World) :
    Calls Try.prog 28 #[.int .i64 p, .string s] w fun e W' => e = .returned (badV 7) ∧ Below w.heap.size w W' := by
  have n6 : (p != 6) = true := bne_iff_ne.2 h6
  have n17 : (p != 17) = true := bne_iff_ne.2 h17
  go_enter Try.func28, Try.ntmps28
  go_wp2_with fail
  exact bodyPost_ret (v := badV 7) (by simp [results, Try.results28, go_sem]) rfl ⟨rfl, below_alloc w _⟩

set_option maxRecDepth 100000 in
set_option maxHeartbeats 3200000 in
theorem refParse_tcp_short (s : ByteArray) (h : s.size < 20) (w : World) :
    Calls Try.prog 28 #[.int .i64 6, .string s] w fun e W' => e = .returned (badV 2) ∧ Below w.heap.size w W' := by
  have d0 : decide ((s.size : Int) < 20) = true := decide_eq_true (by omega)
  go_enter Try.func28, Try.ntmps28
  go_wp2_with fail
  exact bodyPost_ret (v := badV 2) (by simp [results, Try.results28, go_sem]) rfl ⟨rfl, below_alloc w _⟩

set_option maxRecDepth 100000 in
set_option maxHeartbeats 3200000 in
theorem refParse_udp_short (s : ByteArray) (h : s.size < 8) (w : World) :
    Calls Try.prog 28 #[.int .i64 17, .string s] w fun e W' => e = .returned (badV 2) ∧ Below w.heap.size w W' := by
  have d0 : decide ((s.size : Int) < 8) = true := decide_eq_true (by omega)
  go_enter Try.func28, Try.ntmps28
  go_wp2_with fail
  exact bodyPost_ret (v := badV 2) (by simp [results, Try.results28, go_sem]) rfl ⟨rfl, below_alloc w _⟩

set_option maxRecDepth 100000 in
set_option maxHeartbeats 3200000 in
theorem refParse_udp_low (s : ByteArray) (h : 8 ≤ s.size) (hs : s.size ≤ 1099511627776) (h1 : sizeU s < 8) (w : World) :
    Calls Try.prog 28 #[.int .i64 17, .string s] w fun e W' => e = .returned (badV 4) ∧ Below w.heap.size w W' := by
  have d0 : decide ((s.size : Int) < 8) = false := decide_eq_false (by omega)
  have W0 := fun W => Lib.hid (refWord_any s hs 0 (by omega) W)
  have W2 := fun W => Lib.hid (refWord_any s hs 2 (by omega) W)
  have W4 := fun W => Lib.hid (refWord_any s hs 4 (by omega) W)
  have L4 := Lib.hid (show gv s 4 2 = sizeU s from rfl)
  have d1 : decide (((sizeU s : Nat) : Int) < 8) = true := decide_eq_true (by omega)
  go_enter Try.func28, Try.ntmps28
  go_wp2_with fail
  refine (W0 _).out.mono ?_
  rintro e w1 ⟨rfl, rfl⟩
  go_wp2_with fail
  refine (W2 _).out.mono ?_
  rintro e w1 ⟨rfl, rfl⟩
  go_wp2_with fail
  refine (W4 _).out.mono ?_
  rintro e w1 ⟨rfl, rfl⟩
  rw [L4.out]
  go_wp2_with fail
  exact bodyPost_ret (v := badV 4) (by simp [results, Try.results28, go_sem]) rfl ⟨rfl, below2 (below_alloc w _) (below_alloc _ _)⟩

set_option maxRecDepth 100000 in
set_option maxHeartbeats 3200000 in
theorem refParse_udp_high (s : ByteArray) (h : 8 ≤ s.size) (hs : s.size ≤ 1099511627776) (h1 : 8 ≤ sizeU s) (h2 : s.size < sizeU s) (w : World) :
    Calls Try.prog 28 #[.int .i64 17, .string s] w fun e W' => e = .returned (badV 4) ∧ Below w.heap.size w W' := by
  have d0 : decide ((s.size : Int) < 8) = false := decide_eq_false (by omega)
  have W0 := fun W => Lib.hid (refWord_any s hs 0 (by omega) W)
  have W2 := fun W => Lib.hid (refWord_any s hs 2 (by omega) W)
  have W4 := fun W => Lib.hid (refWord_any s hs 4 (by omega) W)
  have L4 := Lib.hid (show gv s 4 2 = sizeU s from rfl)
  have d1 : decide (((sizeU s : Nat) : Int) < 8) = false := decide_eq_false (by omega)
  have d2 : decide ((s.size : Int) < ((sizeU s : Nat) : Int)) = true := decide_eq_true (by omega)
  go_enter Try.func28, Try.ntmps28
  go_wp2_with fail
  refine (W0 _).out.mono ?_
  rintro e w1 ⟨rfl, rfl⟩
  go_wp2_with fail
  refine (W2 _).out.mono ?_
  rintro e w1 ⟨rfl, rfl⟩
  go_wp2_with fail
  refine (W4 _).out.mono ?_
  rintro e w1 ⟨rfl, rfl⟩
  rw [L4.out]
  go_wp2_with fail
  exact bodyPost_ret (v := badV 4) (by simp [results, Try.results28, go_sem]) rfl ⟨rfl, below2 (below_alloc w _) (below_alloc _ _)⟩

set_option maxRecDepth 100000 in
set_option maxHeartbeats 3200000 in
theorem refParse_udp_good (s : ByteArray) (h : 8 ≤ s.size) (hs : s.size ≤ 1099511627776) (h1 : 8 ≤ sizeU s) (h2 : sizeU s ≤ s.size) (w : World) :
    Calls Try.prog 28 #[.int .i64 17, .string s] w fun e W' => e = .returned (okV (gv s 0 2 : Nat) (gv s 2 2 : Nat) 0) ∧ Below w.heap.size w W' := by
  have d0 : decide ((s.size : Int) < 8) = false := decide_eq_false (by omega)
  have W0 := fun W => Lib.hid (refWord_any s hs 0 (by omega) W)
  have W2 := fun W => Lib.hid (refWord_any s hs 2 (by omega) W)
  have W4 := fun W => Lib.hid (refWord_any s hs 4 (by omega) W)
  have L4 := Lib.hid (show gv s 4 2 = sizeU s from rfl)
  have d1 : decide (((sizeU s : Nat) : Int) < 8) = false := decide_eq_false (by omega)
  have d2 : decide ((s.size : Int) < ((sizeU s : Nat) : Int)) = false := decide_eq_false (by omega)
  go_enter Try.func28, Try.ntmps28
  go_wp2_with fail
  refine (W0 _).out.mono ?_
  rintro e w1 ⟨rfl, rfl⟩
  go_wp2_with fail
  refine (W2 _).out.mono ?_
  rintro e w1 ⟨rfl, rfl⟩
  go_wp2_with fail
  refine (W4 _).out.mono ?_
  rintro e w1 ⟨rfl, rfl⟩
  rw [L4.out]
  go_wp2_with fail
  exact bodyPost_ret (v := okV (gv s 0 2 : Nat) (gv s 2 2 : Nat) 0) (by simp [results, Try.results28, go_sem]) rfl ⟨rfl, below2 (below_alloc w _) (below_alloc _ _)⟩

set_option maxRecDepth 100000 in
set_option maxHeartbeats 3200000 in
theorem refParse_tcp_low (s : ByteArray) (h : 20 ≤ s.size) (hs : s.size ≤ 1099511627776) (h1 : sizeT s < 20) (w : World) :
    Calls Try.prog 28 #[.int .i64 6, .string s] w fun e W' => e = .returned (badV 8) ∧ Below w.heap.size w W' := by
  have d0 : decide ((s.size : Int) < 20) = false := decide_eq_false (by omega)
  have d8 : decide ((s.size : Int) < 8) = false := decide_eq_false (by omega)
  have W0 := fun W => Lib.hid (refWord_any s hs 0 (by omega) W)
  have W2 := fun W => Lib.hid (refWord_any s hs 2 (by omega) W)
  have h12 : 12 < s.size := by omega
  have i12 : (12 : Int) < (s.size : Int) := by omega
  have e12 : sizeT s = (s[12]).toNat / 16 * 4 := by unfold sizeT; rw [gv_byte s 12 h12]
  have l12 := (s[12]).toNat_lt
  have d1 : decide (((s[12]).toNat : Int) / 16 * 4 < 20) = true := decide_eq_true (by omega)
  go_enter Try.func28, Try.ntmps28
  go_wp2_with fail
  refine (W0 _).out.mono ?_
  rintro e w1 ⟨rfl, rfl⟩
  go_wp2_with fail
  refine (W2 _).out.mono ?_
  rintro e w1 ⟨rfl, rfl⟩
  go_wp2_with fail
  exact bodyPost_ret (v := badV 8) (by simp [results, Try.results28, go_sem]) rfl ⟨rfl, below2 (below_alloc w _) (below_alloc _ _)⟩

set_option maxRecDepth 100000 in
set_option maxHeartbeats 3200000 in
theorem refParse_tcp_high (s : ByteArray) (h : 20 ≤ s.size) (hs : s.size ≤ 1099511627776) (h1 : 20 ≤ sizeT s) (h2 : s.size < sizeT s) (w : World) :
    Calls Try.prog 28 #[.int .i64 6, .string s] w fun e W' => e = .returned (badV 8) ∧ Below w.heap.size w W' := by
  have d0 : decide ((s.size : Int) < 20) = false := decide_eq_false (by omega)
  have d8 : decide ((s.size : Int) < 8) = false := decide_eq_false (by omega)
  have W0 := fun W => Lib.hid (refWord_any s hs 0 (by omega) W)
  have W2 := fun W => Lib.hid (refWord_any s hs 2 (by omega) W)
  have h12 : 12 < s.size := by omega
  have i12 : (12 : Int) < (s.size : Int) := by omega
  have e12 : sizeT s = (s[12]).toNat / 16 * 4 := by unfold sizeT; rw [gv_byte s 12 h12]
  have l12 := (s[12]).toNat_lt
  have d1 : decide (((s[12]).toNat : Int) / 16 * 4 < 20) = false := decide_eq_false (by omega)
  have d2 : decide ((s.size : Int) < ((s[12]).toNat : Int) / 16 * 4) = true := decide_eq_true (by omega)
  go_enter Try.func28, Try.ntmps28
  go_wp2_with fail
  refine (W0 _).out.mono ?_
  rintro e w1 ⟨rfl, rfl⟩
  go_wp2_with fail
  refine (W2 _).out.mono ?_
  rintro e w1 ⟨rfl, rfl⟩
  go_wp2_with fail
  exact bodyPost_ret (v := badV 8) (by simp [results, Try.results28, go_sem]) rfl ⟨rfl, below2 (below_alloc w _) (below_alloc _ _)⟩

set_option maxRecDepth 100000 in
set_option maxHeartbeats 3200000 in
theorem refParse_tcp_good (s : ByteArray) (h : 20 ≤ s.size) (hs : s.size ≤ 1099511627776) (h1 : 20 ≤ sizeT s) (h2 : sizeT s ≤ s.size) (w : World) :
    Calls Try.prog 28 #[.int .i64 6, .string s] w fun e W' => e = .returned (okV (gv s 0 2 : Nat) (gv s 2 2 : Nat) (gv s 13 1 : Nat)) ∧ Below w.heap.size w W' := by
  have d0 : decide ((s.size : Int) < 20) = false := decide_eq_false (by omega)
  have d8 : decide ((s.size : Int) < 8) = false := decide_eq_false (by omega)
  have W0 := fun W => Lib.hid (refWord_any s hs 0 (by omega) W)
  have W2 := fun W => Lib.hid (refWord_any s hs 2 (by omega) W)
  have h12 : 12 < s.size := by omega
  have i12 : (12 : Int) < (s.size : Int) := by omega
  have e12 : sizeT s = (s[12]).toNat / 16 * 4 := by unfold sizeT; rw [gv_byte s 12 h12]
  have l12 := (s[12]).toNat_lt
  have d1 : decide (((s[12]).toNat : Int) / 16 * 4 < 20) = false := decide_eq_false (by omega)
  have d2 : decide ((s.size : Int) < ((s[12]).toNat : Int) / 16 * 4) = false := decide_eq_false (by omega)
  have h13 : 13 < s.size := by omega
  have i13 : (13 : Int) < (s.size : Int) := by omega
  have E13 := Lib.hid (gv_byte s 13 h13)
  have l13 := (s[13]).toNat_lt
  go_enter Try.func28, Try.ntmps28
  go_wp2_with fail
  refine (W0 _).out.mono ?_
  rintro e w1 ⟨rfl, rfl⟩
  go_wp2_with fail
  refine (W2 _).out.mono ?_
  rintro e w1 ⟨rfl, rfl⟩
  go_wp2_with fail
  exact bodyPost_ret (v := okV (gv s 0 2 : Nat) (gv s 2 2 : Nat) ((s[13]).toNat : Nat)) (by simp [results, Try.results28, go_sem]) rfl ⟨by rw [E13.out], below2 (below_alloc w _) (below_alloc _ _)⟩


theorem refParse_good (p : Int) (s : ByteArray) (hs : s.size ≤ 1099511627776) (h : good p s) (w : World) :
    Calls Try.prog 28 #[.int .i64 p, .string s] w fun e W' => e = .returned (okV (gv s 0 2 : Nat) (gv s 2 2 : Nat) (flagsOf p s : Nat)) ∧ Below w.heap.size w W' := by
  rcases h with ⟨rfl, h0, h1, h2⟩ | ⟨rfl, h0, h1, h2⟩
  · rw [flagsOf_tcp]
    exact refParse_tcp_good s h0 hs h1 h2 w
  · rw [flagsOf_udp]
    exact refParse_udp_good s h0 hs h1 h2 w
theorem refParse_bad (p : Int) (s : ByteArray) (hs : s.size ≤ 1099511627776) (h : ¬ good p s) (w : World) :
    Calls Try.prog 28 #[.int .i64 p, .string s] w fun e W' => e = .returned (badV (errOf p s)) ∧ Below w.heap.size w W' := by
  unfold good at h
  unfold errOf
  by_cases h6 : p = 6
  · subst h6
    rw [if_pos rfl]
    by_cases h0 : s.size < 20
    · rw [if_pos h0]; exact refParse_tcp_short s h0 w
    · rw [if_neg h0]
      by_cases h1 : sizeT s < 20
      · exact refParse_tcp_low s (by omega) hs h1 w
      · exact refParse_tcp_high s (by omega) hs (by omega) (by omega) w
  · rw [if_neg h6]
    by_cases h17 : p = 17
    · subst h17
      rw [if_pos rfl]
      by_cases h0 : s.size < 8
      · rw [if_pos h0]; exact refParse_udp_short s h0 w
      · rw [if_neg h0]
        by_cases h1 : sizeU s < 8
        · exact refParse_udp_low s (by omega) hs h1 w
        · exact refParse_udp_high s (by omega) hs (by omega) (by omega) w
    · rw [if_neg h17]
      exact refParse_none p h6 h17 s w
end Go.Proofs.Ytcdgcjpdlhknoaa.Prt
