/-
  The document's answer for ip6 (package gangplankref05): its Parse and its Put tell what ip6's tell.
-/
import Derived.Test.YtcdgcjpdlhknoaaIp6E
import Derived.Test.YtcdgcjpdlhknoaaOctD
import Derived.Deep.RegionHeld3
namespace Go.Proofs.Ytcdgcjpdlhknoaa.Ip6
open Go.RowKit Go.Shelf Txt
open Oct (num)

set_option maxHeartbeats 800000 in
theorem refWord_any (s : ByteArray) (hs : s.size ≤ 1099511627776) (a : Nat) (ha : a + 2 ≤ s.size) (w : World) :
    Calls Try.prog 41 #[.string s, .int .i64 (a : Nat)] w fun e W' => e = .returned (.int .i64 (gv s a 2 : Nat)) ∧ w = W' := by
  have hl := gv_lt s a 2 ha
  have E := Lib.hid (show Oct.getV s (a : Nat) 2 = gv s a 2 from rfl)
  go_enter Try.func41, Try.ntmps41
  go_wp2_with fail
  refine (Oct.refGet_yes s a 2 w (by omega) (by omega)).mono ?_
  rintro e w1 ⟨rfl, rfl⟩
  rw [E.out]
  go_wp2_with fail
  go_ret
  exact ⟨rfl, rfl⟩

theorem gv_byte (s : ByteArray) (a : Nat) (h : a < s.size) : gv s a 1 = (s[a]).toNat := by
  have h4 : a < s.data.toList.length := by rw [len_list]; exact h
  unfold gv
  rw [List.drop_eq_getElem_cons h4]
  show num [s.data.toList[a]] = _
  rw [← Oct.byte_at s a h, List.getElem?_eq_getElem h4]
  simp [num]
/-- The version stands in the upper four bits of byte 0. -/
theorem ver_byte (s : ByteArray) (h : 40 ≤ s.size) : ver s = (s[0]).toNat / 16 := by
  have e : gv s 0 4 = gv s 0 1 * 16777216 + gv s 1 3 := by
    unfold gv
    have l3 : ((s.data.toList.drop 1).take 3).length = 3 := by rw [List.length_take, List.length_drop, len_list]; omega
    have h2 : (s.data.toList.drop 0).take 4 = (s.data.toList.drop 0).take 1 ++ (s.data.toList.drop 1).take 3 := by
      rw [List.drop_zero, ← List.take_add]
    rw [h2, Oct.num_append, l3]
  have h3 : gv s 1 3 < 16777216 := gv_lt s 1 3 (by omega)
  unfold ver
  rw [e, gv_byte s 0 (by omega)]
  omega

set_option maxRecDepth 100000 in
set_option maxHeartbeats 3200000 in
theorem refParse_short (s : ByteArray) (h0 : s.size < 40) (w : World) :
    Calls Try.prog 57 #[.string s] w fun e W' => e = .returned (badV 2) ∧ Below w.heap.size w W' := by
  have d0 : decide ((s.size : Int) < 40) = true := decide_eq_true (by omega)
  go_enter Try.func57, Try.ntmps57
  go_wp2_with fail
  exact bodyPost_ret (v := badV 2) (by simp [results, Try.results57, go_sem]) rfl ⟨rfl, below_alloc w _⟩

set_option maxRecDepth 100000 in
set_option maxHeartbeats 3200000 in
theorem refParse_long (s : ByteArray) (h0 : 40 ≤ s.size) (hs : s.size ≤ 1099511627776) (w : World) :
    Calls Try.prog 57 #[.string s] w fun e W' => e = .returned (longV s) ∧ Below w.heap.size w W' := by
  have d0 : decide ((s.size : Int) < 40) = false := decide_eq_false (by omega)
  have hpos : 0 < s.size := by omega
  have e0 := ver_byte s h0
  have hq := (s[0]).toNat_lt
  by_cases h1 : ver s = 6
  case neg =>
    have PV := Lib.hid (longV_version h1)
    have v4 : (((s[0]).toNat : Int) / 16 % 256 != 6) = true := bne_iff_ne.2 (by omega)
    clear e0 hq h1
    go_enter Try.func57, Try.ntmps57
    go_wp2_with fail
    exact bodyPost_ret (v := badV 3) (by simp [results, Try.results57, go_sem]) rfl ⟨by rw [PV.out], below_alloc w _⟩
  have v4 : (((s[0]).toNat : Int) / 16 % 256 != 6) = false := by
    rw [show ((s[0]).toNat : Int) / 16 % 256 = 6 by omega]; rfl
  have hll : len s < 65536 := gv_lt s 4 2 (by omega)
  have L2 := Lib.hid (show gv s 4 2 = len s from rfl)
  have q1 : IntKind.i64.wrap ((s.size : Int) - 40) = (s.size : Int) - 40 := IntWalk.i64_in _ (by omega)
  have W4 := fun W => Lib.hid (refWord_any s hs 4 (by omega) W)
  clear e0 hq
  by_cases h5 : s.size < 40 + len s
  case pos =>
    have PV := Lib.hid (longV_length h1 h5)
    have d5 : decide ((s.size : Int) - 40 < ((len s : Nat) : Int)) = true := decide_eq_true (by omega)
    go_enter Try.func57, Try.ntmps57
    go_wp2_with fail
    refine (W4 _).out.mono ?_
    rintro e w1 ⟨rfl, rfl⟩
    rw [L2.out]
    go_wp2_with fail
    exact bodyPost_ret (v := badV 4) (by simp [results, Try.results57, go_sem]) rfl ⟨by rw [PV.out], below_alloc w _⟩
  have d5 : decide ((s.size : Int) - 40 < ((len s : Nat) : Int)) = false := decide_eq_false (by omega)
  have PV := Lib.hid (longV_ok h1 h5)
  have E6 := Lib.hid (show IntKind.i64.wrap ((s[6]).toNat : Int) = (gv s 6 1 : Nat) by
    rw [gv_byte s 6 (by omega)]
    have := (s[6]).toNat_lt
    exact IntWalk.i64_in _ (by omega))
  have i24 : (24 : Int) ≤ (s.size : Int) := by omega
  have i40 : (40 : Int) ≤ (s.size : Int) := by omega
  have i6 : (6 : Int) < (s.size : Int) := by omega
  have q2 : IntKind.i64.wrap (40 + ((len s : Nat) : Int)) = 40 + ((len s : Nat) : Int) := IntWalk.i64_in _ (by omega)
  have i2 : (40 : Int) ≤ 40 + ((len s : Nat) : Int) := by omega
  have i3 : 40 + ((len s : Nat) : Int) ≤ (s.size : Int) := by omega
  have T4 := Lib.hid (show (40 + ((len s : Nat) : Int)).toNat = 40 + len s by omega)
  go_enter Try.func57, Try.ntmps57
  go_wp2_with fail
  refine (W4 _).out.mono ?_
  rintro e w1 ⟨rfl, rfl⟩
  rw [L2.out]
  go_wp2_with fail
  go_region_held3 (fun W => Below w.heap.size w W) (first | exact (below_alloc w _).drew | exact (((below_alloc w _).drew.setCell (p := ⟨w.heap.size, 0, none⟩) (by simp) _).setCell (p := ⟨w.heap.size, 1, none⟩) (by simp) _).setCell (p := ⟨w.heap.size, 2, none⟩) (by simp) _) (fail)
  rename_i hHeld
  go_wp2
  exact bodyPost_ret (v := .tuple #[.agg #[.string (s.extract 8 24), .string (s.extract 24 40), .int .i64 (IntKind.i64.wrap ((s[6]).toNat : Int))], .string (s.extract 40 (40 + ((len s : Nat) : Int)).toNat), .int .i64 0]) (by simp [results, Try.results57, go_sem]) rfl ⟨by rw [PV.out, E6.out, T4.out], hHeld⟩
end Go.Proofs.Ytcdgcjpdlhknoaa.Ip6
