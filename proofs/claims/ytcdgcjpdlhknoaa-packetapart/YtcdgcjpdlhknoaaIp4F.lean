/-
  The document's answer for ip4 (package gangplankref04): its Parse tells what ip4's tells.
-/
import Derived.Test.YtcdgcjpdlhknoaaIp4E
import Derived.Test.YtcdgcjpdlhknoaaOctD
import Derived.Test.YtcdgcjpdlhknoaaSumC
import Derived.Deep.RegionHeld3
namespace Go.Proofs.Ytcdgcjpdlhknoaa.Ip4
open Go.RowKit Go.Shelf
open Oct (num)

set_option maxHeartbeats 800000 in
theorem refWord_any (s : ByteArray) (hs : s.size ≤ 1099511627776) (a : Int) (ha : 0 ≤ a ∧ a + 2 ≤ s.size) (w : World) :
    Calls Try.prog 41 #[.string s, .int .i64 a] w fun e W' => e = .returned (.int .i64 (gv s a 2 : Nat)) ∧ w = W' := by
  have hl := gv_le s a 2 (by omega)
  have e1 : gv s a 2 = Oct.getV s a 2 := if_pos ha.2
  rw [e1] at hl ⊢
  go_enter Try.func41, Try.ntmps41
  go_wp2_with fail
  refine (Oct.refGet_yes s a 2 w (by omega) (by omega)).mono ?_
  rintro e w1 ⟨rfl, rfl⟩
  go_wp2_with fail
  go_ret
  exact ⟨rfl, rfl⟩

theorem gv_byte (s : ByteArray) (a : Nat) (h : a < s.size) : gv s (a : Int) 1 = (s[a]).toNat := by
  refine (gv_of s a 1 (by omega)).trans ?_
  have h4 : a < s.data.toList.length := by rw [len_list]; exact h
  rw [List.drop_eq_getElem_cons h4]
  show num [s.data.toList[a]] = _
  rw [← Oct.byte_at s a h, List.getElem?_eq_getElem h4]
  simp [num]

theorem c_hit {s : ByteArray} {c k : Nat} (hk : k ≤ c) (h : so s k = true) (hno : ∀ i, i < c → so s i = false) : c = k := by
  rcases Nat.lt_or_ge k c with h1 | h1
  · rw [hno k h1] at h; cases h
  · omega
theorem c_past {s : ByteArray} {c k : Nat} (hk : k ≤ c) (hk6 : k < 6) (h : so s k = false) (hyes : c < 6 → so s c = true) : k + 1 ≤ c := by
  rcases Nat.lt_or_ge k c with h1 | h1
  · exact h1
  · have e : c = k := by omega
    have := hyes (by omega)
    rw [e, h] at this; cases this

set_option maxRecDepth 100000 in
set_option maxHeartbeats 3200000 in
theorem refParse_any (s : ByteArray) (hs : s.size ≤ 1099511627776) (c : Nat) (hc : c ≤ 6) (hno : ∀ i, i < c → so s i = false) (hyes : c < 6 → so s c = true) (w : World) :
    Calls Try.prog 56 #[.string s] w fun e W' => e = .returned (parseV s c) ∧ Below w.heap.size w W' := by
  by_cases h0 : s.size < 20
  · have d0 : decide ((s.size : Int) < 20) = true := decide_eq_true (by omega)
    have hc0 : c = 0 := c_hit (Nat.zero_le _) (by rw [so_0]; exact decide_eq_true h0) hno
    subst hc0
    clear hno hyes
    go_enter Try.func56, Try.ntmps56
    go_wp2_with fail
    refine bodyPost_ret (v := badV 2) (by simp [results, Try.results56, go_sem]) rfl ⟨rfl, ?_⟩
    exact below_alloc w _
  have d0 : decide ((s.size : Int) < 20) = false := decide_eq_false (by omega)
  have e0 : gv s 0 1 = (s[0]).toNat := gv_byte s 0 (by omega)
  have hq : gv s 0 1 < 256 := by rw [e0]; exact UInt8.toNat_lt _
  have hc1 : 1 ≤ c := c_past (Nat.zero_le _) (by omega) (by rw [so_0]; exact decide_eq_false h0) hyes
  have hpos : 0 < s.size := by omega
  by_cases h1 : ver s = 4
  case neg =>
    have hcc : c = 1 := c_hit hc1 (by rw [so_1]; exact decide_eq_true h1) hno
    subst hcc
    clear hno hyes
    have v4 : (((s[0]).toNat : Int) / 16 % 256 != 4) = true := bne_iff_ne.2 (by unfold ver at h1; omega)
    go_enter Try.func56, Try.ntmps56
    go_wp2_with fail
    refine bodyPost_ret (v := badV 3) (by simp [results, Try.results56, go_sem]) rfl ⟨rfl, ?_⟩
    exact below_alloc w _
  have v4 : (((s[0]).toNat : Int) / 16 % 256 != 4) = false := by
    rw [show ((s[0]).toNat : Int) / 16 % 256 = 4 by unfold ver at h1; omega]; rfl
  have hc2 : 2 ≤ c := c_past hc1 (by omega) (by rw [so_1]; exact decide_eq_false (fun e => e h1)) hyes
  have s1 : ((s[0]).toNat : Int) % 16 * 4 = (siz s : Nat) := by unfold siz; omega
  have hsl : siz s ≤ 60 := by unfold siz; omega
  have hll : len s ≤ 65535 := gv_le s 2 2 (by omega)
  have L2 := Lib.hid (show gv s 2 2 = len s from rfl)
  clear e0 hq
  by_cases h2 : siz s < 20
  case pos =>
    have hcc : c = 2 := c_hit hc2 (by rw [so_2]; exact decide_eq_true (.inl h2)) hno
    subst hcc
    clear hno hyes
    have d2 : decide (((siz s : Nat) : Int) < 20) = true := decide_eq_true (by omega)
    go_enter Try.func56, Try.ntmps56
    go_wp2_with fail
    refine (refWord_any s hs 2 (by omega) _).mono ?_
    rintro e w1 ⟨rfl, rfl⟩
    go_wp2_with fail
    refine bodyPost_ret (v := badV 4) (by simp [results, Try.results56, go_sem]) rfl ⟨rfl, ?_⟩
    exact below_alloc w _
  have d2 : decide (((siz s : Nat) : Int) < 20) = false := decide_eq_false (by omega)
  by_cases h3 : s.size < siz s
  case pos =>
    have hcc : c = 2 := c_hit hc2 (by rw [so_2]; exact decide_eq_true (.inr h3)) hno
    subst hcc
    clear hno hyes
    have d3 : decide ((s.size : Int) < ((siz s : Nat) : Int)) = true := decide_eq_true (by omega)
    go_enter Try.func56, Try.ntmps56
    go_wp2_with fail
    refine (refWord_any s hs 2 (by omega) _).mono ?_
    rintro e w1 ⟨rfl, rfl⟩
    go_wp2_with fail
    refine bodyPost_ret (v := badV 4) (by simp [results, Try.results56, go_sem]) rfl ⟨rfl, ?_⟩
    exact below_alloc w _
  have d3 : decide ((s.size : Int) < ((siz s : Nat) : Int)) = false := decide_eq_false (by omega)
  have hc3 : 3 ≤ c := c_past hc2 (by omega) (by rw [so_2]; exact decide_eq_false (by omega)) hyes
  by_cases h4 : len s < siz s
  case pos =>
    have hcc : c = 3 := c_hit hc3 (by rw [so_3]; exact decide_eq_true (.inl h4)) hno
    subst hcc
    clear hno hyes
    have d4 : decide (((len s : Nat) : Int) < ((siz s : Nat) : Int)) = true := decide_eq_true (by omega)
    go_enter Try.func56, Try.ntmps56
    go_wp2_with fail
    refine (refWord_any s hs 2 (by omega) _).mono ?_
    rintro e w1 ⟨rfl, rfl⟩
    rw [L2.out]
    go_wp2_with fail
    refine bodyPost_ret (v := badV 4) (by simp [results, Try.results56, go_sem]) rfl ⟨rfl, ?_⟩
    exact below_alloc w _
  have d4 : decide (((len s : Nat) : Int) < ((siz s : Nat) : Int)) = false := decide_eq_false (by omega)
  by_cases h5 : s.size < len s
  case pos =>
    have hcc : c = 3 := c_hit hc3 (by rw [so_3]; exact decide_eq_true (.inr h5)) hno
    subst hcc
    clear hno hyes
    have d5 : decide ((s.size : Int) < ((len s : Nat) : Int)) = true := decide_eq_true (by omega)
    go_enter Try.func56, Try.ntmps56
    go_wp2_with fail
    refine (refWord_any s hs 2 (by omega) _).mono ?_
    rintro e w1 ⟨rfl, rfl⟩
    rw [L2.out]
    go_wp2_with fail
    refine bodyPost_ret (v := badV 4) (by simp [results, Try.results56, go_sem]) rfl ⟨rfl, ?_⟩
    exact below_alloc w _
  have d5 : decide ((s.size : Int) < ((len s : Nat) : Int)) = false := decide_eq_false (by omega)
  have hc4 : 4 ≤ c := c_past hc3 (by omega) (by rw [so_3]; exact decide_eq_false (by omega)) hyes
  have z := Lib.hid (show (s.extract 0 (siz s)).size ≤ 1099511627776 by rw [ByteArray.size_extract]; omega)
  have i1 : ((siz s : Nat) : Int) ≤ (s.size : Int) := by omega
  by_cases h6 : Cks.fc (Cks.tot (s.extract 0 (siz s)).data.toList) = 65535
  case neg =>
    have hcc : c = 4 := c_hit hc4 (by rw [so_4]; exact decide_eq_true h6) hno
    subst hcc
    clear hno hyes
    go_enter Try.func56, Try.ntmps56
    go_wp2_with fail
    refine (refWord_any s hs 2 (by omega) _).mono ?_
    rintro e w1 ⟨rfl, rfl⟩
    rw [L2.out]
    go_wp2_with fail
    refine (Cks.refGood_any _ z.out _).mono ?_
    rintro e w2 ⟨rfl, rfl⟩
    rw [decide_eq_false h6]
    go_wp2_with fail
    refine bodyPost_ret (v := badV 5) (by simp [results, Try.results56, go_sem]) rfl ⟨rfl, ?_⟩
    exact below_alloc w _
  have hc5 : 5 ≤ c := c_past hc4 (by omega) (by rw [so_4]; exact decide_eq_false (fun e => e h6)) hyes
  have H6 := Lib.hid (decide_eq_true h6)
  clear h6
  by_cases h7 : gv s 6 2 % 16384 = 0
  case neg =>
    have hcc : c = 5 := c_hit hc5 (by rw [so_5]; exact decide_eq_true h7) hno
    subst hcc
    clear hno hyes
    have d7 : (((gv s 6 2 : Nat) : Int) % 16384 != 0) = true := bne_iff_ne.2 (by omega)
    go_enter Try.func56, Try.ntmps56
    go_wp2_with fail
    refine (refWord_any s hs 2 (by omega) _).mono ?_
    rintro e w1 ⟨rfl, rfl⟩
    rw [L2.out]
    go_wp2_with fail
    refine (Cks.refGood_any _ z.out _).mono ?_
    rintro e w2 ⟨rfl, rfl⟩
    rw [H6.out]
    go_wp2_with fail
    refine (refWord_any s hs 6 (by omega) _).mono ?_
    rintro e w1 ⟨rfl, rfl⟩
    go_wp2_with fail
    refine bodyPost_ret (v := badV 6) (by simp [results, Try.results56, go_sem]) rfl ⟨rfl, ?_⟩
    exact below_alloc w _
  have hcc : c = 6 := by
    have := c_past hc5 (by omega) (by rw [so_5]; exact decide_eq_false (fun e => e h7)) hyes
    omega
  subst hcc
  clear hno hyes
  have d7 : ((gv s 6 2 : Nat) : Int) % 16384 = 0 := by omega
  have PV := Lib.hid (show parseV s 6 = .tuple #[.agg #[.string (s.extract 12 16), .string (s.extract 16 20), .int .i64 (gv s 9 1 : Nat)], .string (s.extract (siz s) (len s)), .int .i64 0] from if_neg (by omega))
  have E9 := Lib.hid (show IntKind.i64.wrap ((s[9]).toNat : Int) = (gv s 9 1 : Nat) by
    rw [show gv s 9 1 = (s[9]).toNat from gv_byte s 9 (by omega)]
    have := (s[9]).toNat_lt
    exact IntWalk.i64_in _ (by omega))
  have i2 : ((siz s : Nat) : Int) ≤ ((len s : Nat) : Int) := by omega
  have i3 : ((len s : Nat) : Int) ≤ (s.size : Int) := by omega
  have i16 : (16 : Int) ≤ (s.size : Int) := by omega
  have i20 : (20 : Int) ≤ (s.size : Int) := by omega
  have i9 : (9 : Int) < (s.size : Int) := by omega
  go_enter Try.func56, Try.ntmps56
  go_wp2_with fail
  refine (refWord_any s hs 2 (by omega) _).mono ?_
  rintro e w1 ⟨rfl, rfl⟩
  rw [L2.out]
  go_wp2_with fail
  refine (Cks.refGood_any _ z.out _).mono ?_
  rintro e w2 ⟨rfl, rfl⟩
  rw [H6.out]
  go_wp2_with fail
  refine (refWord_any s hs 6 (by omega) _).mono ?_
  rintro e w1 ⟨rfl, rfl⟩
  go_wp2_with fail
  go_region_held3 (fun W => Below w.heap.size w W) (first | exact (below_alloc w _).drew | exact (((below_alloc w _).drew.setCell (p := ⟨w.heap.size, 0, none⟩) (by simp) _).setCell (p := ⟨w.heap.size, 1, none⟩) (by simp) _).setCell (p := ⟨w.heap.size, 2, none⟩) (by simp) _) (fail)
  rename_i hHeld
  go_wp2
  refine bodyPost_ret (v := .tuple #[.agg #[.string (s.extract 12 16), .string (s.extract 16 20), .int .i64 (IntKind.i64.wrap ((s[9]).toNat : Int))], .string (s.extract (siz s) (len s)), .int .i64 0]) (by simp [results, Try.results56, go_sem]) rfl ⟨by rw [PV.out, E9.out], hHeld⟩
end Go.Proofs.Ytcdgcjpdlhknoaa.Ip4
