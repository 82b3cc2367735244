/-
  Package port: number; what each protocol tells; the map of protocols.
-/
import Derived.Test.YtcdgcjpdlhknoaaTxt
import Derived.Test.YtcdgcjpdlhknoaaRgnJ
import Derived.Maps.OwnSet
namespace Go.Proofs.Ytcdgcjpdlhknoaa.Prt
open Go.RowKit Go.Shelf Txt Rgn

/-- The two protocols. -/
abbrev tcpV : Value := .iface 130 (.agg #[])
abbrev udpV : Value := .iface 131 (.agg #[])

set_option maxRecDepth 100000 in
set_option maxHeartbeats 1000000 in
/-- What n bytes of a text tell together. -/
theorem number_any (s : ByteArray) (a n : Nat) (h1 : 1 ≤ n) (h4 : n ≤ 4) (h : a + n ≤ s.size) (hs : s.size ≤ 1099511627776) (w : World) :
    Calls Try.prog 75 #[.string s, .int .i64 (a : Nat), .int .i64 (n : Nat)] w fun e W' => e = .returned (.int .i64 (gv s a n : Nat)) ∧ Below w.heap.size w W' := by
  have hn := gv_lt s a n h
  have hp : 256 ^ n ≤ 4294967296 := by
    have : 256 ^ n ≤ 256 ^ 4 := Nat.pow_le_pow_right (by omega) h4
    simpa using this
  have hg : Oct.getV s (a : Int) (n : Int) = gv s a n := by
    unfold Oct.getV gv
    rw [Int.toNat_natCast, Int.toNat_natCast]
  have q := IntWalk.i64_in (gv s a n : Nat) (by omega)
  have G := Lib.hid hg
  clear hg
  go_enter Try.func75, Try.ntmps75
  go_wp2_with fail
  refine (Oct.Get_yes s (a : Int) (n : Int) w (by omega) (by omega)).mono ?_
  rintro e w2 ⟨rfl, hb2⟩
  rw [G.out]
  go_wp2_with fail
  go_ret
  exact ⟨rfl, hb2⟩

/-- What Put of octet answers, under a name of its own. -/
theorem Put_some (v n : Int) (w : World) (hv0 : 0 ≤ v) (hv : v ≤ 18446744073709551615) (h : 1 ≤ n ∧ n ≤ 8) :
    Calls Try.prog 62 #[.int .u64 v, .int .i64 n] w fun e W' => ∃ S : ByteArray, e = .returned (.string S) ∧ S.size ≤ 8 ∧ Hid (S = Oct.str (Oct.bytes v.toNat n.toNat)) ∧ Below w.heap.size w W' :=
  (Oct.Put_yes v n w hv0 hv (by omega)).mono fun _ _ ⟨he, hb⟩ => ⟨_, he, by rw [str_size, Oct.bytes_length]; omega, Lib.hid rfl, hb⟩

/-! ### the two protocols -/
theorem tcp_least (w : World) : Calls Try.prog 104 #[.agg #[]] w fun e W' => e = .returned (.int .i64 20) ∧ Below w.heap.size w W' := by
  go_enter Try.func104, Try.ntmps104
  go_wp2
  go_ret
  exact ⟨rfl, below_alloc w _⟩
theorem udp_least (w : World) : Calls Try.prog 110 #[.agg #[]] w fun e W' => e = .returned (.int .i64 8) ∧ Below w.heap.size w W' := by
  go_enter Try.func110, Try.ntmps110
  go_wp2
  go_ret
  exact ⟨rfl, below_alloc w _⟩
theorem tcp_most (w : World) : Calls Try.prog 105 #[.agg #[]] w fun e W' => e = .returned (.int .i64 255) ∧ Below w.heap.size w W' := by
  go_enter Try.func105, Try.ntmps105
  go_wp2
  go_ret
  exact ⟨rfl, below_alloc w _⟩
theorem udp_most (w : World) : Calls Try.prog 111 #[.agg #[]] w fun e W' => e = .returned (.int .i64 0) ∧ Below w.heap.size w W' := by
  go_enter Try.func111, Try.ntmps111
  go_wp2
  go_ret
  exact ⟨rfl, below_alloc w _⟩
theorem tcp_wrong (w : World) : Calls Try.prog 108 #[.agg #[]] w fun e W' => e = .returned (.int .i64 8) ∧ Below w.heap.size w W' := by
  go_enter Try.func108, Try.ntmps108
  go_wp2
  go_ret
  exact ⟨rfl, below_alloc w _⟩
theorem udp_wrong (w : World) : Calls Try.prog 114 #[.agg #[]] w fun e W' => e = .returned (.int .i64 4) ∧ Below w.heap.size w W' := by
  go_enter Try.func114, Try.ntmps114
  go_wp2
  go_ret
  exact ⟨rfl, below_alloc w _⟩
theorem udp_flags (s : ByteArray) (w : World) : Calls Try.prog 109 #[.agg #[], .string s] w fun e W' => e = .returned (.int .i64 0) ∧ Below w.heap.size w W' := by
  go_enter Try.func109, Try.ntmps109
  go_wp2
  go_ret
  exact ⟨rfl, below_alloc w _⟩
theorem udp_tail (f : Int) (w : World) : Calls Try.prog 113 #[.agg #[], .int .i64 f] w fun e W' => e = .returned (.string ⟨#[0, 8, 0, 0]⟩) ∧ Below w.heap.size w W' := by
  go_enter Try.func113, Try.ntmps113
  go_wp2
  go_ret
  exact ⟨rfl, below_alloc w _⟩
theorem tcp_flags (s : ByteArray) (h : 20 ≤ s.size) (hs : s.size ≤ 1099511627776) (w : World) :
    Calls Try.prog 103 #[.agg #[], .string s] w fun e W' => e = .returned (.int .i64 (gv s 13 1 : Nat)) ∧ Below w.heap.size w W' := by
  go_enter Try.func103, Try.ntmps103
  go_wp2_with fail
  refine (number_any s 13 1 (by omega) (by omega) (by omega) hs _).mono ?_
  rintro e w2 ⟨rfl, hb2⟩
  go_wp2_with fail
  go_ret
  exact ⟨rfl, below2 (below_alloc w _) hb2⟩
theorem udp_size (s : ByteArray) (h : 8 ≤ s.size) (hs : s.size ≤ 1099511627776) (w : World) :
    Calls Try.prog 112 #[.agg #[], .string s] w fun e W' => e = .returned (.int .i64 (gv s 4 2 : Nat)) ∧ Below w.heap.size w W' := by
  go_enter Try.func112, Try.ntmps112
  go_wp2_with fail
  refine (number_any s 4 2 (by omega) (by omega) (by omega) hs _).mono ?_
  rintro e w2 ⟨rfl, hb2⟩
  go_wp2_with fail
  go_ret
  exact ⟨rfl, below2 (below_alloc w _) hb2⟩
theorem tcp_size (s : ByteArray) (h : 20 ≤ s.size) (hs : s.size ≤ 1099511627776) (w : World) :
    Calls Try.prog 106 #[.agg #[], .string s] w fun e W' => e = .returned (.int .i64 (gv s 12 1 / 16 * 4 : Nat)) ∧ Below w.heap.size w W' := by
  have hl := gv_lt s 12 1 (by omega)
  go_enter Try.func106, Try.ntmps106
  go_wp2_with fail
  refine (number_any s 12 1 (by omega) (by omega) (by omega) hs _).mono ?_
  rintro e w2 ⟨rfl, hb2⟩
  generalize hg : gv s 12 1 = g at *
  go_wp2_with fail
  go_ret
  exact ⟨by rw [hg]; simp, below2 (below_alloc w _) hb2⟩
end Go.Proofs.Ytcdgcjpdlhknoaa.Prt
