/-
  The document's examples of octet: the laws' 'works' answers true.
-/
import Derived.Test.YtiflnjhgdbeelaaOctC
namespace Go.Proofs.Ytiflnjhgdbeelaa.Oct
open Go.RowKit Go.Shelf

/-- What lay when the first began lies as it lay behind the second. -/
theorem below2 {a b c : World} (h : Below a.heap.size a b) (k : Below b.heap.size b c) : Below a.heap.size a c := h.trans (k.mono h.size)

theorem getV_mid (a b : ByteArray) (v n : Nat) : getV (a ++ str (bytes v n) ++ b) (a.size : Int) (n : Int) = v % 256 ^ n := by
  have e : (a ++ str (bytes v n) ++ b).data.toList = a.data.toList ++ (bytes v n ++ b.data.toList) := by simp [str]
  unfold getV
  rw [e, Int.toNat_natCast, Int.toNat_natCast, List.drop_left' (by rw [Array.length_toList]; rfl), List.take_left' (bytes_length v n), num_bytes]
theorem shl_shr (v k : Nat) (hk : k ≤ 64) : v * 2 ^ k % 18446744073709551616 / 2 ^ k = v % 2 ^ (64 - k) := by
  have e : 18446744073709551616 = 2 ^ (64 - k) * 2 ^ k := by rw [← Nat.pow_add, Nat.sub_add_cancel hk]
  rw [e, Nat.mul_mod_mul_right, Nat.mul_div_cancel _ (Nat.two_pow_pos k)]
theorem pow256 (n : Nat) : 256 ^ n = 2 ^ (8 * n) := by rw [show (256 : Nat) = 2 ^ 8 from rfl, ← Nat.pow_mul]

theorem getV_lt (s : ByteArray) (a n : Int) (h : n ≤ 8) : getV s a n < 18446744073709551616 := by
  have h1 := num_lt ((s.data.toList.drop a.toNat).take n.toNat)
  have h2 : ((s.data.toList.drop a.toNat).take n.toNat).length ≤ 8 := Nat.le_trans (List.length_take_le _ _) (by omega)
  have h3 : 256 ^ ((s.data.toList.drop a.toNat).take n.toNat).length ≤ 256 ^ 8 := Nat.pow_le_pow_right (by omega) h2
  exact Nat.lt_of_lt_of_le h1 h3
theorem wrapu (x : Int) : IntKind.u64.wrap x = x % 18446744073709551616 := by simp [IntKind.wrap, IntKind.bits, IntKind.signed]
theorem mod_shifts (v n : Nat) (hn : n ≤ 8) : (v : Int) % 256 ^ n = IntKind.u64.wrap ((v : Int) * 2 ^ (64 - 8 * n)) / 2 ^ (64 - 8 * n) := by
  have h := shl_shr v (64 - 8 * n) (by omega)
  rw [show 64 - (64 - 8 * n) = 8 * n by omega, ← pow256] at h
  have h2 := congrArg (fun x : Nat => (x : Int)) h
  simp only [Int.natCast_ediv, Int.natCast_emod, Int.natCast_mul, Int.natCast_pow] at h2
  rw [wrapu]
  exact h2.symm

set_option maxRecDepth 100000 in
set_option maxHeartbeats 800000 in
theorem works_any (w : World) : Calls Try.prog 9 #[] w fun e W' => e = .returned (.bool true) ∧ Below w.heap.size w W' := by
  have g1 : getV ⟨#[1, 2, 3]⟩ 1 2 = 515 := by decide
  have g2 : str (bytes (515 : Int).toNat (2 : Int).toNat) = ⟨#[2, 3]⟩ := by decide
  have G1 := Lib.hid g1
  have G2 := Lib.hid g2
  clear g1 g2
  go_enter Try.func9, Try.ntmps9
  go_wp2_with fail
  refine (Get_yes _ _ _ _ (by decide) (by decide)).mono ?_
  rintro e w1 ⟨rfl, hb1⟩
  rw [G1.out]
  go_wp2_with fail
  refine (Get_no _ _ _ _ (by decide) (by decide) (by decide)).mono ?_
  rintro e w2 ⟨rfl, hb2⟩
  go_wp2_with fail
  refine (Put_yes _ _ _ (by decide) (by decide) (by decide)).mono ?_
  rintro e w3 ⟨rfl, hb3⟩
  rw [G2.out]
  go_wp2_with fail
  refine (Put_no _ _ _ (by decide)).mono ?_
  rintro e w4 ⟨rfl, hb4⟩
  go_wp2_with fail
  go_ret
  exact ⟨rfl, below2 (below2 (below2 hb1 hb2) hb3) hb4⟩
end Go.Proofs.Ytiflnjhgdbeelaa.Oct
