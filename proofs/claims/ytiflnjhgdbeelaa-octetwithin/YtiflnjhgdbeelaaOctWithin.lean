/-
  OctetWithin: for every v, at and n the law OctetWithin answers true: a part of a number's bytes is that part of the number. No condition.
-/
import Derived.Test.YtiflnjhgdbeelaaRows
import Derived.Test.YtiflnjhgdbeelaaOctE
import Derived.ProofKit
import Derived.OpenShut
import Derived.ChangeMaps5
namespace Go.Proofs.Ytiflnjhgdbeelaa
open Go.ChangeShapes Go.WideShapes Go.ChangeAt Go.RowKit
open Go.ChangeMaps (open_string shut_string)
open Oct

theorem getV_part (v a n : Nat) (h : a + n ≤ 8) : getV (str (Oct.bytes v 8)) (a : Int) (n : Int) = v / 256 ^ (8 - a - n) % 256 ^ n := by
  have e : Oct.bytes v 8 = Oct.bytes (v / 256 ^ (8 - a)) a ++ (Oct.bytes (v / 256 ^ (8 - a - n)) n ++ Oct.bytes v (8 - a - n)) := by
    rw [← bytes_parts v n (8 - a - n), show n + (8 - a - n) = 8 - a by omega, ← bytes_parts v a (8 - a), show a + (8 - a) = 8 by omega]
  unfold getV
  show num (List.take (n : Int).toNat (List.drop (a : Int).toNat (Oct.bytes v 8).toArray.toList)) = _
  rw [Int.toNat_natCast, Int.toNat_natCast, e]
  show num (List.take n (List.drop a (Oct.bytes (v / 256 ^ (8 - a)) a ++ (Oct.bytes (v / 256 ^ (8 - a - n)) n ++ Oct.bytes v (8 - a - n))))) = _
  rw [List.drop_left' (bytes_length _ _), List.take_left' (bytes_length _ _), num_bytes]

theorem part_shifts (v a n : Nat) (h : a + n ≤ 8) (hn : 1 ≤ n) : (((v / 256 ^ (8 - a - n) % 256 ^ n : Nat)) : Int) = IntKind.u64.wrap ((v : Int) * 2 ^ (8 * a)) / 2 ^ (64 - 8 * n) := by
  have e : v * 2 ^ (8 * a) % 18446744073709551616 / 2 ^ (64 - 8 * n) = v / 256 ^ (8 - a - n) % 256 ^ n := by
    have e1 : 18446744073709551616 = 2 ^ (64 - 8 * a) * 2 ^ (8 * a) := by rw [← Nat.pow_add, Nat.sub_add_cancel (by omega)]
    have e2 : (2 : Nat) ^ (64 - 8 * n) = 2 ^ (8 * a) * 2 ^ (8 * (8 - a - n)) := by rw [← Nat.pow_add]; congr 1; omega
    have e3 : (2 : Nat) ^ (64 - 8 * a) = 2 ^ (8 * (8 - a - n)) * 2 ^ (8 * n) := by rw [← Nat.pow_add]; congr 1; omega
    rw [e1, Nat.mul_mod_mul_right, e2, ← Nat.div_div_eq_div_mul, Nat.mul_div_cancel _ (Nat.two_pow_pos _), e3, Nat.mod_mul_right_div_self, pow256, pow256]
  rw [← e, wrapu]
  simp only [Int.natCast_ediv, Int.natCast_emod, Int.natCast_mul, Int.natCast_pow]
  rfl

set_option maxRecDepth 100000 in
set_option maxHeartbeats 800000 in
theorem walk_OctetWithin (a0 a1 a2 : Int) (h0 : (Lit.int .u64 a0).wf = true) (h1 : (Lit.int .i64 a1).wf = true) (h2 : (Lit.int .i64 a2).wf = true) (w : World) :
    Calls Try.prog 8 #[.int .u64 a0, .int .i64 a1, .int .i64 a2] w fun e W' => e = .returned (.bool true) ∧ Below w.heap.size w W' := by
  have b0 := bounds_u64 h0
  have b1 := bounds_i64 h1
  have b2 := bounds_i64 h2
  clear h0 h1 h2
  by_cases g1 : a1 < 0
  · have d1 : decide (a1 < 0) = true := by simpa using g1
    go_enter Try.func8, Try.ntmps8
    go_wp2_with fail
    refine (works_any _).mono ?_
    rintro e w1 ⟨rfl, hb1⟩
    go_wp2_with fail
    go_ret
    exact ⟨rfl, hb1⟩
  have d1 : decide (a1 < 0) = false := by simpa using g1
  by_cases g2 : a2 < 1
  · have d2 : decide (a2 < 1) = true := by simpa using g2
    go_enter Try.func8, Try.ntmps8
    go_wp2_with fail
    refine (works_any _).mono ?_
    rintro e w1 ⟨rfl, hb1⟩
    go_wp2_with fail
    go_ret
    exact ⟨rfl, hb1⟩
  have d2 : decide (a2 < 1) = false := by simpa using g2
  by_cases g3 : 7 < a1
  · have d3 : decide (7 < a1) = true := by simpa using g3
    go_enter Try.func8, Try.ntmps8
    go_wp2_with fail
    refine (works_any _).mono ?_
    rintro e w1 ⟨rfl, hb1⟩
    go_wp2_with fail
    go_ret
    exact ⟨rfl, hb1⟩
  have d3 : decide (7 < a1) = false := by simpa using g3
  by_cases g4 : 8 - a1 < a2
  · have d4 : decide (8 - a1 < a2) = true := by simpa using g4
    go_enter Try.func8, Try.ntmps8
    go_wp2_with fail
    refine (works_any _).mono ?_
    rintro e w1 ⟨rfl, hb1⟩
    go_wp2_with fail
    go_ret
    exact ⟨rfl, hb1⟩
  have d4 : decide (8 - a1 < a2) = false := by simpa using g4
  obtain ⟨v, rfl⟩ := Int.eq_ofNat_of_zero_le b0.1
  obtain ⟨a, rfl⟩ := Int.eq_ofNat_of_zero_le (show 0 ≤ a1 by omega)
  obtain ⟨n, rfl⟩ := Int.eq_ofNat_of_zero_le (show 0 ≤ a2 by omega)
  have HG := Lib.hid (getV_part v a n (by omega))
  have HM := Lib.hid (part_shifts v a n (by omega) (by omega))
  have HZ := Lib.hid (show (str (Oct.bytes v 8)).size = 8 by simp [ByteArray.size, bytes_length])
  go_enter Try.func8, Try.ntmps8
  go_wp2_with fail
  refine (works_any _).mono ?_
  rintro e w1 ⟨rfl, hb1⟩
  go_wp2_with fail
  refine (Put_yes _ _ _ (by omega) (by omega) (by decide)).mono ?_
  rintro e w2 ⟨rfl, hb2⟩
  rw [Int.toNat_natCast, show (8 : Int).toNat = 8 from rfl]
  generalize str (Oct.bytes v 8) = S at *
  go_wp2_with fail
  refine (Get_yes _ _ _ _ (by have := HZ.out; omega) (by have := HZ.out; omega)).mono ?_
  rintro e w3 ⟨rfl, hb3⟩
  rw [HG.out, HM.out]
  go_wp2_with fail
  go_ret
  exact ⟨rfl, below2 (below2 hb1 hb2) hb3⟩

theorem own_OctetWithin : ownKnob Try.prog.godebug = none := by kernel_rfl
set_option maxRecDepth 100000 in
set_option maxHeartbeats 800000 in
theorem lifted_OctetWithin (os : Os) (started : os.Started) (H : Type) (enc : TypeId × Value → H) :
    ReturnsInHanded {} Try.checked os 8 .any (Rows.octetWithinSpec.pre6 enc Try.prog Try.f8 Rows.octetWithinRow.domain false) (Rows.octetWithinSpec.post enc Try.prog Try.f8 false true false false) := by
  refine returnsInHanded_of_change (C := Try.checked) own_OctetWithin started (by kernel_rfl) Try.func8
    (ChangeSpec.witness6 (enc := enc) (C := Try.checked) false ⟨#[], #[.int .u64 0, .int .i64 0, .int .i64 0], []⟩ 8 (by kernel_rfl) (by kernel_rfl) (by kernel_rfl) (by kernel_rfl)) ?_
  intro W base args ds gs before hval0 hW _ _
  have hval : ∀ (j : Nat) t v, Try.f8.params[j]? = some t → args[j]? = some v → Value.okWide Try.prog W .any base t v := hval0
  have hW' := hW
  obtain ⟨p, q, hA0, hV, rfl, _, _⟩ := hW
  have hA : DataW.TrodAll enc Try.prog W 0 (fun _ => true) true Try.f8.params.toList args.toList ds p := hA0
  rw [Try.params8] at hA hval
  obtain ⟨v0, vs0, d0, ds0, p0, q0, ha0, rfl, rfl, t0, r0⟩ := trodAll_cons hA
  obtain ⟨v1, vs1, d1, ds1, p1, q1, ha1, rfl, rfl, t1, r1⟩ := trodAll_cons r0
  obtain ⟨v2, vs2, d2, ds2, p2, q2, ha2, rfl, rfl, t2, r2⟩ := trodAll_cons r1
  obtain ⟨rfl, rfl, rfl⟩ := trodAll_nil r2
  subst ha2
  subst ha1
  obtain rfl : args = #[v0, v1, v2] := by cases args; simp_all
  obtain ⟨rfl, rfl⟩ := trodVars_none hV
  obtain ⟨a0, rfl, rfl, rfl, h0⟩ := open_int Try.underlying22 (hval 0 22 v0 rfl rfl) t0
  obtain ⟨a1, rfl, rfl, rfl, h1⟩ := open_int Try.underlying3 (hval 1 3 v1 rfl rfl) t1
  obtain ⟨a2, rfl, rfl, rfl, h2⟩ := open_int Try.underlying3 (hval 2 3 v2 rfl rfl) t2
  clear hA0 hval0
  simp only [List.append_nil] at hW'
  refine (walk_OctetWithin a0 a1 a2 h0 h1 h2 W).mono fun e W' ⟨he, hnx⟩ => ?_
  subst he
  exact ⟨_, rfl, ⟨_, _, _, [], [], [], hW', trodAll_cons_mk (shut_bool Try.underlying4 _) trodAll_mk0, (trodAll_cons_mk (shut_int Try.underlying22 h0) (trodAll_cons_mk (shut_int Try.underlying3 h1) (trodAll_cons_mk (shut_int Try.underlying3 h2) trodAll_mk0))), rfl, hnx.frame _, fun h => by cases h⟩⟩

theorem octetWithin_holds : Rows.OctetWithinSaid :=
  OpenClaim.holds_of_wide 8 Try.f8 rfl rfl rfl rfl rfl rfl rfl ⟨rfl, rfl, rfl, rfl, rfl⟩ rfl rfl rfl rfl rfl (by kernel_rfl) Try.func8 (by kernel_rfl)
    (of_decide_eq_true (by kernel_rfl)) (by unfold Func.isWrapper; first | (rw [if_pos (by decide +kernel)]; kernel_rfl) | (rw [if_neg (by decide +kernel)]; exact ⟨rfl, rfl⟩))
    (fun os started H enc _ => lifted_OctetWithin os started H enc)

#print axioms octetWithin_holds
end Go.Proofs.Ytiflnjhgdbeelaa
