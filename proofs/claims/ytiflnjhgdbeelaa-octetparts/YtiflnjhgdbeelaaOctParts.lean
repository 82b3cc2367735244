/-
  OctetParts: for every v, n and m the law OctetParts answers true: the bytes of a number are those of its parts. No condition.
-/
import Derived.Test.YtiflnjhgdbeelaaRows
import Derived.Test.YtiflnjhgdbeelaaOctE
import Derived.Test.YtiflnjhgdbeelaaOctD
import Derived.ProofKit
import Derived.OpenShut
import Derived.ChangeMaps5
import Derived.Deep.RegionHeld3
namespace Go.Proofs.Ytiflnjhgdbeelaa
open Go.ChangeShapes Go.WideShapes Go.ChangeAt Go.RowKit
open Go.ChangeMaps (open_string shut_string)
open Oct

/-- What Put answers, under a name of its own. -/
def PutSome (l : List UInt8) (w : World) (e : Ending) (W' : World) : Prop := ∃ S : ByteArray, e = .returned (.string S) ∧ S.size ≤ 8 ∧ Hid (S = str l) ∧ Below w.heap.size w W'
theorem Put_some (v n : Int) (w : World) (hv0 : 0 ≤ v) (hv : v ≤ 18446744073709551615) (h : 1 ≤ n ∧ n ≤ 8) :
    Calls Try.prog 12 #[.int .u64 v, .int .i64 n] w (PutSome (Oct.bytes v.toNat n.toNat) w) :=
  (Put_yes v n w hv0 hv h).mono fun e W' ⟨he, hb⟩ => ⟨_, he, by simp [ByteArray.size, bytes_length]; omega, Lib.hid rfl, hb⟩

theorem parts_eq (v n m : Nat) (A B C : ByteArray) (ha : A = str (Oct.bytes (v : Int).toNat ((n : Int) + (m : Int)).toNat)) (hb : B = str (Oct.bytes ((v : Int) / 2 ^ (8 * m)).toNat (n : Int).toNat)) (hc : C = str (Oct.bytes (v : Int).toNat (m : Int).toNat)) :
    (A.toList == (B ++ C).toList) = true := by
  have e1 : ((n : Int) + (m : Int)).toNat = n + m := by omega
  have e2 : ((v : Int) / 2 ^ (8 * m)).toNat = v / 256 ^ m := by
    rw [pow256]
    have : ((v : Int) / 2 ^ (8 * m)) = ((v / 2 ^ (8 * m) : Nat) : Int) := by simp
    rw [this, Int.toNat_natCast]
  rw [e1, Int.toNat_natCast] at ha
  rw [e2, Int.toNat_natCast] at hb
  rw [Int.toNat_natCast, Int.toNat_natCast] at hc
  rw [ha, hb, hc, str_append, bytes_parts v n m]
  simp

set_option maxRecDepth 100000 in
set_option maxHeartbeats 1600000 in
theorem walk_OctetParts (a0 a1 a2 : Int) (h0 : (Lit.int .u64 a0).wf = true) (h1 : (Lit.int .i64 a1).wf = true) (h2 : (Lit.int .i64 a2).wf = true) (w : World) :
    Calls Try.prog 6 #[.int .u64 a0, .int .i64 a1, .int .i64 a2] w fun e W' => e = .returned (.bool true) ∧ Below w.heap.size w W' := by
  have b0 := bounds_u64 h0
  have b1 := bounds_i64 h1
  have b2 := bounds_i64 h2
  clear h0 h1 h2
  by_cases g1 : a1 < 1
  · have d1 : decide (a1 < 1) = true := by simpa using g1
    go_enter Try.func6, Try.ntmps6
    go_wp2_with fail
    refine (works_any _).mono ?_
    rintro e w1 ⟨rfl, hb1⟩
    go_wp2_with fail
    go_ret
    exact ⟨rfl, hb1⟩
  have d1 : decide (a1 < 1) = false := by simpa using g1
  by_cases g2 : a2 < 1
  · have d2 : decide (a2 < 1) = true := by simpa using g2
    go_enter Try.func6, Try.ntmps6
    go_wp2_with fail
    refine (works_any _).mono ?_
    rintro e w1 ⟨rfl, hb1⟩
    go_wp2_with fail
    go_ret
    exact ⟨rfl, hb1⟩
  have d2 : decide (a2 < 1) = false := by simpa using g2
  by_cases g3 : 8 < a1
  · have d3 : decide (8 < a1) = true := by simpa using g3
    go_enter Try.func6, Try.ntmps6
    go_wp2_with fail
    refine (works_any _).mono ?_
    rintro e w1 ⟨rfl, hb1⟩
    go_wp2_with fail
    go_ret
    exact ⟨rfl, hb1⟩
  have d3 : decide (8 < a1) = false := by simpa using g3
  by_cases g4 : 8 - a1 < a2
  · have d4 : decide (8 - a1 < a2) = true := by simpa using g4
    go_enter Try.func6, Try.ntmps6
    go_wp2_with fail
    refine (works_any _).mono ?_
    rintro e w1 ⟨rfl, hb1⟩
    go_wp2_with fail
    go_ret
    exact ⟨rfl, hb1⟩
  have d4 : decide (8 - a1 < a2) = false := by simpa using g4
  obtain ⟨v, rfl⟩ := Int.eq_ofNat_of_zero_le b0.1
  obtain ⟨n, rfl⟩ := Int.eq_ofNat_of_zero_le (show 0 ≤ a1 by omega)
  obtain ⟨m, rfl⟩ := Int.eq_ofNat_of_zero_le (show 0 ≤ a2 by omega)
  go_enter Try.func6, Try.ntmps6
  go_wp2_with fail
  refine (works_any _).mono ?_
  rintro e w1 ⟨rfl, hb1⟩
  go_wp2_with fail
  have r0 : (0 : Int) ≤ (v : Int) / 2 ^ (8 * m) := Int.ediv_nonneg (by omega) (Int.le_of_lt (Int.pow_pos (by omega)))
  have r1 : (v : Int) / 2 ^ (8 * m) ≤ 18446744073709551615 := Int.le_trans (Int.ediv_le_self _ (by omega)) b0.2
  have q1 : IntKind.i64.wrap ((n : Int) + (m : Int)) = (n : Int) + (m : Int) := IntWalk.i64_in _ (by omega)
  have q2 : IntKind.i64.wrap (8 * (m : Int)) = 8 * (m : Int) := IntWalk.i64_in _ (by omega)
  have q3 : (8 * (m : Int)).toNat = 8 * m := by omega
  have q4 : (0 : Int) ≤ 8 * (m : Int) := by omega
  have q5 : 8 * (m : Int) ≤ 64 := by omega
  have hadd : ∀ (A B : ByteArray) (u : World), A.size ≤ 8 → B.size ≤ 8 → (Op.stringOp .add A B).run Try.prog u = .ok (.string (A ++ B)) u := fun A B u ha hb => run_string_add_sum u A B (by omega)
  go_region_held3 (fun w' => Below w.heap.size w w') (first | exact hb1.drew | exact below2 (by assumption) hb2)
    (first | (go_at_call 12; (with_reducible refine (Put_some _ _ _ ?_ ?_ ?_).mono ?_); omega; omega; omega; rintro e w2 ⟨S, rfl, hS, HS, hb2⟩))
  rename_i u1 S1 hS1 HS1 hc1 u2 S2 hS2 HS2 hc2 hHeld
  have HE := Lib.hid (parts_eq v n m S1 S2 S HS1.out HS2.out HS.out)
  clear hadd
  go_wp2
  go_ret
  exact ⟨by rw [HE.out]; rfl, hHeld⟩

theorem own_OctetParts : ownKnob Try.prog.godebug = none := by kernel_rfl
set_option maxRecDepth 100000 in
set_option maxHeartbeats 800000 in
theorem lifted_OctetParts (os : Os) (started : os.Started) (H : Type) (enc : TypeId × Value → H) :
    ReturnsInHanded {} Try.checked os 6 .any (Rows.octetPartsSpec.pre6 enc Try.prog Try.f6 Rows.octetPartsRow.domain false) (Rows.octetPartsSpec.post enc Try.prog Try.f6 false true false false) := by
  refine returnsInHanded_of_change (C := Try.checked) own_OctetParts started (by kernel_rfl) Try.func6
    (ChangeSpec.witness6 (enc := enc) (C := Try.checked) false ⟨#[], #[.int .u64 0, .int .i64 0, .int .i64 0], []⟩ 8 (by kernel_rfl) (by kernel_rfl) (by kernel_rfl) (by kernel_rfl)) ?_
  intro W base args ds gs before hval0 hW _ _
  have hval : ∀ (j : Nat) t v, Try.f6.params[j]? = some t → args[j]? = some v → Value.okWide Try.prog W .any base t v := hval0
  have hW' := hW
  obtain ⟨p, q, hA0, hV, rfl, _, _⟩ := hW
  have hA : DataW.TrodAll enc Try.prog W 0 (fun _ => true) true Try.f6.params.toList args.toList ds p := hA0
  rw [Try.params6] at hA hval
  obtain ⟨v0, vs0, d0, ds0, p0, q0, ha0, rfl, rfl, t0, r0⟩ := trodAll_cons hA
  obtain ⟨v1, vs1, d1, ds1, p1, q1, ha1, rfl, rfl, t1, r1⟩ := trodAll_cons r0
  obtain ⟨v2, vs2, d2, ds2, p2, q2, ha2, rfl, rfl, t2, r2⟩ := trodAll_cons r1
  obtain ⟨rfl, rfl, rfl⟩ := trodAll_nil r2
  subst ha2
  subst ha1
  obtain rfl : args = #[v0, v1, v2] := by cases args; simp_all
  obtain ⟨rfl, rfl⟩ := trodVars_none hV
  obtain ⟨a0, rfl, rfl, rfl, h0⟩ := open_int Try.underlying22 (hval 0 22 v0 rfl rfl) t0
  obtain ⟨a1, rfl, rfl, rfl, h1⟩ := open_int Try.underlying3 (hval 1 3 v1 rfl rfl) t1
  obtain ⟨a2, rfl, rfl, rfl, h2⟩ := open_int Try.underlying3 (hval 2 3 v2 rfl rfl) t2
  clear hA0 hval0
  simp only [List.append_nil] at hW'
  refine (walk_OctetParts a0 a1 a2 h0 h1 h2 W).mono fun e W' ⟨he, hnx⟩ => ?_
  subst he
  exact ⟨_, rfl, ⟨_, _, _, [], [], [], hW', trodAll_cons_mk (shut_bool Try.underlying4 _) trodAll_mk0, (trodAll_cons_mk (shut_int Try.underlying22 h0) (trodAll_cons_mk (shut_int Try.underlying3 h1) (trodAll_cons_mk (shut_int Try.underlying3 h2) trodAll_mk0))), rfl, hnx.frame _, fun h => by cases h⟩⟩

theorem octetParts_holds : Rows.OctetPartsSaid :=
  OpenClaim.holds_of_wide 6 Try.f6 rfl rfl rfl rfl rfl rfl rfl ⟨rfl, rfl, rfl, rfl, rfl⟩ rfl rfl rfl rfl rfl (by kernel_rfl) Try.func6 (by kernel_rfl)
    (of_decide_eq_true (by kernel_rfl)) (by unfold Func.isWrapper; first | (rw [if_pos (by decide +kernel)]; kernel_rfl) | (rw [if_neg (by decide +kernel)]; exact ⟨rfl, rfl⟩))
    (fun os started H enc _ => lifted_OctetParts os started H enc)

#print axioms octetParts_holds
end Go.Proofs.Ytiflnjhgdbeelaa
