/-
  FnvZeros: for every h, s and n the law FnvZeros answers true: bytes of 0 multiply, and nothing else. No condition.
-/
import Derived.Test.YtpmhejjjeecilaaRows
import Derived.Test.YtpmhejjjeecilaaFnvD
import Derived.ProofKit
import Derived.OpenShut
import Derived.ChangeMaps5
namespace Go.Proofs.Ytpmhejjjeecilaa
open Go.ChangeShapes Go.WideShapes Go.ChangeAt Go.RowKit
open Go.ChangeMaps (open_string shut_string)
open Fnv

theorem zeros_more (k : Nat) : ByteArray.mk (Array.replicate k 0) ++ ByteArray.mk #[0] = ByteArray.mk (Array.replicate (k + 1) 0) := by
  apply ByteArray.ext
  simp [Array.replicate_succ]
theorem join_zero (h : Nat) (s : ByteArray) (k : Nat) : jn h (s.data.toList ++ List.replicate (k + 1) 0) = jn h (s.data.toList ++ List.replicate k 0) * 1099511628211 % 18446744073709551616 := by
  rw [List.replicate_succ', ← List.append_assoc, jn_snoc, nx_zero]
theorem join_zeros (h : Nat) (s : ByteArray) (k : Nat) : jn h (s ++ ByteArray.mk (Array.replicate k 0)).data.toList = jn h (s.data.toList ++ List.replicate k 0) := by
  congr 1

set_option maxRecDepth 100000 in
set_option maxHeartbeats 800000 in
theorem walk_FnvZeros (a0 : Int) (a1 : ByteArray) (a2 : Int) (h0 : (Lit.int .u64 a0).wf = true) (h1 : a1.size ≤ maxLen) (h2 : (Lit.int .i64 a2).wf = true) (w : World) :
    Calls Try.prog 8 #[.int .u64 a0, .string a1, .int .i64 a2] w fun e W' => e = .returned (.bool true) ∧ Below w.heap.size w W' := by
  have b0 := bounds_u64 h0
  have b2 := bounds_i64 h2
  clear h0 h2
  unfold maxLen at h1
  by_cases g1 : (300 : Int) < (a1.size : Int)
  · have d1 : decide ((300 : Int) < (a1.size : Int)) = true := by simpa using g1
    go_enter Try.func8, Try.ntmps8
    go_wp2_with fail
    refine (works_any _).mono ?_
    rintro e w1 ⟨rfl, hb1⟩
    go_wp2_with fail
    go_ret
    exact ⟨rfl, hb1⟩
  have d1 : decide ((300 : Int) < (a1.size : Int)) = false := by simpa using g1
  by_cases g2 : a2 < 0
  · have d2 : decide (a2 < 0) = true := by simpa using g2
    go_enter Try.func8, Try.ntmps8
    go_wp2_with fail
    refine (works_any _).mono ?_
    rintro e w1 ⟨rfl, hb1⟩
    go_wp2_with fail
    go_ret
    exact ⟨rfl, hb1⟩
  have d2 : decide (a2 < 0) = false := by simpa using g2
  by_cases g3 : 60 < a2
  · have d3 : decide (60 < a2) = true := by simpa using g3
    go_enter Try.func8, Try.ntmps8
    go_wp2_with fail
    refine (works_any _).mono ?_
    rintro e w1 ⟨rfl, hb1⟩
    go_wp2_with fail
    go_ret
    exact ⟨rfl, hb1⟩
  have d3 : decide (60 < a2) = false := by simpa using g3
  obtain ⟨h, rfl⟩ := Int.eq_ofNat_of_zero_le b0.1
  obtain ⟨n, rfl⟩ := Int.eq_ofNat_of_zero_le (show 0 ≤ a2 by omega)
  clear b2
  go_enter Try.func8, Try.ntmps8
  go_wp2_with fail
  refine (works_any _).mono ?_
  rintro e w1 ⟨rfl, hb1⟩
  go_wp2_with fail
  refine (Join_any h a1 _ (by omega) (by omega)).mono ?_
  rintro e w2 ⟨rfl, hb2⟩
  go_wp2_with fail
  go_loop [8, 9, 10] (fun z q i => ∃ k : Nat, k ≤ n ∧ i = .int .i64 k ∧ z = .string ⟨Array.replicate k 0⟩ ∧ q = .int .u64 (jn h (a1.data.toList ++ List.replicate k 0) : Nat)) (fun _ _ i => n - (intOf i).toNat)
  case atStart => exact ⟨0, Nat.zero_le _, rfl, rfl, by simp⟩
  case round =>
    obtain ⟨k, hk, rfl, rfl, rfl⟩ := hrel
    have HZ := Lib.hid (zeros_more k)
    have HQ := Lib.hid (join_zero h a1 k)
    have HJ := Lib.hid (join_zeros h a1 k)
    have hz : (ByteArray.mk (Array.replicate k 0)).size = k := by simp [ByteArray.size]
    have hza : (a1 ++ ByteArray.mk (Array.replicate k 0)).size = a1.size + k := by rw [ByteArray.size_append, hz]
    have HA := Lib.hid hza
    clear hza
    generalize ByteArray.mk (Array.replicate k 0) = Z at *
    by_cases hlt : k < n
    · generalize jn h (a1.data.toList ++ List.replicate k 0) = q at *
      go_wp2_with fail
      refine ⟨⟨k + 1, by omega, by go_num, ?_, ?_⟩, by simp [intOf]; omega⟩
      · rw [← HZ.out]
      · rw [HQ.out, ← u64_mod]; rfl
    · go_wp2_with fail
      refine (Join_any h _ _ (by rw [HA.out]; omega) (by omega)).mono ?_
      rintro e w3 ⟨rfl, hb3⟩
      rw [HJ.out]
      go_wp2_with fail
      go_ret
      exact ⟨rfl, below2 (below2 hb1 hb2) hb3⟩

theorem own_FnvZeros : ownKnob Try.prog.godebug = none := by kernel_rfl
set_option maxRecDepth 100000 in
set_option maxHeartbeats 800000 in
theorem lifted_FnvZeros (os : Os) (started : os.Started) (H : Type) (enc : TypeId × Value → H) :
    ReturnsInHanded {} Try.checked os 8 .any (Rows.fnvZerosSpec.pre6 enc Try.prog Try.f8 Rows.fnvZerosRow.domain false) (Rows.fnvZerosSpec.post enc Try.prog Try.f8 false true false false) := by
  refine returnsInHanded_of_change (C := Try.checked) own_FnvZeros started (by kernel_rfl) Try.func8
    (ChangeSpec.witness6 (enc := enc) (C := Try.checked) false ⟨#[], #[.int .u64 0, .string ⟨#[]⟩, .int .i64 0], []⟩ 8 (by kernel_rfl) (by kernel_rfl) (by kernel_rfl) (by kernel_rfl)) ?_
  intro W base args ds gs before hval0 hW _ _
  have hval : ∀ (j : Nat) t v, Try.f8.params[j]? = some t → args[j]? = some v → Value.okWide Try.prog W .any base t v := hval0
  have hW' := hW
  obtain ⟨p, q, hA0, hV, rfl, _, _⟩ := hW
  have hA : DataW.TrodAll enc Try.prog W 0 (fun _ => true) true Try.f8.params.toList args.toList ds p := hA0
  rw [Try.params8] at hA hval
  obtain ⟨v0, vs0, d0, ds0, p0, q0, ha0, rfl, rfl, t0, r0⟩ := trodAll_cons hA
  obtain ⟨v1, vs1, d1, ds1, p1, q1, ha1, rfl, rfl, t1, r1⟩ := trodAll_cons r0
  obtain ⟨v2, vs2, d2, ds2, p2, q2, ha2, rfl, rfl, t2, r2⟩ := trodAll_cons r1
  obtain ⟨rfl, rfl, rfl⟩ := trodAll_nil r2
  subst ha2
  subst ha1
  obtain rfl : args = #[v0, v1, v2] := by cases args; simp_all
  obtain ⟨rfl, rfl⟩ := trodVars_none hV
  obtain ⟨a0, rfl, rfl, rfl, h0⟩ := open_int Try.underlying22 (hval 0 22 v0 rfl rfl) t0
  obtain ⟨a1, rfl, rfl, rfl, h1⟩ := open_string Try.underlying9 (hval 1 9 v1 rfl rfl) t1
  obtain ⟨a2, rfl, rfl, rfl, h2⟩ := open_int Try.underlying3 (hval 2 3 v2 rfl rfl) t2
  clear hA0 hval0
  simp only [List.append_nil] at hW'
  refine (walk_FnvZeros a0 a1 a2 h0 h1 h2 W).mono fun e W' ⟨he, hnx⟩ => ?_
  subst he
  exact ⟨_, rfl, ⟨_, _, _, [], [], [], hW', trodAll_cons_mk (shut_bool Try.underlying4 _) trodAll_mk0, (trodAll_cons_mk (shut_int Try.underlying22 h0) (trodAll_cons_mk (shut_string Try.underlying9 h1) (trodAll_cons_mk (shut_int Try.underlying3 h2) trodAll_mk0))), rfl, hnx.frame _, fun h => by cases h⟩⟩

theorem fnvZeros_holds : Rows.FnvZerosSaid :=
  OpenClaim.holds_of_wide 8 Try.f8 rfl rfl rfl rfl rfl rfl rfl ⟨rfl, rfl, rfl, rfl, rfl⟩ rfl rfl rfl rfl rfl (by kernel_rfl) Try.func8 (by kernel_rfl)
    (of_decide_eq_true (by kernel_rfl)) (by unfold Func.isWrapper; first | (rw [if_pos (by decide +kernel)]; kernel_rfl) | (rw [if_neg (by decide +kernel)]; exact ⟨rfl, rfl⟩))
    (fun os started H enc _ => lifted_FnvZeros os started H enc)

#print axioms fnvZeros_holds
end Go.Proofs.Ytpmhejjjeecilaa
