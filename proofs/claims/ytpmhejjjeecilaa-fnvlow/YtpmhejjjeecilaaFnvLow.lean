/-
  FnvLow: for every h, k and s the law FnvLow answers true: the lowest eight bits hang on the lowest eight bits alone. No condition.
-/
import Derived.Test.YtpmhejjjeecilaaRows
import Derived.Test.YtpmhejjjeecilaaFnvD
import Derived.ProofKit
import Derived.OpenShut
import Derived.ChangeMaps5
namespace Go.Proofs.Ytpmhejjjeecilaa
open Go.ChangeShapes Go.WideShapes Go.ChangeAt Go.RowKit
open Go.ChangeMaps (open_string shut_string)
open Fnv

theorem low_word (h k : Nat) : bits .or .u64 (IntKind.u64.wrap ((k : Int) * 256)) ((h : Int) % 256) = ((k * 256 % 18446744073709551616 ||| h % 256 : Nat) : Int) := by
  have e := u64_mod (k * 256)
  rw [Int.natCast_mul] at e
  rw [show ((256 : Nat) : Int) = 256 from rfl] at e
  rw [e]
  exact u64_or_nat (k * 256 % 18446744073709551616) (h % 256) (by omega) (by omega)
theorem low_lt (h k : Nat) : k * 256 % 18446744073709551616 ||| h % 256 < 18446744073709551616 := Nat.or_lt_two_pow (n := 64) (by omega) (by omega)
theorem low_low (h k : Nat) : (k * 256 % 18446744073709551616 ||| h % 256) % 256 = h % 256 := by
  rw [show (256 : Nat) = 2 ^ 8 from rfl, Nat.or_mod_two_pow, Nat.mod_mod]
  have : k * 2 ^ 8 % 18446744073709551616 % 2 ^ 8 = 0 := by omega
  rw [this, Nat.zero_or]

set_option maxRecDepth 100000 in
set_option maxHeartbeats 800000 in
theorem walk_FnvLow (a0 a1 : Int) (a2 : ByteArray) (h0 : (Lit.int .u64 a0).wf = true) (h1 : (Lit.int .u64 a1).wf = true) (h2 : a2.size ≤ maxLen) (w : World) :
    Calls Try.prog 7 #[.int .u64 a0, .int .u64 a1, .string a2] w fun e W' => e = .returned (.bool true) ∧ Below w.heap.size w W' := by
  have b0 := bounds_u64 h0
  have b1 := bounds_u64 h1
  clear h0 h1
  unfold maxLen at h2
  by_cases g1 : (300 : Int) < (a2.size : Int)
  · have d1 : decide ((300 : Int) < (a2.size : Int)) = true := by simpa using g1
    go_enter Try.func7, Try.ntmps7
    go_wp2_with fail
    refine (works_any _).mono ?_
    rintro e w1 ⟨rfl, hb1⟩
    go_wp2_with fail
    go_ret
    exact ⟨rfl, hb1⟩
  have d1 : decide ((300 : Int) < (a2.size : Int)) = false := by simpa using g1
  obtain ⟨h, rfl⟩ := Int.eq_ofNat_of_zero_le b0.1
  obtain ⟨k, rfl⟩ := Int.eq_ofNat_of_zero_le b1.1
  have HW := Lib.hid (low_word h k)
  have hl := low_lt h k
  have HL := Lib.hid (show ((jn h a2.data.toList : Nat) : Int) % 256 = ((jn (k * 256 % 18446744073709551616 ||| h % 256) a2.data.toList : Nat) : Int) % 256 from by
    have := jn_low a2.data.toList (low_low h k).symm
    omega)
  generalize k * 256 % 18446744073709551616 ||| h % 256 = q at *
  go_enter Try.func7, Try.ntmps7
  go_wp2_with fail
  refine (works_any _).mono ?_
  rintro e w1 ⟨rfl, hb1⟩
  go_wp2_with fail
  refine (Join_any h a2 _ (by omega) (by omega)).mono ?_
  rintro e w2 ⟨rfl, hb2⟩
  go_wp2_with fail
  rw [HW.out]
  refine (Join_any q a2 _ (by omega) hl).mono ?_
  rintro e w3 ⟨rfl, hb3⟩
  go_wp2_with fail
  go_ret
  exact ⟨by rw [HL.out, beq_self_eq_true]; rfl, below2 (below2 hb1 hb2) hb3⟩

theorem own_FnvLow : ownKnob Try.prog.godebug = none := by kernel_rfl
set_option maxRecDepth 100000 in
set_option maxHeartbeats 800000 in
theorem lifted_FnvLow (os : Os) (started : os.Started) (H : Type) (enc : TypeId × Value → H) :
    ReturnsInHanded {} Try.checked os 7 .any (Rows.fnvLowSpec.pre6 enc Try.prog Try.f7 Rows.fnvLowRow.domain false) (Rows.fnvLowSpec.post enc Try.prog Try.f7 false true false false) := by
  refine returnsInHanded_of_change (C := Try.checked) own_FnvLow started (by kernel_rfl) Try.func7
    (ChangeSpec.witness6 (enc := enc) (C := Try.checked) false ⟨#[], #[.int .u64 0, .int .u64 0, .string ⟨#[]⟩], []⟩ 8 (by kernel_rfl) (by kernel_rfl) (by kernel_rfl) (by kernel_rfl)) ?_
  intro W base args ds gs before hval0 hW _ _
  have hval : ∀ (j : Nat) t v, Try.f7.params[j]? = some t → args[j]? = some v → Value.okWide Try.prog W .any base t v := hval0
  have hW' := hW
  obtain ⟨p, q, hA0, hV, rfl, _, _⟩ := hW
  have hA : DataW.TrodAll enc Try.prog W 0 (fun _ => true) true Try.f7.params.toList args.toList ds p := hA0
  rw [Try.params7] at hA hval
  obtain ⟨v0, vs0, d0, ds0, p0, q0, ha0, rfl, rfl, t0, r0⟩ := trodAll_cons hA
  obtain ⟨v1, vs1, d1, ds1, p1, q1, ha1, rfl, rfl, t1, r1⟩ := trodAll_cons r0
  obtain ⟨v2, vs2, d2, ds2, p2, q2, ha2, rfl, rfl, t2, r2⟩ := trodAll_cons r1
  obtain ⟨rfl, rfl, rfl⟩ := trodAll_nil r2
  subst ha2
  subst ha1
  obtain rfl : args = #[v0, v1, v2] := by cases args; simp_all
  obtain ⟨rfl, rfl⟩ := trodVars_none hV
  obtain ⟨a0, rfl, rfl, rfl, h0⟩ := open_int Try.underlying22 (hval 0 22 v0 rfl rfl) t0
  obtain ⟨a1, rfl, rfl, rfl, h1⟩ := open_int Try.underlying22 (hval 1 22 v1 rfl rfl) t1
  obtain ⟨a2, rfl, rfl, rfl, h2⟩ := open_string Try.underlying9 (hval 2 9 v2 rfl rfl) t2
  clear hA0 hval0
  simp only [List.append_nil] at hW'
  refine (walk_FnvLow a0 a1 a2 h0 h1 h2 W).mono fun e W' ⟨he, hnx⟩ => ?_
  subst he
  exact ⟨_, rfl, ⟨_, _, _, [], [], [], hW', trodAll_cons_mk (shut_bool Try.underlying4 _) trodAll_mk0, (trodAll_cons_mk (shut_int Try.underlying22 h0) (trodAll_cons_mk (shut_int Try.underlying22 h1) (trodAll_cons_mk (shut_string Try.underlying9 h2) trodAll_mk0))), rfl, hnx.frame _, fun h => by cases h⟩⟩

theorem fnvLow_holds : Rows.FnvLowSaid :=
  OpenClaim.holds_of_wide 7 Try.f7 rfl rfl rfl rfl rfl rfl rfl ⟨rfl, rfl, rfl, rfl, rfl⟩ rfl rfl rfl rfl rfl (by kernel_rfl) Try.func7 (by kernel_rfl)
    (of_decide_eq_true (by kernel_rfl)) (by unfold Func.isWrapper; first | (rw [if_pos (by decide +kernel)]; kernel_rfl) | (rw [if_neg (by decide +kernel)]; exact ⟨rfl, rfl⟩))
    (fun os started H enc _ => lifted_FnvLow os started H enc)

#print axioms fnvLow_holds
end Go.Proofs.Ytpmhejjjeecilaa
