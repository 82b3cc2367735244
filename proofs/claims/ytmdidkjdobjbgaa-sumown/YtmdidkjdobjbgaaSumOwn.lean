/-
  SumOwn: for every s and t the law SumOwn answers true: a text of whole words with its own sum in it is good, wherever the sum stands. No condition.
-/
import Derived.Test.YtmdidkjdobjbgaaRows
import Derived.Test.YtmdidkjdobjbgaaSumE
import Derived.ProofKit
import Derived.OpenShut
import Derived.ChangeMaps5
namespace Go.Proofs.Ytmdidkjdobjbgaa
open Go.ChangeShapes Go.WideShapes Go.ChangeAt Go.RowKit
open Go.ChangeMaps (open_string shut_string)
open Cks

set_option maxRecDepth 100000 in
set_option maxHeartbeats 800000 in
theorem walk_SumOwn (a0 a1 : ByteArray) (h0 : a0.size ≤ maxLen) (h1 : a1.size ≤ maxLen) (w : World) :
    Calls Try.prog 4 #[.string a0, .string a1] w fun e W' => e = .returned (.bool true) ∧ Below w.heap.size w W' := by
  unfold maxLen at h0 h1
  by_cases g0 : (300 : Int) < (a0.size : Int)
  · have d0 : decide ((300 : Int) < (a0.size : Int)) = true := by simpa using g0
    go_enter Try.func4, Try.ntmps4
    go_wp2_with fail
    refine (works_any _).mono ?_
    rintro e w1 ⟨rfl, hb1⟩
    go_wp2_with fail
    go_ret
    exact ⟨rfl, hb1⟩
  have d0 : decide ((300 : Int) < (a0.size : Int)) = false := by simpa using g0
  by_cases g1 : (300 : Int) < (a1.size : Int)
  · have d1 : decide ((300 : Int) < (a1.size : Int)) = true := by simpa using g1
    go_enter Try.func4, Try.ntmps4
    go_wp2_with fail
    refine (works_any _).mono ?_
    rintro e w1 ⟨rfl, hb1⟩
    go_wp2_with fail
    go_ret
    exact ⟨rfl, hb1⟩
  have d1 : decide ((300 : Int) < (a1.size : Int)) = false := by simpa using g1
  by_cases k0 : ((a0.size : Int) % 2) = 1
  · have dk0 : (((a0.size : Int) % 2) == 1) = true := beq_iff_eq.2 k0
    go_enter Try.func4, Try.ntmps4
    go_wp2_with fail
    refine (works_any _).mono ?_
    rintro e w1 ⟨rfl, hb1⟩
    go_wp2_with fail
    go_ret
    exact ⟨rfl, hb1⟩
  have dk0 : (((a0.size : Int) % 2) == 1) = false := beq_false_of_ne k0
  have z1 := Lib.hid (show (a0 ++ a1).size ≤ 1099511627776 by simp; omega)
  have hf := fc_le (tot (a0 ++ a1).data.toList)
  have e0 := Lib.hid (tot_2 a0 a1 (by omega))
  by_cases k1 : ((a1.size : Int) % 2) = 1
  · have dk1 : (((a1.size : Int) % 2) == 1) = true := beq_iff_eq.2 k1
    go_enter Try.func4, Try.ntmps4
    go_wp2_with fail
    refine (works_any _).mono ?_
    rintro e w1 ⟨rfl, hb1⟩
    go_wp2_with fail
    refine (Sum_any _ z1.out _).mono ?_
    rintro e w2 ⟨rfl, hb2⟩
    generalize hq : fc (tot (a0 ++ a1).data.toList) = q at *
    have HQ := Lib.hid hq
    clear hq
    go_wp2_with fail
    refine (Put_word _ _ (by omega)).mono ?_
    rintro e w3 ⟨S, rfl, hz, HS, hb3⟩
    have z2 := Lib.hid (show (a0 ++ S ++ a1).size ≤ 1099511627776 by simp; omega)
    have hz2 := HS.out.2
    have G1 := Lib.hid (show fc (tot (a0 ++ S ++ a1).data.toList) = 65535 by
      rw [tot_three a0 S a1 (by omega) HS.out.2, HS.out.1, Nat.add_right_comm, ← e0.out]; exact fc_own _ _ (by rw [HQ.out]; omega))
    clear hz2
    go_wp2_with fail
    refine (Good_any _ z2.out _).mono ?_
    rintro e w4 ⟨rfl, hb4⟩
    rw [G1.out, show decide ((65535 : Nat) = 65535) = true from rfl]
    go_wp2_with fail
    go_ret
    exact ⟨rfl, below2 (below2 (below2 hb1 hb2) hb3) hb4⟩
  · have dk1 : (((a1.size : Int) % 2) == 1) = false := beq_false_of_ne k1
    go_enter Try.func4, Try.ntmps4
    go_wp2_with fail
    refine (works_any _).mono ?_
    rintro e w1 ⟨rfl, hb1⟩
    go_wp2_with fail
    refine (Sum_any _ z1.out _).mono ?_
    rintro e w2 ⟨rfl, hb2⟩
    generalize hq : fc (tot (a0 ++ a1).data.toList) = q at *
    have HQ := Lib.hid hq
    clear hq
    go_wp2_with fail
    refine (Put_word _ _ (by omega)).mono ?_
    rintro e w3 ⟨S, rfl, hz, HS, hb3⟩
    have z2 := Lib.hid (show (a0 ++ S ++ a1).size ≤ 1099511627776 by simp; omega)
    have hz2 := HS.out.2
    have G1 := Lib.hid (show fc (tot (a0 ++ S ++ a1).data.toList) = 65535 by
      rw [tot_three a0 S a1 (by omega) HS.out.2, HS.out.1, Nat.add_right_comm, ← e0.out]; exact fc_own _ _ (by rw [HQ.out]; omega))
    clear hz2
    have z3 := Lib.hid (show (a0 ++ a1 ++ S).size ≤ 1099511627776 by simp; omega)
    have G2 := Lib.hid (show fc (tot (a0 ++ a1 ++ S).data.toList) = 65535 by
      rw [tot_2 (a0 ++ a1) S (by simp; omega), HS.out.1]; exact fc_own _ _ (by rw [HQ.out]; omega))
    go_wp2_with fail
    refine (Good_any _ z2.out _).mono ?_
    rintro e w4 ⟨rfl, hb4⟩
    rw [G1.out, show decide ((65535 : Nat) = 65535) = true from rfl]
    go_wp2_with fail
    refine (Good_any _ z3.out _).mono ?_
    rintro e w5 ⟨rfl, hb5⟩
    rw [G2.out, show decide ((65535 : Nat) = 65535) = true from rfl]
    go_wp2_with fail
    go_ret
    exact ⟨rfl, below2 (below2 (below2 (below2 hb1 hb2) hb3) hb4) hb5⟩

theorem own_SumOwn : ownKnob Try.prog.godebug = none := by kernel_rfl
set_option maxRecDepth 100000 in
set_option maxHeartbeats 800000 in
theorem lifted_SumOwn (os : Os) (started : os.Started) (H : Type) (enc : TypeId × Value → H) :
    ReturnsInHanded {} Try.checked os 4 .any (Rows.sumOwnSpec.pre6 enc Try.prog Try.f4 Rows.sumOwnRow.domain false) (Rows.sumOwnSpec.post enc Try.prog Try.f4 false true false false) := by
  refine returnsInHanded_of_change (C := Try.checked) own_SumOwn started (by kernel_rfl) Try.func4
    (ChangeSpec.witness6 (enc := enc) (C := Try.checked) false ⟨#[], #[.string ⟨#[]⟩, .string ⟨#[]⟩], []⟩ 8 (by kernel_rfl) (by kernel_rfl) (by kernel_rfl) (by kernel_rfl)) ?_
  intro W base args ds gs before hval0 hW _ _
  have hval : ∀ (j : Nat) t v, Try.f4.params[j]? = some t → args[j]? = some v → Value.okWide Try.prog W .any base t v := hval0
  have hW' := hW
  obtain ⟨p, q, hA0, hV, rfl, _, _⟩ := hW
  have hA : DataW.TrodAll enc Try.prog W 0 (fun _ => true) true Try.f4.params.toList args.toList ds p := hA0
  rw [Try.params4] at hA hval
  obtain ⟨v0, vs0, d0, ds0, p0, q0, ha0, rfl, rfl, t0, r0⟩ := trodAll_cons hA
  obtain ⟨v1, vs1, d1, ds1, p1, q1, ha1, rfl, rfl, t1, r1⟩ := trodAll_cons r0
  obtain ⟨rfl, rfl, rfl⟩ := trodAll_nil r1
  subst ha1
  obtain rfl : args = #[v0, v1] := by cases args; simp_all
  obtain ⟨rfl, rfl⟩ := trodVars_none hV
  obtain ⟨a0, rfl, rfl, rfl, h0⟩ := open_string Try.underlying9 (hval 0 9 v0 rfl rfl) t0
  obtain ⟨a1, rfl, rfl, rfl, h1⟩ := open_string Try.underlying9 (hval 1 9 v1 rfl rfl) t1
  clear hA0 hval0
  simp only [List.append_nil] at hW'
  refine (walk_SumOwn a0 a1 h0 h1 W).mono fun e W' ⟨he, hnx⟩ => ?_
  subst he
  exact ⟨_, rfl, ⟨_, _, _, [], [], [], hW', trodAll_cons_mk (shut_bool Try.underlying4 _) trodAll_mk0, (trodAll_cons_mk (shut_string Try.underlying9 h0) (trodAll_cons_mk (shut_string Try.underlying9 h1) trodAll_mk0)), rfl, hnx.frame _, fun h => by cases h⟩⟩

theorem sumOwn_holds : Rows.SumOwnSaid :=
  OpenClaim.holds_of_wide 4 Try.f4 rfl rfl rfl rfl rfl rfl rfl ⟨rfl, rfl, rfl, rfl, rfl⟩ rfl rfl rfl rfl rfl (by kernel_rfl) Try.func4 (by kernel_rfl)
    (of_decide_eq_true (by kernel_rfl)) (by unfold Func.isWrapper; first | (rw [if_pos (by decide +kernel)]; kernel_rfl) | (rw [if_neg (by decide +kernel)]; exact ⟨rfl, rfl⟩))
    (fun os started H enc _ => lifted_SumOwn os started H enc)

#print axioms sumOwn_holds
end Go.Proofs.Ytmdidkjdobjbgaa
