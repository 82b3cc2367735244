/-
  SumSwaps: for every a, b and c the law SumSwaps answers true: words may be changed about, and zeros put between. No condition.
-/
import Derived.Test.YtmdidkjdobjbgaaRows
import Derived.Test.YtmdidkjdobjbgaaSumD
import Derived.ProofKit
import Derived.OpenShut
import Derived.ChangeMaps5
namespace Go.Proofs.Ytmdidkjdobjbgaa
open Go.ChangeShapes Go.WideShapes Go.ChangeAt Go.RowKit
open Go.ChangeMaps (open_string shut_string)
open Cks

theorem tot_swap (a b c : ByteArray) (ha : a.size % 2 = 0) (hb : b.size % 2 = 0) : tot (b ++ a ++ c).data.toList = tot (a ++ b ++ c).data.toList := by
  have ha' : a.data.toList.length % 2 = 0 := by rw [Array.length_toList]; exact ha
  have hb' : b.data.toList.length % 2 = 0 := by rw [Array.length_toList]; exact hb
  simp only [ByteArray.data_append, Array.toList_append]
  rw [List.append_assoc, List.append_assoc, tot_append _ _ ha', tot_append _ _ hb', tot_append _ _ hb', tot_append _ _ ha']; omega
theorem tot_noughts (a b c : ByteArray) (ha : a.size % 2 = 0) (hb : b.size % 2 = 0) : tot (a ++ b ++ ByteArray.mk #[0, 0] ++ c).data.toList = tot (a ++ b ++ c).data.toList := by
  have ha' : a.data.toList.length % 2 = 0 := by rw [Array.length_toList]; exact ha
  have hb' : b.data.toList.length % 2 = 0 := by rw [Array.length_toList]; exact hb
  simp only [ByteArray.data_append, Array.toList_append]
  rw [List.append_assoc, List.append_assoc, List.append_assoc, tot_append _ _ ha', tot_append _ _ hb', tot_append _ _ ha', tot_append _ _ hb', tot_append _ _ (by decide)]
  have : tot [0, 0] = 0 := by decide
  omega

set_option maxRecDepth 100000 in
set_option maxHeartbeats 800000 in
theorem walk_SumSwaps (a0 a1 a2 : ByteArray) (h0 : a0.size ≤ maxLen) (h1 : a1.size ≤ maxLen) (h2 : a2.size ≤ maxLen) (w : World) :
    Calls Try.prog 5 #[.string a0, .string a1, .string a2] w fun e W' => e = .returned (.bool true) ∧ Below w.heap.size w W' := by
  unfold maxLen at h0 h1 h2
  by_cases g0 : (300 : Int) < (a0.size : Int)
  · have d0 : decide ((300 : Int) < (a0.size : Int)) = true := by simpa using g0
    go_enter Try.func5, Try.ntmps5
    go_wp2_with fail
    refine (works_any _).mono ?_
    rintro e w1 ⟨rfl, hb1⟩
    go_wp2_with fail
    go_ret
    exact ⟨rfl, hb1⟩
  have d0 : decide ((300 : Int) < (a0.size : Int)) = false := by simpa using g0
  by_cases g1 : (300 : Int) < (a1.size : Int)
  · have d1 : decide ((300 : Int) < (a1.size : Int)) = true := by simpa using g1
    go_enter Try.func5, Try.ntmps5
    go_wp2_with fail
    refine (works_any _).mono ?_
    rintro e w1 ⟨rfl, hb1⟩
    go_wp2_with fail
    go_ret
    exact ⟨rfl, hb1⟩
  have d1 : decide ((300 : Int) < (a1.size : Int)) = false := by simpa using g1
  by_cases g2 : (300 : Int) < (a2.size : Int)
  · have d2 : decide ((300 : Int) < (a2.size : Int)) = true := by simpa using g2
    go_enter Try.func5, Try.ntmps5
    go_wp2_with fail
    refine (works_any _).mono ?_
    rintro e w1 ⟨rfl, hb1⟩
    go_wp2_with fail
    go_ret
    exact ⟨rfl, hb1⟩
  have d2 : decide ((300 : Int) < (a2.size : Int)) = false := by simpa using g2
  by_cases k0 : ((a0.size : Int) % 2) = 1
  · have dk0 : (((a0.size : Int) % 2) == 1) = true := beq_iff_eq.2 k0
    go_enter Try.func5, Try.ntmps5
    go_wp2_with fail
    refine (works_any _).mono ?_
    rintro e w1 ⟨rfl, hb1⟩
    go_wp2_with fail
    go_ret
    exact ⟨rfl, hb1⟩
  have dk0 : (((a0.size : Int) % 2) == 1) = false := beq_false_of_ne k0
  by_cases k1 : ((a1.size : Int) % 2) = 1
  · have dk1 : (((a1.size : Int) % 2) == 1) = true := beq_iff_eq.2 k1
    go_enter Try.func5, Try.ntmps5
    go_wp2_with fail
    refine (works_any _).mono ?_
    rintro e w1 ⟨rfl, hb1⟩
    go_wp2_with fail
    go_ret
    exact ⟨rfl, hb1⟩
  have dk1 : (((a1.size : Int) % 2) == 1) = false := beq_false_of_ne k1
  have z1 := Lib.hid (show (a0 ++ a1 ++ a2).size ≤ 1099511627776 by simp; omega)
  have z2 := Lib.hid (show (a1 ++ a0 ++ a2).size ≤ 1099511627776 by simp; omega)
  have z3 := Lib.hid (show (a0 ++ a1 ++ ByteArray.mk #[0, 0] ++ a2).size ≤ 1099511627776 by simp [show (ByteArray.mk #[0, 0]).size = 2 from rfl]; omega)
  have e1 := Lib.hid (tot_swap a0 a1 a2 (by omega) (by omega))
  have e2 := Lib.hid (tot_noughts a0 a1 a2 (by omega) (by omega))
  go_enter Try.func5, Try.ntmps5
  go_wp2_with fail
  refine (works_any _).mono ?_
  rintro e w1 ⟨rfl, hb1⟩
  go_wp2_with fail
  refine (Fold_any _ z1.out _).mono ?_
  rintro e w2 ⟨rfl, hb2⟩
  go_wp2_with fail
  refine (Fold_any _ z2.out _).mono ?_
  rintro e w3 ⟨rfl, hb3⟩
  rw [e1.out]
  go_wp2_with fail
  refine (Fold_any _ z3.out _).mono ?_
  rintro e w4 ⟨rfl, hb4⟩
  rw [e2.out]
  go_wp2_with fail
  refine (Fold_any _ z1.out _).mono ?_
  rintro e w5 ⟨rfl, hb5⟩
  go_wp2_with fail
  go_ret
  exact ⟨rfl, below2 (below2 (below2 (below2 hb1 hb2) hb3) hb4) hb5⟩

theorem own_SumSwaps : ownKnob Try.prog.godebug = none := by kernel_rfl
set_option maxRecDepth 100000 in
set_option maxHeartbeats 800000 in
theorem lifted_SumSwaps (os : Os) (started : os.Started) (H : Type) (enc : TypeId × Value → H) :
    ReturnsInHanded {} Try.checked os 5 .any (Rows.sumSwapsSpec.pre6 enc Try.prog Try.f5 Rows.sumSwapsRow.domain false) (Rows.sumSwapsSpec.post enc Try.prog Try.f5 false true false false) := by
  refine returnsInHanded_of_change (C := Try.checked) own_SumSwaps started (by kernel_rfl) Try.func5
    (ChangeSpec.witness6 (enc := enc) (C := Try.checked) false ⟨#[], #[.string ⟨#[]⟩, .string ⟨#[]⟩, .string ⟨#[]⟩], []⟩ 8 (by kernel_rfl) (by kernel_rfl) (by kernel_rfl) (by kernel_rfl)) ?_
  intro W base args ds gs before hval0 hW _ _
  have hval : ∀ (j : Nat) t v, Try.f5.params[j]? = some t → args[j]? = some v → Value.okWide Try.prog W .any base t v := hval0
  have hW' := hW
  obtain ⟨p, q, hA0, hV, rfl, _, _⟩ := hW
  have hA : DataW.TrodAll enc Try.prog W 0 (fun _ => true) true Try.f5.params.toList args.toList ds p := hA0
  rw [Try.params5] at hA hval
  obtain ⟨v0, vs0, d0, ds0, p0, q0, ha0, rfl, rfl, t0, r0⟩ := trodAll_cons hA
  obtain ⟨v1, vs1, d1, ds1, p1, q1, ha1, rfl, rfl, t1, r1⟩ := trodAll_cons r0
  obtain ⟨v2, vs2, d2, ds2, p2, q2, ha2, rfl, rfl, t2, r2⟩ := trodAll_cons r1
  obtain ⟨rfl, rfl, rfl⟩ := trodAll_nil r2
  subst ha2
  subst ha1
  obtain rfl : args = #[v0, v1, v2] := by cases args; simp_all
  obtain ⟨rfl, rfl⟩ := trodVars_none hV
  obtain ⟨a0, rfl, rfl, rfl, h0⟩ := open_string Try.underlying9 (hval 0 9 v0 rfl rfl) t0
  obtain ⟨a1, rfl, rfl, rfl, h1⟩ := open_string Try.underlying9 (hval 1 9 v1 rfl rfl) t1
  obtain ⟨a2, rfl, rfl, rfl, h2⟩ := open_string Try.underlying9 (hval 2 9 v2 rfl rfl) t2
  clear hA0 hval0
  simp only [List.append_nil] at hW'
  refine (walk_SumSwaps a0 a1 a2 h0 h1 h2 W).mono fun e W' ⟨he, hnx⟩ => ?_
  subst he
  exact ⟨_, rfl, ⟨_, _, _, [], [], [], hW', trodAll_cons_mk (shut_bool Try.underlying4 _) trodAll_mk0, (trodAll_cons_mk (shut_string Try.underlying9 h0) (trodAll_cons_mk (shut_string Try.underlying9 h1) (trodAll_cons_mk (shut_string Try.underlying9 h2) trodAll_mk0))), rfl, hnx.frame _, fun h => by cases h⟩⟩

theorem sumSwaps_holds : Rows.SumSwapsSaid :=
  OpenClaim.holds_of_wide 5 Try.f5 rfl rfl rfl rfl rfl rfl rfl ⟨rfl, rfl, rfl, rfl, rfl⟩ rfl rfl rfl rfl rfl (by kernel_rfl) Try.func5 (by kernel_rfl)
    (of_decide_eq_true (by kernel_rfl)) (by unfold Func.isWrapper; first | (rw [if_pos (by decide +kernel)]; kernel_rfl) | (rw [if_neg (by decide +kernel)]; exact ⟨rfl, rfl⟩))
    (fun os started H enc _ => lifted_SumSwaps os started H enc)

#print axioms sumSwaps_holds
end Go.Proofs.Ytmdidkjdobjbgaa
