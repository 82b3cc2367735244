/-
  SumWord: for every a, x, y and b the law SumWord answers true: another word instead of one makes another sum, but for 0 and 65535. No condition.
-/
import Derived.Test.YtmdidkjdobjbgaaRows
import Derived.Test.YtmdidkjdobjbgaaSumE
import Derived.ProofKit
import Derived.OpenShut
import Derived.ChangeMaps5
namespace Go.Proofs.Ytmdidkjdobjbgaa
open Go.ChangeShapes Go.WideShapes Go.ChangeAt Go.RowKit
open Go.ChangeMaps (open_string shut_string)
open Cks

set_option maxRecDepth 100000 in
set_option maxHeartbeats 800000 in
theorem walk_SumWord (a0 : ByteArray) (a1 a2 : Int) (a3 : ByteArray) (h0 : a0.size ≤ maxLen) (h1 : (Lit.int .u16 a1).wf = true) (h2 : (Lit.int .u16 a2).wf = true) (h3 : a3.size ≤ maxLen) (w : World) :
    Calls Try.prog 6 #[.string a0, .int .u16 a1, .int .u16 a2, .string a3] w fun e W' => e = .returned (.bool true) ∧ Below w.heap.size w W' := by
  unfold maxLen at h0 h3
  have b1 := bounds_u16 h1
  have b2 := bounds_u16 h2
  clear h1 h2
  by_cases g0 : (300 : Int) < (a0.size : Int)
  · have d0 : decide ((300 : Int) < (a0.size : Int)) = true := by simpa using g0
    go_enter Try.func6, Try.ntmps6
    go_wp2_with fail
    refine (works_any _).mono ?_
    rintro e w1 ⟨rfl, hb1⟩
    go_wp2_with fail
    go_ret
    exact ⟨rfl, hb1⟩
  have d0 : decide ((300 : Int) < (a0.size : Int)) = false := by simpa using g0
  by_cases g3 : (300 : Int) < (a3.size : Int)
  · have d3 : decide ((300 : Int) < (a3.size : Int)) = true := by simpa using g3
    go_enter Try.func6, Try.ntmps6
    go_wp2_with fail
    refine (works_any _).mono ?_
    rintro e w1 ⟨rfl, hb1⟩
    go_wp2_with fail
    go_ret
    exact ⟨rfl, hb1⟩
  have d3 : decide ((300 : Int) < (a3.size : Int)) = false := by simpa using g3
  by_cases k0 : ((a0.size : Int) % 2) = 1
  · have dk0 : (((a0.size : Int) % 2) == 1) = true := beq_iff_eq.2 k0
    go_enter Try.func6, Try.ntmps6
    go_wp2_with fail
    refine (works_any _).mono ?_
    rintro e w1 ⟨rfl, hb1⟩
    go_wp2_with fail
    go_ret
    exact ⟨rfl, hb1⟩
  have dk0 : (((a0.size : Int) % 2) == 1) = false := beq_false_of_ne k0
  by_cases kx : a1 = a2
  · subst kx
    have dkx : (a1 == a1) = true := beq_self_eq_true a1
    go_enter Try.func6, Try.ntmps6
    go_wp2_with fail
    refine (works_any _).mono ?_
    rintro e w1 ⟨rfl, hb1⟩
    go_wp2_with fail
    go_ret
    exact ⟨rfl, hb1⟩
  have dkx : (a1 == a2) = false := beq_false_of_ne kx
  by_cases kx0 : (a1 % 65535) = 0
  · have dkx0 : ((a1 % 65535) == 0) = true := beq_iff_eq.2 kx0
    by_cases ky0 : (a2 % 65535) = 0
    · have dky0 : ((a2 % 65535) == 0) = true := beq_iff_eq.2 ky0
      go_enter Try.func6, Try.ntmps6
      go_wp2_with fail
      refine (works_any _).mono ?_
      rintro e w1 ⟨rfl, hb1⟩
      go_wp2_with fail
      go_ret
      exact ⟨rfl, hb1⟩
    have dky0 : ((a2 % 65535) == 0) = false := beq_false_of_ne ky0
    have hne := Lib.hid (fc_other (tot a0.data.toList) (tot a3.data.toList) a1.toNat a2.toNat (by omega) (by omega) (by omega) (by omega))
    have N1 := Lib.hid (show (((fc (tot a0.data.toList + a1.toNat + tot a3.data.toList) : Nat) : Int) != ((fc (tot a0.data.toList + a2.toNat + tot a3.data.toList) : Nat) : Int)) = true from bne_iff_ne.2 (fun e => hne.out (by omega)))
    by_cases hg : fc (tot a0.data.toList + a1.toNat + tot a3.data.toList) = 65535
    · have N2 := Lib.hid (show ((65535 : Int) != ((fc (tot a0.data.toList + a2.toNat + tot a3.data.toList) : Nat) : Int)) = true from bne_iff_ne.2 (fun e => hne.out (by rw [hg]; omega)))
      go_enter Try.func6, Try.ntmps6
      go_wp2_with fail
      refine (works_any _).mono ?_
      rintro e w1 ⟨rfl, hb1⟩
      go_wp2_with fail
      refine (Put_word _ _ (by omega)).mono ?_
      rintro e w2 ⟨S, rfl, hz, HS, hb2⟩
      have z1 := Lib.hid (show (a0 ++ S ++ a3).size ≤ 1099511627776 by simp; omega)
      have t1 := Lib.hid (tot_three a0 S a3 (by omega) HS.out.2)
      go_wp2_with fail
      refine (Put_word _ _ (by omega)).mono ?_
      rintro e w3 ⟨R, rfl, hz2, HR, hb3⟩
      have z2 := Lib.hid (show (a0 ++ R ++ a3).size ≤ 1099511627776 by simp; omega)
      have t2 := Lib.hid (tot_three a0 R a3 (by omega) HR.out.2)
      go_wp2_with fail
      refine (Good_any _ z1.out _).mono ?_
      rintro e w4 ⟨rfl, hb4⟩
      rw [t1.out, HS.out.1, show decide (fc (tot a0.data.toList + a1.toNat + tot a3.data.toList) = 65535) = true by simpa using hg]
      go_wp2_with fail
      refine (Good_any _ z2.out _).mono ?_
      rintro e w5 ⟨rfl, hb5⟩
      rw [t2.out, HR.out.1, show decide (fc (tot a0.data.toList + a2.toNat + tot a3.data.toList) = 65535) = false by simpa using fun e => hne.out (hg.trans e.symm)]
      go_wp2_with fail
      refine (Fold_any _ z1.out _).mono ?_
      rintro e w6 ⟨rfl, hb6⟩
      rw [t1.out, HS.out.1]
      go_wp2_with fail
      refine (Fold_any _ z2.out _).mono ?_
      rintro e w7 ⟨rfl, hb7⟩
      rw [t2.out, HR.out.1]
      go_wp2_with fail
      go_ret
      exact ⟨by rw [N2.out]; rfl, below2 (below2 (below2 (below2 (below2 (below2 hb1 hb2) hb3) hb4) hb5) hb6) hb7⟩
    · go_enter Try.func6, Try.ntmps6
      go_wp2_with fail
      refine (works_any _).mono ?_
      rintro e w1 ⟨rfl, hb1⟩
      go_wp2_with fail
      refine (Put_word _ _ (by omega)).mono ?_
      rintro e w2 ⟨S, rfl, hz, HS, hb2⟩
      have z1 := Lib.hid (show (a0 ++ S ++ a3).size ≤ 1099511627776 by simp; omega)
      have t1 := Lib.hid (tot_three a0 S a3 (by omega) HS.out.2)
      go_wp2_with fail
      refine (Put_word _ _ (by omega)).mono ?_
      rintro e w3 ⟨R, rfl, hz2, HR, hb3⟩
      have z2 := Lib.hid (show (a0 ++ R ++ a3).size ≤ 1099511627776 by simp; omega)
      have t2 := Lib.hid (tot_three a0 R a3 (by omega) HR.out.2)
      go_wp2_with fail
      refine (Good_any _ z1.out _).mono ?_
      rintro e w4 ⟨rfl, hb4⟩
      rw [t1.out, HS.out.1, show decide (fc (tot a0.data.toList + a1.toNat + tot a3.data.toList) = 65535) = false by simpa using hg]
      go_wp2_with fail
      refine (Fold_any _ z1.out _).mono ?_
      rintro e w6 ⟨rfl, hb6⟩
      rw [t1.out, HS.out.1]
      go_wp2_with fail
      refine (Fold_any _ z2.out _).mono ?_
      rintro e w7 ⟨rfl, hb7⟩
      rw [t2.out, HR.out.1]
      go_wp2_with fail
      go_ret
      exact ⟨by rw [N1.out]; rfl, below2 (below2 (below2 (below2 (below2 hb1 hb2) hb3) hb4) hb6) hb7⟩
  · have dkx0 : ((a1 % 65535) == 0) = false := beq_false_of_ne kx0
    have hne := Lib.hid (fc_other (tot a0.data.toList) (tot a3.data.toList) a1.toNat a2.toNat (by omega) (by omega) (by omega) (by omega))
    have N1 := Lib.hid (show (((fc (tot a0.data.toList + a1.toNat + tot a3.data.toList) : Nat) : Int) != ((fc (tot a0.data.toList + a2.toNat + tot a3.data.toList) : Nat) : Int)) = true from bne_iff_ne.2 (fun e => hne.out (by omega)))
    by_cases hg : fc (tot a0.data.toList + a1.toNat + tot a3.data.toList) = 65535
    · have N2 := Lib.hid (show ((65535 : Int) != ((fc (tot a0.data.toList + a2.toNat + tot a3.data.toList) : Nat) : Int)) = true from bne_iff_ne.2 (fun e => hne.out (by rw [hg]; omega)))
      go_enter Try.func6, Try.ntmps6
      go_wp2_with fail
      refine (works_any _).mono ?_
      rintro e w1 ⟨rfl, hb1⟩
      go_wp2_with fail
      refine (Put_word _ _ (by omega)).mono ?_
      rintro e w2 ⟨S, rfl, hz, HS, hb2⟩
      have z1 := Lib.hid (show (a0 ++ S ++ a3).size ≤ 1099511627776 by simp; omega)
      have t1 := Lib.hid (tot_three a0 S a3 (by omega) HS.out.2)
      go_wp2_with fail
      refine (Put_word _ _ (by omega)).mono ?_
      rintro e w3 ⟨R, rfl, hz2, HR, hb3⟩
      have z2 := Lib.hid (show (a0 ++ R ++ a3).size ≤ 1099511627776 by simp; omega)
      have t2 := Lib.hid (tot_three a0 R a3 (by omega) HR.out.2)
      go_wp2_with fail
      refine (Good_any _ z1.out _).mono ?_
      rintro e w4 ⟨rfl, hb4⟩
      rw [t1.out, HS.out.1, show decide (fc (tot a0.data.toList + a1.toNat + tot a3.data.toList) = 65535) = true by simpa using hg]
      go_wp2_with fail
      refine (Good_any _ z2.out _).mono ?_
      rintro e w5 ⟨rfl, hb5⟩
      rw [t2.out, HR.out.1, show decide (fc (tot a0.data.toList + a2.toNat + tot a3.data.toList) = 65535) = false by simpa using fun e => hne.out (hg.trans e.symm)]
      go_wp2_with fail
      refine (Fold_any _ z1.out _).mono ?_
      rintro e w6 ⟨rfl, hb6⟩
      rw [t1.out, HS.out.1]
      go_wp2_with fail
      refine (Fold_any _ z2.out _).mono ?_
      rintro e w7 ⟨rfl, hb7⟩
      rw [t2.out, HR.out.1]
      go_wp2_with fail
      go_ret
      exact ⟨by rw [N2.out]; rfl, below2 (below2 (below2 (below2 (below2 (below2 hb1 hb2) hb3) hb4) hb5) hb6) hb7⟩
    · go_enter Try.func6, Try.ntmps6
      go_wp2_with fail
      refine (works_any _).mono ?_
      rintro e w1 ⟨rfl, hb1⟩
      go_wp2_with fail
      refine (Put_word _ _ (by omega)).mono ?_
      rintro e w2 ⟨S, rfl, hz, HS, hb2⟩
      have z1 := Lib.hid (show (a0 ++ S ++ a3).size ≤ 1099511627776 by simp; omega)
      have t1 := Lib.hid (tot_three a0 S a3 (by omega) HS.out.2)
      go_wp2_with fail
      refine (Put_word _ _ (by omega)).mono ?_
      rintro e w3 ⟨R, rfl, hz2, HR, hb3⟩
      have z2 := Lib.hid (show (a0 ++ R ++ a3).size ≤ 1099511627776 by simp; omega)
      have t2 := Lib.hid (tot_three a0 R a3 (by omega) HR.out.2)
      go_wp2_with fail
      refine (Good_any _ z1.out _).mono ?_
      rintro e w4 ⟨rfl, hb4⟩
      rw [t1.out, HS.out.1, show decide (fc (tot a0.data.toList + a1.toNat + tot a3.data.toList) = 65535) = false by simpa using hg]
      go_wp2_with fail
      refine (Fold_any _ z1.out _).mono ?_
      rintro e w6 ⟨rfl, hb6⟩
      rw [t1.out, HS.out.1]
      go_wp2_with fail
      refine (Fold_any _ z2.out _).mono ?_
      rintro e w7 ⟨rfl, hb7⟩
      rw [t2.out, HR.out.1]
      go_wp2_with fail
      go_ret
      exact ⟨by rw [N1.out]; rfl, below2 (below2 (below2 (below2 (below2 hb1 hb2) hb3) hb4) hb6) hb7⟩

theorem own_SumWord : ownKnob Try.prog.godebug = none := by kernel_rfl
set_option maxRecDepth 100000 in
set_option maxHeartbeats 800000 in
theorem lifted_SumWord (os : Os) (started : os.Started) (H : Type) (enc : TypeId × Value → H) :
    ReturnsInHanded {} Try.checked os 6 .any (Rows.sumWordSpec.pre6 enc Try.prog Try.f6 Rows.sumWordRow.domain false) (Rows.sumWordSpec.post enc Try.prog Try.f6 false true false false) := by
  refine returnsInHanded_of_change (C := Try.checked) own_SumWord started (by kernel_rfl) Try.func6
    (ChangeSpec.witness6 (enc := enc) (C := Try.checked) false ⟨#[], #[.string ⟨#[]⟩, .int .u16 0, .int .u16 0, .string ⟨#[]⟩], []⟩ 8 (by kernel_rfl) (by kernel_rfl) (by kernel_rfl) (by kernel_rfl)) ?_
  intro W base args ds gs before hval0 hW _ _
  have hval : ∀ (j : Nat) t v, Try.f6.params[j]? = some t → args[j]? = some v → Value.okWide Try.prog W .any base t v := hval0
  have hW' := hW
  obtain ⟨p, q, hA0, hV, rfl, _, _⟩ := hW
  have hA : DataW.TrodAll enc Try.prog W 0 (fun _ => true) true Try.f6.params.toList args.toList ds p := hA0
  rw [Try.params6] at hA hval
  obtain ⟨v0, vs0, d0, ds0, p0, q0, ha0, rfl, rfl, t0, r0⟩ := trodAll_cons hA
  obtain ⟨v1, vs1, d1, ds1, p1, q1, ha1, rfl, rfl, t1, r1⟩ := trodAll_cons r0
  obtain ⟨v2, vs2, d2, ds2, p2, q2, ha2, rfl, rfl, t2, r2⟩ := trodAll_cons r1
  obtain ⟨v3, vs3, d3, ds3, p3, q3, ha3, rfl, rfl, t3, r3⟩ := trodAll_cons r2
  obtain ⟨rfl, rfl, rfl⟩ := trodAll_nil r3
  subst ha3
  subst ha2
  subst ha1
  obtain rfl : args = #[v0, v1, v2, v3] := by cases args; simp_all
  obtain ⟨rfl, rfl⟩ := trodVars_none hV
  obtain ⟨a0, rfl, rfl, rfl, h0⟩ := open_string Try.underlying9 (hval 0 9 v0 rfl rfl) t0
  obtain ⟨a1, rfl, rfl, rfl, h1⟩ := open_int Try.underlying29 (hval 1 29 v1 rfl rfl) t1
  obtain ⟨a2, rfl, rfl, rfl, h2⟩ := open_int Try.underlying29 (hval 2 29 v2 rfl rfl) t2
  obtain ⟨a3, rfl, rfl, rfl, h3⟩ := open_string Try.underlying9 (hval 3 9 v3 rfl rfl) t3
  clear hA0 hval0
  simp only [List.append_nil] at hW'
  refine (walk_SumWord a0 a1 a2 a3 h0 h1 h2 h3 W).mono fun e W' ⟨he, hnx⟩ => ?_
  subst he
  exact ⟨_, rfl, ⟨_, _, _, [], [], [], hW', trodAll_cons_mk (shut_bool Try.underlying4 _) trodAll_mk0, (trodAll_cons_mk (shut_string Try.underlying9 h0) (trodAll_cons_mk (shut_int Try.underlying29 h1) (trodAll_cons_mk (shut_int Try.underlying29 h2) (trodAll_cons_mk (shut_string Try.underlying9 h3) trodAll_mk0)))), rfl, hnx.frame _, fun h => by cases h⟩⟩

theorem sumWord_holds : Rows.SumWordSaid :=
  OpenClaim.holds_of_wide 6 Try.f6 rfl rfl rfl rfl rfl rfl rfl ⟨rfl, rfl, rfl, rfl, rfl⟩ rfl rfl rfl rfl rfl (by kernel_rfl) Try.func6 (by kernel_rfl)
    (of_decide_eq_true (by kernel_rfl)) (by unfold Func.isWrapper; first | (rw [if_pos (by decide +kernel)]; kernel_rfl) | (rw [if_neg (by decide +kernel)]; exact ⟨rfl, rfl⟩))
    (fun os started H enc _ => lifted_SumWord os started H enc)

#print axioms sumWord_holds
end Go.Proofs.Ytmdidkjdobjbgaa
