/-
  SumBounds: for every s and t the law SumBounds answers true: the sum of two texts, one behind the other, is that of their sums; it is 0 just if all bytes are. No condition.
-/
import Derived.Test.YtmdidkjdobjbgaaRows
import Derived.Test.YtmdidkjdobjbgaaSumE
import Derived.ProofKit
import Derived.OpenShut
import Derived.ChangeMaps5
namespace Go.Proofs.Ytmdidkjdobjbgaa
open Go.ChangeShapes Go.WideShapes Go.ChangeAt Go.RowKit
open Go.ChangeMaps (open_string shut_string)
open Cks

/-- Whether the first k bytes are all 0. -/
def zs (s : ByteArray) (k : Nat) : Bool := (s.data.toList.take k).all (fun b => (b.toNat : Int) == 0)
theorem zs_succ (s : ByteArray) (k : Nat) (h : k < s.size) : zs s (k + 1) = (zs s k && ((s[k].toNat : Int) == 0)) := by
  have h4 : k < s.data.toList.length := by rw [Array.length_toList]; exact h
  unfold zs
  rw [List.take_succ_eq_append_getElem h4, List.all_append]
  simp only [List.all_cons, List.all_nil, Bool.and_true]; rfl
theorem zs_all (s : ByteArray) : zs s s.size = decide (fc (tot s.data.toList) = 0) := by
  unfold zs
  rw [List.take_of_length_le (by rw [Array.length_toList]; exact Nat.le_refl _)]
  rw [Bool.eq_iff_iff, List.all_eq_true, decide_eq_true_iff, fc_eq_zero, tot_eq_zero]
  constructor
  · intro h b hb
    have := h b hb
    exact UInt8.toNat_inj.1 (by simpa using this)
  · intro h b hb
    rw [h b hb]; rfl

set_option maxRecDepth 100000 in
set_option maxHeartbeats 800000 in
theorem walk_SumBounds (a0 a1 : ByteArray) (h0 : a0.size ≤ maxLen) (h1 : a1.size ≤ maxLen) (w : World) :
    Calls Try.prog 7 #[.string a0, .string a1] w fun e W' => e = .returned (.bool true) ∧ Below w.heap.size w W' := by
  unfold maxLen at h0 h1
  by_cases g0 : (300 : Int) < (a0.size : Int)
  · have d0 : decide ((300 : Int) < (a0.size : Int)) = true := by simpa using g0
    go_enter Try.func7, Try.ntmps7
    go_wp2_with fail
    refine (works_any _).mono ?_
    rintro e w1 ⟨rfl, hb1⟩
    go_wp2_with fail
    go_ret
    exact ⟨rfl, hb1⟩
  have d0 : decide ((300 : Int) < (a0.size : Int)) = false := by simpa using g0
  by_cases g1 : (300 : Int) < (a1.size : Int)
  · have d1 : decide ((300 : Int) < (a1.size : Int)) = true := by simpa using g1
    go_enter Try.func7, Try.ntmps7
    go_wp2_with fail
    refine (works_any _).mono ?_
    rintro e w1 ⟨rfl, hb1⟩
    go_wp2_with fail
    go_ret
    exact ⟨rfl, hb1⟩
  have d1 : decide ((300 : Int) < (a1.size : Int)) = false := by simpa using g1
  go_enter Try.func7, Try.ntmps7
  go_wp2_with fail
  refine (works_any _).mono ?_
  rintro e w1 ⟨rfl, hb1⟩
  go_wp2_with fail
  go_loop [6, 7] (fun v i => ∃ k : Nat, k ≤ a0.size ∧ i = .int .i64 k ∧ v = .bool (zs a0 k)) (fun _ i => a0.size - (intOf i).toNat)
  case atStart => exact ⟨0, Nat.zero_le _, rfl, rfl⟩
  case round =>
    obtain ⟨k, hk, rfl, rfl⟩ := hrel
    by_cases hlt : k < a0.size
    · have HZ := Lib.hid (zs_succ a0 k hlt)
      generalize zs a0 k = Z at *
      cases Z
      · go_wp2_with fail
        exact ⟨⟨k + 1, by omega, by simp, by rw [HZ.out]; rfl⟩, by simp [intOf]; omega⟩
      · go_wp2_with fail
        exact ⟨⟨k + 1, by omega, by simp, by rw [HZ.out]; rfl⟩, by simp [intOf]; omega⟩
    · obtain rfl : k = a0.size := by omega
      rw [zs_all]
      have hf := fc_le (tot a0.data.toList)
      have hg := fc_le (tot a1.data.toList)
      have z0 := Lib.hid (show (a0 ++ ByteArray.mk #[0]).size ≤ 1099511627776 by simp [show (ByteArray.mk #[0]).size = 1 from rfl]; omega)
      have z1 := Lib.hid (show (a0 ++ a1).size ≤ 1099511627776 by simp; omega)
      have e0 := Lib.hid (fun h : a0.size % 2 = 1 => show fc (tot (a0 ++ ByteArray.mk #[0]).data.toList) = fc (tot a0.data.toList) by
        simp only [ByteArray.data_append, Array.toList_append]
        rw [tot_zero _ (by rw [len_list]; exact h)])
      have e1 := Lib.hid (fun h : a0.size % 2 = 0 => show fc (tot (a0 ++ a1).data.toList) = if 65535 < fc (tot a0.data.toList) + fc (tot a1.data.toList) then fc (tot a0.data.toList) + fc (tot a1.data.toList) - 65535 else fc (tot a0.data.toList) + fc (tot a1.data.toList) by
        rw [tot_2 a0 a1 h, fc_add])
      generalize hq : fc (tot a0.data.toList) = q at *
      generalize hp : fc (tot a1.data.toList) = p at *
      have HQ := Lib.hid hq
      have HP := Lib.hid hp
      clear hq hp hk hlt
      by_cases k0 : ((a0.size : Int) % 2) = 1
      · have dk0 : (((a0.size : Int) % 2) == 1) = true := beq_iff_eq.2 k0
        have E0 := Lib.hid (e0.out (by omega))
        clear e0 e1
        by_cases n0 : q = 0
        · subst n0
          rw [show decide ((0 : Nat) = 0) = true from rfl]
          go_wp2_with fail
          refine (Fold_any a0 (by omega) _).mono ?_
          rintro e w2 ⟨rfl, hb2⟩
          rw [HQ.out]
          go_wp2_with fail
          refine (Sum_any a0 (by omega) _).mono ?_
          rintro e w3 ⟨rfl, hb3⟩
          rw [HQ.out]
          go_wp2_with fail
          refine (Fold_any _ z0.out _).mono ?_
          rintro e w4 ⟨rfl, hb4⟩
          rw [E0.out]
          go_wp2_with fail
          go_ret
          exact ⟨rfl, below2 (below2 (below2 hb1 hb2) hb3) hb4⟩
        · have dn0 : ((q : Int) == 0) = false := beq_false_of_ne (by omega)
          rw [decide_eq_false n0]
          go_wp2_with fail
          refine (Fold_any a0 (by omega) _).mono ?_
          rintro e w2 ⟨rfl, hb2⟩
          rw [HQ.out]
          go_wp2_with fail
          refine (Sum_any a0 (by omega) _).mono ?_
          rintro e w3 ⟨rfl, hb3⟩
          rw [HQ.out]
          go_wp2_with fail
          refine (Fold_any _ z0.out _).mono ?_
          rintro e w4 ⟨rfl, hb4⟩
          rw [E0.out]
          go_wp2_with fail
          go_ret
          exact ⟨rfl, below2 (below2 (below2 hb1 hb2) hb3) hb4⟩
      · have dk0 : (((a0.size : Int) % 2) == 1) = false := beq_false_of_ne k0
        have E2 := e1.out (by omega)
        clear e0 e1
        by_cases n0 : q = 0
        · subst n0
          rw [if_neg (by omega), Nat.zero_add] at E2
          have E1 := Lib.hid E2
          clear E2
          rw [show decide ((0 : Nat) = 0) = true from rfl]
          go_wp2_with fail
          refine (Fold_any a0 (by omega) _).mono ?_
          rintro e w2 ⟨rfl, hb2⟩
          rw [HQ.out]
          go_wp2_with fail
          refine (Sum_any a0 (by omega) _).mono ?_
          rintro e w3 ⟨rfl, hb3⟩
          rw [HQ.out]
          go_wp2_with fail
          refine (Fold_any a1 (by omega) _).mono ?_
          rintro e w4 ⟨rfl, hb4⟩
          rw [HP.out]
          go_wp2_with fail
          refine (Fold_any _ z1.out _).mono ?_
          rintro e w5 ⟨rfl, hb5⟩
          rw [E1.out]
          go_wp2_with fail
          go_ret
          exact ⟨by first | rfl | (simp; done), below2 (below2 (below2 (below2 hb1 hb2) hb3) hb4) hb5⟩
        · have dn0 : ((q : Int) == 0) = false := beq_false_of_ne (by omega)
          rw [decide_eq_false n0]
          by_cases n1 : 65535 < q + p
          · rw [if_pos n1] at E2
            have E1 := Lib.hid (show ((fc (tot (a0 ++ a1).data.toList) : Nat) : Int) = (q : Int) + (p : Int) - 65535 by omega)
            clear E2
            go_wp2_with fail
            refine (Fold_any a0 (by omega) _).mono ?_
            rintro e w2 ⟨rfl, hb2⟩
            rw [HQ.out]
            go_wp2_with fail
            refine (Sum_any a0 (by omega) _).mono ?_
            rintro e w3 ⟨rfl, hb3⟩
            rw [HQ.out]
            go_wp2_with fail
            refine (Fold_any a1 (by omega) _).mono ?_
            rintro e w4 ⟨rfl, hb4⟩
            rw [HP.out]
            go_wp2_with fail
            refine (Fold_any _ z1.out _).mono ?_
            rintro e w5 ⟨rfl, hb5⟩
            rw [E1.out]
            go_wp2_with fail
            go_ret
            exact ⟨by first | rfl | (simp; done), below2 (below2 (below2 (below2 hb1 hb2) hb3) hb4) hb5⟩
          · rw [if_neg n1] at E2
            have E1 := Lib.hid (show ((fc (tot (a0 ++ a1).data.toList) : Nat) : Int) = (q : Int) + (p : Int) by omega)
            clear E2
            go_wp2_with fail
            refine (Fold_any a0 (by omega) _).mono ?_
            rintro e w2 ⟨rfl, hb2⟩
            rw [HQ.out]
            go_wp2_with fail
            refine (Sum_any a0 (by omega) _).mono ?_
            rintro e w3 ⟨rfl, hb3⟩
            rw [HQ.out]
            go_wp2_with fail
            refine (Fold_any a1 (by omega) _).mono ?_
            rintro e w4 ⟨rfl, hb4⟩
            rw [HP.out]
            go_wp2_with fail
            refine (Fold_any _ z1.out _).mono ?_
            rintro e w5 ⟨rfl, hb5⟩
            rw [E1.out]
            go_wp2_with fail
            go_ret
            exact ⟨by first | rfl | (simp; done), below2 (below2 (below2 (below2 hb1 hb2) hb3) hb4) hb5⟩
theorem own_SumBounds : ownKnob Try.prog.godebug = none := by kernel_rfl
set_option maxRecDepth 100000 in
set_option maxHeartbeats 800000 in
theorem lifted_SumBounds (os : Os) (started : os.Started) (H : Type) (enc : TypeId × Value → H) :
    ReturnsInHanded {} Try.checked os 7 .any (Rows.sumBoundsSpec.pre6 enc Try.prog Try.f7 Rows.sumBoundsRow.domain false) (Rows.sumBoundsSpec.post enc Try.prog Try.f7 false true false false) := by
  refine returnsInHanded_of_change (C := Try.checked) own_SumBounds started (by kernel_rfl) Try.func7
    (ChangeSpec.witness6 (enc := enc) (C := Try.checked) false ⟨#[], #[.string ⟨#[]⟩, .string ⟨#[]⟩], []⟩ 8 (by kernel_rfl) (by kernel_rfl) (by kernel_rfl) (by kernel_rfl)) ?_
  intro W base args ds gs before hval0 hW _ _
  have hval : ∀ (j : Nat) t v, Try.f7.params[j]? = some t → args[j]? = some v → Value.okWide Try.prog W .any base t v := hval0
  have hW' := hW
  obtain ⟨p, q, hA0, hV, rfl, _, _⟩ := hW
  have hA : DataW.TrodAll enc Try.prog W 0 (fun _ => true) true Try.f7.params.toList args.toList ds p := hA0
  rw [Try.params7] at hA hval
  obtain ⟨v0, vs0, d0, ds0, p0, q0, ha0, rfl, rfl, t0, r0⟩ := trodAll_cons hA
  obtain ⟨v1, vs1, d1, ds1, p1, q1, ha1, rfl, rfl, t1, r1⟩ := trodAll_cons r0
  obtain ⟨rfl, rfl, rfl⟩ := trodAll_nil r1
  subst ha1
  obtain rfl : args = #[v0, v1] := by cases args; simp_all
  obtain ⟨rfl, rfl⟩ := trodVars_none hV
  obtain ⟨a0, rfl, rfl, rfl, h0⟩ := open_string Try.underlying9 (hval 0 9 v0 rfl rfl) t0
  obtain ⟨a1, rfl, rfl, rfl, h1⟩ := open_string Try.underlying9 (hval 1 9 v1 rfl rfl) t1
  clear hA0 hval0
  simp only [List.append_nil] at hW'
  refine (walk_SumBounds a0 a1 h0 h1 W).mono fun e W' ⟨he, hnx⟩ => ?_
  subst he
  exact ⟨_, rfl, ⟨_, _, _, [], [], [], hW', trodAll_cons_mk (shut_bool Try.underlying4 _) trodAll_mk0, (trodAll_cons_mk (shut_string Try.underlying9 h0) (trodAll_cons_mk (shut_string Try.underlying9 h1) trodAll_mk0)), rfl, hnx.frame _, fun h => by cases h⟩⟩

theorem sumBounds_holds : Rows.SumBoundsSaid :=
  OpenClaim.holds_of_wide 7 Try.f7 rfl rfl rfl rfl rfl rfl rfl ⟨rfl, rfl, rfl, rfl, rfl⟩ rfl rfl rfl rfl rfl (by kernel_rfl) Try.func7 (by kernel_rfl)
    (of_decide_eq_true (by kernel_rfl)) (by unfold Func.isWrapper; first | (rw [if_pos (by decide +kernel)]; kernel_rfl) | (rw [if_neg (by decide +kernel)]; exact ⟨rfl, rfl⟩))
    (fun os started H enc _ => lifted_SumBounds os started H enc)

#print axioms sumBounds_holds
end Go.Proofs.Ytmdidkjdobjbgaa
