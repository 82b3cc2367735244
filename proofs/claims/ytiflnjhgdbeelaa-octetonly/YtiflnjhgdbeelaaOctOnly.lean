/-
  OctetOnly: for every s, at and n the law OctetOnly answers true: what is got is put just so. No condition.
-/
import Derived.Test.YtiflnjhgdbeelaaRows
import Derived.Test.YtiflnjhgdbeelaaOctE
import Derived.ProofKit
import Derived.OpenShut
import Derived.ChangeMaps5
import Derived.Deep.RegionHeld3
namespace Go.Proofs.Ytiflnjhgdbeelaa
open Go.ChangeShapes Go.WideShapes Go.ChangeAt Go.RowKit
open Go.ChangeMaps (open_string shut_string)
open Oct

theorem bytes_got (s : ByteArray) (a n : Nat) (h : a + n ≤ s.size) : Oct.bytes (getV s (a : Int) (n : Int)) n = (s.extract a (a + n)).toList := by
  have hl : ((s.data.toList.drop a).take n).length = n := by
    rw [List.length_take, List.length_drop, Array.length_toList]; have : s.data.size = s.size := rfl; omega
  have h1 : (s.extract a (a + n)).toList = (s.data.toList.drop a).take n := by
    rw [ByteArray.toList_eq]
    simp [List.take_drop]
  rw [h1]
  unfold getV
  rw [Int.toNat_natCast, Int.toNat_natCast]
  conv => lhs; rw [← hl]
  rw [hl]
  have h2 := bytes_num ((s.data.toList.drop a).take n)
  rw [hl] at h2
  exact h2

set_option maxRecDepth 100000 in
set_option maxHeartbeats 800000 in
theorem walk_OctetOnly (a0 : ByteArray) (a1 a2 : Int) (h0 : a0.size ≤ maxLen) (h1 : (Lit.int .i64 a1).wf = true) (h2 : (Lit.int .i64 a2).wf = true) (w : World) :
    Calls Try.prog 5 #[.string a0, .int .i64 a1, .int .i64 a2] w fun e W' => e = .returned (.bool true) ∧ Below w.heap.size w W' := by
  have b1 := bounds_i64 h1
  have b2 := bounds_i64 h2
  unfold maxLen at h0
  clear h1 h2
  by_cases g1 : (300 : Int) < (a0.size : Int)
  · have d1 : decide ((300 : Int) < (a0.size : Int)) = true := by simpa using g1
    go_enter Try.func5, Try.ntmps5
    go_wp2_with fail
    refine (works_any _).mono ?_
    rintro e w1 ⟨rfl, hb1⟩
    go_wp2_with fail
    go_ret
    exact ⟨rfl, hb1⟩
  have d1 : decide ((300 : Int) < (a0.size : Int)) = false := by simpa using g1
  by_cases g : 1 ≤ a2 ∧ a2 ≤ 8 ∧ 0 ≤ a1 ∧ a1 + a2 ≤ a0.size
  · obtain ⟨k1, k2, k3, k4⟩ := g
    obtain ⟨a, rfl⟩ := Int.eq_ofNat_of_zero_le k3
    obtain ⟨n, rfl⟩ := Int.eq_ofNat_of_zero_le (show 0 ≤ a2 by omega)
    have d2 : decide ((n : Int) < 1) = false := by simp; omega
    have d3 : decide ((8 : Int) < (n : Int)) = false := by simp; omega
    have d4 : decide ((a : Int) < 0) = false := by simp
    have d5 : decide ((a0.size : Int) - (n : Int) < (a : Int)) = false := by simp; omega
    go_enter Try.func5, Try.ntmps5
    go_wp2_with fail
    refine (works_any _).mono ?_
    rintro e w1 ⟨rfl, hb1⟩
    go_wp2_with fail
    refine (Get_yes _ _ _ _ (by omega) (by omega)).mono ?_
    rintro e w2 ⟨rfl, hb2⟩
    generalize hv : getV a0 (a : Int) (n : Int) = V
    have HV := Lib.hid hv
    clear hv
    have hV64 : V < 18446744073709551616 := by rw [← HV.out]; exact getV_lt _ _ _ (by omega)
    go_wp2_with fail
    have q1 : IntKind.i64.wrap ((a : Int) + (n : Int)) = (a : Int) + (n : Int) := IntWalk.i64_in _ (by omega)
    have s1 : (0 : Int) ≤ (a : Int) + (n : Int) := by omega
    have s2 : (a : Int) ≤ (a : Int) + (n : Int) := by omega
    have s3 : ((a : Int) + (n : Int)).toNat = a + n := by omega
    have s4 : (0 : Int) ≤ (n : Int) := by omega
    have s5 : a + n ≤ a0.size := by omega
    go_region_held3 (fun w' => Below w.heap.size w w') (first | exact (below2 hb1 hb2).drew | exact below2 (below2 hb1 hb2).drew hb3)
      (first | (go_at_call 12; (with_reducible refine (Put_yes _ _ _ ?_ ?_ ?_).mono ?_); omega; omega; omega; rintro e w3 ⟨rfl, hb3⟩))
    rename_i hHeld
    go_wp2
    go_ret
    exact ⟨by rw [show (Oct.bytes V n == (a0.extract a (a + n)).toList) = true from by rw [← HV.out, bytes_got a0 a n s5]; simp]; rfl, hHeld⟩
  · have G := Lib.hid g
    clear g
    go_enter Try.func5, Try.ntmps5
    go_wp2_with fail
    refine (works_any _).mono ?_
    rintro e w1 ⟨rfl, hb1⟩
    go_wp2_with fail
    refine (Get_no _ _ _ _ (by omega) b1 G.out).mono ?_
    rintro e w2 ⟨rfl, hb2⟩
    go_wp2_with fail
    go_ret
    exact ⟨rfl, below2 hb1 hb2⟩

theorem own_OctetOnly : ownKnob Try.prog.godebug = none := by kernel_rfl
set_option maxRecDepth 100000 in
set_option maxHeartbeats 800000 in
theorem lifted_OctetOnly (os : Os) (started : os.Started) (H : Type) (enc : TypeId × Value → H) :
    ReturnsInHanded {} Try.checked os 5 .any (Rows.octetOnlySpec.pre6 enc Try.prog Try.f5 Rows.octetOnlyRow.domain false) (Rows.octetOnlySpec.post enc Try.prog Try.f5 false true false false) := by
  refine returnsInHanded_of_change (C := Try.checked) own_OctetOnly started (by kernel_rfl) Try.func5
    (ChangeSpec.witness6 (enc := enc) (C := Try.checked) false ⟨#[], #[.string ⟨#[]⟩, .int .i64 0, .int .i64 0], []⟩ 8 (by kernel_rfl) (by kernel_rfl) (by kernel_rfl) (by kernel_rfl)) ?_
  intro W base args ds gs before hval0 hW _ _
  have hval : ∀ (j : Nat) t v, Try.f5.params[j]? = some t → args[j]? = some v → Value.okWide Try.prog W .any base t v := hval0
  have hW' := hW
  obtain ⟨p, q, hA0, hV, rfl, _, _⟩ := hW
  have hA : DataW.TrodAll enc Try.prog W 0 (fun _ => true) true Try.f5.params.toList args.toList ds p := hA0
  rw [Try.params5] at hA hval
  obtain ⟨v0, vs0, d0, ds0, p0, q0, ha0, rfl, rfl, t0, r0⟩ := trodAll_cons hA
  obtain ⟨v1, vs1, d1, ds1, p1, q1, ha1, rfl, rfl, t1, r1⟩ := trodAll_cons r0
  obtain ⟨v2, vs2, d2, ds2, p2, q2, ha2, rfl, rfl, t2, r2⟩ := trodAll_cons r1
  obtain ⟨rfl, rfl, rfl⟩ := trodAll_nil r2
  subst ha2
  subst ha1
  obtain rfl : args = #[v0, v1, v2] := by cases args; simp_all
  obtain ⟨rfl, rfl⟩ := trodVars_none hV
  obtain ⟨a0, rfl, rfl, rfl, h0⟩ := open_string Try.underlying9 (hval 0 9 v0 rfl rfl) t0
  obtain ⟨a1, rfl, rfl, rfl, h1⟩ := open_int Try.underlying3 (hval 1 3 v1 rfl rfl) t1
  obtain ⟨a2, rfl, rfl, rfl, h2⟩ := open_int Try.underlying3 (hval 2 3 v2 rfl rfl) t2
  clear hA0 hval0
  simp only [List.append_nil] at hW'
  refine (walk_OctetOnly a0 a1 a2 h0 h1 h2 W).mono fun e W' ⟨he, hnx⟩ => ?_
  subst he
  exact ⟨_, rfl, ⟨_, _, _, [], [], [], hW', trodAll_cons_mk (shut_bool Try.underlying4 _) trodAll_mk0, (trodAll_cons_mk (shut_string Try.underlying9 h0) (trodAll_cons_mk (shut_int Try.underlying3 h1) (trodAll_cons_mk (shut_int Try.underlying3 h2) trodAll_mk0))), rfl, hnx.frame _, fun h => by cases h⟩⟩

theorem octetOnly_holds : Rows.OctetOnlySaid :=
  OpenClaim.holds_of_wide 5 Try.f5 rfl rfl rfl rfl rfl rfl rfl ⟨rfl, rfl, rfl, rfl, rfl⟩ rfl rfl rfl rfl rfl (by kernel_rfl) Try.func5 (by kernel_rfl)
    (of_decide_eq_true (by kernel_rfl)) (by unfold Func.isWrapper; first | (rw [if_pos (by decide +kernel)]; kernel_rfl) | (rw [if_neg (by decide +kernel)]; exact ⟨rfl, rfl⟩))
    (fun os started H enc _ => lifted_OctetOnly os started H enc)

#print axioms octetOnly_holds
end Go.Proofs.Ytiflnjhgdbeelaa
