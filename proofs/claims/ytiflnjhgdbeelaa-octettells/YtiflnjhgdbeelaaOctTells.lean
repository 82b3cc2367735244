/-
  OctetTells: for every s, at, n and v the law OctetTells answers true: the number of bytes, and the bytes of a number, are just what the document says. No condition.
-/
import Derived.Test.YtiflnjhgdbeelaaRows
import Derived.Test.YtiflnjhgdbeelaaOctE
import Derived.Test.YtiflnjhgdbeelaaOctD
import Derived.ProofKit
import Derived.OpenShut
import Derived.ChangeMaps5
namespace Go.Proofs.Ytiflnjhgdbeelaa
open Go.ChangeShapes Go.WideShapes Go.ChangeAt Go.RowKit
open Go.ChangeMaps (open_string shut_string)
open Oct

set_option maxRecDepth 100000 in
set_option maxHeartbeats 800000 in
theorem walk_OctetTells (a0 : ByteArray) (a1 a2 a3 : Int) (h0 : a0.size ≤ maxLen) (h1 : (Lit.int .i64 a1).wf = true) (h2 : (Lit.int .i64 a2).wf = true) (h3 : (Lit.int .u64 a3).wf = true) (w : World) :
    Calls Try.prog 3 #[.string a0, .int .i64 a1, .int .i64 a2, .int .u64 a3] w fun e W' => e = .returned (.bool true) ∧ Below w.heap.size w W' := by
  have b1 := bounds_i64 h1
  have b2 := bounds_i64 h2
  have b3 := bounds_u64 h3
  unfold maxLen at h0
  clear h1 h2 h3
  by_cases g1 : (300 : Int) < (a0.size : Int)
  · have d1 : decide ((300 : Int) < (a0.size : Int)) = true := by simpa using g1
    go_enter Try.func3, Try.ntmps3
    go_wp2_with fail
    refine (works_any _).mono ?_
    rintro e w1 ⟨rfl, hb1⟩
    go_wp2_with fail
    go_ret
    exact ⟨rfl, hb1⟩
  have d1 : decide ((300 : Int) < (a0.size : Int)) = false := by simpa using g1
  by_cases g : 1 ≤ a2 ∧ a2 ≤ 8 ∧ 0 ≤ a1 ∧ a1 + a2 ≤ a0.size
  · have G := Lib.hid g
    clear g
    go_enter Try.func3, Try.ntmps3
    go_wp2_with fail
    refine (works_any _).mono ?_
    rintro e w1 ⟨rfl, hb1⟩
    go_wp2_with fail
    refine (Get_yes _ _ _ _ (by omega) G.out).mono ?_
    rintro e w2 ⟨rfl, hb2⟩
    generalize hv : getV a0 a1 a2 = V
    have HV := Lib.hid hv
    clear hv
    go_wp2_with fail
    refine (refGet_yes _ _ _ _ (by omega) G.out).mono ?_
    rintro e w3 ⟨rfl, rfl⟩
    rw [HV.out]
    go_wp2_with fail
    refine (Put_yes _ _ _ (by omega) (by omega) ⟨G.out.1, G.out.2.1⟩).mono ?_
    rintro e w4 ⟨rfl, hb4⟩
    go_wp2_with fail
    refine (refPut_yes _ _ _ (by omega) (by omega) ⟨G.out.1, G.out.2.1⟩).mono ?_
    rintro e w5 ⟨rfl, hb5⟩
    go_wp2_with fail
    go_ret
    exact ⟨rfl, below2 (below2 (below2 hb1 hb2) hb4) hb5⟩
  · have G := Lib.hid g
    clear g
    by_cases k : 1 ≤ a2 ∧ a2 ≤ 8
    · have KK := Lib.hid k
      clear k
      go_enter Try.func3, Try.ntmps3
      go_wp2_with fail
      refine (works_any _).mono ?_
      rintro e w1 ⟨rfl, hb1⟩
      go_wp2_with fail
      refine (Get_no _ _ _ _ (by omega) b1 G.out).mono ?_
      rintro e w2 ⟨rfl, hb2⟩
      go_wp2_with fail
      refine (refGet_no _ _ _ _ (by omega) b1 G.out).mono ?_
      rintro e w3 ⟨rfl, rfl⟩
      go_wp2_with fail
      refine (Put_yes _ _ _ (by omega) (by omega) KK.out).mono ?_
      rintro e w4 ⟨rfl, hb4⟩
      go_wp2_with fail
      refine (refPut_yes _ _ _ (by omega) (by omega) KK.out).mono ?_
      rintro e w5 ⟨rfl, hb5⟩
      go_wp2_with fail
      go_ret
      exact ⟨rfl, below2 (below2 (below2 hb1 hb2) hb4) hb5⟩
    · have KK := Lib.hid k
      clear k
      go_enter Try.func3, Try.ntmps3
      go_wp2_with fail
      refine (works_any _).mono ?_
      rintro e w1 ⟨rfl, hb1⟩
      go_wp2_with fail
      refine (Get_no _ _ _ _ (by omega) b1 G.out).mono ?_
      rintro e w2 ⟨rfl, hb2⟩
      go_wp2_with fail
      refine (refGet_no _ _ _ _ (by omega) b1 G.out).mono ?_
      rintro e w3 ⟨rfl, rfl⟩
      go_wp2_with fail
      refine (Put_no _ _ _ KK.out).mono ?_
      rintro e w4 ⟨rfl, hb4⟩
      go_wp2_with fail
      refine (refPut_no _ _ _ KK.out).mono ?_
      rintro e w5 ⟨rfl, rfl⟩
      go_wp2_with fail
      go_ret
      exact ⟨rfl, below2 (below2 hb1 hb2) hb4⟩

theorem own_OctetTells : ownKnob Try.prog.godebug = none := by kernel_rfl
set_option maxRecDepth 100000 in
set_option maxHeartbeats 800000 in
theorem lifted_OctetTells (os : Os) (started : os.Started) (H : Type) (enc : TypeId × Value → H) :
    ReturnsInHanded {} Try.checked os 3 .any (Rows.octetTellsSpec.pre6 enc Try.prog Try.f3 Rows.octetTellsRow.domain false) (Rows.octetTellsSpec.post enc Try.prog Try.f3 false true false false) := by
  refine returnsInHanded_of_change (C := Try.checked) own_OctetTells started (by kernel_rfl) Try.func3
    (ChangeSpec.witness6 (enc := enc) (C := Try.checked) false ⟨#[], #[.string ⟨#[]⟩, .int .i64 0, .int .i64 0, .int .u64 0], []⟩ 8 (by kernel_rfl) (by kernel_rfl) (by kernel_rfl) (by kernel_rfl)) ?_
  intro W base args ds gs before hval0 hW _ _
  have hval : ∀ (j : Nat) t v, Try.f3.params[j]? = some t → args[j]? = some v → Value.okWide Try.prog W .any base t v := hval0
  have hW' := hW
  obtain ⟨p, q, hA0, hV, rfl, _, _⟩ := hW
  have hA : DataW.TrodAll enc Try.prog W 0 (fun _ => true) true Try.f3.params.toList args.toList ds p := hA0
  rw [Try.params3] at hA hval
  obtain ⟨v0, vs0, d0, ds0, p0, q0, ha0, rfl, rfl, t0, r0⟩ := trodAll_cons hA
  obtain ⟨v1, vs1, d1, ds1, p1, q1, ha1, rfl, rfl, t1, r1⟩ := trodAll_cons r0
  obtain ⟨v2, vs2, d2, ds2, p2, q2, ha2, rfl, rfl, t2, r2⟩ := trodAll_cons r1
  obtain ⟨v3, vs3, d3, ds3, p3, q3, ha3, rfl, rfl, t3, r3⟩ := trodAll_cons r2
  obtain ⟨rfl, rfl, rfl⟩ := trodAll_nil r3
  subst ha3
  subst ha2
  subst ha1
  obtain rfl : args = #[v0, v1, v2, v3] := by cases args; simp_all
  obtain ⟨rfl, rfl⟩ := trodVars_none hV
  obtain ⟨a0, rfl, rfl, rfl, h0⟩ := open_string Try.underlying9 (hval 0 9 v0 rfl rfl) t0
  obtain ⟨a1, rfl, rfl, rfl, h1⟩ := open_int Try.underlying3 (hval 1 3 v1 rfl rfl) t1
  obtain ⟨a2, rfl, rfl, rfl, h2⟩ := open_int Try.underlying3 (hval 2 3 v2 rfl rfl) t2
  obtain ⟨a3, rfl, rfl, rfl, h3⟩ := open_int Try.underlying22 (hval 3 22 v3 rfl rfl) t3
  clear hA0 hval0
  simp only [List.append_nil] at hW'
  refine (walk_OctetTells a0 a1 a2 a3 h0 h1 h2 h3 W).mono fun e W' ⟨he, hnx⟩ => ?_
  subst he
  exact ⟨_, rfl, ⟨_, _, _, [], [], [], hW', trodAll_cons_mk (shut_bool Try.underlying4 _) trodAll_mk0, (trodAll_cons_mk (shut_string Try.underlying9 h0) (trodAll_cons_mk (shut_int Try.underlying3 h1) (trodAll_cons_mk (shut_int Try.underlying3 h2) (trodAll_cons_mk (shut_int Try.underlying22 h3) trodAll_mk0)))), rfl, hnx.frame _, fun h => by cases h⟩⟩

theorem octetTells_holds : Rows.OctetTellsSaid :=
  OpenClaim.holds_of_wide 3 Try.f3 rfl rfl rfl rfl rfl rfl rfl ⟨rfl, rfl, rfl, rfl, rfl⟩ rfl rfl rfl rfl rfl (by kernel_rfl) Try.func3 (by kernel_rfl)
    (of_decide_eq_true (by kernel_rfl)) (by unfold Func.isWrapper; first | (rw [if_pos (by decide +kernel)]; kernel_rfl) | (rw [if_neg (by decide +kernel)]; exact ⟨rfl, rfl⟩))
    (fun os started H enc _ => lifted_OctetTells os started H enc)

#print axioms octetTells_holds
end Go.Proofs.Ytiflnjhgdbeelaa
