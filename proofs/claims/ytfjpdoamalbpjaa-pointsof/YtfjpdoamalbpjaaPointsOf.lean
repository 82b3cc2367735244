/-
  PointsOf: for every p the law PointsOf answers true: a pool's points are just what the document says. No condition.
-/
import Derived.Test.YtfjpdoamalbpjaaRows
import Derived.Test.YtfjpdoamalbpjaaStp
import Derived.Test.YtfjpdoamalbpjaaStq
import Derived.Test.YtfjpdoamalbpjaaPtsW
import Derived.BigQuiet
import Derived.WalkSmall
import Derived.ProofKit
import Derived.OpenShut
import Derived.ChangeMaps5
namespace Go.Proofs.Ytfjpdoamalbpjaa
open Go.ChangeShapes Go.WideShapes Go.ChangeAt Go.RowKit Go.Shelf
open Go.ChangeMaps (open_string shut_string)
open Pts Rgn
open Pol (below2 below_alloc Bk polV)

set_option maxRecDepth 100000 in
set_option maxHeartbeats 2000000 in
theorem walk_PointsOf (a0 : Option Addr) (c0 : Nat) (z0 : List Bk) (w : World) (h0 : Pol.Lies w a0 c0 z0) (_g0 : ∀ x ∈ z0, Stp.BkOk x) :
    Calls Try.prog 3 #[polV a0 c0 z0] w fun e W' => e = .returned (.bool true) ∧ Below w.heap.size w W' := by
  have H := Lib.hid h0
  have hC0 := h0.len
  have hM0 := h0.max
  unfold maxLen at hM0
  clear h0 _g0
  by_cases h8 : 8 < z0.length
  · have d0 : decide ((8 : Int) < (z0.length : Int)) = true := decide_eq_true (by omega)
    have d1 : decide (8 < z0.length) = true := decide_eq_true h8
    go_enter Try.func3, Try.ntmps3
    go_wp2_with fail
    refine (works_any _).mono ?_
    rintro e w1 ⟨rfl, hb⟩
    have B1 := Lib.hid hb
    clear hb
    go_wp2_with fail
    go_ret
    exact ⟨rfl, B1.out⟩
  have d0 : decide ((8 : Int) < (z0.length : Int)) = false := decide_eq_false (by omega)
  have d1 : decide (8 < z0.length) = false := decide_eq_false h8
  have hz : z0.length ≤ 8 := by omega
  go_enter Try.func3, Try.ntmps3
  go_wp2_with fail
  refine (works_any _).mono ?_
  rintro e w1 ⟨rfl, hb⟩
  have L1 := Lib.hid (H.out.kept hb)
  have B1 := Lib.hid hb
  clear hb
  go_wp2_with fail
  refine (Of_told a0 c0 z0 w1 L1.out (by omega)).mono ?_
  rintro e w2 ⟨v, rfl, ⟨aP, cP, rfl, hP⟩, hb⟩
  have L2 := Lib.hid (L1.out.kept hb)
  have P2 := Lib.hid hP
  have B2 := Lib.hid (below2 B1.out hb)
  clear hb hP L1 B1
  go_wp2_with fail
  refine (refOf_any a0 c0 z0 w2 L2.out (by omega)).mono ?_
  rintro e w3 ⟨v, rfl, ⟨aQ, cQ, rfl, hQ⟩, hb⟩
  have P3 := Lib.hid (P2.out.kept hb)
  have Q3 := Lib.hid hQ
  have B3 := Lib.hid (below2 B2.out hb)
  clear hb hQ L2 P2 B2
  go_wp2_with fail
  refine (refSame_any aP cP (ofL hsh z0) aQ cQ (ofL hsh z0) true (by simp) w3 P3.out Q3.out).mono ?_
  rintro e w4 ⟨rfl, hb⟩
  have B4 := Lib.hid (below2 B3.out hb)
  clear hb B3 P3 Q3
  go_wp2_with fail
  go_ret
  exact ⟨rfl, B4.out⟩

theorem own_PointsOf : ownKnob Try.prog.godebug = none := by kernel_rfl
set_option maxRecDepth 100000 in
set_option maxHeartbeats 800000 in
theorem lifted_PointsOf (os : Os) (started : os.Started) (H : Type) (enc : TypeId × Value → H) :
    ReturnsInHanded {} Try.checked os 3 .any (Rows.pointsOfSpec.pre6 enc Try.prog Try.f3 Rows.pointsOfRow.domain false) (Rows.pointsOfSpec.post enc Try.prog Try.f3 false true false false) := by
  refine returnsInHanded_of_change (C := Try.checked) own_PointsOf started (by kernel_rfl) Try.func3
    (ChangeSpec.witness6 (enc := enc) (C := Try.checked) false ⟨#[], #[.slice none 0 0], []⟩ 8 (by kernel_rfl) (by kernel_rfl) (by kernel_rfl) (by kernel_rfl)) ?_
  intro W base args ds gs before hval0 hW _ _
  have hval : ∀ (j : Nat) t v, Try.f3.params[j]? = some t → args[j]? = some v → Value.okWide Try.prog W .any base t v := hval0
  have hW' := hW
  obtain ⟨p, q, hA0, hV, rfl, _, _⟩ := hW
  have hA : DataW.TrodAll enc Try.prog W 0 (fun _ => true) true Try.f3.params.toList args.toList ds p := hA0
  rw [Try.params3] at hA hval
  obtain ⟨v0, vs0, d0, ds0, p0, q0, ha0, rfl, rfl, t0, r0⟩ := trodAll_cons hA
  obtain ⟨rfl, rfl, rfl⟩ := trodAll_nil r0
  obtain rfl : args = #[v0] := by cases args; simp_all
  obtain ⟨rfl, rfl⟩ := trodVars_none hV
  have k0 := t0
  have lt0 : ∀ x ∈ p0, x.block < W.heap.size := by obtain ⟨m, hm⟩ := k0; exact DataW.trod_lt m _ _ _ hm
  obtain ⟨a0, c0, z0, rfl, h0, g0⟩ := Stp.open_pool (hval 0 22 v0 rfl rfl) t0
  clear hA0 hval0
  refine (walk_PointsOf a0 c0 z0 W h0 g0).mono fun e W' ⟨he, hnx⟩ => ?_
  subst he
  exact ⟨_, rfl, ⟨_, _, _, [], _, [], hW', trodAll_cons_mk (shut_bool Try.underlying4 _) trodAll_mk0, (trodAll_cons_mk (Below.trod Stp.laidOut (by kernel_rfl) (of_decide_eq_true (by kernel_rfl)) k0 hnx lt0) trodAll_mk0), rfl, hnx.frame _, fun h => by cases h⟩⟩

theorem pointsOf_holds : Rows.PointsOfSaid :=
  OpenClaim.holds_of_wide 3 Try.f3 rfl rfl rfl rfl rfl rfl rfl ⟨rfl, rfl, rfl, rfl, rfl⟩ rfl rfl rfl rfl rfl (by kernel_rfl) Try.func3 (by kernel_rfl)
    (of_decide_eq_true (by kernel_rfl)) (by unfold Func.isWrapper; first | (rw [if_pos (by decide +kernel)]; kernel_rfl) | (rw [if_neg (by decide +kernel)]; exact ⟨rfl, rfl⟩))
    (fun os started H enc _ => lifted_PointsOf os started H enc)

#print axioms pointsOf_holds
end Go.Proofs.Ytfjpdoamalbpjaa
