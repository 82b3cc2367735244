/-
  SweepSteps: for every t, from, n and now the law SweepSteps answers true: what is left of a table, where one looks next, and how many were due, is just what the document says. No condition.
-/
import Derived.Test.YticpjccfpmaikaaRows
import Derived.Test.YticpjccfpmaikaaBTab
import Derived.Test.YticpjccfpmaikaaSwpW
import Derived.Test.YticpjccfpmaikaaSwpP
import Derived.Test.YticpjccfpmaikaaSwpC
import Derived.ProofKit
import Derived.OpenShut
import Derived.ChangeMaps5
import Derived.BigQuiet
import Derived.WalkSmall
namespace Go.Proofs.Yticpjccfpmaikaa
open Go.ChangeShapes Go.WideShapes Go.ChangeAt Go.RowKit Go.Shelf
open Go.ChangeMaps (open_string shut_string)
open Prb RowG Tab Flo Swp

set_option maxRecDepth 100000 in
set_option maxHeartbeats 2000000 in
theorem walk_SweepSteps (a0 : Option Addr) (c0 : Nat) (z0 : List Ent) (a1 : Int) (a2 : Int) (a3 : Int) (w : World) (h0 : Lies entK w a0 c0 z0) (g0 : ∀ x ∈ z0, EntOk x) (_h1 : (Lit.int .i64 a1).wf = true) (_h2 : (Lit.int .i64 a2).wf = true) (_h3 : (Lit.int .i64 a3).wf = true) :
    Calls Try.prog 3 #[rowV a0 c0 z0, .int .i64 a1, .int .i64 a2, .int .i64 a3] w fun e W' => e = .returned (.bool true) ∧ Below w.heap.size w W' := by
  have H0 := Lib.hid h0
  have hC0 := h0.len
  have hM0 := h0.max
  unfold maxLen at hM0 
  clear h0
  go_enter Try.func3, Try.ntmps3
  go_wp2_with fail
  refine (works_any _).mono ?_
  rintro e w1 ⟨rfl, hb⟩
  have B1 := Lib.hid hb
  have L0 := Lib.hid (H0.out.kept hb)
  clear hb H0
  go_wp2_with fail
  refine (few_any a0 c0 z0 _ L0.out g0).mono ?_
  rintro e w2 ⟨rfl, rfl⟩
  by_cases f0 : ¬ few64 z0
  · rw [decide_eq_false f0]
    go_wp2_with fail
    go_ret
    exact ⟨rfl, B1.out⟩
  replace f0 := Decidable.not_not.1 f0
  rw [decide_eq_true f0]
  have hl0 := f0.2
  have S0 := Lib.hid (show Short 60 z0 from f0.1.2)
  clear f0 g0
  go_wp2_with fail
  refine (Step_told a0 c0 z0 a1 a2 a3 _ L0.out (S0.out.wide (by omega)) (by omega)).mono ?_
  rintro e w2 ⟨v, rfl, ⟨aP, cP, rfl, hl⟩, hb⟩
  have L0 := Lib.hid (L0.out.kept hb)
  have LP := Lib.hid hl
  have B1 := Lib.hid (below2 B1.out hb)
  clear hb hl
  have G := Lib.hid (fun w (h : Lies entK w a0 c0 z0) => refStep_any a0 c0 z0 a1 a2 a3 w h (S0.out.wide (by omega)) (by omega))
  generalize nextP z0.length (norm z0.length a1) (span a2 z0.length) = np at *
  generalize dueN a3 (places z0.length (norm z0.length a1) (span a2 z0.length)) z0 = du at *
  generalize stepC a3 (places z0.length (norm z0.length a1) (span a2 z0.length)) z0 = sc at *
  go_wp2_with fail
  refine (G.out _ L0.out).mono ?_
  rintro e w3 ⟨v, rfl, ⟨aQ, cQ, rfl, hl⟩, hb⟩
  have L0 := Lib.hid (L0.out.kept hb)
  have LP := Lib.hid (LP.out.kept hb)
  have LQ := Lib.hid hl
  have B1 := Lib.hid (below2 B1.out hb)
  clear hb hl
  go_wp2_with fail
  refine (All_told a0 c0 z0 a3 _ L0.out (S0.out.wide (by omega)) (by omega)).mono ?_
  rintro e w4 ⟨v, rfl, ⟨aD, cD, rfl, hl⟩, hb⟩
  have L0 := Lib.hid (L0.out.kept hb)
  have LP := Lib.hid (LP.out.kept hb)
  have LQ := Lib.hid (LQ.out.kept hb)
  have LD := Lib.hid hl
  have B1 := Lib.hid (below2 B1.out hb)
  clear hb hl
  have G2 := Lib.hid (fun w (h : Lies entK w a0 c0 z0) => refAll_any a0 c0 z0 a3 w h (S0.out.wide (by omega)) (by omega))
  generalize dueN a3 (places z0.length 0 z0.length) z0 = du2 at *
  generalize stepC a3 (places z0.length 0 z0.length) z0 = sc2 at *
  go_wp2_with fail
  refine (G2.out _ L0.out).mono ?_
  rintro e w5 ⟨v, rfl, ⟨aE, cE, rfl, hl⟩, hb⟩
  have L0 := Lib.hid (L0.out.kept hb)
  have LP := Lib.hid (LP.out.kept hb)
  have LQ := Lib.hid (LQ.out.kept hb)
  have LD := Lib.hid (LD.out.kept hb)
  have LE := Lib.hid hl
  have B1 := Lib.hid (below2 B1.out hb)
  clear hb hl
  go_wp2_with fail
  refine (refSame_any aP cP _ aQ cQ _ true (by simp) _ LP.out LQ.out).mono ?_
  rintro e w6 ⟨rfl, hb⟩
  have L0 := Lib.hid (L0.out.kept hb)
  have LP := Lib.hid (LP.out.kept hb)
  have LQ := Lib.hid (LQ.out.kept hb)
  have LD := Lib.hid (LD.out.kept hb)
  have LE := Lib.hid (LE.out.kept hb)
  have B1 := Lib.hid (below2 B1.out hb)
  clear hb
  go_wp2_with fail
  refine (refSame_any aD cD _ aE cE _ true (by simp) _ LD.out LE.out).mono ?_
  rintro e w7 ⟨rfl, hb⟩
  have L0 := Lib.hid (L0.out.kept hb)
  have LP := Lib.hid (LP.out.kept hb)
  have LQ := Lib.hid (LQ.out.kept hb)
  have LD := Lib.hid (LD.out.kept hb)
  have LE := Lib.hid (LE.out.kept hb)
  have B1 := Lib.hid (below2 B1.out hb)
  clear hb
  go_wp2_with fail
  go_ret
  exact ⟨rfl, B1.out⟩

theorem own_SweepSteps : ownKnob Try.prog.godebug = none := by kernel_rfl
set_option maxRecDepth 100000 in
set_option maxHeartbeats 800000 in
theorem lifted_SweepSteps (os : Os) (started : os.Started) (H : Type) (enc : TypeId × Value → H) :
    ReturnsInHanded {} Try.checked os 3 .any (Rows.sweepStepsSpec.pre6 enc Try.prog Try.f3 Rows.sweepStepsRow.domain false) (Rows.sweepStepsSpec.post enc Try.prog Try.f3 false true false false) := by
  refine returnsInHanded_of_change (C := Try.checked) own_SweepSteps started (by kernel_rfl) Try.func3
    (ChangeSpec.witness6 (enc := enc) (C := Try.checked) false ⟨#[], #[.slice none 0 0, .int .i64 0, .int .i64 0, .int .i64 0], []⟩ 8 (by kernel_rfl) (by kernel_rfl) (by kernel_rfl) (by kernel_rfl)) ?_
  intro W base args ds gs before hval0 hW _ _
  have hval : ∀ (j : Nat) t v, Try.f3.params[j]? = some t → args[j]? = some v → Value.okWide Try.prog W .any base t v := hval0
  have hW' := hW
  obtain ⟨p, q, hA0, hV, rfl, _, _⟩ := hW
  have hA : DataW.TrodAll enc Try.prog W 0 (fun _ => true) true Try.f3.params.toList args.toList ds p := hA0
  rw [Try.params3] at hA hval
  obtain ⟨v0, vs0, d0, ds0, p0, q0, ha0, rfl, rfl, t0, r0⟩ := trodAll_cons hA
  obtain ⟨v1, vs1, d1, ds1, p1, q1, ha1, rfl, rfl, t1, r1⟩ := trodAll_cons r0
  obtain ⟨v2, vs2, d2, ds2, p2, q2, ha2, rfl, rfl, t2, r2⟩ := trodAll_cons r1
  obtain ⟨v3, vs3, d3, ds3, p3, q3, ha3, rfl, rfl, t3, r3⟩ := trodAll_cons r2
  obtain ⟨rfl, rfl, rfl⟩ := trodAll_nil r3
  subst ha3
  subst ha2
  subst ha1
  obtain rfl : args = #[v0, v1, v2, v3] := by cases args; simp_all
  obtain ⟨rfl, rfl⟩ := trodVars_none hV
  have k0 := t0
  have lt0 : ∀ x ∈ p0, x.block < W.heap.size := by obtain ⟨m, hm⟩ := k0; exact DataW.trod_lt m _ _ _ hm
  obtain ⟨a0, c0, z0, rfl, h0, g0⟩ := Ste.open_table (hval 0 22 v0 rfl rfl) t0
  obtain ⟨a1, rfl, rfl, rfl, h1⟩ := open_int Try.underlying3 (hval 1 3 v1 rfl rfl) t1
  obtain ⟨a2, rfl, rfl, rfl, h2⟩ := open_int Try.underlying3 (hval 2 3 v2 rfl rfl) t2
  obtain ⟨a3, rfl, rfl, rfl, h3⟩ := open_int Try.underlying3 (hval 3 3 v3 rfl rfl) t3
  clear hA0 hval0
  refine (walk_SweepSteps a0 c0 z0 a1 a2 a3 W h0 g0 h1 h2 h3).mono fun e W' ⟨he, hnx⟩ => ?_
  subst he
  exact ⟨_, rfl, ⟨_, _, _, [], _, [], hW', trodAll_cons_mk (shut_bool Try.underlying4 _) trodAll_mk0, (trodAll_cons_mk (Below.trod Ste.laidOut (by kernel_rfl) (of_decide_eq_true (by kernel_rfl)) k0 hnx lt0) (trodAll_cons_mk (shut_int Try.underlying3 h1) (trodAll_cons_mk (shut_int Try.underlying3 h2) (trodAll_cons_mk (shut_int Try.underlying3 h3) trodAll_mk0)))), rfl, hnx.frame _, fun h => by cases h⟩⟩

theorem sweepSteps_holds : Rows.SweepStepsSaid :=
  OpenClaim.holds_of_wide 3 Try.f3 rfl rfl rfl rfl rfl rfl rfl ⟨rfl, rfl, rfl, rfl, rfl⟩ rfl rfl rfl rfl rfl (by kernel_rfl) Try.func3 (by kernel_rfl)
    (of_decide_eq_true (by kernel_rfl)) (by unfold Func.isWrapper; first | (rw [if_pos (by decide +kernel)]; kernel_rfl) | (rw [if_neg (by decide +kernel)]; exact ⟨rfl, rfl⟩))
    (fun os started H enc _ => lifted_SweepSteps os started H enc)

#print axioms sweepSteps_holds
end Go.Proofs.Yticpjccfpmaikaa
