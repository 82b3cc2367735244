/-
  SlotsNone: for every n, i, id, h and p the law SlotsNone answers true: of a slot that there is not nothing is told. No condition.
-/
import Derived.Test.YtefdnnmgmdaapaaRows
import Derived.Test.YtefdnnmgmdaapaaBPol
import Derived.Test.YtefdnnmgmdaapaaSts
import Derived.Test.YtefdnnmgmdaapaaSlsV
import Derived.BigQuiet
import Derived.WalkSmall
import Derived.ProofKit
import Derived.OpenShut
import Derived.ChangeMaps5
namespace Go.Proofs.Ytefdnnmgmdaapaa
open Go.ChangeShapes Go.WideShapes Go.ChangeAt Go.RowKit Go.Shelf
open Go.ChangeMaps (open_string shut_string)
open Sls Slo
open Pol (Bk polV chk chkV)
open Pts (ofL hsh)
open Rin (succL)

set_option maxRecDepth 100000 in
set_option maxHeartbeats 2000000 in
theorem walk_SlotsNone (n i id h : Int) (a4 : Option Addr) (c4 : Nat) (z4 : List Bk) (w : World) (_h0 : (Lit.int .i64 n).wf = true) (_h1 : (Lit.int .i64 i).wf = true) (_h2 : (Lit.int .i64 id).wf = true) (_h3 : (Lit.int .u64 h).wf = true) (h4 : Pol.Lies w a4 c4 z4) (_g4 : ∀ x ∈ z4, Stp.BkOk x) :
    Calls Try.prog 5 #[.int .i64 n, .int .i64 i, .int .i64 id, .int .u64 h, polV a4 c4 z4] w fun e W' => e = .returned (.bool true) ∧ Below w.heap.size w W' := by
  have H4 := Lib.hid h4
  have hC4 := h4.len
  have hM4 := h4.max
  unfold maxLen at hM4
  clear h4
  by_cases g0 : 0 ≤ i
  · have e_g0 : decide (0 ≤ i) = true := decide_eq_true g0
    by_cases g1 : i < n
    · have e_g1 : decide (i < n) = true := decide_eq_true g1
      by_cases g2 : i < 8
      · have e_g2 : decide (i < 8) = true := decide_eq_true g2
        go_enter Try.func5, Try.ntmps5
        go_wp2_with fail
        refine (works_any _).mono ?_
        rintro e w1 ⟨rfl, hb⟩
        have B1 := Lib.hid hb
        clear hb
        go_wp2_with fail
        go_ret
        exact ⟨rfl, B1.out⟩
      · have e_g2 : decide (i < 8) = false := decide_eq_false g2
        have HI := Lib.hid (show ¬ Is (new n : List (Slot (List Bk))) i from fun e => by have := is_new.1 e; omega)
        by_cases g4 : 8 < z4.length
        · have d4 : decide ((8 : Int) < (z4.length : Int)) = true := decide_eq_true (by omega)
          have d5 : decide (8 < z4.length) = true := decide_eq_true g4
          go_enter Try.func5, Try.ntmps5
          go_wp2_with fail
          refine (works_any _).mono ?_
          rintro e w1 ⟨rfl, hb⟩
          have B1 := Lib.hid hb
          clear hb
          go_wp2_with fail
          go_ret
          exact ⟨rfl, B1.out⟩
        · have d4 : decide ((8 : Int) < (z4.length : Int)) = false := decide_eq_false (by omega)
          have d5 : decide (8 < z4.length) = false := decide_eq_false g4
          go_enter Try.func5, Try.ntmps5
          go_wp2_with fail
          refine (works_any _).mono ?_
          rintro e w1 ⟨rfl, hb⟩
          have C := Lib.hid (new_stand n w w1 hb)
          clear hb
          go_wp2_with fail
          refine C.out.mono ?_
          rintro e w2 ⟨f, rfl, S2⟩
          clear C
          have NI := Lib.hid (none_is (right := rightB) (p := z4) HI.out)
          generalize (new n : List (Slot (List Bk))) = l at *
          have NB := Lib.hid NI.out.1
          have NF := Lib.hid NI.out.2.1
          have NS := Lib.hid NI.out.2.2.1
          have NP := Lib.hid (pick_none NI.out.2.2.2 h)
          have NH := Lib.hid (has_none NI.out.2.2.2 id)
          have NZ := Lib.hid (size_none NI.out.2.2.2)
          clear NI HI
          have D2 := Lib.hid (begin_stand S2 i)
          rw [NB.out] at D2
          go_wp2_with fail
          refine D2.out.mono ?_
          rintro e w3 ⟨rfl, S3⟩
          have D3 := Lib.hid (fill_stand S3 i a4 c4 z4 H4.out)
          rw [NF.out] at D3
          clear D2 S2
          go_wp2_with fail
          refine D3.out.mono ?_
          rintro e w4 ⟨rfl, S4⟩
          have D4 := Lib.hid (spoil_stand S4 i)
          rw [NS.out] at D4
          clear D3 S3
          go_wp2_with fail
          refine D4.out.mono ?_
          rintro e w5 ⟨rfl, S5⟩
          have D5 := Lib.hid (pick_stand S5 i h)
          rw [NP.out] at D5
          clear D4 S4
          go_wp2_with fail
          refine D5.out.mono ?_
          rintro e w6 ⟨rfl, S6⟩
          have D6 := Lib.hid (has_stand S6 i id)
          rw [NH.out] at D6
          clear D5 S5
          go_wp2_with fail
          refine D6.out.mono ?_
          rintro e w7 ⟨rfl, S7⟩
          have D7 := Lib.hid (size_stand S7 i)
          rw [NZ.out] at D7
          clear D6 S6
          go_wp2_with fail
          refine D7.out.mono ?_
          rintro e w8 ⟨rfl, S8⟩
          have B8 := Lib.hid S8.below
          clear D7 S7 S8 NB NF NS NP NH NZ
          go_wp2_with fail
          go_ret
          exact ⟨rfl, B8.out⟩
    · have e_g1 : decide (i < n) = false := decide_eq_false g1
      have HI := Lib.hid (show ¬ Is (new n : List (Slot (List Bk))) i from fun e => by have := is_new.1 e; omega)
      by_cases g4 : 8 < z4.length
      · have d4 : decide ((8 : Int) < (z4.length : Int)) = true := decide_eq_true (by omega)
        have d5 : decide (8 < z4.length) = true := decide_eq_true g4
        go_enter Try.func5, Try.ntmps5
        go_wp2_with fail
        refine (works_any _).mono ?_
        rintro e w1 ⟨rfl, hb⟩
        have B1 := Lib.hid hb
        clear hb
        go_wp2_with fail
        go_ret
        exact ⟨rfl, B1.out⟩
      · have d4 : decide ((8 : Int) < (z4.length : Int)) = false := decide_eq_false (by omega)
        have d5 : decide (8 < z4.length) = false := decide_eq_false g4
        go_enter Try.func5, Try.ntmps5
        go_wp2_with fail
        refine (works_any _).mono ?_
        rintro e w1 ⟨rfl, hb⟩
        have C := Lib.hid (new_stand n w w1 hb)
        clear hb
        go_wp2_with fail
        refine C.out.mono ?_
        rintro e w2 ⟨f, rfl, S2⟩
        clear C
        have NI := Lib.hid (none_is (right := rightB) (p := z4) HI.out)
        generalize (new n : List (Slot (List Bk))) = l at *
        have NB := Lib.hid NI.out.1
        have NF := Lib.hid NI.out.2.1
        have NS := Lib.hid NI.out.2.2.1
        have NP := Lib.hid (pick_none NI.out.2.2.2 h)
        have NH := Lib.hid (has_none NI.out.2.2.2 id)
        have NZ := Lib.hid (size_none NI.out.2.2.2)
        clear NI HI
        have D2 := Lib.hid (begin_stand S2 i)
        rw [NB.out] at D2
        go_wp2_with fail
        refine D2.out.mono ?_
        rintro e w3 ⟨rfl, S3⟩
        have D3 := Lib.hid (fill_stand S3 i a4 c4 z4 H4.out)
        rw [NF.out] at D3
        clear D2 S2
        go_wp2_with fail
        refine D3.out.mono ?_
        rintro e w4 ⟨rfl, S4⟩
        have D4 := Lib.hid (spoil_stand S4 i)
        rw [NS.out] at D4
        clear D3 S3
        go_wp2_with fail
        refine D4.out.mono ?_
        rintro e w5 ⟨rfl, S5⟩
        have D5 := Lib.hid (pick_stand S5 i h)
        rw [NP.out] at D5
        clear D4 S4
        go_wp2_with fail
        refine D5.out.mono ?_
        rintro e w6 ⟨rfl, S6⟩
        have D6 := Lib.hid (has_stand S6 i id)
        rw [NH.out] at D6
        clear D5 S5
        go_wp2_with fail
        refine D6.out.mono ?_
        rintro e w7 ⟨rfl, S7⟩
        have D7 := Lib.hid (size_stand S7 i)
        rw [NZ.out] at D7
        clear D6 S6
        go_wp2_with fail
        refine D7.out.mono ?_
        rintro e w8 ⟨rfl, S8⟩
        have B8 := Lib.hid S8.below
        clear D7 S7 S8 NB NF NS NP NH NZ
        go_wp2_with fail
        go_ret
        exact ⟨rfl, B8.out⟩
  · have e_g0 : decide (0 ≤ i) = false := decide_eq_false g0
    have HI := Lib.hid (show ¬ Is (new n : List (Slot (List Bk))) i from fun e => by have := is_new.1 e; omega)
    by_cases g4 : 8 < z4.length
    · have d4 : decide ((8 : Int) < (z4.length : Int)) = true := decide_eq_true (by omega)
      have d5 : decide (8 < z4.length) = true := decide_eq_true g4
      go_enter Try.func5, Try.ntmps5
      go_wp2_with fail
      refine (works_any _).mono ?_
      rintro e w1 ⟨rfl, hb⟩
      have B1 := Lib.hid hb
      clear hb
      go_wp2_with fail
      go_ret
      exact ⟨rfl, B1.out⟩
    · have d4 : decide ((8 : Int) < (z4.length : Int)) = false := decide_eq_false (by omega)
      have d5 : decide (8 < z4.length) = false := decide_eq_false g4
      go_enter Try.func5, Try.ntmps5
      go_wp2_with fail
      refine (works_any _).mono ?_
      rintro e w1 ⟨rfl, hb⟩
      have C := Lib.hid (new_stand n w w1 hb)
      clear hb
      go_wp2_with fail
      refine C.out.mono ?_
      rintro e w2 ⟨f, rfl, S2⟩
      clear C
      have NI := Lib.hid (none_is (right := rightB) (p := z4) HI.out)
      generalize (new n : List (Slot (List Bk))) = l at *
      have NB := Lib.hid NI.out.1
      have NF := Lib.hid NI.out.2.1
      have NS := Lib.hid NI.out.2.2.1
      have NP := Lib.hid (pick_none NI.out.2.2.2 h)
      have NH := Lib.hid (has_none NI.out.2.2.2 id)
      have NZ := Lib.hid (size_none NI.out.2.2.2)
      clear NI HI
      have D2 := Lib.hid (begin_stand S2 i)
      rw [NB.out] at D2
      go_wp2_with fail
      refine D2.out.mono ?_
      rintro e w3 ⟨rfl, S3⟩
      have D3 := Lib.hid (fill_stand S3 i a4 c4 z4 H4.out)
      rw [NF.out] at D3
      clear D2 S2
      go_wp2_with fail
      refine D3.out.mono ?_
      rintro e w4 ⟨rfl, S4⟩
      have D4 := Lib.hid (spoil_stand S4 i)
      rw [NS.out] at D4
      clear D3 S3
      go_wp2_with fail
      refine D4.out.mono ?_
      rintro e w5 ⟨rfl, S5⟩
      have D5 := Lib.hid (pick_stand S5 i h)
      rw [NP.out] at D5
      clear D4 S4
      go_wp2_with fail
      refine D5.out.mono ?_
      rintro e w6 ⟨rfl, S6⟩
      have D6 := Lib.hid (has_stand S6 i id)
      rw [NH.out] at D6
      clear D5 S5
      go_wp2_with fail
      refine D6.out.mono ?_
      rintro e w7 ⟨rfl, S7⟩
      have D7 := Lib.hid (size_stand S7 i)
      rw [NZ.out] at D7
      clear D6 S6
      go_wp2_with fail
      refine D7.out.mono ?_
      rintro e w8 ⟨rfl, S8⟩
      have B8 := Lib.hid S8.below
      clear D7 S7 S8 NB NF NS NP NH NZ
      go_wp2_with fail
      go_ret
      exact ⟨rfl, B8.out⟩

theorem own_SlotsNone : ownKnob Try.prog.godebug = none := by kernel_rfl
set_option maxRecDepth 100000 in
set_option maxHeartbeats 800000 in
theorem lifted_SlotsNone (os : Os) (started : os.Started) (H : Type) (enc : TypeId × Value → H) :
    ReturnsInHanded {} Try.checked os 5 .any (Rows.slotsNoneSpec.pre6 enc Try.prog Try.f5 Rows.slotsNoneRow.domain false) (Rows.slotsNoneSpec.post enc Try.prog Try.f5 false true false false) := by
  refine returnsInHanded_of_change (C := Try.checked) own_SlotsNone started (by kernel_rfl) Try.func5
    (ChangeSpec.witness6 (enc := enc) (C := Try.checked) false ⟨#[], #[.int .i64 0, .int .i64 0, .int .i64 0, .int .u64 0, .slice none 0 0], []⟩ 8 (by kernel_rfl) (by kernel_rfl) (by kernel_rfl) (by kernel_rfl)) ?_
  intro W base args ds gs before hval0 hW _ _
  have hval : ∀ (j : Nat) t v, Try.f5.params[j]? = some t → args[j]? = some v → Value.okWide Try.prog W .any base t v := hval0
  have hW' := hW
  obtain ⟨p, q, hA0, hV, rfl, _, _⟩ := hW
  have hA : DataW.TrodAll enc Try.prog W 0 (fun _ => true) true Try.f5.params.toList args.toList ds p := hA0
  rw [Try.params5] at hA hval
  obtain ⟨v0, vs0, d0, ds0, p0, q0, ha0, rfl, rfl, t0, r0⟩ := trodAll_cons hA
  obtain ⟨v1, vs1, d1, ds1, p1, q1, ha1, rfl, rfl, t1, r1⟩ := trodAll_cons r0
  obtain ⟨v2, vs2, d2, ds2, p2, q2, ha2, rfl, rfl, t2, r2⟩ := trodAll_cons r1
  obtain ⟨v3, vs3, d3, ds3, p3, q3, ha3, rfl, rfl, t3, r3⟩ := trodAll_cons r2
  obtain ⟨v4, vs4, d4, ds4, p4, q4, ha4, rfl, rfl, t4, r4⟩ := trodAll_cons r3
  obtain ⟨rfl, rfl, rfl⟩ := trodAll_nil r4
  subst ha4
  subst ha3
  subst ha2
  subst ha1
  obtain rfl : args = #[v0, v1, v2, v3, v4] := by cases args; simp_all
  obtain ⟨rfl, rfl⟩ := trodVars_none hV
  obtain ⟨a0, rfl, rfl, rfl, h0⟩ := open_int Try.underlying3 (hval 0 3 v0 rfl rfl) t0
  obtain ⟨a1, rfl, rfl, rfl, h1⟩ := open_int Try.underlying3 (hval 1 3 v1 rfl rfl) t1
  obtain ⟨a2, rfl, rfl, rfl, h2⟩ := open_int Try.underlying3 (hval 2 3 v2 rfl rfl) t2
  obtain ⟨a3, rfl, rfl, rfl, h3⟩ := open_int Try.underlying24 (hval 3 24 v3 rfl rfl) t3
  have k4 := t4
  have lt4 : ∀ x ∈ p4, x.block < W.heap.size := by obtain ⟨m, hm⟩ := k4; exact DataW.trod_lt m _ _ _ hm
  obtain ⟨a4, c4, z4, rfl, h4, g4⟩ := Stp.open_pool (hval 4 23 v4 rfl rfl) t4
  clear hA0 hval0
  refine (walk_SlotsNone a0 a1 a2 a3 a4 c4 z4 W h0 h1 h2 h3 h4 g4).mono fun e W' ⟨he, hnx⟩ => ?_
  subst he
  exact ⟨_, rfl, ⟨_, _, _, [], _, [], hW', trodAll_cons_mk (shut_bool Try.underlying4 _) trodAll_mk0, (trodAll_cons_mk (shut_int Try.underlying3 h0) (trodAll_cons_mk (shut_int Try.underlying3 h1) (trodAll_cons_mk (shut_int Try.underlying3 h2) (trodAll_cons_mk (shut_int Try.underlying24 h3) (trodAll_cons_mk (Below.trod Stp.laidOut (by kernel_rfl) (of_decide_eq_true (by kernel_rfl)) k4 hnx lt4) trodAll_mk0))))), rfl, hnx.frame _, fun h => by cases h⟩⟩

theorem slotsNone_holds : Rows.SlotsNoneSaid :=
  OpenClaim.holds_of_wide 5 Try.f5 rfl rfl rfl rfl rfl rfl rfl ⟨rfl, rfl, rfl, rfl, rfl⟩ rfl rfl rfl rfl rfl (by kernel_rfl) Try.func5 (by kernel_rfl)
    (of_decide_eq_true (by kernel_rfl)) (by unfold Func.isWrapper; first | (rw [if_pos (by decide +kernel)]; kernel_rfl) | (rw [if_neg (by decide +kernel)]; exact ⟨rfl, rfl⟩))
    (fun os started H enc _ => lifted_SlotsNone os started H enc)

#print axioms slotsNone_holds
end Go.Proofs.Ytefdnnmgmdaapaa
