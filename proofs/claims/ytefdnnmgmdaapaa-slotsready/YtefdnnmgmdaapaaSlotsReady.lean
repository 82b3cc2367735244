/-
  SlotsReady: for every n, l, i, p and h the law SlotsReady answers true: nothing is read of a slot that is being built, or spoilt; of one that is ready just its own pool is, whatever is done to others. No condition.
-/
import Derived.Test.YtefdnnmgmdaapaaRows
import Derived.Test.YtefdnnmgmdaapaaBPol
import Derived.Test.YtefdnnmgmdaapaaSts
import Derived.Test.YtefdnnmgmdaapaaSlsV
import Derived.Test.YtefdnnmgmdaapaaRinCp
import Derived.BigQuiet
import Derived.WalkSmall
import Derived.ProofKit
import Derived.OpenShut
import Derived.ChangeMaps5
namespace Go.Proofs.Ytefdnnmgmdaapaa
open Go.ChangeShapes Go.WideShapes Go.ChangeAt Go.RowKit Go.Shelf
open Go.ChangeMaps (open_string shut_string)
open Sls Slo
open Pol (Bk polV chk chkV)
open Pts (ofL hsh)
open Rin (succL)

set_option maxRecDepth 100000 in
set_option maxHeartbeats 4000000 in
theorem walk_SlotsReady (n : Int) (a1 : Option Addr) (c1 : Nat) (z1 : List ActM) (i : Int) (a3 : Option Addr) (c3 : Nat) (z3 : List Bk) (h : Int) (w : World) (_h0 : (Lit.int .i64 n).wf = true) (h1 : RowG.Lies actM w a1 c1 z1) (g1 : ∀ x ∈ z1, ActOk w x) (_h2 : (Lit.int .i64 i).wf = true) (h3 : Pol.Lies w a3 c3 z3) (_g3 : ∀ x ∈ z3, Stp.BkOk x) (_h4 : (Lit.int .u64 h).wf = true) :
    Calls Try.prog 3 #[.int .i64 n, RowG.rowV a1 c1 z1, .int .i64 i, polV a3 c3 z3, .int .u64 h] w fun e W' => e = .returned (.bool true) ∧ Below w.heap.size w W' := by
  have H1 := Lib.hid h1
  have G1 := Lib.hid g1
  have hC1 := h1.len
  have hM1 := h1.max
  have H3 := Lib.hid h3
  have hC3 := h3.len
  have hM3 := h3.max
  unfold maxLen at hM1 hM3
  clear h1 h3 g1
  cases hf : decide (fewE z1) with
  | false =>
    have HF := Lib.hid hf
    go_enter Try.func3, Try.ntmps3
    go_wp2_with fail
    refine (works_any _).mono ?_
    rintro e w1 ⟨rfl, hb⟩
    have B1 := Lib.hid hb
    clear hb
    have F := Lib.hid (few_any a1 c1 z1 w1 (H1.out.kept B1.out))
    rw [HF.out] at F
    go_wp2_with fail
    refine F.out.mono ?_
    rintro e w2 ⟨rfl, rfl⟩
    go_wp2_with fail
    go_ret
    exact ⟨rfl, B1.out⟩
  | true =>
    have HF := Lib.hid hf
    have l1 : z1.length ≤ 30 := (of_decide_eq_true hf).1
    clear hf
    by_cases g3 : 8 < z3.length
    · have d4 : decide ((8 : Int) < (z3.length : Int)) = true := decide_eq_true (by omega)
      have d5 : decide (8 < z3.length) = true := decide_eq_true g3
      go_enter Try.func3, Try.ntmps3
      go_wp2_with fail
      refine (works_any _).mono ?_
      rintro e w1 ⟨rfl, hb⟩
      have B1 := Lib.hid hb
      clear hb
      have F := Lib.hid (few_any a1 c1 z1 w1 (H1.out.kept B1.out))
      rw [HF.out] at F
      go_wp2_with fail
      refine F.out.mono ?_
      rintro e w2 ⟨rfl, rfl⟩
      go_wp2_with fail
      go_ret
      exact ⟨rfl, B1.out⟩
    have d4 : decide ((8 : Int) < (z3.length : Int)) = false := decide_eq_false (by omega)
    have d5 : decide (8 < z3.length) = false := decide_eq_false g3
    by_cases g0 : i < 0
    · have e_g0 : decide (i < 0) = true := decide_eq_true g0
      go_enter Try.func3, Try.ntmps3
      go_wp2_with fail
      refine (works_any _).mono ?_
      rintro e w1 ⟨rfl, hb⟩
      have B1 := Lib.hid hb
      clear hb
      have F := Lib.hid (few_any a1 c1 z1 w1 (H1.out.kept B1.out))
      rw [HF.out] at F
      go_wp2_with fail
      refine F.out.mono ?_
      rintro e w2 ⟨rfl, rfl⟩
      go_wp2_with fail
      go_ret
      exact ⟨rfl, B1.out⟩
    have e_g0 : decide (i < 0) = false := decide_eq_false g0
    by_cases g2 : n ≤ i
    · have e_g2 : decide (n ≤ i) = true := decide_eq_true g2
      go_enter Try.func3, Try.ntmps3
      go_wp2_with fail
      refine (works_any _).mono ?_
      rintro e w1 ⟨rfl, hb⟩
      have B1 := Lib.hid hb
      clear hb
      have F := Lib.hid (few_any a1 c1 z1 w1 (H1.out.kept B1.out))
      rw [HF.out] at F
      go_wp2_with fail
      refine F.out.mono ?_
      rintro e w2 ⟨rfl, rfl⟩
      go_wp2_with fail
      go_ret
      exact ⟨rfl, B1.out⟩
    have e_g2 : decide (n ≤ i) = false := decide_eq_false g2
    by_cases g5 : 8 ≤ i
    · have e_g5 : decide (8 ≤ i) = true := decide_eq_true g5
      go_enter Try.func3, Try.ntmps3
      go_wp2_with fail
      refine (works_any _).mono ?_
      rintro e w1 ⟨rfl, hb⟩
      have B1 := Lib.hid hb
      clear hb
      have F := Lib.hid (few_any a1 c1 z1 w1 (H1.out.kept B1.out))
      rw [HF.out] at F
      go_wp2_with fail
      refine F.out.mono ?_
      rintro e w2 ⟨rfl, rfl⟩
      go_wp2_with fail
      go_ret
      exact ⟨rfl, B1.out⟩
    have e_g5 : decide (8 ≤ i) = false := decide_eq_false g5
    have HI := Lib.hid (show Is (new n : List (Slot (List Bk))) i from is_new.2 (by omega))
    obtain ⟨b, hr⟩ : ∃ b, rightB z3 = b := ⟨_, rfl⟩
    have HR := Lib.hid hr
    clear hr
    go_enter Try.func3, Try.ntmps3
    go_wp2_with fail
    refine (works_any _).mono ?_
    rintro e w1 ⟨rfl, hb⟩
    have B1 := Lib.hid hb
    clear hb
    have F := Lib.hid (few_any a1 c1 z1 w1 (H1.out.kept B1.out))
    rw [HF.out] at F
    go_wp2_with fail
    refine F.out.mono ?_
    rintro e w2 ⟨rfl, rfl⟩
    have C := Lib.hid (new_stand n w w2 B1.out)
    generalize (new n : List (Slot (List Bk))) = l0 at *
    obtain ⟨s1, s2, s3, e1, e2, e3, e4, e5, s5, e6, e7⟩ := ready_at HI.out z1 z3 b HR.out
    have E1 := Lib.hid e1
    have E2 := Lib.hid e2
    have E3 := Lib.hid e3
    have E4 := Lib.hid e4
    have E5 := Lib.hid e5
    have E6 := Lib.hid e6
    have E7 := Lib.hid e7
    clear F e1 e2 e3 e4 e5 e6 e7
    go_wp2_with fail
    refine C.out.mono ?_
    rintro e w3 ⟨f, rfl, S3⟩
    have HS3 := Lib.hid S3
    clear C S3
    go_wp2_with fail
    go_loopw [13] (fun i W => ∃ k : Nat, k ≤ z1.length ∧ i = .int .i64 k ∧ Stand w W f (runs rightB l0 (firsts z1 k))) (fun i _ => z1.length - (intOf i).toNat)
    case atStart => exact ⟨0, Nat.zero_le _, rfl, HS3.out⟩
    case round =>
      clear HS3
      obtain ⟨k, hk, rfl, S0⟩ := hrel
      have S := Lib.hid S0
      clear S0
      by_cases hlt : k < z1.length
      · obtain ⟨o, off, rfl, q0, q1, q2⟩ := lies_actM (H1.out.kept S.out.below) hlt
        have D := Lib.hid (do_stand S.out z1[k] (pol_lies (G1.out _ (List.getElem_mem hlt)).lies))
        rw [← runs_next hlt l0] at D
        have hk1 : k + 1 ≤ z1.length := hlt
        generalize z1[k] = x at *
        generalize hS : runs rightB l0 (firsts z1 (k + 1)) = sn at *
        have HS := Lib.hid hS
        clear hS
        go_wp2_with fail
        refine D.out.mono ?_
        rintro e w4 ⟨rfl, S4⟩
        have HS4 := Lib.hid S4
        clear D S S4
        go_wp2_with fail
        refine ⟨⟨k + 1, hk1, by go_num, by rw [HS.out]; exact HS4.out⟩, by simp [intOf]; omega⟩
      · obtain rfl : k = z1.length := by omega
        have D5 := Lib.hid (begin_stand S.out i)
        rw [E1.out] at D5
        go_wp2_with fail
        refine D5.out.mono ?_
        rintro e w5 ⟨rfl, S5⟩
        have D6 := Lib.hid (pick_stand S5 i h)
        rw [pick_none E2.out h] at D6
        clear D5 S
        go_wp2_with fail
        refine D6.out.mono ?_
        rintro e w6 ⟨rfl, S6⟩
        have D7 := Lib.hid (fill_stand S6 i a3 c3 z3 H3.out)
        rw [E3.out] at D7
        clear D6 S5
        go_wp2_with fail
        refine D7.out.mono ?_
        rintro e w7 ⟨rfl, S7⟩
        have D8 := Lib.hid (fill_stand S7 i a3 c3 z3 H3.out)
        rw [E4.out] at D8
        clear D7 S6
        go_wp2_with fail
        refine D8.out.mono ?_
        rintro e w8 ⟨rfl, S8⟩
        have HS8 := Lib.hid S8
        clear D8 S7 S8 E1 E2 E3 E4
        go_wp2_with fail
        go_loopw [19] (fun j W => ∃ k : Nat, k ≤ z1.length ∧ j = .int .i64 k ∧ Stand w W f (runs rightB s3 (others z1 i k))) (fun j _ => z1.length - (intOf j).toNat)
        case atStart => exact ⟨0, Nat.zero_le _, rfl, HS8.out⟩
        case round =>
          clear HS8
          obtain ⟨k, hk, rfl, S⟩ := hrel
          have S9 := Lib.hid S
          clear S
          by_cases hlt : k < z1.length
          · obtain ⟨o, off, rfl, q0, q1, q2⟩ := lies_actM (H1.out.kept S9.out.below) hlt
            have D := Lib.hid (do_stand S9.out z1[k] (pol_lies (G1.out _ (List.getElem_mem hlt)).lies))
            have hk1 : k + 1 ≤ z1.length := hlt
            by_cases hx : z1[k].i = i
            · have HS := Lib.hid (runs_same hlt s3 hx)
              have e0 : (z1[k].i == i) = true := by rw [hx]; exact beq_self_eq_true _
              clear D hx
              generalize z1[k] = x at *
              go_wp2_with fail
              refine ⟨⟨k + 1, hk1, by go_num, by rw [HS.out]; exact S9.out⟩, by simp [intOf]; omega⟩
            · have HS := Lib.hid (runs_other hlt s3 hx)
              have e0 : (z1[k].i == i) = false := beq_false_of_ne hx
              rw [← HS.out] at D
              clear hx HS
              generalize hS : runs rightB s3 (others z1 i (k + 1)) = sn at *
              have HT := Lib.hid hS
              clear hS
              generalize z1[k] = x at *
              go_wp2_with fail
              refine D.out.mono ?_
              rintro e w10 ⟨rfl, S10⟩
              have HS10 := Lib.hid S10
              clear D S9 S10
              go_wp2_with fail
              refine ⟨⟨k + 1, hk1, by go_num, by rw [HT.out]; exact HS10.out⟩, by simp [intOf]; omega⟩
          · obtain rfl : k = z1.length := by omega
            have S13 := S9.out
            generalize runs rightB s3 (others z1 i z1.length) = s4 at *
            cases b with
            | false =>
              rw [if_neg (by decide)] at E5
              have D14 := Lib.hid (pick_stand S13 i h)
              rw [pick_none E5.out h] at D14
              clear S9
              go_wp2_with fail
              refine D14.out.mono ?_
              rintro e w14 ⟨rfl, S14⟩
              have D15 := Lib.hid (size_stand S14 i)
              rw [size_none E5.out] at D15
              clear D14 S13
              go_wp2_with fail
              refine D15.out.mono ?_
              rintro e w15 ⟨rfl, S15⟩
              have D16 := Lib.hid (spoil_stand S15 i)
              rw [E6.out] at D16
              clear D15 S14
              go_wp2_with fail
              refine D16.out.mono ?_
              rintro e w16 ⟨rfl, S16⟩
              have D17 := Lib.hid (pick_stand S16 i h)
              rw [pick_none E7.out h] at D17
              clear D16 S15
              go_wp2_with fail
              refine D17.out.mono ?_
              rintro e w17 ⟨rfl, S17⟩
              have K17 := Lib.hid (check_at a3 c3 z3 false HR.out w17 (H3.out.kept S17.below))
              have B17 := Lib.hid S17.below
              simp only [chkV] at K17
              clear D17 S16 S17
              go_wp2_with fail
              refine K17.out.mono ?_
              rintro e w18 ⟨rfl, hb⟩
              have B18 := Lib.hid (RowG.below2 B17.out hb)
              clear hb K17 B17
              go_wp2_with fail
              go_ret
              exact ⟨rfl, B18.out⟩
            | true =>
              rw [if_pos rfl] at E5
              have D14 := Lib.hid (pick_stand S13 i h)
              rw [pick_some E5.out h] at D14
              clear S9
              go_wp2_with fail
              refine D14.out.mono ?_
              rintro e w14 ⟨rfl, S14⟩
              have D15 := Lib.hid (size_stand S14 i)
              rw [size_some E5.out] at D15
              clear D14 S13
              go_wp2_with fail
              refine D15.out.mono ?_
              rintro e w15 ⟨rfl, S15⟩
              have D16 := Lib.hid (spoil_stand S15 i)
              rw [E6.out] at D16
              clear D15 S14
              go_wp2_with fail
              refine D16.out.mono ?_
              rintro e w16 ⟨rfl, S16⟩
              have D17 := Lib.hid (pick_stand S16 i h)
              rw [pick_none E7.out h] at D17
              clear D16 S15
              go_wp2_with fail
              refine D17.out.mono ?_
              rintro e w17 ⟨rfl, S17⟩
              have K17 := Lib.hid (check_at a3 c3 z3 true HR.out w17 (H3.out.kept S17.below))
              have B17 := Lib.hid S17.below
              simp only [chkV] at K17
              clear D17 S16 S17
              go_wp2_with fail
              refine K17.out.mono ?_
              rintro e w18 ⟨rfl, hb⟩
              have B18 := Lib.hid (RowG.below2 B17.out hb)
              have R18 := Lib.hid (Rin.Pick_told a3 c3 z3 h w18 (H3.out.kept B18.out) (by omega))
              generalize succL (ofL hsh z3) h = to at *
              clear hb K17 B17
              go_wp2_with fail
              refine R18.out.mono ?_
              rintro e w19 ⟨rfl, hb⟩
              have B19 := Lib.hid (RowG.below2 B18.out hb)
              clear hb R18 B18
              go_wp2_with fail
              go_ret
              exact ⟨rfl, B19.out⟩

theorem own_SlotsReady : ownKnob Try.prog.godebug = none := by kernel_rfl
set_option maxRecDepth 100000 in
set_option maxHeartbeats 800000 in
theorem lifted_SlotsReady (os : Os) (started : os.Started) (H : Type) (enc : TypeId × Value → H) :
    ReturnsInHanded {} Try.checked os 3 .any (Rows.slotsReadySpec.pre6 enc Try.prog Try.f3 Rows.slotsReadyRow.domain false) (Rows.slotsReadySpec.post enc Try.prog Try.f3 false true false false) := by
  refine returnsInHanded_of_change (C := Try.checked) own_SlotsReady started (by kernel_rfl) Try.func3
    (ChangeSpec.witness6 (enc := enc) (C := Try.checked) false ⟨#[], #[.int .i64 0, .slice none 0 0, .int .i64 0, .slice none 0 0, .int .u64 0], []⟩ 8 (by kernel_rfl) (by kernel_rfl) (by kernel_rfl) (by kernel_rfl)) ?_
  intro W base args ds gs before hval0 hW _ _
  have hval : ∀ (j : Nat) t v, Try.f3.params[j]? = some t → args[j]? = some v → Value.okWide Try.prog W .any base t v := hval0
  have hW' := hW
  obtain ⟨p, q, hA0, hV, rfl, _, _⟩ := hW
  have hA : DataW.TrodAll enc Try.prog W 0 (fun _ => true) true Try.f3.params.toList args.toList ds p := hA0
  rw [Try.params3] at hA hval
  obtain ⟨v0, vs0, d0, ds0, p0, q0, ha0, rfl, rfl, t0, r0⟩ := trodAll_cons hA
  obtain ⟨v1, vs1, d1, ds1, p1, q1, ha1, rfl, rfl, t1, r1⟩ := trodAll_cons r0
  obtain ⟨v2, vs2, d2, ds2, p2, q2, ha2, rfl, rfl, t2, r2⟩ := trodAll_cons r1
  obtain ⟨v3, vs3, d3, ds3, p3, q3, ha3, rfl, rfl, t3, r3⟩ := trodAll_cons r2
  obtain ⟨v4, vs4, d4, ds4, p4, q4, ha4, rfl, rfl, t4, r4⟩ := trodAll_cons r3
  obtain ⟨rfl, rfl, rfl⟩ := trodAll_nil r4
  subst ha4
  subst ha3
  subst ha2
  subst ha1
  obtain rfl : args = #[v0, v1, v2, v3, v4] := by cases args; simp_all
  obtain ⟨rfl, rfl⟩ := trodVars_none hV
  obtain ⟨a0, rfl, rfl, rfl, h0⟩ := open_int Try.underlying3 (hval 0 3 v0 rfl rfl) t0
  have k1 := t1
  have lt1 : ∀ x ∈ p1, x.block < W.heap.size := by obtain ⟨m, hm⟩ := k1; exact DataW.trod_lt m _ _ _ hm
  obtain ⟨a1, c1, z1, rfl, h1, g1⟩ := Sts.open_sacts (hval 1 22 v1 rfl rfl) t1
  obtain ⟨a2, rfl, rfl, rfl, h2⟩ := open_int Try.underlying3 (hval 2 3 v2 rfl rfl) t2
  have k3 := t3
  have lt3 : ∀ x ∈ p3, x.block < W.heap.size := by obtain ⟨m, hm⟩ := k3; exact DataW.trod_lt m _ _ _ hm
  obtain ⟨a3, c3, z3, rfl, h3, g3⟩ := Stp.open_pool (hval 3 23 v3 rfl rfl) t3
  obtain ⟨a4, rfl, rfl, rfl, h4⟩ := open_int Try.underlying24 (hval 4 24 v4 rfl rfl) t4
  clear hA0 hval0
  refine (walk_SlotsReady a0 a1 c1 z1 a2 a3 c3 z3 a4 W h0 h1 g1 h2 h3 g3 h4).mono fun e W' ⟨he, hnx⟩ => ?_
  subst he
  exact ⟨_, rfl, ⟨_, _, _, [], _, [], hW', trodAll_cons_mk (shut_bool Try.underlying4 _) trodAll_mk0, (trodAll_cons_mk (shut_int Try.underlying3 h0) (trodAll_cons_mk (Below.trod Sts.laidOut (by kernel_rfl) (of_decide_eq_true (by kernel_rfl)) k1 hnx lt1) (trodAll_cons_mk (shut_int Try.underlying3 h2) (trodAll_cons_mk (Below.trod Stp.laidOut (by kernel_rfl) (of_decide_eq_true (by kernel_rfl)) k3 hnx lt3) (trodAll_cons_mk (shut_int Try.underlying24 h4) trodAll_mk0))))), rfl, hnx.frame _, fun h => by cases h⟩⟩

theorem slotsReady_holds : Rows.SlotsReadySaid :=
  OpenClaim.holds_of_wide 3 Try.f3 rfl rfl rfl rfl rfl rfl rfl ⟨rfl, rfl, rfl, rfl, rfl⟩ rfl rfl rfl rfl rfl (by kernel_rfl) Try.func3 (by kernel_rfl)
    (of_decide_eq_true (by kernel_rfl)) (by unfold Func.isWrapper; first | (rw [if_pos (by decide +kernel)]; kernel_rfl) | (rw [if_neg (by decide +kernel)]; exact ⟨rfl, rfl⟩))
    (fun os started H enc _ => lifted_SlotsReady os started H enc)

#print axioms slotsReady_holds
end Go.Proofs.Ytefdnnmgmdaapaa
