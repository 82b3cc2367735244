/-
  ModelMakes: for every t, p, key, closing, now and idle the law ModelMakes answers true: a flow that is made goes to where the ring says; what closes is gone; what fails changes nothing. No condition.
-/
import Derived.Test.YtbamodkgagcmnaaGreatRows
import Derived.Test.YtbamodkgagcmnaaGreatBPolM
import Derived.Test.YtbamodkgagcmnaaGreatBTabM
import Derived.Test.YtbamodkgagcmnaaGreatMdlRM
import Derived.Test.YtbamodkgagcmnaaGreatBPrfM
import Derived.Test.YtbamodkgagcmnaaGreatBPrbM
import Derived.Deep.RegionHeld3
import Derived.BigQuiet
import Derived.WalkSmall
import Derived.ProofKit
import Derived.OpenShut
import Derived.ChangeMaps5
set_option maxRecDepth 100000
namespace Go.Proofs.YtbamodkgagcmnaaGreat
open Go.ChangeShapes Go.WideShapes Go.ChangeAt Go.RowKit Go.Shelf RowG
open Go.ChangeMaps (open_string shut_string)
open Mdl
open Mdo (CfgOk StM stK StOk)
open Pol (polV chk)
open Go.Proofs.YtbamodkgagcmnaaGreat.Mod (smallB okB ansV ansC opV opC cfgV Ans Mo)

attribute [local go_sem] Oper.semAt_some

set_option maxRecDepth 100000 in
set_option maxHeartbeats 6000000 in
theorem walk_ModelMakes (a0 : Option Addr) (c0 : Nat) (z0 : List Tab.Ent) (a1 : Option Addr) (c1 : Nat) (z1 : List Pol.Bk) (a2 : ByteArray) (a3 : Bool) (a4 a5 : Int) (w : World) (h0 : Lies entK w a0 c0 z0) (g0 : ∀ x ∈ z0, EntOk x) (h1 : Pol.Lies w a1 c1 z1) (_g1 : ∀ x ∈ z1, Stp.BkOk x) (h2 : a2.size ≤ maxLen) (_h4 : (Lit.int .i64 a4).wf = true) (_h5 : (Lit.int .i64 a5).wf = true) :
    Calls Tryz.prog 6 #[rowV a0 c0 z0, polV a1 c1 z1, .string a2, .bool a3, .int .i64 a4, .int .i64 a5] w fun e W' => e = .returned (.bool true) ∧ Below w.heap.size w W' := by
  have H0 := Lib.hid h0
  have H1 := Lib.hid h1
  have G0 := Lib.hid g0
  have hM0 := h0.max
  have hN0 := h0.len
  have hM1 := h1.max
  have hN1 := h1.len
  unfold maxLen at hM0 hM1 h2
  clear h0 h1 g0
  cases hfw : decide (Prb.few z0) with
  | false =>
    go_enter Tryz.func6, Tryz.ntmps6
    go_wp2_with fail
    refine (works_any _).mono ?_
    rintro e w1 ⟨rfl, hb⟩
    have B1 := Lib.hid hb
    have FW := Lib.hid (Prb.refFew_any a0 c0 z0 w1 (H0.out.kept hb) G0.out)
    rw [hfw] at FW
    clear hb
    go_wp2_with fail
    refine FW.out.mono ?_
    rintro e w2 ⟨rfl, rfl⟩
    clear FW
    go_wp2_with fail
    go_ret
    exact ⟨rfl, B1.out⟩
  | true =>
    by_cases n0 : 64 < z0.length
    · have n0_0 : decide ((64 : Int) < (z0.length : Int)) = true := decide_eq_true (by omega)
      have n0_1 : decide (64 < z0.length) = true := decide_eq_true (by omega)
      go_enter Tryz.func6, Tryz.ntmps6
      go_wp2_with fail
      refine (works_any _).mono ?_
      rintro e w1 ⟨rfl, hb⟩
      have B1 := Lib.hid hb
      have FW := Lib.hid (Prb.refFew_any a0 c0 z0 w1 (H0.out.kept hb) G0.out)
      rw [hfw] at FW
      clear hb
      go_wp2_with fail
      refine FW.out.mono ?_
      rintro e w2 ⟨rfl, rfl⟩
      clear FW
      go_wp2_with fail
      go_ret
      exact ⟨rfl, B1.out⟩
    have n0_0 : decide ((64 : Int) < (z0.length : Int)) = false := decide_eq_false (by omega)
    have n0_1 : decide (64 < z0.length) = false := decide_eq_false (by omega)
    by_cases n1 : 8 < z1.length
    · have n1_0 : decide ((8 : Int) < (z1.length : Int)) = true := decide_eq_true (by omega)
      have n1_1 : decide (8 < z1.length) = true := decide_eq_true (by omega)
      go_enter Tryz.func6, Tryz.ntmps6
      go_wp2_with fail
      refine (works_any _).mono ?_
      rintro e w1 ⟨rfl, hb⟩
      have B1 := Lib.hid hb
      have FW := Lib.hid (Prb.refFew_any a0 c0 z0 w1 (H0.out.kept hb) G0.out)
      rw [hfw] at FW
      clear hb
      go_wp2_with fail
      refine FW.out.mono ?_
      rintro e w2 ⟨rfl, rfl⟩
      clear FW
      go_wp2_with fail
      go_ret
      exact ⟨rfl, B1.out⟩
    have n1_0 : decide ((8 : Int) < (z1.length : Int)) = false := decide_eq_false (by omega)
    have n1_1 : decide (8 < z1.length) = false := decide_eq_false (by omega)
    by_cases n2 : 60 < a2.size
    · have n2_0 : decide ((60 : Int) < (a2.size : Int)) = true := decide_eq_true (by omega)
      have n2_1 : decide (60 < a2.size) = true := decide_eq_true (by omega)
      go_enter Tryz.func6, Tryz.ntmps6
      go_wp2_with fail
      refine (works_any _).mono ?_
      rintro e w1 ⟨rfl, hb⟩
      have B1 := Lib.hid hb
      have FW := Lib.hid (Prb.refFew_any a0 c0 z0 w1 (H0.out.kept hb) G0.out)
      rw [hfw] at FW
      clear hb
      go_wp2_with fail
      refine FW.out.mono ?_
      rintro e w2 ⟨rfl, rfl⟩
      clear FW
      go_wp2_with fail
      go_ret
      exact ⟨rfl, B1.out⟩
    have n2_0 : decide ((60 : Int) < (a2.size : Int)) = false := decide_eq_false (by omega)
    have n2_1 : decide (60 < a2.size) = false := decide_eq_false (by omega)
    by_cases hchk : chk z1
    · have hs0 : Flo.Short 60 z0 := (of_decide_eq_true hfw).2
      have HS0 := Lib.hid hs0
      have hl0 : z0.length ≤ 64 := by omega
      have hl1 : z1.length ≤ 1000000000 := by omega
      have hk : a2.size ≤ 60 := by omega
      have hmk := Mod.makes (home := Prb.home) (pick := pickK) (T := z0) (p := z1) (k := a2) (now := a4) (dl := IntKind.i64.wrap (a4 + a5)) (c := a3) (u := (Mod.deals Prb.home pickK z0 z1 a2 a3 a4 (IntKind.i64.wrap (a4 + a5))).1) (a := (Mod.deals Prb.home pickK z0 z1 a2 a3 a4 (IntKind.i64.wrap (a4 + a5))).2) (fun hp => pick_ok z1 a2 ((good_iff z1).1 hchk) hp) rfl
      have HSM := Lib.hid (deals_small hl0 hs0 hk z1 a3 a4 (IntKind.i64.wrap (a4 + a5)))
      have HCK := Lib.hid hchk
      have DD := Lib.hid (fun (W : World) (h0 : Lies entK W a0 c0 z0) (h1 : Pol.Lies W a1 c1 z1) => decide_told (w := W) a3 a4 a5 h0 h1 hk hs0 hl0 hl1)
      generalize (Mod.deals Prb.home pickK z0 z1 a2 a3 a4 (IntKind.i64.wrap (a4 + a5))).1 = u at *
      generalize (Mod.deals Prb.home pickK z0 z1 a2 a3 a4 (IntKind.i64.wrap (a4 + a5))).2 = y at *
      have FU := Lib.hid (fun (W : World) ua uc (h : Lies entK W ua uc u) => Prb.Find_told ua uc u a2 W h (by omega))
      have FT := Lib.hid (fun (W : World) (h : Lies entK W a0 c0 z0) => Prb.Find_told a0 c0 z0 a2 W h (by omega))
      clear hs0 hchk
      obtain ⟨ye, yb, ym, yc⟩ := y
      rcases hmk with ⟨-, q1, q2, ⟨q3, q4⟩ | ⟨q3, q4⟩⟩ | ⟨q0, q1, q2, q3, q4⟩
      · cases q2
        cases q3
        have SM := Lib.hid (fun (W : World) (h : Lies entK W a0 c0 z0) => fun ua uc (h' : Lies entK W ua uc u) => Prb.Same_told ua uc u a0 c0 z0 true ⟨fun _ => rfl, fun _ => q1⟩ W h' h)
        have hz : z1.length = 0 := by rw [q4]; rfl
        have f1 : decide ((z1.length : Int) = 0) = true := decide_eq_true (by omega)
        have f2 : ((z1.length : Int) == 0) = true := by rw [beq_iff_eq]; omega
        clear hz q4
        clear q1
        have zu1 : decide ((u.length : Int) ≤ Tab.zOf (Tab.find Prb.home u a2)) = false := decide_eq_false (by have := z_lt u a2; omega)
        have zt1 : decide ((z0.length : Int) ≤ Tab.zOf (Tab.find Prb.home z0 a2)) = false := decide_eq_false (by have := z_lt z0 a2; omega)
        go_enter Tryz.func6, Tryz.ntmps6
        go_wp2_with fail
        refine (works_any _).mono ?_
        rintro e w1 ⟨rfl, hb⟩
        have B1 := Lib.hid hb
        have FW := Lib.hid (Prb.refFew_any a0 c0 z0 w1 (H0.out.kept hb) G0.out)
        rw [hfw] at FW
        clear hb
        go_wp2_with fail
        refine FW.out.mono ?_
        rintro e w2 ⟨rfl, rfl⟩
        clear FW
        have CK := Lib.hid (Pol.Check_told a1 c1 z1 true ⟨fun _ => rfl, fun _ => HCK.out⟩ w1 (H1.out.kept B1.out))
        simp only [Pol.chkV] at CK
        go_wp2_with fail
        refine CK.out.mono ?_
        rintro e w2 ⟨rfl, hb⟩
        have B2 := Lib.hid (below2 B1.out hb)
        clear hb CK
        have D1 := Lib.hid (DD.out w2 (H0.out.kept B2.out) (H1.out.kept B2.out))
        go_wp2_with fail
        refine D1.out.mono ?_
        rintro e w3 ⟨ua, uc, rfl, hul, hb⟩
        obtain ⟨xb, ab⟩ := ans_new w3 ⟨11, yb, false, yc⟩
        have B3 := Lib.hid (below2 (below2 B2.out hb) ab)
        have HU := Lib.hid (hul.kept ab)
        have X3 := Lib.hid xb
        have hm3 := hul.max
        have hn3 := hul.len
        unfold maxLen at hm3
        clear D1 hb hul xb ab
        have F1 := Lib.hid (FU.out _ ua uc HU.out)
        go_wp2_with fail
        generalize hv3 : w3.alloc (.cells (ansC ⟨11, yb, false, yc⟩) 39) = v3 at *
        refine F1.out.mono ?_
        rintro e w4 ⟨rfl, hb⟩
        have B4 := Lib.hid (below2 B3.out hb)
        have X4 := Lib.hid (ans_kept X3.out hb)
        have HU4 := Lib.hid (HU.out.kept hb)
        have F2 := Lib.hid (FT.out w4 (H0.out.kept B4.out))
        clear F1 hb X3 HU FU
        go_wp2_with fail
        refine F2.out.mono ?_
        rintro e w5 ⟨rfl, hb⟩
        have B5 := Lib.hid (below2 B4.out hb)
        have X5 := Lib.hid (ans_kept X4.out hb)
        have HU5 := Lib.hid (HU4.out.kept hb)
        obtain ⟨⟨x0, x1, x2, x3⟩, -⟩ := X5.out.cells
        clear F2 hb X4 HU4 FT
        have SM2 := Lib.hid (SM.out _ (H0.out.kept B5.out) ua uc HU5.out)
        clear SM
        go_wp2_with fail
        refine SM2.out.mono ?_
        rintro e w6 ⟨rfl, hb⟩
        have BE := Lib.hid (below2 B5.out hb)
        clear hb SM2
        go_wp2_with fail
        go_ret
        exact ⟨rfl, BE.out⟩
      · cases q2
        cases q3
        have SM := Lib.hid (fun (W : World) (h : Lies entK W a0 c0 z0) => fun ua uc (h' : Lies entK W ua uc u) => Prb.Same_told ua uc u a0 c0 z0 true ⟨fun _ => rfl, fun _ => q1⟩ W h' h)
        have f1 : decide (Tab.zOf (Tab.find Prb.home z0 a2) < 0) = true := decide_eq_true ((Tab.zOf_neg _).2 q4)
        clear q4
        clear q1
        have zu1 : decide ((u.length : Int) ≤ Tab.zOf (Tab.find Prb.home u a2)) = false := decide_eq_false (by have := z_lt u a2; omega)
        have zt1 : decide ((z0.length : Int) ≤ Tab.zOf (Tab.find Prb.home z0 a2)) = false := decide_eq_false (by have := z_lt z0 a2; omega)
        go_enter Tryz.func6, Tryz.ntmps6
        go_wp2_with fail
        refine (works_any _).mono ?_
        rintro e w1 ⟨rfl, hb⟩
        have B1 := Lib.hid hb
        have FW := Lib.hid (Prb.refFew_any a0 c0 z0 w1 (H0.out.kept hb) G0.out)
        rw [hfw] at FW
        clear hb
        go_wp2_with fail
        refine FW.out.mono ?_
        rintro e w2 ⟨rfl, rfl⟩
        clear FW
        have CK := Lib.hid (Pol.Check_told a1 c1 z1 true ⟨fun _ => rfl, fun _ => HCK.out⟩ w1 (H1.out.kept B1.out))
        simp only [Pol.chkV] at CK
        go_wp2_with fail
        refine CK.out.mono ?_
        rintro e w2 ⟨rfl, hb⟩
        have B2 := Lib.hid (below2 B1.out hb)
        clear hb CK
        have D1 := Lib.hid (DD.out w2 (H0.out.kept B2.out) (H1.out.kept B2.out))
        go_wp2_with fail
        refine D1.out.mono ?_
        rintro e w3 ⟨ua, uc, rfl, hul, hb⟩
        obtain ⟨xb, ab⟩ := ans_new w3 ⟨12, yb, false, yc⟩
        have B3 := Lib.hid (below2 (below2 B2.out hb) ab)
        have HU := Lib.hid (hul.kept ab)
        have X3 := Lib.hid xb
        have hm3 := hul.max
        have hn3 := hul.len
        unfold maxLen at hm3
        clear D1 hb hul xb ab
        have F1 := Lib.hid (FU.out _ ua uc HU.out)
        go_wp2_with fail
        generalize hv3 : w3.alloc (.cells (ansC ⟨12, yb, false, yc⟩) 39) = v3 at *
        refine F1.out.mono ?_
        rintro e w4 ⟨rfl, hb⟩
        have B4 := Lib.hid (below2 B3.out hb)
        have X4 := Lib.hid (ans_kept X3.out hb)
        have HU4 := Lib.hid (HU.out.kept hb)
        have F2 := Lib.hid (FT.out w4 (H0.out.kept B4.out))
        clear F1 hb X3 HU FU
        go_wp2_with fail
        refine F2.out.mono ?_
        rintro e w5 ⟨rfl, hb⟩
        have B5 := Lib.hid (below2 B4.out hb)
        have X5 := Lib.hid (ans_kept X4.out hb)
        have HU5 := Lib.hid (HU4.out.kept hb)
        obtain ⟨⟨x0, x1, x2, x3⟩, -⟩ := X5.out.cells
        clear F2 hb X4 HU4 FT
        have SM2 := Lib.hid (SM.out _ (H0.out.kept B5.out) ua uc HU5.out)
        clear SM
        go_wp2_with fail
        refine SM2.out.mono ?_
        rintro e w6 ⟨rfl, hb⟩
        have BE := Lib.hid (below2 B5.out hb)
        clear hb SM2
        go_wp2_with fail
        go_ret
        exact ⟨rfl, BE.out⟩
      cases q0
      cases a3 with
      | true =>
        obtain rfl : ym = false := by
          cases ym with
          | false => rfl
          | true => exact absurd (q2 rfl).1 (by decide)
        have Q3 := Lib.hid (q3 rfl).2
        clear q2 q3 q4
        have zu1 : decide ((u.length : Int) ≤ Tab.zOf (Tab.find Prb.home u a2)) = false := decide_eq_false (by have := z_lt u a2; omega)
        have zt1 : decide ((z0.length : Int) ≤ Tab.zOf (Tab.find Prb.home z0 a2)) = false := decide_eq_false (by have := z_lt z0 a2; omega)
        go_enter Tryz.func6, Tryz.ntmps6
        go_wp2_with fail
        refine (works_any _).mono ?_
        rintro e w1 ⟨rfl, hb⟩
        have B1 := Lib.hid hb
        have FW := Lib.hid (Prb.refFew_any a0 c0 z0 w1 (H0.out.kept hb) G0.out)
        rw [hfw] at FW
        clear hb
        go_wp2_with fail
        refine FW.out.mono ?_
        rintro e w2 ⟨rfl, rfl⟩
        clear FW
        have CK := Lib.hid (Pol.Check_told a1 c1 z1 true ⟨fun _ => rfl, fun _ => HCK.out⟩ w1 (H1.out.kept B1.out))
        simp only [Pol.chkV] at CK
        go_wp2_with fail
        refine CK.out.mono ?_
        rintro e w2 ⟨rfl, hb⟩
        have B2 := Lib.hid (below2 B1.out hb)
        clear hb CK
        have D1 := Lib.hid (DD.out w2 (H0.out.kept B2.out) (H1.out.kept B2.out))
        go_wp2_with fail
        refine D1.out.mono ?_
        rintro e w3 ⟨ua, uc, rfl, hul, hb⟩
        obtain ⟨xb, ab⟩ := ans_new w3 ⟨0, yb, false, yc⟩
        have B3 := Lib.hid (below2 (below2 B2.out hb) ab)
        have HU := Lib.hid (hul.kept ab)
        have X3 := Lib.hid xb
        have hm3 := hul.max
        have hn3 := hul.len
        unfold maxLen at hm3
        clear D1 hb hul xb ab
        have F1 := Lib.hid (FU.out _ ua uc HU.out)
        go_wp2_with fail
        generalize hv3 : w3.alloc (.cells (ansC ⟨0, yb, false, yc⟩) 39) = v3 at *
        refine F1.out.mono ?_
        rintro e w4 ⟨rfl, hb⟩
        have B4 := Lib.hid (below2 B3.out hb)
        have X4 := Lib.hid (ans_kept X3.out hb)
        have HU4 := Lib.hid (HU.out.kept hb)
        have F2 := Lib.hid (FT.out w4 (H0.out.kept B4.out))
        clear F1 hb X3 HU FU
        go_wp2_with fail
        refine F2.out.mono ?_
        rintro e w5 ⟨rfl, hb⟩
        have B5 := Lib.hid (below2 B4.out hb)
        have X5 := Lib.hid (ans_kept X4.out hb)
        have HU5 := Lib.hid (HU4.out.kept hb)
        obtain ⟨⟨x0, x1, x2, x3⟩, -⟩ := X5.out.cells
        clear F2 hb X4 HU4 FT
        have q1 : Mod.hasId z1 (yb) = true := q1
        have pf : decide (Pol.find z1 (yb) 0 < 0) = false := by
          have := has_find z1 (yb) 0
          rw [q1] at this
          exact decide_eq_false (by have := of_decide_eq_true this; omega)
        clear q1
        have B5' := B5.out
        have PF := Lib.hid (fun (W : World) (h : Pol.Lies W a1 c1 z1) => Pol.Find_told a1 c1 z1 (yb) W h)
        go_wp2_with fail
        refine wp_region_held_drew (S := fun W => Below w.heap.size w W ∧ W.cell? ⟨w3.heap.size, 1, none⟩ = some (.int .i64 (yb)) ∧ W.cell? ⟨w3.heap.size, 2, none⟩ = some (.bool false)) (by kernel_rfl) ⟨B5'.drew, x1, x2⟩ (fun hHeld => ?_)
        refine wpAnyH_take (i := 0) (v := polV a1 c1 z1) rfl (by kernel_rfl) (by kernel_rfl) (by kernel_rfl) (fun _ _ _ h => h) (Or.inl ⟨by rfl, fun W hS => ?_⟩) (by assumption) ?_
        · dsimp only at hS
          simp only [List.getElem_toArray, List.getElem_cons_zero]
          go_simp
        simp only [List.getElem_toArray, List.getElem_cons_zero, Act.put, List.setIfInBounds_toArray, List.set_cons_zero, List.set_cons_succ]
        refine wpAnyH_take (i := 1) (v := .pointer (some ⟨w3.heap.size, 1, none⟩)) rfl (by kernel_rfl) (by kernel_rfl) (by kernel_rfl) (fun _ _ _ h => h) (Or.inl ⟨by rfl, fun W hS => ?_⟩) (by assumption) ?_
        · dsimp only at hS
          simp only [List.getElem_toArray, List.getElem_cons_zero, List.getElem_cons_succ]
          go_simp
        simp only [List.getElem_toArray, List.getElem_cons_zero, List.getElem_cons_succ, Act.put, List.setIfInBounds_toArray, List.set_cons_zero, List.set_cons_succ]
        refine wpAnyH_take (i := 2) (v := .int .i64 (yb)) rfl (by kernel_rfl) (by kernel_rfl) (by kernel_rfl) (fun _ _ _ h => h) (Or.inl ⟨by rfl, fun W hS => ?_⟩) (by assumption) ?_
        · dsimp only at hS
          simp only [List.getElem_toArray, List.getElem_cons_zero, List.getElem_cons_succ]
          go_simp
        simp only [List.getElem_toArray, List.getElem_cons_zero, List.getElem_cons_succ, Act.put, List.setIfInBounds_toArray, List.set_cons_zero, List.set_cons_succ]
        refine wpAnyH_ready (rs := [3]) (by kernel_rfl) (by simp) ?_
        refine AllReadyH.cons rfl (fun K hK => ?_) AllReadyH.nil
        simp only [List.getElem_toArray, List.getElem_cons_zero, List.getElem_cons_succ]
        go_simp
        go_at_call 34
        refine (PF.out _ (pol_of H1.out (by assumption))).mono ?_
        rintro e w9 ⟨rfl, hb⟩
        go_wp2_with fail
        have hHeld2 := two_keep hHeld hb
        clear hHeld
        refine hK.out _ _ hHeld2 (fun hHeld => ?_)
        clear hK K hHeld2 hb
        refine wpAnyH_take (i := 4) (v := .bool false) rfl (by kernel_rfl) (by kernel_rfl) (by kernel_rfl) (fun _ _ _ h => h) (Or.inl ⟨by rfl, fun W hS => ?_⟩) (by assumption) ?_
        · dsimp only at hS
          simp only [List.getElem_toArray, List.getElem_cons_zero, List.getElem_cons_succ]
          go_simp
        simp only [List.getElem_toArray, List.getElem_cons_zero, List.getElem_cons_succ, Act.put, List.setIfInBounds_toArray, List.set_cons_zero, List.set_cons_succ]
        refine wpAnyH_take (i := 5) (v := .bool false) rfl (by kernel_rfl) (by kernel_rfl) (by kernel_rfl) (fun _ _ _ h => h) (Or.inl ⟨by rfl, fun W hS => ?_⟩) (by assumption) ?_
        · dsimp only at hS
          simp only [List.getElem_toArray, List.getElem_cons_zero, List.getElem_cons_succ]
          go_simp
        simp only [List.getElem_toArray, List.getElem_cons_zero, List.getElem_cons_succ, Act.put, List.setIfInBounds_toArray, List.set_cons_zero, List.set_cons_succ]
        refine wpAnyH_take (i := 6) (v := .pointer (some ⟨w3.heap.size, 2, none⟩)) rfl (by kernel_rfl) (by kernel_rfl) (by kernel_rfl) (fun _ _ _ h => h) (Or.inl ⟨by rfl, fun W hS => ?_⟩) (by assumption) ?_
        · dsimp only at hS
          simp only [List.getElem_toArray, List.getElem_cons_zero, List.getElem_cons_succ]
          go_simp
        simp only [List.getElem_toArray, List.getElem_cons_zero, List.getElem_cons_succ, Act.put, List.setIfInBounds_toArray, List.set_cons_zero, List.set_cons_succ]
        refine wpAnyH_take (i := 7) (v := .bool false) rfl (by kernel_rfl) (by kernel_rfl) (by kernel_rfl) (fun _ _ _ h => h) (Or.inl ⟨by rfl, fun W hS => ?_⟩) (by assumption) ?_
        · dsimp only at hS
          simp only [List.getElem_toArray, List.getElem_cons_zero, List.getElem_cons_succ]
          go_simp
        simp only [List.getElem_toArray, List.getElem_cons_zero, List.getElem_cons_succ, Act.put, List.setIfInBounds_toArray, List.set_cons_zero, List.set_cons_succ]
        refine wpAnyH_take (i := 8) (v := .bool false) rfl (by kernel_rfl) (by kernel_rfl) (by kernel_rfl) (fun _ _ _ h => h) (Or.inl ⟨by rfl, fun W hS => ?_⟩) (by assumption) ?_
        · dsimp only at hS
          simp only [List.getElem_toArray, List.getElem_cons_zero, List.getElem_cons_succ]
          go_simp
        simp only [List.getElem_toArray, List.getElem_cons_zero, List.getElem_cons_succ, Act.put, List.setIfInBounds_toArray, List.set_cons_zero, List.set_cons_succ]
        refine wpAnyH_take (i := 9) (v := undef) rfl (by kernel_rfl) (by kernel_rfl) (by kernel_rfl) (fun _ _ _ h => h) (Or.inr ⟨by rfl, rfl⟩) (by assumption) ?_
        simp only [List.getElem_toArray, List.getElem_cons_zero, List.getElem_cons_succ, Act.put, List.setIfInBounds_toArray, List.set_cons_zero, List.set_cons_succ]
        refine wpAnyH_take (i := 10) (v := undef) rfl (by kernel_rfl) (by kernel_rfl) (by kernel_rfl) (fun _ _ _ h => h) (Or.inr ⟨by rfl, rfl⟩) (by assumption) ?_
        simp only [List.getElem_toArray, List.getElem_cons_zero, List.getElem_cons_succ, Act.put, List.setIfInBounds_toArray, List.set_cons_zero, List.set_cons_succ]
        refine wpAnyH_take (i := 11) (v := undef) rfl (by kernel_rfl) (by kernel_rfl) (by kernel_rfl) (fun _ _ _ h => h) (Or.inr ⟨by rfl, rfl⟩) (by assumption) ?_
        simp only [List.getElem_toArray, List.getElem_cons_zero, List.getElem_cons_succ, Act.put, List.setIfInBounds_toArray, List.set_cons_zero, List.set_cons_succ]
        refine wpAnyH_take (i := 12) (v := undef) rfl (by kernel_rfl) (by kernel_rfl) (by kernel_rfl) (fun _ _ _ h => h) (Or.inr ⟨by rfl, rfl⟩) (by assumption) ?_
        simp only [List.getElem_toArray, List.getElem_cons_zero, List.getElem_cons_succ, Act.put, List.setIfInBounds_toArray, List.set_cons_zero, List.set_cons_succ]
        refine wpAnyH_take (i := 13) (v := undef) rfl (by kernel_rfl) (by kernel_rfl) (by kernel_rfl) (fun _ _ _ h => h) (Or.inr ⟨by rfl, rfl⟩) (by assumption) ?_
        simp only [List.getElem_toArray, List.getElem_cons_zero, List.getElem_cons_succ, Act.put, List.setIfInBounds_toArray, List.set_cons_zero, List.set_cons_succ]
        refine wpAnyH_take (i := 14) (v := undef) rfl (by kernel_rfl) (by kernel_rfl) (by kernel_rfl) (fun _ _ _ h => h) (Or.inr ⟨by rfl, rfl⟩) (by assumption) ?_
        simp only [List.getElem_toArray, List.getElem_cons_zero, List.getElem_cons_succ, Act.put, List.setIfInBounds_toArray, List.set_cons_zero, List.set_cons_succ]
        refine wpAnyH_take (i := 15) (v := undef) rfl (by kernel_rfl) (by kernel_rfl) (by kernel_rfl) (fun _ _ _ h => h) (Or.inr ⟨by rfl, rfl⟩) (by assumption) ?_
        simp only [List.getElem_toArray, List.getElem_cons_zero, List.getElem_cons_succ, Act.put, List.setIfInBounds_toArray, List.set_cons_zero, List.set_cons_succ]
        refine wpAnyH_take (i := 16) (v := .bool false) rfl (by kernel_rfl) (by kernel_rfl) (by kernel_rfl) (fun _ _ _ h => h) (Or.inl ⟨by rfl, fun W hS => ?_⟩) (by assumption) ?_
        · dsimp only at hS
          simp only [List.getElem_toArray, List.getElem_cons_zero, List.getElem_cons_succ]
          go_simp
        simp only [List.getElem_toArray, List.getElem_cons_zero, List.getElem_cons_succ, Act.put, List.setIfInBounds_toArray, List.set_cons_zero, List.set_cons_succ]
        refine wpAnyH_take (i := 17) (v := .bool false) rfl (by kernel_rfl) (by kernel_rfl) (by kernel_rfl) (fun _ _ _ h => h) (Or.inl ⟨by rfl, fun W hS => ?_⟩) (by assumption) ?_
        · dsimp only at hS
          simp only [List.getElem_toArray, List.getElem_cons_zero, List.getElem_cons_succ]
          go_simp
        simp only [List.getElem_toArray, List.getElem_cons_zero, List.getElem_cons_succ, Act.put, List.setIfInBounds_toArray, List.set_cons_zero, List.set_cons_succ]
        refine wpAnyH_done (by kernel_rfl) ?_ _
        obtain ⟨hB9, x1, x2⟩ := hHeld
        have B9 := Lib.hid hB9
        clear hB9 PF
        by_cases zn : Tab.zOf (Tab.find Prb.home u a2) < 0
        · have e0 : decide (Tab.zOf (Tab.find Prb.home u a2) < 0) = true := decide_eq_true zn
          go_wp2_with fail
          go_ret
          exact ⟨rfl, B9.out⟩
        have e0 : decide (Tab.zOf (Tab.find Prb.home u a2) < 0) = false := decide_eq_false zn
        have hr : ¬ Tab.Right Prb.home z0 := by
          rcases Q3.out with h | h
          · exact absurd ((Tab.zOf_neg _).2 h) zn
          · exact h
        have R := Lib.hid (fun (W : World) (h : Lies entK W a0 c0 z0) => Flo.Right_told a0 c0 z0 false ⟨fun h => absurd h hr, fun h => by cases h⟩ W h (fun x hx => by have := HS0.out x hx; omega))
        clear hr zn
        go_wp2_with fail
        refine (R.out _ (H0.out.kept B9.out)).mono ?_
        rintro e w10 ⟨rfl, hb⟩
        have BE := Lib.hid (below2 B9.out hb)
        clear hb R
        go_wp2_with fail
        go_ret
        exact ⟨rfl, BE.out⟩
      | false =>
        obtain ⟨-, -, q, hq, hf, he⟩ := q4 rfl
        clear q3
        rw [hf] at FU
        simp only [Tab.zOf] at FU
        have hx := (Tab.ent_at hq).symm.trans he
        clear hf he q4
        cases ym with
        | false =>
          have HX := Lib.hid (show u[q] = ⟨1, a2, yb, IntKind.i64.wrap (a4 + a5)⟩ from hx)
          clear q2 hx
          have zu1 : decide ((u.length : Int) ≤ (q : Int)) = false := decide_eq_false (by omega)
          have zt1 : decide ((z0.length : Int) ≤ Tab.zOf (Tab.find Prb.home z0 a2)) = false := decide_eq_false (by have := z_lt z0 a2; omega)
          go_enter Tryz.func6, Tryz.ntmps6
          go_wp2_with fail
          refine (works_any _).mono ?_
          rintro e w1 ⟨rfl, hb⟩
          have B1 := Lib.hid hb
          have FW := Lib.hid (Prb.refFew_any a0 c0 z0 w1 (H0.out.kept hb) G0.out)
          rw [hfw] at FW
          clear hb
          go_wp2_with fail
          refine FW.out.mono ?_
          rintro e w2 ⟨rfl, rfl⟩
          clear FW
          have CK := Lib.hid (Pol.Check_told a1 c1 z1 true ⟨fun _ => rfl, fun _ => HCK.out⟩ w1 (H1.out.kept B1.out))
          simp only [Pol.chkV] at CK
          go_wp2_with fail
          refine CK.out.mono ?_
          rintro e w2 ⟨rfl, hb⟩
          have B2 := Lib.hid (below2 B1.out hb)
          clear hb CK
          have D1 := Lib.hid (DD.out w2 (H0.out.kept B2.out) (H1.out.kept B2.out))
          go_wp2_with fail
          refine D1.out.mono ?_
          rintro e w3 ⟨ua, uc, rfl, hul, hb⟩
          obtain ⟨xb, ab⟩ := ans_new w3 ⟨0, yb, false, yc⟩
          have B3 := Lib.hid (below2 (below2 B2.out hb) ab)
          have HU := Lib.hid (hul.kept ab)
          have X3 := Lib.hid xb
          have hm3 := hul.max
          have hn3 := hul.len
          unfold maxLen at hm3
          clear D1 hb hul xb ab
          have F1 := Lib.hid (FU.out _ ua uc HU.out)
          go_wp2_with fail
          generalize hv3 : w3.alloc (.cells (ansC ⟨0, yb, false, yc⟩) 39) = v3 at *
          refine F1.out.mono ?_
          rintro e w4 ⟨rfl, hb⟩
          have B4 := Lib.hid (below2 B3.out hb)
          have X4 := Lib.hid (ans_kept X3.out hb)
          have HU4 := Lib.hid (HU.out.kept hb)
          have F2 := Lib.hid (FT.out w4 (H0.out.kept B4.out))
          clear F1 hb X3 HU FU
          go_wp2_with fail
          refine F2.out.mono ?_
          rintro e w5 ⟨rfl, hb⟩
          have B5 := Lib.hid (below2 B4.out hb)
          have X5 := Lib.hid (ans_kept X4.out hb)
          have HU5 := Lib.hid (HU4.out.kept hb)
          obtain ⟨⟨x0, x1, x2, x3⟩, -⟩ := X5.out.cells
          clear F2 hb X4 HU4 FT
          obtain ⟨bq, off, rfl, c0', c1', c2', c3'⟩ := HU5.out.ent hq
          rw [HX.out] at c0' c1' c2' c3'
          have q1 : Mod.hasId z1 (yb) = true := q1
          have pf : decide (Pol.find z1 (yb) 0 < 0) = false := by
            have := has_find z1 (yb) 0
            rw [q1] at this
            exact decide_eq_false (by have := of_decide_eq_true this; omega)
          clear q1
          have B5' := B5.out
          have PF := Lib.hid (fun (W : World) (h : Pol.Lies W a1 c1 z1) => Pol.Find_told a1 c1 z1 (yb) W h)
          go_wp2_with fail
          refine wp_region_held_drew (S := fun W => Below w.heap.size w W ∧ W.cell? ⟨w3.heap.size, 1, none⟩ = some (.int .i64 (yb)) ∧ W.cell? ⟨w3.heap.size, 2, none⟩ = some (.bool false) ∧ W.cell? ⟨bq, off + q * 4, none⟩ = some (.int .i64 1) ∧ W.cell? ⟨bq, off + q * 4 + 1, none⟩ = some (.string a2) ∧ W.cell? ⟨bq, off + q * 4 + 2, none⟩ = some (.int .i64 (yb)) ∧ W.cell? ⟨bq, off + q * 4 + 3, none⟩ = some (.int .i64 (IntKind.i64.wrap (a4 + a5)))) (by kernel_rfl) ⟨B5'.drew, x1, x2, c0', c1', c2', c3'⟩ (fun hHeld => ?_)
          refine wpAnyH_take (i := 0) (v := polV a1 c1 z1) rfl (by kernel_rfl) (by kernel_rfl) (by kernel_rfl) (fun _ _ _ h => h) (Or.inl ⟨by rfl, fun W hS => ?_⟩) (by assumption) ?_
          · dsimp only at hS
            simp only [List.getElem_toArray, List.getElem_cons_zero]
            go_simp
          simp only [List.getElem_toArray, List.getElem_cons_zero, Act.put, List.setIfInBounds_toArray, List.set_cons_zero, List.set_cons_succ]
          refine wpAnyH_take (i := 1) (v := .pointer (some ⟨w3.heap.size, 1, none⟩)) rfl (by kernel_rfl) (by kernel_rfl) (by kernel_rfl) (fun _ _ _ h => h) (Or.inl ⟨by rfl, fun W hS => ?_⟩) (by assumption) ?_
          · dsimp only at hS
            simp only [List.getElem_toArray, List.getElem_cons_zero, List.getElem_cons_succ]
            go_simp
          simp only [List.getElem_toArray, List.getElem_cons_zero, List.getElem_cons_succ, Act.put, List.setIfInBounds_toArray, List.set_cons_zero, List.set_cons_succ]
          refine wpAnyH_take (i := 2) (v := .int .i64 (yb)) rfl (by kernel_rfl) (by kernel_rfl) (by kernel_rfl) (fun _ _ _ h => h) (Or.inl ⟨by rfl, fun W hS => ?_⟩) (by assumption) ?_
          · dsimp only at hS
            simp only [List.getElem_toArray, List.getElem_cons_zero, List.getElem_cons_succ]
            go_simp
          simp only [List.getElem_toArray, List.getElem_cons_zero, List.getElem_cons_succ, Act.put, List.setIfInBounds_toArray, List.set_cons_zero, List.set_cons_succ]
          refine wpAnyH_ready (rs := [3]) (by kernel_rfl) (by simp) ?_
          refine AllReadyH.cons rfl (fun K hK => ?_) AllReadyH.nil
          simp only [List.getElem_toArray, List.getElem_cons_zero, List.getElem_cons_succ]
          go_simp
          go_at_call 34
          refine (PF.out _ (pol_of H1.out (by assumption))).mono ?_
          rintro e w9 ⟨rfl, hb⟩
          go_wp2_with fail
          have hHeld2 := six_keep hHeld hb
          clear hHeld
          refine hK.out _ _ hHeld2 (fun hHeld => ?_)
          clear hK K hHeld2 hb
          refine wpAnyH_take (i := 4) (v := .bool false) rfl (by kernel_rfl) (by kernel_rfl) (by kernel_rfl) (fun _ _ _ h => h) (Or.inl ⟨by rfl, fun W hS => ?_⟩) (by assumption) ?_
          · dsimp only at hS
            simp only [List.getElem_toArray, List.getElem_cons_zero, List.getElem_cons_succ]
            go_simp
          simp only [List.getElem_toArray, List.getElem_cons_zero, List.getElem_cons_succ, Act.put, List.setIfInBounds_toArray, List.set_cons_zero, List.set_cons_succ]
          refine wpAnyH_take (i := 5) (v := .bool false) rfl (by kernel_rfl) (by kernel_rfl) (by kernel_rfl) (fun _ _ _ h => h) (Or.inl ⟨by rfl, fun W hS => ?_⟩) (by assumption) ?_
          · dsimp only at hS
            simp only [List.getElem_toArray, List.getElem_cons_zero, List.getElem_cons_succ]
            go_simp
          simp only [List.getElem_toArray, List.getElem_cons_zero, List.getElem_cons_succ, Act.put, List.setIfInBounds_toArray, List.set_cons_zero, List.set_cons_succ]
          refine wpAnyH_take (i := 6) (v := .pointer (some ⟨w3.heap.size, 2, none⟩)) rfl (by kernel_rfl) (by kernel_rfl) (by kernel_rfl) (fun _ _ _ h => h) (Or.inl ⟨by rfl, fun W hS => ?_⟩) (by assumption) ?_
          · dsimp only at hS
            simp only [List.getElem_toArray, List.getElem_cons_zero, List.getElem_cons_succ]
            go_simp
          simp only [List.getElem_toArray, List.getElem_cons_zero, List.getElem_cons_succ, Act.put, List.setIfInBounds_toArray, List.set_cons_zero, List.set_cons_succ]
          refine wpAnyH_take (i := 7) (v := .bool false) rfl (by kernel_rfl) (by kernel_rfl) (by kernel_rfl) (fun _ _ _ h => h) (Or.inl ⟨by rfl, fun W hS => ?_⟩) (by assumption) ?_
          · dsimp only at hS
            simp only [List.getElem_toArray, List.getElem_cons_zero, List.getElem_cons_succ]
            go_simp
          simp only [List.getElem_toArray, List.getElem_cons_zero, List.getElem_cons_succ, Act.put, List.setIfInBounds_toArray, List.set_cons_zero, List.set_cons_succ]
          refine wpAnyH_take (i := 8) (v := .bool false) rfl (by kernel_rfl) (by kernel_rfl) (by kernel_rfl) (fun _ _ _ h => h) (Or.inl ⟨by rfl, fun W hS => ?_⟩) (by assumption) ?_
          · dsimp only at hS
            simp only [List.getElem_toArray, List.getElem_cons_zero, List.getElem_cons_succ]
            go_simp
          simp only [List.getElem_toArray, List.getElem_cons_zero, List.getElem_cons_succ, Act.put, List.setIfInBounds_toArray, List.set_cons_zero, List.set_cons_succ]
          refine wpAnyH_take (i := 9) (v := undef) rfl (by kernel_rfl) (by kernel_rfl) (by kernel_rfl) (fun _ _ _ h => h) (Or.inr ⟨by rfl, rfl⟩) (by assumption) ?_
          simp only [List.getElem_toArray, List.getElem_cons_zero, List.getElem_cons_succ, Act.put, List.setIfInBounds_toArray, List.set_cons_zero, List.set_cons_succ]
          refine wpAnyH_take (i := 10) (v := undef) rfl (by kernel_rfl) (by kernel_rfl) (by kernel_rfl) (fun _ _ _ h => h) (Or.inr ⟨by rfl, rfl⟩) (by assumption) ?_
          simp only [List.getElem_toArray, List.getElem_cons_zero, List.getElem_cons_succ, Act.put, List.setIfInBounds_toArray, List.set_cons_zero, List.set_cons_succ]
          refine wpAnyH_take (i := 11) (v := undef) rfl (by kernel_rfl) (by kernel_rfl) (by kernel_rfl) (fun _ _ _ h => h) (Or.inr ⟨by rfl, rfl⟩) (by assumption) ?_
          simp only [List.getElem_toArray, List.getElem_cons_zero, List.getElem_cons_succ, Act.put, List.setIfInBounds_toArray, List.set_cons_zero, List.set_cons_succ]
          refine wpAnyH_take (i := 12) (v := undef) rfl (by kernel_rfl) (by kernel_rfl) (by kernel_rfl) (fun _ _ _ h => h) (Or.inr ⟨by rfl, rfl⟩) (by assumption) ?_
          simp only [List.getElem_toArray, List.getElem_cons_zero, List.getElem_cons_succ, Act.put, List.setIfInBounds_toArray, List.set_cons_zero, List.set_cons_succ]
          refine wpAnyH_take (i := 13) (v := undef) rfl (by kernel_rfl) (by kernel_rfl) (by kernel_rfl) (fun _ _ _ h => h) (Or.inr ⟨by rfl, rfl⟩) (by assumption) ?_
          simp only [List.getElem_toArray, List.getElem_cons_zero, List.getElem_cons_succ, Act.put, List.setIfInBounds_toArray, List.set_cons_zero, List.set_cons_succ]
          refine wpAnyH_take (i := 14) (v := undef) rfl (by kernel_rfl) (by kernel_rfl) (by kernel_rfl) (fun _ _ _ h => h) (Or.inr ⟨by rfl, rfl⟩) (by assumption) ?_
          simp only [List.getElem_toArray, List.getElem_cons_zero, List.getElem_cons_succ, Act.put, List.setIfInBounds_toArray, List.set_cons_zero, List.set_cons_succ]
          refine wpAnyH_take (i := 15) (v := undef) rfl (by kernel_rfl) (by kernel_rfl) (by kernel_rfl) (fun _ _ _ h => h) (Or.inr ⟨by rfl, rfl⟩) (by assumption) ?_
          simp only [List.getElem_toArray, List.getElem_cons_zero, List.getElem_cons_succ, Act.put, List.setIfInBounds_toArray, List.set_cons_zero, List.set_cons_succ]
          refine wpAnyH_take (i := 16) (v := .bool false) rfl (by kernel_rfl) (by kernel_rfl) (by kernel_rfl) (fun _ _ _ h => h) (Or.inl ⟨by rfl, fun W hS => ?_⟩) (by assumption) ?_
          · dsimp only at hS
            simp only [List.getElem_toArray, List.getElem_cons_zero, List.getElem_cons_succ]
            go_simp
          simp only [List.getElem_toArray, List.getElem_cons_zero, List.getElem_cons_succ, Act.put, List.setIfInBounds_toArray, List.set_cons_zero, List.set_cons_succ]
          refine wpAnyH_take (i := 17) (v := .bool false) rfl (by kernel_rfl) (by kernel_rfl) (by kernel_rfl) (fun _ _ _ h => h) (Or.inl ⟨by rfl, fun W hS => ?_⟩) (by assumption) ?_
          · dsimp only at hS
            simp only [List.getElem_toArray, List.getElem_cons_zero, List.getElem_cons_succ]
            go_simp
          simp only [List.getElem_toArray, List.getElem_cons_zero, List.getElem_cons_succ, Act.put, List.setIfInBounds_toArray, List.set_cons_zero, List.set_cons_succ]
          refine wpAnyH_done (by kernel_rfl) ?_ _
          obtain ⟨hB9, x1, x2, c0', c1', c2', c3'⟩ := hHeld
          have B9 := Lib.hid hB9
          clear hB9 PF
          have B9' := B9.out
          have tt : (a2.toList == a2.toList) = true := by simp
          have e0 : decide ((0 : Int) ≤ (q : Int)) = true := decide_eq_true (by omega)
          go_wp2_with fail
          go_region_held3 (fun W => Below w.heap.size w W ∧ W.cell? ⟨w3.heap.size, 1, none⟩ = some (.int .i64 (yb)) ∧ W.cell? ⟨bq, off + q * 4, none⟩ = some (.int .i64 1) ∧ W.cell? ⟨bq, off + q * 4 + 1, none⟩ = some (.string a2) ∧ W.cell? ⟨bq, off + q * 4 + 2, none⟩ = some (.int .i64 (yb)) ∧ W.cell? ⟨bq, off + q * 4 + 3, none⟩ = some (.int .i64 (IntKind.i64.wrap (a4 + a5))))
            (first | exact ⟨B9'.drew, x1, c0', c1', c2', c3'⟩) (fail)
          rename_i hHeld
          have BE := Lib.hid hHeld.1
          clear hHeld
          go_wp2_with fail
          go_ret
          exact ⟨rfl, BE.out⟩
        | true =>
          obtain ⟨-, q2⟩ := q2 rfl
          change yb = pickK z1 a2 at q2
          subst q2
          have HX := Lib.hid (show u[q] = ⟨1, a2, pickK z1 a2, IntKind.i64.wrap (a4 + a5)⟩ from hx)
          clear hx
          have zu1 : decide ((u.length : Int) ≤ (q : Int)) = false := decide_eq_false (by omega)
          have zt1 : decide ((z0.length : Int) ≤ Tab.zOf (Tab.find Prb.home z0 a2)) = false := decide_eq_false (by have := z_lt z0 a2; omega)
          go_enter Tryz.func6, Tryz.ntmps6
          go_wp2_with fail
          refine (works_any _).mono ?_
          rintro e w1 ⟨rfl, hb⟩
          have B1 := Lib.hid hb
          have FW := Lib.hid (Prb.refFew_any a0 c0 z0 w1 (H0.out.kept hb) G0.out)
          rw [hfw] at FW
          clear hb
          go_wp2_with fail
          refine FW.out.mono ?_
          rintro e w2 ⟨rfl, rfl⟩
          clear FW
          have CK := Lib.hid (Pol.Check_told a1 c1 z1 true ⟨fun _ => rfl, fun _ => HCK.out⟩ w1 (H1.out.kept B1.out))
          simp only [Pol.chkV] at CK
          go_wp2_with fail
          refine CK.out.mono ?_
          rintro e w2 ⟨rfl, hb⟩
          have B2 := Lib.hid (below2 B1.out hb)
          clear hb CK
          have D1 := Lib.hid (DD.out w2 (H0.out.kept B2.out) (H1.out.kept B2.out))
          go_wp2_with fail
          refine D1.out.mono ?_
          rintro e w3 ⟨ua, uc, rfl, hul, hb⟩
          obtain ⟨xb, ab⟩ := ans_new w3 ⟨0, pickK z1 a2, true, yc⟩
          have B3 := Lib.hid (below2 (below2 B2.out hb) ab)
          have HU := Lib.hid (hul.kept ab)
          have X3 := Lib.hid xb
          have hm3 := hul.max
          have hn3 := hul.len
          unfold maxLen at hm3
          clear D1 hb hul xb ab
          have F1 := Lib.hid (FU.out _ ua uc HU.out)
          go_wp2_with fail
          generalize hv3 : w3.alloc (.cells (ansC ⟨0, pickK z1 a2, true, yc⟩) 39) = v3 at *
          refine F1.out.mono ?_
          rintro e w4 ⟨rfl, hb⟩
          have B4 := Lib.hid (below2 B3.out hb)
          have X4 := Lib.hid (ans_kept X3.out hb)
          have HU4 := Lib.hid (HU.out.kept hb)
          have F2 := Lib.hid (FT.out w4 (H0.out.kept B4.out))
          clear F1 hb X3 HU FU
          go_wp2_with fail
          refine F2.out.mono ?_
          rintro e w5 ⟨rfl, hb⟩
          have B5 := Lib.hid (below2 B4.out hb)
          have X5 := Lib.hid (ans_kept X4.out hb)
          have HU5 := Lib.hid (HU4.out.kept hb)
          obtain ⟨⟨x0, x1, x2, x3⟩, -⟩ := X5.out.cells
          clear F2 hb X4 HU4 FT
          obtain ⟨bq, off, rfl, c0', c1', c2', c3'⟩ := HU5.out.ent hq
          rw [HX.out] at c0' c1' c2' c3'
          have q1 : Mod.hasId z1 (pickK z1 a2) = true := q1
          have pf : decide (Pol.find z1 (pickK z1 a2) 0 < 0) = false := by
            have := has_find z1 (pickK z1 a2) 0
            rw [q1] at this
            exact decide_eq_false (by have := of_decide_eq_true this; omega)
          clear q1
          have B5' := B5.out
          have CS := Lib.hid (fun (W : World) => sum_told a2 hk W)
          have CP := Lib.hid (fun (W : World) (h : Pol.Lies W a1 c1 z1) => pick_told a1 c1 z1 a2 W h hl1)
          have PF := Lib.hid (fun (W : World) (h : Pol.Lies W a1 c1 z1) => Pol.Find_told a1 c1 z1 (pickK z1 a2) W h)
          go_wp2_with fail
          go_region_held3 (fun W => Below w.heap.size w W ∧ W.cell? ⟨w3.heap.size, 1, none⟩ = some (.int .i64 (pickK z1 a2)) ∧ W.cell? ⟨w3.heap.size, 2, none⟩ = some (.bool true) ∧ W.cell? ⟨bq, off + q * 4, none⟩ = some (.int .i64 1) ∧ W.cell? ⟨bq, off + q * 4 + 1, none⟩ = some (.string a2) ∧ W.cell? ⟨bq, off + q * 4 + 2, none⟩ = some (.int .i64 (pickK z1 a2)) ∧ W.cell? ⟨bq, off + q * 4 + 3, none⟩ = some (.int .i64 (IntKind.i64.wrap (a4 + a5))))
            (first | exact ⟨B5'.drew, x1, x2, c0', c1', c2', c3'⟩ | exact six_keep (by assumption) hb | assumption)
            (first | (go_at_call 32; refine (CS.out _).mono ?_; rintro e w9 ⟨rfl, hb⟩) | (go_at_call 31; refine (CP.out _ (pol_of H1.out (by assumption))).mono ?_; rintro e w9 ⟨rfl, hb⟩) | (go_at_call 34; refine (PF.out _ (pol_of H1.out (by assumption))).mono ?_; rintro e w9 ⟨rfl, hb⟩))
          rename_i hHeld
          obtain ⟨hB9, x1, x2, c0', c1', c2', c3'⟩ := hHeld
          have B9 := Lib.hid hB9
          clear hB9 PF CS CP
          have B9' := B9.out
          have tt : (a2.toList == a2.toList) = true := by simp
          have e0 : decide ((0 : Int) ≤ (q : Int)) = true := decide_eq_true (by omega)
          go_wp2_with fail
          go_region_held3 (fun W => Below w.heap.size w W ∧ W.cell? ⟨w3.heap.size, 1, none⟩ = some (.int .i64 (pickK z1 a2)) ∧ W.cell? ⟨bq, off + q * 4, none⟩ = some (.int .i64 1) ∧ W.cell? ⟨bq, off + q * 4 + 1, none⟩ = some (.string a2) ∧ W.cell? ⟨bq, off + q * 4 + 2, none⟩ = some (.int .i64 (pickK z1 a2)) ∧ W.cell? ⟨bq, off + q * 4 + 3, none⟩ = some (.int .i64 (IntKind.i64.wrap (a4 + a5))))
            (first | exact ⟨B9'.drew, x1, c0', c1', c2', c3'⟩) (fail)
          rename_i hHeld
          have BE := Lib.hid hHeld.1
          clear hHeld
          go_wp2_with fail
          go_ret
          exact ⟨rfl, BE.out⟩
    go_enter Tryz.func6, Tryz.ntmps6
    go_wp2_with fail
    refine (works_any _).mono ?_
    rintro e w1 ⟨rfl, hb⟩
    have B1 := Lib.hid hb
    have FW := Lib.hid (Prb.refFew_any a0 c0 z0 w1 (H0.out.kept hb) G0.out)
    rw [hfw] at FW
    clear hb
    go_wp2_with fail
    refine FW.out.mono ?_
    rintro e w2 ⟨rfl, rfl⟩
    clear FW
    have CK := Lib.hid (Pol.Check_told a1 c1 z1 false ⟨fun h => absurd h hchk, fun h => by cases h⟩ w1 (H1.out.kept B1.out))
    simp only [Pol.chkV] at CK
    go_wp2_with fail
    refine CK.out.mono ?_
    rintro e w2 ⟨rfl, hb⟩
    have B2 := Lib.hid (below2 B1.out hb)
    clear hb CK
    go_wp2_with fail
    go_ret
    exact ⟨rfl, B2.out⟩

theorem own_ModelMakes : ownKnob Tryz.prog.godebug = none := by kernel_rfl
set_option maxRecDepth 100000 in
set_option maxHeartbeats 800000 in
theorem lifted_ModelMakes (os : Os) (started : os.Started) (H : Type) (enc : TypeId × Value → H) :
    ReturnsInHanded {} Tryz.checked os 6 .any (Rows.modelMakesSpec.pre6 enc Tryz.prog Tryz.f6 Rows.modelMakesRow.domain false) (Rows.modelMakesSpec.post enc Tryz.prog Tryz.f6 false true false false) := by
  refine returnsInHanded_of_change (C := Tryz.checked) own_ModelMakes started (by kernel_rfl) Tryz.func6
    (ChangeSpec.witness6 (enc := enc) (C := Tryz.checked) false ⟨#[], #[.slice none 0 0, .slice none 0 0, .string ⟨#[]⟩, .bool false, .int .i64 0, .int .i64 0], []⟩ 8 (by kernel_rfl) (by kernel_rfl) (by kernel_rfl) (by kernel_rfl)) ?_
  intro W base args ds gs before hval0 hW _ _
  have hval : ∀ (j : Nat) t v, Tryz.f6.params[j]? = some t → args[j]? = some v → Value.okWide Tryz.prog W .any base t v := hval0
  have hW' := hW
  obtain ⟨p, q, hA0, hV, rfl, _, _⟩ := hW
  have hA : DataW.TrodAll enc Tryz.prog W 0 (fun _ => true) true Tryz.f6.params.toList args.toList ds p := hA0
  rw [Tryz.params6] at hA hval
  obtain ⟨v0, vs0, d0, ds0, p0, q0, ha0, rfl, rfl, t0, r0⟩ := trodAll_cons hA
  obtain ⟨v1, vs1, d1, ds1, p1, q1, ha1, rfl, rfl, t1, r1⟩ := trodAll_cons r0
  obtain ⟨v2, vs2, d2, ds2, p2, q2, ha2, rfl, rfl, t2, r2⟩ := trodAll_cons r1
  obtain ⟨v3, vs3, d3, ds3, p3, q3, ha3, rfl, rfl, t3, r3⟩ := trodAll_cons r2
  obtain ⟨v4, vs4, d4, ds4, p4, q4, ha4, rfl, rfl, t4, r4⟩ := trodAll_cons r3
  obtain ⟨v5, vs5, d5, ds5, p5, q5, ha5, rfl, rfl, t5, r5⟩ := trodAll_cons r4
  obtain ⟨rfl, rfl, rfl⟩ := trodAll_nil r5
  subst ha5
  subst ha4
  subst ha3
  subst ha2
  subst ha1
  obtain rfl : args = #[v0, v1, v2, v3, v4, v5] := by cases args; simp_all
  obtain ⟨rfl, rfl⟩ := trodVars_none hV
  have k0 := t0
  have lt0 : ∀ x ∈ p0, x.block < W.heap.size := by obtain ⟨m, hm⟩ := k0; exact DataW.trod_lt m _ _ _ hm
  obtain ⟨a0, c0, z0, rfl, h0, g0⟩ := Ste.open_table (hval 0 50 v0 rfl rfl) t0
  have k1 := t1
  have lt1 : ∀ x ∈ p1, x.block < W.heap.size := by obtain ⟨m, hm⟩ := k1; exact DataW.trod_lt m _ _ _ hm
  obtain ⟨a1, c1, z1, rfl, h1, g1⟩ := Stp.open_pool (hval 1 32 v1 rfl rfl) t1
  obtain ⟨a2, rfl, rfl, rfl, h2⟩ := open_string Tryz.underlying9 (hval 2 9 v2 rfl rfl) t2
  obtain ⟨a3, rfl, rfl, rfl⟩ := open_bool Tryz.underlying4 (hval 3 4 v3 rfl rfl) t3
  obtain ⟨a4, rfl, rfl, rfl, h4⟩ := open_int Tryz.underlying3 (hval 4 3 v4 rfl rfl) t4
  obtain ⟨a5, rfl, rfl, rfl, h5⟩ := open_int Tryz.underlying3 (hval 5 3 v5 rfl rfl) t5
  clear hA0 hval0
  refine (walk_ModelMakes a0 c0 z0 a1 c1 z1 a2 a3 a4 a5 W h0 g0 h1 g1 h2 h4 h5).mono fun e W' ⟨he, hnx⟩ => ?_
  subst he
  exact ⟨_, rfl, ⟨_, _, _, [], _, [], hW', trodAll_cons_mk (shut_bool Tryz.underlying4 _) trodAll_mk0, (trodAll_cons_mk (Below.trod Ste.laidOut (by kernel_rfl) (of_decide_eq_true (by kernel_rfl)) k0 hnx lt0) (trodAll_cons_mk (Below.trod Stp.laidOut (by kernel_rfl) (of_decide_eq_true (by kernel_rfl)) k1 hnx lt1) (trodAll_cons_mk (shut_string Tryz.underlying9 h2) (trodAll_cons_mk (shut_bool Tryz.underlying4 _) (trodAll_cons_mk (shut_int Tryz.underlying3 h4) (trodAll_cons_mk (shut_int Tryz.underlying3 h5) trodAll_mk0)))))), rfl, hnx.frame _, fun h => by cases h⟩⟩

theorem modelMakes_holds : Rows.ModelMakesSaid :=
  OpenClaim.holds_of_wide 6 Tryz.f6 rfl rfl rfl rfl rfl rfl rfl ⟨rfl, rfl, rfl, rfl, rfl⟩ rfl rfl rfl rfl rfl (by kernel_rfl) Tryz.func6 (by kernel_rfl)
    (of_decide_eq_true (by kernel_rfl)) (by unfold Func.isWrapper; first | (rw [if_pos (by decide +kernel)]; kernel_rfl) | (rw [if_neg (by decide +kernel)]; exact ⟨rfl, rfl⟩))
    (fun os started H enc _ => lifted_ModelMakes os started H enc)

#print axioms modelMakes_holds
end Go.Proofs.YtbamodkgagcmnaaGreat
