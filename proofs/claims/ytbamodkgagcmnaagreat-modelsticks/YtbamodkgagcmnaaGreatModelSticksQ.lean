/-
  ModelSticks: for every t, p, key, now, idle and later the law ModelSticks answers true: a flow stays with its backend as long as it is known. No condition.
-/
import Derived.Test.YtbamodkgagcmnaaGreatRows
import Derived.Test.YtbamodkgagcmnaaGreatBPolQ
import Derived.Test.YtbamodkgagcmnaaGreatBTabQ
import Derived.Test.YtbamodkgagcmnaaGreatMdlPQ
import Derived.Test.YtbamodkgagcmnaaGreatMdlRQ
import Derived.Test.YtbamodkgagcmnaaGreatBPrfQ
import Derived.Test.YtbamodkgagcmnaaGreatBPrbQ
import Derived.Deep.RegionHeld3
import Derived.BigQuiet
import Derived.WalkSmall
import Derived.ProofKit
import Derived.OpenShut
import Derived.ChangeMaps5
set_option maxRecDepth 100000
namespace Go.Proofs.YtbamodkgagcmnaaGreat
open Go.ChangeShapes Go.WideShapes Go.ChangeAt Go.RowKit Go.Shelf RowG
open Go.ChangeMaps (open_string shut_string)
open Mdl
open Mdo (CfgOk StM stK StOk)
open Pol (polV chk)
open Go.Proofs.YtbamodkgagcmnaaGreat.Mod (smallB okB ansV ansC opV opC cfgV Ans Mo)

attribute [local go_sem] Oper.semAt_some

set_option maxRecDepth 100000 in
set_option maxHeartbeats 6000000 in
theorem walk_ModelSticks (a0 : Option Addr) (c0 : Nat) (z0 : List Tab.Ent) (a1 : Option Addr) (c1 : Nat) (z1 : List Pol.Bk) (a2 : ByteArray) (a3 a4 a5 : Int) (w : World) (h0 : Lies entK w a0 c0 z0) (g0 : ∀ x ∈ z0, EntOk x) (h1 : Pol.Lies w a1 c1 z1) (_g1 : ∀ x ∈ z1, Stp.BkOk x) (h2 : a2.size ≤ maxLen) (_h3 : (Lit.int .i64 a3).wf = true) (_h4 : (Lit.int .i64 a4).wf = true) (_h5 : (Lit.int .i64 a5).wf = true) :
    Calls Tryz.prog 5 #[rowV a0 c0 z0, polV a1 c1 z1, .string a2, .int .i64 a3, .int .i64 a4, .int .i64 a5] w fun e W' => e = .returned (.bool true) ∧ Below w.heap.size w W' := by
  have H0 := Lib.hid h0
  have H1 := Lib.hid h1
  have G0 := Lib.hid g0
  have hM0 := h0.max
  have hN0 := h0.len
  have hM1 := h1.max
  have hN1 := h1.len
  unfold maxLen at hM0 hM1 h2
  clear h0 h1 g0
  cases hfw : decide (Prb.few z0) with
  | false =>
    go_enter Tryz.func5, Tryz.ntmps5
    go_wp2_with fail
    refine (works_any _).mono ?_
    rintro e w1 ⟨rfl, hb⟩
    have B1 := Lib.hid hb
    have FW := Lib.hid (Prb.refFew_any a0 c0 z0 w1 (H0.out.kept hb) G0.out)
    rw [hfw] at FW
    clear hb
    go_wp2_with fail
    refine FW.out.mono ?_
    rintro e w2 ⟨rfl, rfl⟩
    clear FW
    go_wp2_with fail
    go_ret
    exact ⟨rfl, B1.out⟩
  | true =>
    by_cases n0 : 64 < z0.length
    · have n0_0 : decide ((64 : Int) < (z0.length : Int)) = true := decide_eq_true (by omega)
      have n0_1 : decide (64 < z0.length) = true := decide_eq_true (by omega)
      go_enter Tryz.func5, Tryz.ntmps5
      go_wp2_with fail
      refine (works_any _).mono ?_
      rintro e w1 ⟨rfl, hb⟩
      have B1 := Lib.hid hb
      have FW := Lib.hid (Prb.refFew_any a0 c0 z0 w1 (H0.out.kept hb) G0.out)
      rw [hfw] at FW
      clear hb
      go_wp2_with fail
      refine FW.out.mono ?_
      rintro e w2 ⟨rfl, rfl⟩
      clear FW
      go_wp2_with fail
      go_ret
      exact ⟨rfl, B1.out⟩
    have n0_0 : decide ((64 : Int) < (z0.length : Int)) = false := decide_eq_false (by omega)
    have n0_1 : decide (64 < z0.length) = false := decide_eq_false (by omega)
    by_cases n1 : 8 < z1.length
    · have n1_0 : decide ((8 : Int) < (z1.length : Int)) = true := decide_eq_true (by omega)
      have n1_1 : decide (8 < z1.length) = true := decide_eq_true (by omega)
      go_enter Tryz.func5, Tryz.ntmps5
      go_wp2_with fail
      refine (works_any _).mono ?_
      rintro e w1 ⟨rfl, hb⟩
      have B1 := Lib.hid hb
      have FW := Lib.hid (Prb.refFew_any a0 c0 z0 w1 (H0.out.kept hb) G0.out)
      rw [hfw] at FW
      clear hb
      go_wp2_with fail
      refine FW.out.mono ?_
      rintro e w2 ⟨rfl, rfl⟩
      clear FW
      go_wp2_with fail
      go_ret
      exact ⟨rfl, B1.out⟩
    have n1_0 : decide ((8 : Int) < (z1.length : Int)) = false := decide_eq_false (by omega)
    have n1_1 : decide (8 < z1.length) = false := decide_eq_false (by omega)
    by_cases n2 : 60 < a2.size
    · have n2_0 : decide ((60 : Int) < (a2.size : Int)) = true := decide_eq_true (by omega)
      have n2_1 : decide (60 < a2.size) = true := decide_eq_true (by omega)
      go_enter Tryz.func5, Tryz.ntmps5
      go_wp2_with fail
      refine (works_any _).mono ?_
      rintro e w1 ⟨rfl, hb⟩
      have B1 := Lib.hid hb
      have FW := Lib.hid (Prb.refFew_any a0 c0 z0 w1 (H0.out.kept hb) G0.out)
      rw [hfw] at FW
      clear hb
      go_wp2_with fail
      refine FW.out.mono ?_
      rintro e w2 ⟨rfl, rfl⟩
      clear FW
      go_wp2_with fail
      go_ret
      exact ⟨rfl, B1.out⟩
    have n2_0 : decide ((60 : Int) < (a2.size : Int)) = false := decide_eq_false (by omega)
    have n2_1 : decide (60 < a2.size) = false := decide_eq_false (by omega)
    by_cases hchk : chk z1
    · by_cases n4 : a3 < 0
      · have n4_0 : decide (a3 < 0) = true := decide_eq_true (by omega)
        go_enter Tryz.func5, Tryz.ntmps5
        go_wp2_with fail
        refine (works_any _).mono ?_
        rintro e w1 ⟨rfl, hb⟩
        have B1 := Lib.hid hb
        have FW := Lib.hid (Prb.refFew_any a0 c0 z0 w1 (H0.out.kept hb) G0.out)
        rw [hfw] at FW
        clear hb
        go_wp2_with fail
        refine FW.out.mono ?_
        rintro e w2 ⟨rfl, rfl⟩
        clear FW
        have CK := Lib.hid (Pol.Check_told a1 c1 z1 true ⟨fun _ => rfl, fun _ => hchk⟩ w1 (H1.out.kept B1.out))
        simp only [Pol.chkV] at CK
        go_wp2_with fail
        refine CK.out.mono ?_
        rintro e w2 ⟨rfl, hb⟩
        have B2 := Lib.hid (below2 B1.out hb)
        clear hb CK
        go_wp2_with fail
        go_ret
        exact ⟨rfl, B2.out⟩
      have n4_0 : decide (a3 < 0) = false := decide_eq_false (by omega)
      by_cases n5 : 1000000 < a3
      · have n5_0 : decide (1000000 < a3) = true := decide_eq_true (by omega)
        go_enter Tryz.func5, Tryz.ntmps5
        go_wp2_with fail
        refine (works_any _).mono ?_
        rintro e w1 ⟨rfl, hb⟩
        have B1 := Lib.hid hb
        have FW := Lib.hid (Prb.refFew_any a0 c0 z0 w1 (H0.out.kept hb) G0.out)
        rw [hfw] at FW
        clear hb
        go_wp2_with fail
        refine FW.out.mono ?_
        rintro e w2 ⟨rfl, rfl⟩
        clear FW
        have CK := Lib.hid (Pol.Check_told a1 c1 z1 true ⟨fun _ => rfl, fun _ => hchk⟩ w1 (H1.out.kept B1.out))
        simp only [Pol.chkV] at CK
        go_wp2_with fail
        refine CK.out.mono ?_
        rintro e w2 ⟨rfl, hb⟩
        have B2 := Lib.hid (below2 B1.out hb)
        clear hb CK
        go_wp2_with fail
        go_ret
        exact ⟨rfl, B2.out⟩
      have n5_0 : decide (1000000 < a3) = false := decide_eq_false (by omega)
      by_cases n6 : a4 < 0
      · have n6_0 : decide (a4 < 0) = true := decide_eq_true (by omega)
        go_enter Tryz.func5, Tryz.ntmps5
        go_wp2_with fail
        refine (works_any _).mono ?_
        rintro e w1 ⟨rfl, hb⟩
        have B1 := Lib.hid hb
        have FW := Lib.hid (Prb.refFew_any a0 c0 z0 w1 (H0.out.kept hb) G0.out)
        rw [hfw] at FW
        clear hb
        go_wp2_with fail
        refine FW.out.mono ?_
        rintro e w2 ⟨rfl, rfl⟩
        clear FW
        have CK := Lib.hid (Pol.Check_told a1 c1 z1 true ⟨fun _ => rfl, fun _ => hchk⟩ w1 (H1.out.kept B1.out))
        simp only [Pol.chkV] at CK
        go_wp2_with fail
        refine CK.out.mono ?_
        rintro e w2 ⟨rfl, hb⟩
        have B2 := Lib.hid (below2 B1.out hb)
        clear hb CK
        go_wp2_with fail
        go_ret
        exact ⟨rfl, B2.out⟩
      have n6_0 : decide (a4 < 0) = false := decide_eq_false (by omega)
      by_cases n7 : 1000000 < a4
      · have n7_0 : decide (1000000 < a4) = true := decide_eq_true (by omega)
        go_enter Tryz.func5, Tryz.ntmps5
        go_wp2_with fail
        refine (works_any _).mono ?_
        rintro e w1 ⟨rfl, hb⟩
        have B1 := Lib.hid hb
        have FW := Lib.hid (Prb.refFew_any a0 c0 z0 w1 (H0.out.kept hb) G0.out)
        rw [hfw] at FW
        clear hb
        go_wp2_with fail
        refine FW.out.mono ?_
        rintro e w2 ⟨rfl, rfl⟩
        clear FW
        have CK := Lib.hid (Pol.Check_told a1 c1 z1 true ⟨fun _ => rfl, fun _ => hchk⟩ w1 (H1.out.kept B1.out))
        simp only [Pol.chkV] at CK
        go_wp2_with fail
        refine CK.out.mono ?_
        rintro e w2 ⟨rfl, hb⟩
        have B2 := Lib.hid (below2 B1.out hb)
        clear hb CK
        go_wp2_with fail
        go_ret
        exact ⟨rfl, B2.out⟩
      have n7_0 : decide (1000000 < a4) = false := decide_eq_false (by omega)
      by_cases n8 : a5 < 0
      · have n8_0 : decide (a5 < 0) = true := decide_eq_true (by omega)
        go_enter Tryz.func5, Tryz.ntmps5
        go_wp2_with fail
        refine (works_any _).mono ?_
        rintro e w1 ⟨rfl, hb⟩
        have B1 := Lib.hid hb
        have FW := Lib.hid (Prb.refFew_any a0 c0 z0 w1 (H0.out.kept hb) G0.out)
        rw [hfw] at FW
        clear hb
        go_wp2_with fail
        refine FW.out.mono ?_
        rintro e w2 ⟨rfl, rfl⟩
        clear FW
        have CK := Lib.hid (Pol.Check_told a1 c1 z1 true ⟨fun _ => rfl, fun _ => hchk⟩ w1 (H1.out.kept B1.out))
        simp only [Pol.chkV] at CK
        go_wp2_with fail
        refine CK.out.mono ?_
        rintro e w2 ⟨rfl, hb⟩
        have B2 := Lib.hid (below2 B1.out hb)
        clear hb CK
        go_wp2_with fail
        go_ret
        exact ⟨rfl, B2.out⟩
      have n8_0 : decide (a5 < 0) = false := decide_eq_false (by omega)
      by_cases n9 : a4 < a5
      · have n9_0 : decide (a4 < a5) = true := decide_eq_true (by omega)
        go_enter Tryz.func5, Tryz.ntmps5
        go_wp2_with fail
        refine (works_any _).mono ?_
        rintro e w1 ⟨rfl, hb⟩
        have B1 := Lib.hid hb
        have FW := Lib.hid (Prb.refFew_any a0 c0 z0 w1 (H0.out.kept hb) G0.out)
        rw [hfw] at FW
        clear hb
        go_wp2_with fail
        refine FW.out.mono ?_
        rintro e w2 ⟨rfl, rfl⟩
        clear FW
        have CK := Lib.hid (Pol.Check_told a1 c1 z1 true ⟨fun _ => rfl, fun _ => hchk⟩ w1 (H1.out.kept B1.out))
        simp only [Pol.chkV] at CK
        go_wp2_with fail
        refine CK.out.mono ?_
        rintro e w2 ⟨rfl, hb⟩
        have B2 := Lib.hid (below2 B1.out hb)
        clear hb CK
        go_wp2_with fail
        go_ret
        exact ⟨rfl, B2.out⟩
      have n9_0 : decide (a4 < a5) = false := decide_eq_false (by omega)
      have hs0 : Flo.Short 60 z0 := (of_decide_eq_true hfw).2
      have HS0 := Lib.hid hs0
      have hl0 : z0.length ≤ 64 := by omega
      have hl1 : z1.length ≤ 1000000000 := by omega
      have hk : a2.size ≤ 60 := by omega
      have hdl : IntKind.i64.wrap (a3 + a4) = a3 + a4 := by rw [IntKind.wrap_i64]; omega
      have hst := sticks_told (T := z0) (now := a3) (dl := a3 + a4) (k := a2) (u := (Mod.deals Prb.home pickK z0 z1 a2 false a3 (a3 + a4)).1) (y := (Mod.deals Prb.home pickK z0 z1 a2 false a3 (a3 + a4)).2) hchk rfl
      have HSM := Lib.hid (deals_small hl0 hs0 hk z1 false a3 (a3 + a4))
      have HCK := Lib.hid hchk
      have DD0 := fun (W : World) (h0 : Lies entK W a0 c0 z0) (h1 : Pol.Lies W a1 c1 z1) => decide_told (w := W) false a3 a4 h0 h1 hk hs0 hl0 hl1
      rw [hdl] at DD0
      generalize (Mod.deals Prb.home pickK z0 z1 a2 false a3 (a3 + a4)).1 = u at *
      generalize (Mod.deals Prb.home pickK z0 z1 a2 false a3 (a3 + a4)).2 = y at *
      have DD := Lib.hid DD0
      clear hs0 hchk
      rcases hst with ⟨q0, q1, q2, q3⟩ | ⟨q0, q1, q2, q3⟩
      · have d1 : decide (y.err = 0) = false := decide_eq_false q0
        have d1b : (y.err == 0) = false := by rw [beq_eq_false_iff_ne]; exact q0
        have d1c : (y.err != 0) = true := by rw [bne, d1b]; rfl
        have SM := Lib.hid (fun (W : World) (h : Lies entK W a0 c0 z0) => fun ua uc (h' : Lies entK W ua uc u) => Prb.Same_told ua uc u a0 c0 z0 true ⟨fun _ => rfl, fun _ => q1⟩ W h' h)
        have Q2 := Lib.hid q2
        have Q3 := Lib.hid q3
        clear q0 q1 q2 q3 DD0
        go_enter Tryz.func5, Tryz.ntmps5
        go_wp2_with fail
        refine (works_any _).mono ?_
        rintro e w1 ⟨rfl, hb⟩
        have B1 := Lib.hid hb
        have FW := Lib.hid (Prb.refFew_any a0 c0 z0 w1 (H0.out.kept hb) G0.out)
        rw [hfw] at FW
        clear hb
        go_wp2_with fail
        refine FW.out.mono ?_
        rintro e w2 ⟨rfl, rfl⟩
        clear FW
        have CK := Lib.hid (Pol.Check_told a1 c1 z1 true ⟨fun _ => rfl, fun _ => HCK.out⟩ w1 (H1.out.kept B1.out))
        simp only [Pol.chkV] at CK
        go_wp2_with fail
        refine CK.out.mono ?_
        rintro e w2 ⟨rfl, hb⟩
        have B2 := Lib.hid (below2 B1.out hb)
        clear hb CK
        have D1 := Lib.hid (DD.out w2 (H0.out.kept B2.out) (H1.out.kept B2.out))
        go_wp2_with fail
        refine D1.out.mono ?_
        rintro e w3 ⟨ua, uc, rfl, hul, hb⟩
        obtain ⟨xb, ab⟩ := ans_new w3 y
        have B3 := Lib.hid (below2 (below2 B2.out hb) ab)
        have HU := Lib.hid (hul.kept ab)
        obtain ⟨⟨x0, x1, x2, x3⟩, -⟩ := xb.cells
        have hm3 := hul.max
        have hn3 := hul.len
        unfold maxLen at hm3
        clear D1 hb hul xb ab
        have X3 := Lib.hid (ans_new w3 y).1
        have SM2 := Lib.hid (SM.out _ (H0.out.kept B3.out) ua uc HU.out)
        clear SM
        go_wp2_with fail
        refine SM2.out.mono ?_
        rintro e w4 ⟨rfl, hb⟩
        have BE := Lib.hid (below2 B3.out hb)
        obtain ⟨⟨x0, x1, x2, x3⟩, -⟩ := (ans_kept X3.out hb).cells
        rw [Q2.out] at x1
        rw [Q3.out] at x2
        clear hb SM2
        go_wp2_with fail
        go_ret
        exact ⟨rfl, BE.out⟩
      have d1 : decide (y.err = 0) = true := decide_eq_true q0
      have d1b : (y.err == 0) = true := by rw [beq_iff_eq]; exact q0
      have d1c : (y.err != 0) = false := by rw [bne, d1b]; rfl
      have R1 := Lib.hid q1
      have R2 := Lib.hid q2
      have R3 := Lib.hid q3
      clear q0 q1 q2 q3 DD0
      have CS := Lib.hid (fun (W : World) => sum_told a2 hk W)
      have CP := Lib.hid (fun (W : World) (h : Pol.Lies W a1 c1 z1) => pick_told a1 c1 z1 a2 W h hl1)
      have hwl : (Pol.without z1 y.backend).length ≤ 1000000000 := Nat.le_trans (Pol.without_length z1 y.backend) hl1
      have hwt := Lib.hid (fun (W : World) (h : Pol.Lies W a1 c1 z1) => Pol.Without_told a1 c1 z1 y.backend W h (by omega))
      go_enter Tryz.func5, Tryz.ntmps5
      go_wp2_with fail
      refine (works_any _).mono ?_
      rintro e w1 ⟨rfl, hb⟩
      have B1 := Lib.hid hb
      have FW := Lib.hid (Prb.refFew_any a0 c0 z0 w1 (H0.out.kept hb) G0.out)
      rw [hfw] at FW
      clear hb
      go_wp2_with fail
      refine FW.out.mono ?_
      rintro e w2 ⟨rfl, rfl⟩
      clear FW
      have CK := Lib.hid (Pol.Check_told a1 c1 z1 true ⟨fun _ => rfl, fun _ => HCK.out⟩ w1 (H1.out.kept B1.out))
      simp only [Pol.chkV] at CK
      go_wp2_with fail
      refine CK.out.mono ?_
      rintro e w2 ⟨rfl, hb⟩
      have B2 := Lib.hid (below2 B1.out hb)
      clear hb CK
      have D1 := Lib.hid (DD.out w2 (H0.out.kept B2.out) (H1.out.kept B2.out))
      go_wp2_with fail
      refine D1.out.mono ?_
      rintro e w3 ⟨ua, uc, rfl, hul, hb⟩
      obtain ⟨xb, ab⟩ := ans_new w3 y
      have B3 := Lib.hid (below2 (below2 B2.out hb) ab)
      have HU := Lib.hid (hul.kept ab)
      obtain ⟨⟨x0, x1, x2, x3⟩, -⟩ := xb.cells
      have hm3 := hul.max
      have hn3 := hul.len
      unfold maxLen at hm3
      clear D1 hb hul xb ab
      have X3 := Lib.hid (show Mod.AnsBox _ w3.heap.size y from (ans_new w3 y).1)
      have D := Lib.hid (decide_told (w := (w3.alloc (.cells (ansC y) 39))) false (a3 + a5) a4 HU.out (H1.out.kept B3.out) hk HSM.out.2 HSM.out.1 hl1)
      rw [R1.out (a3 + a5) (by omega) false _] at D
      go_wp2_with fail
      refine D.out.mono ?_
      rintro e w4 ⟨_, _, rfl, -, hb⟩
      obtain ⟨xb, ab⟩ := ans_new w4 ⟨0, y.backend, false, 0⟩
      have X4 := Lib.hid xb
      have X3 := Lib.hid (ans_kept (ans_kept X3.out hb) ab)
      have HU := Lib.hid ((HU.out.kept hb).kept ab)
      have B4 := Lib.hid (below2 (below2 B3.out hb) ab)
      clear D hb xb ab
      obtain ⟨⟨x0, x1, x2, x3⟩, -⟩ := X3.out.cells
      have D := Lib.hid (decide_told (w := (w4.alloc (.cells (ansC ⟨0, y.backend, false, 0⟩) 39))) true (a3 + a5) a4 HU.out (H1.out.kept B4.out) hk HSM.out.2 HSM.out.1 hl1)
      rw [R1.out (a3 + a5) (by omega) true _] at D
      go_wp2_with fail
      refine D.out.mono ?_
      rintro e w5 ⟨_, _, rfl, -, hb⟩
      obtain ⟨xb, ab⟩ := ans_new w5 ⟨0, y.backend, false, 0⟩
      have X5 := Lib.hid xb
      have X3 := Lib.hid (ans_kept (ans_kept X3.out hb) ab)
      have X4 := Lib.hid (ans_kept (ans_kept X4.out hb) ab)
      have HU := Lib.hid ((HU.out.kept hb).kept ab)
      have B5 := Lib.hid (below2 (below2 B4.out hb) ab)
      clear D hb xb ab
      obtain ⟨⟨x0, x1, x2, x3⟩, -⟩ := X3.out.cells
      have D := Lib.hid (hwt.out (w5.alloc (.cells (ansC ⟨0, y.backend, false, 0⟩) 39)) (H1.out.kept B5.out))
      go_wp2_with fail
      refine D.out.mono ?_
      rintro e w6 ⟨v, rfl, hv, hb⟩
      obtain ⟨wa, wc, rfl, hw⟩ := hv
      have HW := Lib.hid hw
      have X3 := Lib.hid (ans_kept X3.out hb)
      have X4 := Lib.hid (ans_kept X4.out hb)
      have X5 := Lib.hid (ans_kept X5.out hb)
      have HU := Lib.hid (HU.out.kept hb)
      have B6 := Lib.hid (below2 B5.out hb)
      clear D hb hw hwt
      have N4 := Lib.hid (R2.out (a3 + a5) (IntKind.i64.wrap (a3 + a5 + a4)))
      have D := Lib.hid (decide_told (w := w6) false (a3 + a5) a4 HU.out HW.out hk HSM.out.2 HSM.out.1 hwl)
      generalize (Mod.deals Prb.home pickK u (Pol.without z1 y.backend) a2 false (a3 + a5) (IntKind.i64.wrap (a3 + a5 + a4))).2 = y4 at *
      go_wp2_with fail
      refine D.out.mono ?_
      rintro e w7 ⟨_, _, rfl, -, hb⟩
      obtain ⟨xb, ab⟩ := ans_new w7 y4
      have X7 := Lib.hid xb
      have X3 := Lib.hid (ans_kept (ans_kept X3.out hb) ab)
      have X4 := Lib.hid (ans_kept (ans_kept X4.out hb) ab)
      have X5 := Lib.hid (ans_kept (ans_kept X5.out hb) ab)
      have HU := Lib.hid ((HU.out.kept hb).kept ab)
      have B7 := Lib.hid (below2 (below2 B6.out hb) ab)
      clear D hb xb ab
      have D := Lib.hid (decide_told (w := (w7.alloc (.cells (ansC y4) 39))) false (a3 + a4 + 1) a4 HU.out (H1.out.kept B7.out) hk HSM.out.2 HSM.out.1 hl1)
      rw [R3.out (a3 + a4 + 1) (by omega) _] at D
      go_wp2_with fail
      refine D.out.mono ?_
      rintro e w8 ⟨_, _, rfl, -, hb⟩
      obtain ⟨xb, ab⟩ := ans_new w8 ⟨0, pickK z1 a2, true, 0⟩
      have X8 := Lib.hid xb
      have X3 := Lib.hid (ans_kept (ans_kept X3.out hb) ab)
      have X4 := Lib.hid (ans_kept (ans_kept X4.out hb) ab)
      have X5 := Lib.hid (ans_kept (ans_kept X5.out hb) ab)
      have X7 := Lib.hid (ans_kept (ans_kept X7.out hb) ab)
      have HU := Lib.hid ((HU.out.kept hb).kept ab)
      have B8 := Lib.hid (below2 (below2 B7.out hb) ab)
      clear D hb xb ab
      obtain ⟨⟨x0, x1, x2, x3⟩, -⟩ := X3.out.cells
      obtain ⟨⟨p0, p1, p2, p3⟩, -⟩ := X4.out.cells
      obtain ⟨⟨q0, q1, q2, q3⟩, -⟩ := X5.out.cells
      obtain ⟨⟨s0, s1, s2, s3⟩, -⟩ := X7.out.cells
      obtain ⟨⟨r0, r1, r2, r3⟩, -⟩ := X8.out.cells
      have d7 : decide (y4.backend = y.backend) = false := decide_eq_false N4.out
      have d7b : (y4.backend == y.backend) = false := by rw [beq_eq_false_iff_ne]; exact N4.out
      have d7c : (y4.backend != y.backend) = true := by rw [bne, d7b]; rfl
      have d7d : decide (y4.backend ≠ y.backend) = true := decide_eq_true N4.out
      have n4 := N4.out
      have B8' := B8.out
      clear X3 X4 X5 X7 X8 HU N4 R1 R2 R3 HW
      go_wp2_with fail
      generalize hv8 : (w8.alloc (.cells (ansC ⟨0, pickK z1 a2, true, 0⟩) 39)) = v8 at *
      go_region_held3 (fun W => Below w.heap.size w W ∧ (W.cell? ⟨w4.heap.size, 0, none⟩ = some (.int .i64 0) ∧ W.cell? ⟨w4.heap.size, 1, none⟩ = some (.int .i64 y.backend) ∧ W.cell? ⟨w4.heap.size, 2, none⟩ = some (.bool false) ∧ W.cell? ⟨w4.heap.size, 3, none⟩ = some (.int .i64 0)) ∧ (W.cell? ⟨w5.heap.size, 0, none⟩ = some (.int .i64 0) ∧ W.cell? ⟨w5.heap.size, 1, none⟩ = some (.int .i64 y.backend) ∧ W.cell? ⟨w5.heap.size, 2, none⟩ = some (.bool false) ∧ W.cell? ⟨w5.heap.size, 3, none⟩ = some (.int .i64 0)) ∧ (W.cell? ⟨w8.heap.size, 0, none⟩ = some (.int .i64 0) ∧ W.cell? ⟨w8.heap.size, 1, none⟩ = some (.int .i64 (pickK z1 a2)) ∧ W.cell? ⟨w8.heap.size, 2, none⟩ = some (.bool true) ∧ W.cell? ⟨w8.heap.size, 3, none⟩ = some (.int .i64 0)) ∧ W.cell? ⟨w3.heap.size, 1, none⟩ = some (.int .i64 y.backend) ∧ W.cell? ⟨w7.heap.size, 1, none⟩ = some (.int .i64 y4.backend))
        (first | exact ⟨B8'.drew, ⟨p0, p1, p2, p3⟩, ⟨q0, q1, q2, q3⟩, ⟨r0, r1, r2, r3⟩, x1, s1⟩ | exact four_keep (by assumption) hb)
        (first | (go_at_call 32; refine (CS.out _).mono ?_; rintro e w9 ⟨rfl, hb⟩) | (go_at_call 31; refine (CP.out _ (pol_of H1.out (by assumption))).mono ?_; rintro e w9 ⟨rfl, hb⟩))
      rename_i hHeld
      have BE := Lib.hid hHeld.1
      clear hHeld
      go_wp2_with fail
      go_ret
      exact ⟨rfl, BE.out⟩
    go_enter Tryz.func5, Tryz.ntmps5
    go_wp2_with fail
    refine (works_any _).mono ?_
    rintro e w1 ⟨rfl, hb⟩
    have B1 := Lib.hid hb
    have FW := Lib.hid (Prb.refFew_any a0 c0 z0 w1 (H0.out.kept hb) G0.out)
    rw [hfw] at FW
    clear hb
    go_wp2_with fail
    refine FW.out.mono ?_
    rintro e w2 ⟨rfl, rfl⟩
    clear FW
    have CK := Lib.hid (Pol.Check_told a1 c1 z1 false ⟨fun h => absurd h hchk, fun h => by cases h⟩ w1 (H1.out.kept B1.out))
    simp only [Pol.chkV] at CK
    go_wp2_with fail
    refine CK.out.mono ?_
    rintro e w2 ⟨rfl, hb⟩
    have B2 := Lib.hid (below2 B1.out hb)
    clear hb CK
    go_wp2_with fail
    go_ret
    exact ⟨rfl, B2.out⟩

theorem own_ModelSticks : ownKnob Tryz.prog.godebug = none := by kernel_rfl
set_option maxRecDepth 100000 in
set_option maxHeartbeats 800000 in
theorem lifted_ModelSticks (os : Os) (started : os.Started) (H : Type) (enc : TypeId × Value → H) :
    ReturnsInHanded {} Tryz.checked os 5 .any (Rows.modelSticksSpec.pre6 enc Tryz.prog Tryz.f5 Rows.modelSticksRow.domain false) (Rows.modelSticksSpec.post enc Tryz.prog Tryz.f5 false true false false) := by
  refine returnsInHanded_of_change (C := Tryz.checked) own_ModelSticks started (by kernel_rfl) Tryz.func5
    (ChangeSpec.witness6 (enc := enc) (C := Tryz.checked) false ⟨#[], #[.slice none 0 0, .slice none 0 0, .string ⟨#[]⟩, .int .i64 0, .int .i64 0, .int .i64 0], []⟩ 8 (by kernel_rfl) (by kernel_rfl) (by kernel_rfl) (by kernel_rfl)) ?_
  intro W base args ds gs before hval0 hW _ _
  have hval : ∀ (j : Nat) t v, Tryz.f5.params[j]? = some t → args[j]? = some v → Value.okWide Tryz.prog W .any base t v := hval0
  have hW' := hW
  obtain ⟨p, q, hA0, hV, rfl, _, _⟩ := hW
  have hA : DataW.TrodAll enc Tryz.prog W 0 (fun _ => true) true Tryz.f5.params.toList args.toList ds p := hA0
  rw [Tryz.params5] at hA hval
  obtain ⟨v0, vs0, d0, ds0, p0, q0, ha0, rfl, rfl, t0, r0⟩ := trodAll_cons hA
  obtain ⟨v1, vs1, d1, ds1, p1, q1, ha1, rfl, rfl, t1, r1⟩ := trodAll_cons r0
  obtain ⟨v2, vs2, d2, ds2, p2, q2, ha2, rfl, rfl, t2, r2⟩ := trodAll_cons r1
  obtain ⟨v3, vs3, d3, ds3, p3, q3, ha3, rfl, rfl, t3, r3⟩ := trodAll_cons r2
  obtain ⟨v4, vs4, d4, ds4, p4, q4, ha4, rfl, rfl, t4, r4⟩ := trodAll_cons r3
  obtain ⟨v5, vs5, d5, ds5, p5, q5, ha5, rfl, rfl, t5, r5⟩ := trodAll_cons r4
  obtain ⟨rfl, rfl, rfl⟩ := trodAll_nil r5
  subst ha5
  subst ha4
  subst ha3
  subst ha2
  subst ha1
  obtain rfl : args = #[v0, v1, v2, v3, v4, v5] := by cases args; simp_all
  obtain ⟨rfl, rfl⟩ := trodVars_none hV
  have k0 := t0
  have lt0 : ∀ x ∈ p0, x.block < W.heap.size := by obtain ⟨m, hm⟩ := k0; exact DataW.trod_lt m _ _ _ hm
  obtain ⟨a0, c0, z0, rfl, h0, g0⟩ := Ste.open_table (hval 0 50 v0 rfl rfl) t0
  have k1 := t1
  have lt1 : ∀ x ∈ p1, x.block < W.heap.size := by obtain ⟨m, hm⟩ := k1; exact DataW.trod_lt m _ _ _ hm
  obtain ⟨a1, c1, z1, rfl, h1, g1⟩ := Stp.open_pool (hval 1 32 v1 rfl rfl) t1
  obtain ⟨a2, rfl, rfl, rfl, h2⟩ := open_string Tryz.underlying9 (hval 2 9 v2 rfl rfl) t2
  obtain ⟨a3, rfl, rfl, rfl, h3⟩ := open_int Tryz.underlying3 (hval 3 3 v3 rfl rfl) t3
  obtain ⟨a4, rfl, rfl, rfl, h4⟩ := open_int Tryz.underlying3 (hval 4 3 v4 rfl rfl) t4
  obtain ⟨a5, rfl, rfl, rfl, h5⟩ := open_int Tryz.underlying3 (hval 5 3 v5 rfl rfl) t5
  clear hA0 hval0
  refine (walk_ModelSticks a0 c0 z0 a1 c1 z1 a2 a3 a4 a5 W h0 g0 h1 g1 h2 h3 h4 h5).mono fun e W' ⟨he, hnx⟩ => ?_
  subst he
  exact ⟨_, rfl, ⟨_, _, _, [], _, [], hW', trodAll_cons_mk (shut_bool Tryz.underlying4 _) trodAll_mk0, (trodAll_cons_mk (Below.trod Ste.laidOut (by kernel_rfl) (of_decide_eq_true (by kernel_rfl)) k0 hnx lt0) (trodAll_cons_mk (Below.trod Stp.laidOut (by kernel_rfl) (of_decide_eq_true (by kernel_rfl)) k1 hnx lt1) (trodAll_cons_mk (shut_string Tryz.underlying9 h2) (trodAll_cons_mk (shut_int Tryz.underlying3 h3) (trodAll_cons_mk (shut_int Tryz.underlying3 h4) (trodAll_cons_mk (shut_int Tryz.underlying3 h5) trodAll_mk0)))))), rfl, hnx.frame _, fun h => by cases h⟩⟩

theorem modelSticks_holds : Rows.ModelSticksSaid :=
  OpenClaim.holds_of_wide 5 Tryz.f5 rfl rfl rfl rfl rfl rfl rfl ⟨rfl, rfl, rfl, rfl, rfl⟩ rfl rfl rfl rfl rfl (by kernel_rfl) Tryz.func5 (by kernel_rfl)
    (of_decide_eq_true (by kernel_rfl)) (by unfold Func.isWrapper; first | (rw [if_pos (by decide +kernel)]; kernel_rfl) | (rw [if_neg (by decide +kernel)]; exact ⟨rfl, rfl⟩))
    (fun os started H enc _ => lifted_ModelSticks os started H enc)

#print axioms modelSticks_holds
end Go.Proofs.YtbamodkgagcmnaaGreat
