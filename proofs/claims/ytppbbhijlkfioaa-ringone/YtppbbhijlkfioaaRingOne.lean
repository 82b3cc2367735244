/-
  RingOne: for every p, h and n the law RingOne answers true: a hash goes to one of the pool; a point's own hash to its backend; in whatever order they stand. No condition.
-/
import Derived.Test.YtppbbhijlkfioaaRows
import Derived.Test.YtppbbhijlkfioaaBPol
import Derived.Test.YtppbbhijlkfioaaBPtr
import Derived.Test.YtppbbhijlkfioaaRinW
import Derived.Test.YtppbbhijlkfioaaPtsU
import Derived.Test.YtppbbhijlkfioaaBSrt
import Derived.Test.YtppbbhijlkfioaaBPts
import Derived.Test.YtppbbhijlkfioaaRgnU
import Derived.Deep.RegionHeld3
import Derived.BigQuiet
import Derived.WalkSmall
import Derived.ProofKit
import Derived.OpenShut
import Derived.ChangeMaps5
namespace Go.Proofs.Ytppbbhijlkfioaa
open Go.ChangeShapes Go.WideShapes Go.ChangeAt Go.RowKit Go.Shelf
open Go.ChangeMaps (open_string shut_string)
open Rin Rgn
open Pts (Pt ptV ptsV Lies Rise ofL hsh ofL_rise Of_told Check_yes Check_no)
open Pol (below2 below_alloc Bk polV intsV chk)
open Num (LiesN numsV)

theorem three_keep {W0 W W' : World} {g h p : Nat} {x : Pt} (s : Below W0.heap.size W0 W ∧ W.cell? ⟨g, 0, none⟩ = some (.int .u64 x.1) ∧ W.cell? ⟨g, 1, none⟩ = some (.int .i64 x.2) ∧ W.cell? ⟨h, p, none⟩ = some (.int .u64 x.1)) (hb : Below W.heap.size W W') :
    Below W0.heap.size W0 W' ∧ W'.cell? ⟨g, 0, none⟩ = some (.int .u64 x.1) ∧ W'.cell? ⟨g, 1, none⟩ = some (.int .i64 x.2) ∧ W'.cell? ⟨h, p, none⟩ = some (.int .u64 x.1) := by
  obtain ⟨h0, h1, h2, h3⟩ := s
  exact ⟨below2 h0 hb, (hb.cell (World.block_lt_of_cell? W _ h1)).trans h1, (hb.cell (World.block_lt_of_cell? W _ h2)).trans h2, (hb.cell (World.block_lt_of_cell? W _ h3)).trans h3⟩

set_option maxRecDepth 100000 in
set_option maxHeartbeats 1000000 in
theorem walk_RingOne (a0 : Option Addr) (c0 : Nat) (z0 : List Bk) (h n : Int) (w : World) (h0 : Pol.Lies w a0 c0 z0) (_g0 : ∀ x ∈ z0, Stp.BkOk x) (_h1 : (Lit.int .u64 h).wf = true) (_h2 : (Lit.int .i64 n).wf = true) :
    Calls Try.prog 6 #[polV a0 c0 z0, .int .u64 h, .int .i64 n] w fun e W' => e = .returned (.bool true) ∧ Below w.heap.size w W' := by
  have H0 := Lib.hid h0
  have hC0 := h0.len
  have hM0 := h0.max
  unfold maxLen at hM0
  clear h0
  by_cases g0 : 8 < z0.length
  · have d0 : decide ((8 : Int) < (z0.length : Int)) = true := decide_eq_true (by omega)
    have d0n : decide (8 < z0.length) = true := decide_eq_true g0
    go_enter Try.func6, Try.ntmps6
    go_wp2_with fail
    refine (works_any _).mono ?_
    rintro e w1 ⟨rfl, hb⟩
    have B1 := Lib.hid hb
    clear hb
    go_wp2_with fail
    go_ret
    exact ⟨rfl, B1.out⟩
  have d0 : decide ((8 : Int) < (z0.length : Int)) = false := decide_eq_false (by omega)
  have d0n : decide (8 < z0.length) = false := decide_eq_false g0
  have l0 : z0.length ≤ 8 := by omega
  by_cases hc : ¬ chk z0
  · go_enter Try.func6, Try.ntmps6
    go_wp2_with fail
    refine (works_any _).mono ?_
    rintro e w1 ⟨rfl, hb⟩
    have L1 := Lib.hid (H0.out.kept hb)
    have B1 := Lib.hid hb
    clear hb
    go_wp2_with fail
    refine (Check_no a0 c0 z0 hc w1 L1.out).mono ?_
    rintro e w2 ⟨rfl, hb⟩
    have B2 := Lib.hid (below2 B1.out hb)
    clear hb B1 L1
    go_wp2_with fail
    go_ret
    exact ⟨rfl, B2.out⟩
  replace hc := Classical.not_not.1 hc
  by_cases hz : z0.length = 0
  · obtain rfl : z0 = [] := List.eq_nil_of_length_eq_zero hz
    go_enter Try.func6, Try.ntmps6
    go_wp2_with fail
    refine (works_any _).mono ?_
    rintro e w1 ⟨rfl, hb⟩
    have L1 := Lib.hid (H0.out.kept hb)
    have B1 := Lib.hid hb
    clear hb
    go_wp2_with fail
    refine (Check_yes a0 c0 [] hc w1 L1.out).mono ?_
    rintro e w2 ⟨rfl, hb⟩
    have L2 := Lib.hid (L1.out.kept hb)
    have B2 := Lib.hid (below2 B1.out hb)
    clear hb B1 L1
    have PK := Lib.hid (Pick_told a0 c0 [] h w2 L2.out (by omega))
    rw [ofL_nil, succL_nil] at PK
    go_wp2_with fail
    refine PK.out.mono ?_
    rintro e w3 ⟨rfl, hb⟩
    have B3 := Lib.hid (below2 B2.out hb)
    clear hb B2 L2 PK
    go_wp2_with fail
    go_ret
    exact ⟨rfl, B3.out⟩
  have dz : ((z0.length : Int) == 0) = false := beq_false_of_ne (by omega)
  have HF := Lib.hid ((Pol.find_pos z0 (succL (ofL hsh z0) h)).2 (pick_in hsh hc (fun e => hz (by rw [e]; rfl)) h))
  have HR := Lib.hid (ofL_rise hsh z0)
  have F1 := Lib.hid (Pts.ofL_sorted hsh z0)
  have hSl := (Pol.sorted_perm z0).length_eq
  go_enter Try.func6, Try.ntmps6
  go_wp2_with fail
  refine (works_any _).mono ?_
  rintro e w1 ⟨rfl, hb⟩
  have L1 := Lib.hid (H0.out.kept hb)
  have B1 := Lib.hid hb
  clear hb
  go_wp2_with fail
  refine (Check_yes a0 c0 z0 hc w1 L1.out).mono ?_
  rintro e w2 ⟨rfl, hb⟩
  have L2 := Lib.hid (L1.out.kept hb)
  have B2 := Lib.hid (below2 B1.out hb)
  clear hb B1 L1
  clear hc
  have PK := fun W hW x => Pick_told a0 c0 z0 x W hW (by omega)
  have OF := Lib.hid (fun W hW => Of_told a0 c0 z0 W hW (by omega))
  generalize ofL hsh z0 = L at *
  have HPK := Lib.hid PK
  clear PK
  go_wp2_with fail
  refine (HPK.out w2 L2.out h).mono ?_
  rintro e w3 ⟨rfl, hb⟩
  have L3 := Lib.hid (L2.out.kept hb)
  have B3 := Lib.hid (below2 B2.out hb)
  clear hb L2 B2
  obtain ⟨s, hs⟩ : ∃ s, succL L h = s := ⟨_, rfl⟩
  have HS := Lib.hid hs
  rw [hs] at HF
  rw [hs]
  clear hs
  go_wp2_with fail
  refine (OF.out w3 L3.out).mono ?_
  rintro e w4 ⟨v, rfl, ⟨aP, cP, rfl, hP⟩, hb⟩
  have L4 := Lib.hid (L3.out.kept hb)
  have P4 := Lib.hid hP
  have B4 := Lib.hid (below2 B3.out hb)
  have hPl := hP.len
  have hPm := hP.max
  unfold maxLen at hPm
  clear hb hP L3 B3 OF
  by_cases hn0 : n < 0
  · have dn : decide (n < 0) = true := decide_eq_true hn0
    go_wp2_with fail
    refine (Pol.Find_told a0 c0 z0 s w4 L4.out).mono ?_
    rintro e w5 ⟨rfl, hb⟩
    have B5 := Lib.hid (below2 B4.out hb)
    clear hb L4 B4
    generalize Pol.find z0 s 0 = q at *
    have dq : decide (0 ≤ q) = true := decide_eq_true HF.out
    go_wp2_with fail
    go_ret
    exact ⟨rfl, B5.out⟩
  have dn : decide (n < 0) = false := decide_eq_false hn0
  by_cases hn1 : (L.length : Int) ≤ n
  · have dm : decide ((L.length : Int) ≤ n) = true := decide_eq_true hn1
    go_wp2_with fail
    refine (Pol.Find_told a0 c0 z0 s w4 L4.out).mono ?_
    rintro e w5 ⟨rfl, hb⟩
    have B5 := Lib.hid (below2 B4.out hb)
    clear hb L4 B4
    generalize Pol.find z0 s 0 = q at *
    have dq : decide (0 ≤ q) = true := decide_eq_true HF.out
    go_wp2_with fail
    go_ret
    exact ⟨rfl, B5.out⟩
  obtain ⟨i, rfl⟩ : ∃ i : Nat, n = (i : Int) := ⟨n.toNat, by omega⟩
  have hi : i < L.length := by omega
  have dm : decide ((L.length : Int) ≤ (i : Int)) = false := decide_eq_false hn1
  have dm' : decide (L.length ≤ i) = false := decide_eq_false (by omega)
  obtain ⟨g, off, rfl, x0, x1⟩ := P4.out.at hi
  by_cases ho : succL L L[i].1 = L[i].2
  · have PX0 := Lib.hid (fun W (hW : Pol.Lies W a0 c0 z0) => HPK.out W hW L[i].1)
    rw [ho] at PX0
    generalize L[i] = x at *
    clear ho hn0 hn1 P4
    go_wp2_with fail
    obtain ⟨w5, hw5⟩ : ∃ w5, w5 = w4 := ⟨_, rfl⟩
    have X0 : (w4.alloc (.cells #[.int .u64 x.1, .int .i64 x.2] 28)).cell? ⟨w5.heap.size, 0, none⟩ = some (.int .u64 x.1) := by rw [hw5]; simp
    have X1 : (w4.alloc (.cells #[.int .u64 x.1, .int .i64 x.2] 28)).cell? ⟨w5.heap.size, 1, none⟩ = some (.int .i64 x.2) := by rw [hw5]; simp
    have ba := below_alloc w4 (.cells #[.int .u64 x.1, .int .i64 x.2] 28)
    have L6 := Lib.hid (L4.out.kept ba)
    have B6 := Lib.hid (below2 B4.out ba)
    rw [← hw5]
    rw [← hw5] at X0 X1 L6 B6
    generalize (w5.alloc (.cells #[.int .u64 x.1, .int .i64 x.2] 28)) = w6 at *
    clear ba x0 x1 hw5 L4 B4
    have PX := fun W (hW : Below w6.heap.size w6 W) => PX0.out W (L6.out.kept hW)
    have dx : (x.2 == x.2) = true := beq_iff_eq.2 rfl
    refine wp_region_val (Pts.sqV [.is (polV a0 c0 z0), .is (.pointer (some ⟨w5.heap.size, 0, none⟩)), .is (.int .u64 x.1), .is (.int .i64 x.2), .is (.pointer (some ⟨w5.heap.size, 1, none⟩)), .is (.int .i64 x.2), .is (.bool true), .is (.bool true), .is (undef), .is (undef), .is (undef), .is (undef), .is (undef), .is (undef), .is (undef), .is (undef), .is (undef), .is (undef), .is (undef), .is (undef), .is (undef), .is (.bool true), .is (.bool true)]) (Pts.sqV_kept _) (by kernel_rfl) (by kernel_rfl) (by kernel_rfl) ?step ?done
    case step =>
      intro d a W i hi hall hI
      replace hi : i < 23 := hi
      have b0 := hI.below
      obtain rfl | rfl | rfl | rfl | rfl | rfl | rfl | rfl | rfl | rfl | rfl | rfl | rfl | rfl | rfl | rfl | rfl | rfl | rfl | rfl | rfl | rfl | rfl : i = 0 ∨ i = 1 ∨ i = 2 ∨ i = 3 ∨ i = 4 ∨ i = 5 ∨ i = 6 ∨ i = 7 ∨ i = 8 ∨ i = 9 ∨ i = 10 ∨ i = 11 ∨ i = 12 ∨ i = 13 ∨ i = 14 ∨ i = 15 ∨ i = 16 ∨ i = 17 ∨ i = 18 ∨ i = 19 ∨ i = 20 ∨ i = 21 ∨ i = 22 := by omega
      · have e0 : a.tmps[0]?.getD undef = polV a0 c0 z0 := hI.old 0 (unwritten_of (by kernel_rfl) d)
        refine StepV.done rfl (wanted_free rfl) fun K hK => ?_
        exact op_move rfl (hK _ _ (Below.refl _ _) e0)
      · have e10 : a.tmps[10]?.getD undef = .pointer (some ⟨w5.heap.size, 0, none⟩) := hI.old 10 (unwritten_of (by kernel_rfl) d)
        refine StepV.done rfl (wanted_free rfl) fun K hK => ?_
        clear hall hI
        refine op_run (.pointer (some ⟨w5.heap.size, 0, none⟩)) W ?_ (hK _ _ (Below.refl _ _) rfl)
        clear hK
        simp only [List.getElem_toArray, List.getElem_cons_zero, List.getElem_cons_succ, execOp, Act.eval]
        go_simp
      · have e57 : a.tmps[57]?.getD undef = .pointer (some ⟨w5.heap.size, 0, none⟩) := hI.val 1 57 rfl (hall 1 (by kernel_rfl))
        have c0 := (b0.cell (World.block_lt_of_cell? _ _ X0)).trans X0
        have c1 := (b0.cell (World.block_lt_of_cell? _ _ X1)).trans X1
        refine StepV.done rfl (wanted_free rfl) fun K hK => ?_
        clear hall hI
        refine op_run (.int .u64 x.1) W ?_ (hK _ _ (Below.refl _ _) rfl)
        clear hK
        simp only [List.getElem_toArray, List.getElem_cons_zero, List.getElem_cons_succ, execOp, Act.eval]
        go_simp
      · have e56 : a.tmps[56]?.getD undef = polV a0 c0 z0 := hI.val 0 56 rfl (hall 0 (by kernel_rfl))
        have e58 : a.tmps[58]?.getD undef = .int .u64 x.1 := hI.val 2 58 rfl (hall 2 (by kernel_rfl))
        refine StepV.done rfl (wanted_free rfl) fun K hK => ?_
        have C := (PX W b0).mono (R' := fun e W2 => ∃ v, e = .returned v ∧ v = .int .i64 x.2 ∧ Below W.heap.size W W2) (fun e W2 ⟨he, hb⟩ => ⟨_, he, rfl, hb⟩)
        refine op_call 16 #[polV a0 c0 z0, .int .u64 x.1] (fun v W2 => v = .int .i64 x.2 ∧ Below W.heap.size W W2) ?_ C (fun v W2 ⟨h1, h2⟩ => hK v W2 h2 h1)
        clear hall hI hK C
        simp only [List.getElem_toArray, List.getElem_cons_zero, List.getElem_cons_succ, execOp]
        go_simp
      · have e10 : a.tmps[10]?.getD undef = .pointer (some ⟨w5.heap.size, 0, none⟩) := hI.old 10 (unwritten_of (by kernel_rfl) d)
        refine StepV.done rfl (wanted_free rfl) fun K hK => ?_
        clear hall hI
        refine op_run (.pointer (some ⟨w5.heap.size, 1, none⟩)) W ?_ (hK _ _ (Below.refl _ _) rfl)
        clear hK
        simp only [List.getElem_toArray, List.getElem_cons_zero, List.getElem_cons_succ, execOp, Act.eval]
        go_simp
      · have e60 : a.tmps[60]?.getD undef = .pointer (some ⟨w5.heap.size, 1, none⟩) := hI.val 4 60 rfl (hall 4 (by kernel_rfl))
        have c0 := (b0.cell (World.block_lt_of_cell? _ _ X0)).trans X0
        have c1 := (b0.cell (World.block_lt_of_cell? _ _ X1)).trans X1
        refine StepV.done rfl (wanted_free rfl) fun K hK => ?_
        clear hall hI
        refine op_run (.int .i64 x.2) W ?_ (hK _ _ (Below.refl _ _) rfl)
        clear hK
        simp only [List.getElem_toArray, List.getElem_cons_zero, List.getElem_cons_succ, execOp, Act.eval]
        go_simp
      · have e59 : a.tmps[59]?.getD undef = .int .i64 x.2 := hI.val 3 59 rfl (hall 3 (by kernel_rfl))
        have e61 : a.tmps[61]?.getD undef = .int .i64 x.2 := hI.val 5 61 rfl (hall 5 (by kernel_rfl))
        refine StepV.done rfl (wanted_free rfl) fun K hK => ?_
        clear hall hI
        refine op_run (.bool true) W ?_ (hK _ _ (Below.refl _ _) rfl)
        clear hK
        simp only [List.getElem_toArray, List.getElem_cons_zero, List.getElem_cons_succ, execOp, Act.eval]
        go_simp
      · have f := hI.val 6 62 rfl (hall 6 (by kernel_rfl))
        refine StepV.done rfl (wanted_free rfl) fun K hK => ?_
        exact op_move rfl (hK _ _ (Below.refl _ _) f)
      · have g : a.tmps[63]?.getD undef = .bool true := hI.val 7 63 rfl (hall 7 (by kernel_rfl))
        exact StepV.left rfl (by rw [wanted_if (j := 7) (s := 63) (want := false) (b := true) rfl rfl g]; rfl) rfl
      · have g : a.tmps[63]?.getD undef = .bool true := hI.val 7 63 rfl (hall 7 (by kernel_rfl))
        exact StepV.left rfl (by rw [wanted_if (j := 7) (s := 63) (want := false) (b := true) rfl rfl g]; rfl) rfl
      · have g : a.tmps[63]?.getD undef = .bool true := hI.val 7 63 rfl (hall 7 (by kernel_rfl))
        exact StepV.left rfl (by rw [wanted_if (j := 7) (s := 63) (want := false) (b := true) rfl rfl g]; rfl) rfl
      · have g : a.tmps[66]?.getD undef = undef := hI.val 10 66 rfl (hall 10 (by kernel_rfl))
        exact StepV.left rfl (wanted_undef (j := 10) (s := 66) (want := true) rfl rfl g) rfl
      · have g : a.tmps[66]?.getD undef = undef := hI.val 10 66 rfl (hall 10 (by kernel_rfl))
        exact StepV.left rfl (wanted_undef (j := 10) (s := 66) (want := true) rfl rfl g) rfl
      · have g : a.tmps[66]?.getD undef = undef := hI.val 10 66 rfl (hall 10 (by kernel_rfl))
        exact StepV.left rfl (wanted_undef (j := 10) (s := 66) (want := true) rfl rfl g) rfl
      · have g : a.tmps[66]?.getD undef = undef := hI.val 10 66 rfl (hall 10 (by kernel_rfl))
        exact StepV.left rfl (wanted_undef (j := 10) (s := 66) (want := true) rfl rfl g) rfl
      · have g : a.tmps[66]?.getD undef = undef := hI.val 10 66 rfl (hall 10 (by kernel_rfl))
        exact StepV.left rfl (wanted_undef (j := 10) (s := 66) (want := true) rfl rfl g) rfl
      · have g : a.tmps[66]?.getD undef = undef := hI.val 10 66 rfl (hall 10 (by kernel_rfl))
        exact StepV.left rfl (wanted_undef (j := 10) (s := 66) (want := true) rfl rfl g) rfl
      · have g : a.tmps[66]?.getD undef = undef := hI.val 10 66 rfl (hall 10 (by kernel_rfl))
        exact StepV.left rfl (wanted_undef (j := 10) (s := 66) (want := true) rfl rfl g) rfl
      · have g : a.tmps[66]?.getD undef = undef := hI.val 10 66 rfl (hall 10 (by kernel_rfl))
        exact StepV.left rfl (wanted_undef (j := 10) (s := 66) (want := true) rfl rfl g) rfl
      · have g : a.tmps[66]?.getD undef = undef := hI.val 10 66 rfl (hall 10 (by kernel_rfl))
        exact StepV.left rfl (wanted_undef (j := 10) (s := 66) (want := true) rfl rfl g) rfl
      · have g : a.tmps[63]?.getD undef = .bool true := hI.val 7 63 rfl (hall 7 (by kernel_rfl))
        exact StepV.left rfl (by rw [wanted_if (j := 7) (s := 63) (want := false) (b := true) rfl rfl g]; rfl) rfl
      · have e63 : a.tmps[63]?.getD undef = .bool true := hI.val 7 63 rfl (hall 7 (by kernel_rfl))
        refine StepV.done rfl (wanted_free rfl) fun K hK => ?_
        exact op_pick_yes rfl e63 (hK _ _ (Below.refl _ _) rfl)
      · have f := hI.val 21 77 rfl (hall 21 (by kernel_rfl))
        refine StepV.done rfl (wanted_free rfl) fun K hK => ?_
        exact op_assign rfl (hK _ _ (Below.refl _ _) f)
    case done =>
      intro a W hv hI
      obtain ⟨t, df⟩ := a
      obtain rfl : df = [] := hI.defs
      have hz : t.size = 96 := hI.size
      have b0 := hI.below
      have e0 : t[0]?.getD undef = polV a0 c0 z0 := hI.old 0 (unwritten_of (by kernel_rfl) _)
      have e1 : t[1]?.getD undef = .int .u64 h := hI.old 1 (unwritten_of (by kernel_rfl) _)
      have e7 : t[7]?.getD undef = .bool true := hI.old 7 (unwritten_of (by kernel_rfl) _)
      have e8 : t[8]?.getD undef = .int .i64 s := hI.old 8 (unwritten_of (by kernel_rfl) _)
      have e11 : t[11]?.getD undef = .bool true := hv 22 11 rfl
      clear hv hI
      obtain ⟨ys, hy, ht⟩ := arr_slots t 96 hz
      have hl : (slotsFrom ys 0 96).toArray = #[ys 0, ys 1, ys 2, ys 3, ys 4, ys 5, ys 6, ys 7, ys 8, ys 9, ys 10, ys 11, ys 12, ys 13, ys 14, ys 15, ys 16, ys 17, ys 18, ys 19, ys 20, ys 21, ys 22, ys 23, ys 24, ys 25, ys 26, ys 27, ys 28, ys 29, ys 30, ys 31, ys 32, ys 33, ys 34, ys 35, ys 36, ys 37, ys 38, ys 39, ys 40, ys 41, ys 42, ys 43, ys 44, ys 45, ys 46, ys 47, ys 48, ys 49, ys 50, ys 51, ys 52, ys 53, ys 54, ys 55, ys 56, ys 57, ys 58, ys 59, ys 60, ys 61, ys 62, ys 63, ys 64, ys 65, ys 66, ys 67, ys 68, ys 69, ys 70, ys 71, ys 72, ys 73, ys 74, ys 75, ys 76, ys 77, ys 78, ys 79, ys 80, ys 81, ys 82, ys 83, ys 84, ys 85, ys 86, ys 87, ys 88, ys 89, ys 90, ys 91, ys 92, ys 93, ys 94, ys 95] := rfl
      rw [hy] at e0
      rw [hy] at e1
      rw [hy] at e7
      rw [hy] at e8
      rw [hy] at e11
      rw [ht, hl, e0, e1, e7, e8, e11]
      clear ht hl hz hy e0 e1 e7 e8 e11
      have L9 := Lib.hid (L6.out.kept b0)
      have B9' := Lib.hid (below2 B6.out b0)
      clear b0 L6 B6 PX0 PX
      go_wp2_with fail
      refine (Pol.Find_told a0 c0 z0 s W L9.out).mono ?_
      rintro e w7 ⟨rfl, hb⟩
      have L7 := Lib.hid (L9.out.kept hb)
      have B7 := Lib.hid (below2 B9'.out hb)
      clear hb L9 B9'
      generalize Pol.find z0 s 0 = q at *
      have dq : decide (0 ≤ q) = true := decide_eq_true HF.out
      go_wp2_with fail
      refine (Pol.Sorted_told a0 c0 z0 w7 L7.out (by omega)).mono ?_
      rintro e w8 ⟨v, rfl, ⟨aS, cS, rfl, hS⟩, hb⟩
      have S8 := Lib.hid hS
      have B8 := Lib.hid (below2 B7.out hb)
      have PS := Lib.hid (Pick_told aS cS (Pol.sorted z0) h w8 S8.out (by omega))
      rw [F1.out, HS.out] at PS
      clear hb hS B7 L7
      go_wp2_with fail
      refine PS.out.mono ?_
      rintro e w9 ⟨rfl, hb⟩
      have B9 := Lib.hid (below2 B8.out hb)
      clear hb B8 PS S8
      go_wp2_with fail
      go_ret
      exact ⟨rfl, B9.out⟩
  · obtain ⟨m, hm, hml, hme⟩ := (succL_own L HR.out i hi).resolve_left ho
    obtain ⟨g', off', e', y0, _⟩ := P4.out.at hml
    cases e'
    have dx : (succL L L[i].1 == L[i].2) = false := beq_false_of_ne ho
    have hw1 : IntKind.i64.wrap ((i : Int) - 1) = (m : Int) := by simp only [IntKind.wrap, IntKind.signed, IntKind.bits]; simp; omega
    have e3 : decide (0 < i) = true := decide_eq_true (by omega)
    rw [hme] at y0
    have PX0 := Lib.hid (fun W (hW : Pol.Lies W a0 c0 z0) => HPK.out W hW L[i].1)
    have HM := Lib.hid hm
    clear hm hme ho hn0 hn1 P4 HPK
    generalize L[i] = x at *
    generalize succL L x.1 = t at *
    go_wp2_with fail
    have X0 : (w4.alloc (.cells #[.int .u64 x.1, .int .i64 x.2] 28)).cell? ⟨w4.heap.size, 0, none⟩ = some (.int .u64 x.1) := by simp
    have X1 : (w4.alloc (.cells #[.int .u64 x.1, .int .i64 x.2] 28)).cell? ⟨w4.heap.size, 1, none⟩ = some (.int .i64 x.2) := by simp
    have ba := below_alloc w4 (.cells #[.int .u64 x.1, .int .i64 x.2] 28)
    have Y0 := (ba.cell (World.block_lt_of_cell? _ _ y0)).trans y0
    have L6 := Lib.hid (L4.out.kept ba)
    have B6 := Lib.hid (below2 B4.out ba)
    generalize hBx : w4.heap.size = Bx at *
    generalize (w4.alloc (.cells #[.int .u64 x.1, .int .i64 x.2] 28)) = w6 at *
    clear ba x0 x1 y0 hBx L4 B4
    go_region_held3 (fun W => Below w6.heap.size w6 W ∧ W.cell? ⟨Bx, 0, none⟩ = some (.int .u64 x.1) ∧ W.cell? ⟨Bx, 1, none⟩ = some (.int .i64 x.2) ∧ W.cell? ⟨g, off + m * 2, none⟩ = some (.int .u64 x.1)) (first | exact ⟨(Below.refl _ w6).drew, X0, X1, Y0⟩ | exact three_keep (by assumption) hb)
      (first | (go_at_call 16; (with_reducible refine (PX0.out _ (L6.out.kept (And.left (by assumption)))).mono ?_); rintro e w3 ⟨rfl, hb⟩))
    rename_i hHeld
    have L9 := Lib.hid (L6.out.kept hHeld.1)
    have B9' := Lib.hid (below2 B6.out hHeld.1)
    clear hHeld hb L6 B6 PX0
    go_wp2_with fail
    refine (Pol.Find_told a0 c0 z0 s _ L9.out).mono ?_
    rintro e w7 ⟨rfl, hb⟩
    have L7 := Lib.hid (L9.out.kept hb)
    have B7 := Lib.hid (below2 B9'.out hb)
    clear hb L9 B9'
    generalize Pol.find z0 s 0 = q at *
    have dq : decide (0 ≤ q) = true := decide_eq_true HF.out
    go_wp2_with fail
    refine (Pol.Sorted_told a0 c0 z0 w7 L7.out (by omega)).mono ?_
    rintro e w8 ⟨v, rfl, ⟨aS, cS, rfl, hS⟩, hb⟩
    have S8 := Lib.hid hS
    have B8 := Lib.hid (below2 B7.out hb)
    have PS := Lib.hid (Pick_told aS cS (Pol.sorted z0) h w8 S8.out (by omega))
    rw [F1.out, HS.out] at PS
    clear hb hS B7 L7
    go_wp2_with fail
    refine PS.out.mono ?_
    rintro e w9 ⟨rfl, hb⟩
    have B9 := Lib.hid (below2 B8.out hb)
    clear hb B8 PS S8
    go_wp2_with fail
    go_ret
    exact ⟨rfl, B9.out⟩

theorem own_RingOne : ownKnob Try.prog.godebug = none := by kernel_rfl
set_option maxRecDepth 100000 in
set_option maxHeartbeats 800000 in
theorem lifted_RingOne (os : Os) (started : os.Started) (H : Type) (enc : TypeId × Value → H) :
    ReturnsInHanded {} Try.checked os 6 .any (Rows.ringOneSpec.pre6 enc Try.prog Try.f6 Rows.ringOneRow.domain false) (Rows.ringOneSpec.post enc Try.prog Try.f6 false true false false) := by
  refine returnsInHanded_of_change (C := Try.checked) own_RingOne started (by kernel_rfl) Try.func6
    (ChangeSpec.witness6 (enc := enc) (C := Try.checked) false ⟨#[], #[.slice none 0 0, .int .u64 0, .int .i64 0], []⟩ 8 (by kernel_rfl) (by kernel_rfl) (by kernel_rfl) (by kernel_rfl)) ?_
  intro W base args ds gs before hval0 hW _ _
  have hval : ∀ (j : Nat) t v, Try.f6.params[j]? = some t → args[j]? = some v → Value.okWide Try.prog W .any base t v := hval0
  have hW' := hW
  obtain ⟨p, q, hA0, hV, rfl, _, _⟩ := hW
  have hA : DataW.TrodAll enc Try.prog W 0 (fun _ => true) true Try.f6.params.toList args.toList ds p := hA0
  rw [Try.params6] at hA hval
  obtain ⟨v0, vs0, d0, ds0, p0, q0, ha0, rfl, rfl, t0, r0⟩ := trodAll_cons hA
  obtain ⟨v1, vs1, d1, ds1, p1, q1, ha1, rfl, rfl, t1, r1⟩ := trodAll_cons r0
  obtain ⟨v2, vs2, d2, ds2, p2, q2, ha2, rfl, rfl, t2, r2⟩ := trodAll_cons r1
  obtain ⟨rfl, rfl, rfl⟩ := trodAll_nil r2
  subst ha2
  subst ha1
  obtain rfl : args = #[v0, v1, v2] := by cases args; simp_all
  obtain ⟨rfl, rfl⟩ := trodVars_none hV
  have k0 := t0
  have lt0 : ∀ x ∈ p0, x.block < W.heap.size := by obtain ⟨m, hm⟩ := k0; exact DataW.trod_lt m _ _ _ hm
  obtain ⟨a0, c0, z0, rfl, h0, g0⟩ := Stp.open_pool (hval 0 30 v0 rfl rfl) t0
  obtain ⟨a1, rfl, rfl, rfl, h1⟩ := open_int Try.underlying23 (hval 1 23 v1 rfl rfl) t1
  obtain ⟨a2, rfl, rfl, rfl, h2⟩ := open_int Try.underlying3 (hval 2 3 v2 rfl rfl) t2
  clear hA0 hval0
  refine (walk_RingOne a0 c0 z0 a1 a2 W h0 g0 h1 h2).mono fun e W' ⟨he, hnx⟩ => ?_
  subst he
  exact ⟨_, rfl, ⟨_, _, _, [], _, [], hW', trodAll_cons_mk (shut_bool Try.underlying4 _) trodAll_mk0, (trodAll_cons_mk (Below.trod Stp.laidOut (by kernel_rfl) (of_decide_eq_true (by kernel_rfl)) k0 hnx lt0) (trodAll_cons_mk (shut_int Try.underlying23 h1) (trodAll_cons_mk (shut_int Try.underlying3 h2) trodAll_mk0))), rfl, hnx.frame _, fun h => by cases h⟩⟩

theorem ringOne_holds : Rows.RingOneSaid :=
  OpenClaim.holds_of_wide 6 Try.f6 rfl rfl rfl rfl rfl rfl rfl ⟨rfl, rfl, rfl, rfl, rfl⟩ rfl rfl rfl rfl rfl (by kernel_rfl) Try.func6 (by kernel_rfl)
    (of_decide_eq_true (by kernel_rfl)) (by unfold Func.isWrapper; first | (rw [if_pos (by decide +kernel)]; kernel_rfl) | (rw [if_neg (by decide +kernel)]; exact ⟨rfl, rfl⟩))
    (fun os started H enc _ => lifted_RingOne os started H enc)

#print axioms ringOne_holds
end Go.Proofs.Ytppbbhijlkfioaa
