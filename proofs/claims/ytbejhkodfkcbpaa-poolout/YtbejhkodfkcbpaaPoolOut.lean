/-
  PoolOut: for every p, b and c the law PoolOut answers true: what is put in and taken out has changed nothing but what it took the place of. No condition.
-/
import Derived.Test.YtbejhkodfkcbpaaRows
import Derived.Test.YtbejhkodfkcbpaaStp
import Derived.Test.YtbejhkodfkcbpaaWkB
import Derived.ProofKit
import Derived.OpenShut
import Derived.ChangeMaps5
namespace Go.Proofs.Ytbejhkodfkcbpaa
open Go.ChangeShapes Go.WideShapes Go.ChangeAt Go.RowKit Go.Shelf
open Go.ChangeMaps (open_string shut_string)
open Pol Rgn

set_option maxRecDepth 100000 in
set_option maxHeartbeats 8000000 in
theorem walk_PoolOut (a0 : Option Addr) (c0 : Nat) (z0 : List Bk) (y yc : Bk) (w : World) (h0 : Lies w a0 c0 z0) (_g0 : ∀ x ∈ z0, Stp.BkOk x) (_h1 : Stp.BkOk y) (_h2 : Stp.BkOk yc) :
    Calls Try.prog 8 #[polV a0 c0 z0, .agg #[.int .i64 y.1, .int .i64 y.2], .agg #[.int .i64 yc.1, .int .i64 yc.2]] w fun e W' => e = .returned (.bool true) ∧ Below w.heap.size w W' := by
  have al := below2 (below_alloc w (.cells #[.int .i64 y.1, .int .i64 y.2] 24)) (below_alloc _ (.cells #[.int .i64 yc.1, .int .i64 yc.2] 24))
  have H := Lib.hid (h0.kept al)
  have A := Lib.hid al
  clear h0 _g0 al
  have y0 : ((w.alloc (.cells #[.int .i64 y.1, .int .i64 y.2] 24)).alloc (.cells #[.int .i64 yc.1, .int .i64 yc.2] 24)).cell? ⟨w.heap.size, 0, none⟩ = some (.int .i64 y.1) := by simp
  have y1 : ((w.alloc (.cells #[.int .i64 y.1, .int .i64 y.2] 24)).alloc (.cells #[.int .i64 yc.1, .int .i64 yc.2] 24)).cell? ⟨w.heap.size, 1, none⟩ = some (.int .i64 y.2) := by simp
  have x0 : ((w.alloc (.cells #[.int .i64 y.1, .int .i64 y.2] 24)).alloc (.cells #[.int .i64 yc.1, .int .i64 yc.2] 24)).cell? ⟨w.heap.size + 1, 0, none⟩ = some (.int .i64 yc.1) := by simp
  have x1 : ((w.alloc (.cells #[.int .i64 y.1, .int .i64 y.2] 24)).alloc (.cells #[.int .i64 yc.1, .int .i64 yc.2] 24)).cell? ⟨w.heap.size + 1, 1, none⟩ = some (.int .i64 yc.2) := by simp
  by_cases h60 : 60 < z0.length
  · have d0 : decide ((60 : Int) < (z0.length : Int)) = true := decide_eq_true (by omega)
    have d1 : decide (60 < z0.length) = true := decide_eq_true h60
    go_enter Try.func8, Try.ntmps8
    go_wp2_with fail
    refine (works_any _).mono ?_
    rintro e w1 ⟨rfl, hb⟩
    have B1 := Lib.hid (below2 A.out hb)
    clear hb
    go_wp2_with fail
    go_ret
    exact ⟨rfl, B1.out⟩
  have d0 : decide ((60 : Int) < (z0.length : Int)) = false := decide_eq_false (by omega)
  have d1 : decide (60 < z0.length) = false := decide_eq_false h60
  have hz : z0.length ≤ 60 := by omega
  go_enter Try.func8, Try.ntmps8
  go_wp2_with fail
  refine (works_any _).mono ?_
  rintro e w1 ⟨rfl, hb⟩
  have L1 := Lib.hid (H.out.kept hb)
  have k0 := (hb.cell (World.block_lt_of_cell? _ _ y0)).trans y0
  have k1 := (hb.cell (World.block_lt_of_cell? _ _ y1)).trans y1
  have k2 := (hb.cell (World.block_lt_of_cell? _ _ x0)).trans x0
  have k3 := (hb.cell (World.block_lt_of_cell? _ _ x1)).trans x1
  have B1 := Lib.hid (below2 A.out hb)
  clear hb H A y0 y1 x0 x1
  generalize hs1 : w.heap.size = s1 at *
  go_wp2_with fail
  refine (With_told a0 c0 z0 y w1 L1.out (by omega)).mono ?_
  rintro e w2 ⟨v, rfl, ⟨aw, cw, rfl, hLw⟩, hb⟩
  have L2 := Lib.hid (L1.out.kept hb)
  have M2 := Lib.hid hLw
  have m0 := (hb.cell (World.block_lt_of_cell? _ _ k0)).trans k0
  have m1 := (hb.cell (World.block_lt_of_cell? _ _ k1)).trans k1
  have m2 := (hb.cell (World.block_lt_of_cell? _ _ k2)).trans k2
  have m3 := (hb.cell (World.block_lt_of_cell? _ _ k3)).trans k3
  have B2 := Lib.hid (B1.out.trans (hb.mono (by have := B1.out.size; omega)))
  have hwl := with_length y z0
  clear hb hLw L1 B1 k0 k1 k2 k3
  go_wp2_with fail
  by_cases he : y.1 = yc.1
  · skip
    refine wp_region_val (spV [.is (.bool true), .is (.bool true), .pool (with_ z0 y), .is (.pointer (some ⟨s1, 0, none⟩)), .is (.int .i64 (y).1), .pool (without (with_ z0 y) (y).1), .pool z0, .is (.pointer (some ⟨s1, 0, none⟩)), .is (.int .i64 (y).1), .pool (without z0 (y).1), .is (.bool true), .is (.bool true), .is (.bool true), .is (.pointer (some ⟨s1, 0, none⟩)), .is (.int .i64 (y).1), .is (.pointer (some ⟨(s1 + 1), 0, none⟩)), .is (.int .i64 (yc).1), .is (.bool false), .is (.bool false), .pool (with_ z0 y), .is (bkV yc), .pool (with_ (with_ z0 y) yc), .pool z0, .is (bkV yc), .pool (with_ z0 yc), .is (.bool true), .is (.bool true), .is (.bool true), .is (.bool true), .pool (with_ z0 y), .is (.int .i64 (((with_ z0 y) : List _).length : Nat)), .pool z0, .is (.int .i64 ((z0 : List _).length : Nat)), .is (.int .i64 ((z0.length + 1 : Nat) : Int)), .is (.bool true), .is (.bool true), .is (.bool true)]) (spV_kept _) (by kernel_rfl) (by kernel_rfl) (by kernel_rfl) ?step ?done
    case step =>
      intro d a W i hi hall hI
      replace hi : i < 37 := hi
      have b0 := hI.below
      obtain rfl | rfl | rfl | rfl | rfl | rfl | rfl | rfl | rfl | rfl | rfl | rfl | rfl | rfl | rfl | rfl | rfl | rfl | rfl | rfl | rfl | rfl | rfl | rfl | rfl | rfl | rfl | rfl | rfl | rfl | rfl | rfl | rfl | rfl | rfl | rfl | rfl : i = 0 ∨ i = 1 ∨ i = 2 ∨ i = 3 ∨ i = 4 ∨ i = 5 ∨ i = 6 ∨ i = 7 ∨ i = 8 ∨ i = 9 ∨ i = 10 ∨ i = 11 ∨ i = 12 ∨ i = 13 ∨ i = 14 ∨ i = 15 ∨ i = 16 ∨ i = 17 ∨ i = 18 ∨ i = 19 ∨ i = 20 ∨ i = 21 ∨ i = 22 ∨ i = 23 ∨ i = 24 ∨ i = 25 ∨ i = 26 ∨ i = 27 ∨ i = 28 ∨ i = 29 ∨ i = 30 ∨ i = 31 ∨ i = 32 ∨ i = 33 ∨ i = 34 ∨ i = 35 ∨ i = 36 := by omega
      · have e7 : a.tmps[7]?.getD undef = .bool true := hI.old 7 (unwritten_of (by kernel_rfl) d)
        refine StepV.done rfl (wanted_free rfl) fun K hK => ?_
        exact op_move rfl (hK _ _ (Below.refl _ _) e7)
      · have f := hI.val 0 19 rfl (hall 0 (by kernel_rfl))
        refine StepV.done rfl (wanted_free rfl) fun K hK => ?_
        exact op_move rfl (hK _ _ (Below.refl _ _) f)
      · have g : a.tmps[20]?.getD undef = .bool true := hI.val 1 20 rfl (hall 1 (by kernel_rfl))
        have e8 : a.tmps[8]?.getD undef = polV aw cw (with_ z0 y) := hI.old 8 (unwritten_of (by kernel_rfl) d)
        have l8 := Lies.kept M2.out b0
        refine StepV.done rfl (by rw [wanted_if (j := 1) (s := 20) (want := true) (b := true) rfl rfl g]; rfl) fun K hK => ?_
        exact op_move rfl (hK _ _ (Below.refl _ _) ⟨_, _, e8, l8⟩)
      · have g : a.tmps[20]?.getD undef = .bool true := hI.val 1 20 rfl (hall 1 (by kernel_rfl))
        have e4 : a.tmps[4]?.getD undef = .pointer (some ⟨s1, 0, none⟩) := hI.old 4 (unwritten_of (by kernel_rfl) d)
        refine StepV.done rfl (by rw [wanted_if (j := 1) (s := 20) (want := true) (b := true) rfl rfl g]; rfl) fun K hK => ?_
        clear hall hI
        refine op_run (.pointer (some ⟨s1, 0, none⟩)) W ?_ (hK _ _ (Below.refl _ _) rfl)
        clear hK
        simp only [List.getElem_toArray, List.getElem_cons_zero, List.getElem_cons_succ, execOp, Act.eval]
        go_simp
      · have g : a.tmps[20]?.getD undef = .bool true := hI.val 1 20 rfl (hall 1 (by kernel_rfl))
        have e22 : a.tmps[22]?.getD undef = .pointer (some ⟨s1, 0, none⟩) := hI.val 3 22 rfl (hall 3 (by kernel_rfl))
        have c0 := (b0.cell (World.block_lt_of_cell? _ _ m0)).trans m0
        have c1 := (b0.cell (World.block_lt_of_cell? _ _ m1)).trans m1
        refine StepV.done rfl (by rw [wanted_if (j := 1) (s := 20) (want := true) (b := true) rfl rfl g]; rfl) fun K hK => ?_
        clear hall hI
        refine op_run (.int .i64 (y).1) W ?_ (hK _ _ (Below.refl _ _) rfl)
        clear hK
        simp only [List.getElem_toArray, List.getElem_cons_zero, List.getElem_cons_succ, execOp, Act.eval]
        go_simp
      · have g : a.tmps[20]?.getD undef = .bool true := hI.val 1 20 rfl (hall 1 (by kernel_rfl))
        obtain ⟨p21, q21, e21, l21⟩ : ∃ p c, a.tmps[21]?.getD undef = polV p c (with_ z0 y) ∧ Lies W p c (with_ z0 y) := hI.val 2 21 rfl (hall 2 (by kernel_rfl))
        have e23 : a.tmps[23]?.getD undef = .int .i64 (y).1 := hI.val 4 23 rfl (hall 4 (by kernel_rfl))
        refine StepV.done rfl (by rw [wanted_if (j := 1) (s := 20) (want := true) (b := true) rfl rfl g]; rfl) fun K hK => ?_
        have C := (Without_told p21 q21 (with_ z0 y) (y).1 W l21 (by omega)).mono (R' := fun e W2 => ∃ v, e = .returned v ∧ (∃ p c, v = polV p c (without (with_ z0 y) (y).1) ∧ Lies W2 p c (without (with_ z0 y) (y).1)) ∧ Below W.heap.size W W2) (fun e W2 ⟨v, he, hg, hb⟩ => ⟨v, he, hg, hb⟩)
        refine op_call 15 #[polV p21 q21 (with_ z0 y), .int .i64 (y).1] (fun v W2 => (∃ p c, v = polV p c (without (with_ z0 y) (y).1) ∧ Lies W2 p c (without (with_ z0 y) (y).1)) ∧ Below W.heap.size W W2) ?_ C (fun v W2 ⟨h1, h2⟩ => hK v W2 h2 h1)
        clear hall hI hK C
        simp only [List.getElem_toArray, List.getElem_cons_zero, List.getElem_cons_succ, execOp]
        go_simp
      · have g : a.tmps[20]?.getD undef = .bool true := hI.val 1 20 rfl (hall 1 (by kernel_rfl))
        have e0 : a.tmps[0]?.getD undef = polV a0 c0 z0 := hI.old 0 (unwritten_of (by kernel_rfl) d)
        have l0 := Lies.kept L2.out b0
        refine StepV.done rfl (by rw [wanted_if (j := 1) (s := 20) (want := true) (b := true) rfl rfl g]; rfl) fun K hK => ?_
        exact op_move rfl (hK _ _ (Below.refl _ _) ⟨_, _, e0, l0⟩)
      · have g : a.tmps[20]?.getD undef = .bool true := hI.val 1 20 rfl (hall 1 (by kernel_rfl))
        have e4 : a.tmps[4]?.getD undef = .pointer (some ⟨s1, 0, none⟩) := hI.old 4 (unwritten_of (by kernel_rfl) d)
        refine StepV.done rfl (by rw [wanted_if (j := 1) (s := 20) (want := true) (b := true) rfl rfl g]; rfl) fun K hK => ?_
        clear hall hI
        refine op_run (.pointer (some ⟨s1, 0, none⟩)) W ?_ (hK _ _ (Below.refl _ _) rfl)
        clear hK
        simp only [List.getElem_toArray, List.getElem_cons_zero, List.getElem_cons_succ, execOp, Act.eval]
        go_simp
      · have g : a.tmps[20]?.getD undef = .bool true := hI.val 1 20 rfl (hall 1 (by kernel_rfl))
        have e26 : a.tmps[26]?.getD undef = .pointer (some ⟨s1, 0, none⟩) := hI.val 7 26 rfl (hall 7 (by kernel_rfl))
        have c0 := (b0.cell (World.block_lt_of_cell? _ _ m0)).trans m0
        have c1 := (b0.cell (World.block_lt_of_cell? _ _ m1)).trans m1
        refine StepV.done rfl (by rw [wanted_if (j := 1) (s := 20) (want := true) (b := true) rfl rfl g]; rfl) fun K hK => ?_
        clear hall hI
        refine op_run (.int .i64 (y).1) W ?_ (hK _ _ (Below.refl _ _) rfl)
        clear hK
        simp only [List.getElem_toArray, List.getElem_cons_zero, List.getElem_cons_succ, execOp, Act.eval]
        go_simp
      · have g : a.tmps[20]?.getD undef = .bool true := hI.val 1 20 rfl (hall 1 (by kernel_rfl))
        obtain ⟨p25, q25, e25, l25⟩ : ∃ p c, a.tmps[25]?.getD undef = polV p c z0 ∧ Lies W p c z0 := hI.val 6 25 rfl (hall 6 (by kernel_rfl))
        have e27 : a.tmps[27]?.getD undef = .int .i64 (y).1 := hI.val 8 27 rfl (hall 8 (by kernel_rfl))
        refine StepV.done rfl (by rw [wanted_if (j := 1) (s := 20) (want := true) (b := true) rfl rfl g]; rfl) fun K hK => ?_
        have C := (Without_told p25 q25 z0 (y).1 W l25 (by omega)).mono (R' := fun e W2 => ∃ v, e = .returned v ∧ (∃ p c, v = polV p c (without z0 (y).1) ∧ Lies W2 p c (without z0 (y).1)) ∧ Below W.heap.size W W2) (fun e W2 ⟨v, he, hg, hb⟩ => ⟨v, he, hg, hb⟩)
        refine op_call 15 #[polV p25 q25 z0, .int .i64 (y).1] (fun v W2 => (∃ p c, v = polV p c (without z0 (y).1) ∧ Lies W2 p c (without z0 (y).1)) ∧ Below W.heap.size W W2) ?_ C (fun v W2 ⟨h1, h2⟩ => hK v W2 h2 h1)
        clear hall hI hK C
        simp only [List.getElem_toArray, List.getElem_cons_zero, List.getElem_cons_succ, execOp]
        go_simp
      · have g : a.tmps[20]?.getD undef = .bool true := hI.val 1 20 rfl (hall 1 (by kernel_rfl))
        obtain ⟨p24, q24, e24, l24⟩ : ∃ p c, a.tmps[24]?.getD undef = polV p c (without (with_ z0 y) (y).1) ∧ Lies W p c (without (with_ z0 y) (y).1) := hI.val 5 24 rfl (hall 5 (by kernel_rfl))
        obtain ⟨p28, q28, e28, l28⟩ : ∃ p c, a.tmps[28]?.getD undef = polV p c (without z0 (y).1) ∧ Lies W p c (without z0 (y).1) := hI.val 9 28 rfl (hall 9 (by kernel_rfl))
        refine StepV.done rfl (by rw [wanted_if (j := 1) (s := 20) (want := true) (b := true) rfl rfl g]; rfl) fun K hK => ?_
        have C := (Same_told p24 q24 (without (with_ z0 y) (y).1) p28 q28 (without z0 (y).1) true (by simp [without_with]) W l24 l28).mono (R' := fun e W2 => ∃ v, e = .returned v ∧ v = .bool true ∧ Below W.heap.size W W2) (fun e W2 ⟨he, hb⟩ => ⟨_, he, rfl, hb⟩)
        refine op_call 24 #[polV p24 q24 (without (with_ z0 y) (y).1), polV p28 q28 (without z0 (y).1)] (fun v W2 => v = .bool true ∧ Below W.heap.size W W2) ?_ C (fun v W2 ⟨h1, h2⟩ => hK v W2 h2 h1)
        clear hall hI hK C
        simp only [List.getElem_toArray, List.getElem_cons_zero, List.getElem_cons_succ, execOp]
        go_simp
      · have e20 : a.tmps[20]?.getD undef = .bool true := hI.val 1 20 rfl (hall 1 (by kernel_rfl))
        have e29 : a.tmps[29]?.getD undef = .bool true := hI.val 10 29 rfl (hall 10 (by kernel_rfl))
        refine StepV.done rfl (wanted_free rfl) fun K hK => ?_
        exact op_pick_yes rfl e20 (hK _ _ (Below.refl _ _) ((eval_tmp 29).trans e29))
      · have f := hI.val 11 30 rfl (hall 11 (by kernel_rfl))
        refine StepV.done rfl (wanted_free rfl) fun K hK => ?_
        exact op_move rfl (hK _ _ (Below.refl _ _) f)
      · have g : a.tmps[31]?.getD undef = .bool true := hI.val 12 31 rfl (hall 12 (by kernel_rfl))
        have e4 : a.tmps[4]?.getD undef = .pointer (some ⟨s1, 0, none⟩) := hI.old 4 (unwritten_of (by kernel_rfl) d)
        refine StepV.done rfl (by rw [wanted_if (j := 12) (s := 31) (want := true) (b := true) rfl rfl g]; rfl) fun K hK => ?_
        clear hall hI
        refine op_run (.pointer (some ⟨s1, 0, none⟩)) W ?_ (hK _ _ (Below.refl _ _) rfl)
        clear hK
        simp only [List.getElem_toArray, List.getElem_cons_zero, List.getElem_cons_succ, execOp, Act.eval]
        go_simp
      · have g : a.tmps[31]?.getD undef = .bool true := hI.val 12 31 rfl (hall 12 (by kernel_rfl))
        have e32 : a.tmps[32]?.getD undef = .pointer (some ⟨s1, 0, none⟩) := hI.val 13 32 rfl (hall 13 (by kernel_rfl))
        have c0 := (b0.cell (World.block_lt_of_cell? _ _ m0)).trans m0
        have c1 := (b0.cell (World.block_lt_of_cell? _ _ m1)).trans m1
        refine StepV.done rfl (by rw [wanted_if (j := 12) (s := 31) (want := true) (b := true) rfl rfl g]; rfl) fun K hK => ?_
        clear hall hI
        refine op_run (.int .i64 (y).1) W ?_ (hK _ _ (Below.refl _ _) rfl)
        clear hK
        simp only [List.getElem_toArray, List.getElem_cons_zero, List.getElem_cons_succ, execOp, Act.eval]
        go_simp
      · have g : a.tmps[31]?.getD undef = .bool true := hI.val 12 31 rfl (hall 12 (by kernel_rfl))
        have e5 : a.tmps[5]?.getD undef = .pointer (some ⟨(s1 + 1), 0, none⟩) := hI.old 5 (unwritten_of (by kernel_rfl) d)
        refine StepV.done rfl (by rw [wanted_if (j := 12) (s := 31) (want := true) (b := true) rfl rfl g]; rfl) fun K hK => ?_
        clear hall hI
        refine op_run (.pointer (some ⟨(s1 + 1), 0, none⟩)) W ?_ (hK _ _ (Below.refl _ _) rfl)
        clear hK
        simp only [List.getElem_toArray, List.getElem_cons_zero, List.getElem_cons_succ, execOp, Act.eval]
        go_simp
      · have g : a.tmps[31]?.getD undef = .bool true := hI.val 12 31 rfl (hall 12 (by kernel_rfl))
        have e34 : a.tmps[34]?.getD undef = .pointer (some ⟨(s1 + 1), 0, none⟩) := hI.val 15 34 rfl (hall 15 (by kernel_rfl))
        have c0 := (b0.cell (World.block_lt_of_cell? _ _ m2)).trans m2
        have c1 := (b0.cell (World.block_lt_of_cell? _ _ m3)).trans m3
        refine StepV.done rfl (by rw [wanted_if (j := 12) (s := 31) (want := true) (b := true) rfl rfl g]; rfl) fun K hK => ?_
        clear hall hI
        refine op_run (.int .i64 (yc).1) W ?_ (hK _ _ (Below.refl _ _) rfl)
        clear hK
        simp only [List.getElem_toArray, List.getElem_cons_zero, List.getElem_cons_succ, execOp, Act.eval]
        go_simp
      · have g : a.tmps[31]?.getD undef = .bool true := hI.val 12 31 rfl (hall 12 (by kernel_rfl))
        have e33 : a.tmps[33]?.getD undef = .int .i64 (y).1 := hI.val 14 33 rfl (hall 14 (by kernel_rfl))
        have e35 : a.tmps[35]?.getD undef = .int .i64 (yc).1 := hI.val 16 35 rfl (hall 16 (by kernel_rfl))
        have hq : ((y).1 != (yc).1) = false := by simp [he]
        refine StepV.done rfl (by rw [wanted_if (j := 12) (s := 31) (want := true) (b := true) rfl rfl g]; rfl) fun K hK => ?_
        clear hall hI
        refine op_run (.bool false) W ?_ (hK _ _ (Below.refl _ _) rfl)
        clear hK
        simp only [List.getElem_toArray, List.getElem_cons_zero, List.getElem_cons_succ, execOp, Act.eval]
        go_simp
      · have g : a.tmps[31]?.getD undef = .bool true := hI.val 12 31 rfl (hall 12 (by kernel_rfl))
        have f := hI.val 17 36 rfl (hall 17 (by kernel_rfl))
        refine StepV.done rfl (by rw [wanted_if (j := 12) (s := 31) (want := true) (b := true) rfl rfl g]; rfl) fun K hK => ?_
        exact op_move rfl (hK _ _ (Below.refl _ _) f)
      · have g : a.tmps[37]?.getD undef = .bool false := hI.val 18 37 rfl (hall 18 (by kernel_rfl))
        have e8 : a.tmps[8]?.getD undef = polV aw cw (with_ z0 y) := hI.old 8 (unwritten_of (by kernel_rfl) d)
        have l8 := Lies.kept M2.out b0
        refine StepV.done rfl (by rw [wanted_if (j := 18) (s := 37) (want := false) (b := false) rfl rfl g]; rfl) fun K hK => ?_
        exact op_move rfl (hK _ _ (Below.refl _ _) ⟨_, _, e8, l8⟩)
      · have g : a.tmps[37]?.getD undef = .bool false := hI.val 18 37 rfl (hall 18 (by kernel_rfl))
        have e5 : a.tmps[5]?.getD undef = .pointer (some ⟨(s1 + 1), 0, none⟩) := hI.old 5 (unwritten_of (by kernel_rfl) d)
        have c0 := (b0.cell (World.block_lt_of_cell? _ _ m2)).trans m2
        have c1 := (b0.cell (World.block_lt_of_cell? _ _ m3)).trans m3
        refine StepV.done rfl (by rw [wanted_if (j := 18) (s := 37) (want := false) (b := false) rfl rfl g]; rfl) fun K hK => ?_
        clear hall hI
        refine op_run (bkV yc) W ?_ (hK _ _ (Below.refl _ _) rfl)
        clear hK
        simp only [List.getElem_toArray, List.getElem_cons_zero, List.getElem_cons_succ, execOp, Act.eval]
        go_simp
      · have g : a.tmps[37]?.getD undef = .bool false := hI.val 18 37 rfl (hall 18 (by kernel_rfl))
        obtain ⟨p38, q38, e38, l38⟩ : ∃ p c, a.tmps[38]?.getD undef = polV p c (with_ z0 y) ∧ Lies W p c (with_ z0 y) := hI.val 19 38 rfl (hall 19 (by kernel_rfl))
        have e39 : a.tmps[39]?.getD undef = bkV yc := hI.val 20 39 rfl (hall 20 (by kernel_rfl))
        refine StepV.done rfl (by rw [wanted_if (j := 18) (s := 37) (want := false) (b := false) rfl rfl g]; rfl) fun K hK => ?_
        have C := (With_told p38 q38 (with_ z0 y) yc W l38 (by omega)).mono (R' := fun e W2 => ∃ v, e = .returned v ∧ (∃ p c, v = polV p c (with_ (with_ z0 y) yc) ∧ Lies W2 p c (with_ (with_ z0 y) yc)) ∧ Below W.heap.size W W2) (fun e W2 ⟨v, he, hg, hb⟩ => ⟨v, he, hg, hb⟩)
        refine op_call 13 #[polV p38 q38 (with_ z0 y), bkV yc] (fun v W2 => (∃ p c, v = polV p c (with_ (with_ z0 y) yc) ∧ Lies W2 p c (with_ (with_ z0 y) yc)) ∧ Below W.heap.size W W2) ?_ C (fun v W2 ⟨h1, h2⟩ => hK v W2 h2 h1)
        clear hall hI hK C
        simp only [List.getElem_toArray, List.getElem_cons_zero, List.getElem_cons_succ, execOp]
        go_simp
      · have g : a.tmps[37]?.getD undef = .bool false := hI.val 18 37 rfl (hall 18 (by kernel_rfl))
        have e0 : a.tmps[0]?.getD undef = polV a0 c0 z0 := hI.old 0 (unwritten_of (by kernel_rfl) d)
        have l0 := Lies.kept L2.out b0
        refine StepV.done rfl (by rw [wanted_if (j := 18) (s := 37) (want := false) (b := false) rfl rfl g]; rfl) fun K hK => ?_
        exact op_move rfl (hK _ _ (Below.refl _ _) ⟨_, _, e0, l0⟩)
      · have g : a.tmps[37]?.getD undef = .bool false := hI.val 18 37 rfl (hall 18 (by kernel_rfl))
        have e5 : a.tmps[5]?.getD undef = .pointer (some ⟨(s1 + 1), 0, none⟩) := hI.old 5 (unwritten_of (by kernel_rfl) d)
        have c0 := (b0.cell (World.block_lt_of_cell? _ _ m2)).trans m2
        have c1 := (b0.cell (World.block_lt_of_cell? _ _ m3)).trans m3
        refine StepV.done rfl (by rw [wanted_if (j := 18) (s := 37) (want := false) (b := false) rfl rfl g]; rfl) fun K hK => ?_
        clear hall hI
        refine op_run (bkV yc) W ?_ (hK _ _ (Below.refl _ _) rfl)
        clear hK
        simp only [List.getElem_toArray, List.getElem_cons_zero, List.getElem_cons_succ, execOp, Act.eval]
        go_simp
      · have g : a.tmps[37]?.getD undef = .bool false := hI.val 18 37 rfl (hall 18 (by kernel_rfl))
        obtain ⟨p41, q41, e41, l41⟩ : ∃ p c, a.tmps[41]?.getD undef = polV p c z0 ∧ Lies W p c z0 := hI.val 22 41 rfl (hall 22 (by kernel_rfl))
        have e42 : a.tmps[42]?.getD undef = bkV yc := hI.val 23 42 rfl (hall 23 (by kernel_rfl))
        refine StepV.done rfl (by rw [wanted_if (j := 18) (s := 37) (want := false) (b := false) rfl rfl g]; rfl) fun K hK => ?_
        have C := (With_told p41 q41 z0 yc W l41 (by omega)).mono (R' := fun e W2 => ∃ v, e = .returned v ∧ (∃ p c, v = polV p c (with_ z0 yc) ∧ Lies W2 p c (with_ z0 yc)) ∧ Below W.heap.size W W2) (fun e W2 ⟨v, he, hg, hb⟩ => ⟨v, he, hg, hb⟩)
        refine op_call 13 #[polV p41 q41 z0, bkV yc] (fun v W2 => (∃ p c, v = polV p c (with_ z0 yc) ∧ Lies W2 p c (with_ z0 yc)) ∧ Below W.heap.size W W2) ?_ C (fun v W2 ⟨h1, h2⟩ => hK v W2 h2 h1)
        clear hall hI hK C
        simp only [List.getElem_toArray, List.getElem_cons_zero, List.getElem_cons_succ, execOp]
        go_simp
      · have g : a.tmps[37]?.getD undef = .bool false := hI.val 18 37 rfl (hall 18 (by kernel_rfl))
        obtain ⟨p40, q40, e40, l40⟩ : ∃ p c, a.tmps[40]?.getD undef = polV p c (with_ (with_ z0 y) yc) ∧ Lies W p c (with_ (with_ z0 y) yc) := hI.val 21 40 rfl (hall 21 (by kernel_rfl))
        obtain ⟨p43, q43, e43, l43⟩ : ∃ p c, a.tmps[43]?.getD undef = polV p c (with_ z0 yc) ∧ Lies W p c (with_ z0 yc) := hI.val 24 43 rfl (hall 24 (by kernel_rfl))
        refine StepV.done rfl (by rw [wanted_if (j := 18) (s := 37) (want := false) (b := false) rfl rfl g]; rfl) fun K hK => ?_
        have C := (Same_told p40 q40 (with_ (with_ z0 y) yc) p43 q43 (with_ z0 yc) true (by simp [with_with z0 y yc he]) W l40 l43).mono (R' := fun e W2 => ∃ v, e = .returned v ∧ v = .bool true ∧ Below W.heap.size W W2) (fun e W2 ⟨he, hb⟩ => ⟨_, he, rfl, hb⟩)
        refine op_call 24 #[polV p40 q40 (with_ (with_ z0 y) yc), polV p43 q43 (with_ z0 yc)] (fun v W2 => v = .bool true ∧ Below W.heap.size W W2) ?_ C (fun v W2 ⟨h1, h2⟩ => hK v W2 h2 h1)
        clear hall hI hK C
        simp only [List.getElem_toArray, List.getElem_cons_zero, List.getElem_cons_succ, execOp]
        go_simp
      · have g : a.tmps[31]?.getD undef = .bool true := hI.val 12 31 rfl (hall 12 (by kernel_rfl))
        have e37 : a.tmps[37]?.getD undef = .bool false := hI.val 18 37 rfl (hall 18 (by kernel_rfl))
        have e44 : a.tmps[44]?.getD undef = .bool true := hI.val 25 44 rfl (hall 25 (by kernel_rfl))
        refine StepV.done rfl (by rw [wanted_if (j := 12) (s := 31) (want := true) (b := true) rfl rfl g]; rfl) fun K hK => ?_
        exact op_pick_no rfl e37 (hK _ _ (Below.refl _ _) ((eval_tmp 44).trans e44))
      · have e31 : a.tmps[31]?.getD undef = .bool true := hI.val 12 31 rfl (hall 12 (by kernel_rfl))
        have e45 : a.tmps[45]?.getD undef = .bool true := hI.val 26 45 rfl (hall 26 (by kernel_rfl))
        refine StepV.done rfl (wanted_free rfl) fun K hK => ?_
        exact op_pick_yes rfl e31 (hK _ _ (Below.refl _ _) ((eval_tmp 45).trans e45))
      · have f := hI.val 27 46 rfl (hall 27 (by kernel_rfl))
        refine StepV.done rfl (wanted_free rfl) fun K hK => ?_
        exact op_move rfl (hK _ _ (Below.refl _ _) f)
      · have g : a.tmps[47]?.getD undef = .bool true := hI.val 28 47 rfl (hall 28 (by kernel_rfl))
        have e8 : a.tmps[8]?.getD undef = polV aw cw (with_ z0 y) := hI.old 8 (unwritten_of (by kernel_rfl) d)
        have l8 := Lies.kept M2.out b0
        refine StepV.done rfl (by rw [wanted_if (j := 28) (s := 47) (want := true) (b := true) rfl rfl g]; rfl) fun K hK => ?_
        exact op_move rfl (hK _ _ (Below.refl _ _) ⟨_, _, e8, l8⟩)
      · have g : a.tmps[47]?.getD undef = .bool true := hI.val 28 47 rfl (hall 28 (by kernel_rfl))
        obtain ⟨p48, q48, e48, l48⟩ : ∃ p c, a.tmps[48]?.getD undef = polV p c (with_ z0 y) ∧ Lies W p c (with_ z0 y) := hI.val 29 48 rfl (hall 29 (by kernel_rfl))
        refine StepV.done rfl (by rw [wanted_if (j := 28) (s := 47) (want := true) (b := true) rfl rfl g]; rfl) fun K hK => ?_
        clear hall hI
        refine op_run (.int .i64 (((with_ z0 y) : List _).length : Nat)) W ?_ (hK _ _ (Below.refl _ _) rfl)
        clear hK
        simp only [List.getElem_toArray, List.getElem_cons_zero, List.getElem_cons_succ, execOp]
        go_simp
      · have g : a.tmps[47]?.getD undef = .bool true := hI.val 28 47 rfl (hall 28 (by kernel_rfl))
        have e0 : a.tmps[0]?.getD undef = polV a0 c0 z0 := hI.old 0 (unwritten_of (by kernel_rfl) d)
        have l0 := Lies.kept L2.out b0
        refine StepV.done rfl (by rw [wanted_if (j := 28) (s := 47) (want := true) (b := true) rfl rfl g]; rfl) fun K hK => ?_
        exact op_move rfl (hK _ _ (Below.refl _ _) ⟨_, _, e0, l0⟩)
      · have g : a.tmps[47]?.getD undef = .bool true := hI.val 28 47 rfl (hall 28 (by kernel_rfl))
        obtain ⟨p50, q50, e50, l50⟩ : ∃ p c, a.tmps[50]?.getD undef = polV p c z0 ∧ Lies W p c z0 := hI.val 31 50 rfl (hall 31 (by kernel_rfl))
        refine StepV.done rfl (by rw [wanted_if (j := 28) (s := 47) (want := true) (b := true) rfl rfl g]; rfl) fun K hK => ?_
        clear hall hI
        refine op_run (.int .i64 ((z0 : List _).length : Nat)) W ?_ (hK _ _ (Below.refl _ _) rfl)
        clear hK
        simp only [List.getElem_toArray, List.getElem_cons_zero, List.getElem_cons_succ, execOp]
        go_simp
      · have g : a.tmps[47]?.getD undef = .bool true := hI.val 28 47 rfl (hall 28 (by kernel_rfl))
        have e51 : a.tmps[51]?.getD undef = .int .i64 ((z0 : List _).length : Nat) := hI.val 32 51 rfl (hall 32 (by kernel_rfl))
        refine StepV.done rfl (by rw [wanted_if (j := 28) (s := 47) (want := true) (b := true) rfl rfl g]; rfl) fun K hK => ?_
        clear hall hI
        refine op_run (.int .i64 ((z0.length + 1 : Nat) : Int)) W ?_ (hK _ _ (Below.refl _ _) rfl)
        clear hK
        simp only [List.getElem_toArray, List.getElem_cons_zero, List.getElem_cons_succ, execOp, Act.eval]
        go_simp
        rw [IntKind.wrap_i64]; omega
      · have g : a.tmps[47]?.getD undef = .bool true := hI.val 28 47 rfl (hall 28 (by kernel_rfl))
        have e49 : a.tmps[49]?.getD undef = .int .i64 (((with_ z0 y) : List _).length : Nat) := hI.val 30 49 rfl (hall 30 (by kernel_rfl))
        have e52 : a.tmps[52]?.getD undef = .int .i64 ((z0.length + 1 : Nat) : Int) := hI.val 33 52 rfl (hall 33 (by kernel_rfl))
        refine StepV.done rfl (by rw [wanted_if (j := 28) (s := 47) (want := true) (b := true) rfl rfl g]; rfl) fun K hK => ?_
        clear hall hI
        refine op_run (.bool true) W ?_ (hK _ _ (Below.refl _ _) rfl)
        clear hK
        simp only [List.getElem_toArray, List.getElem_cons_zero, List.getElem_cons_succ, execOp, Act.eval]
        go_simp; try omega
      · have e47 : a.tmps[47]?.getD undef = .bool true := hI.val 28 47 rfl (hall 28 (by kernel_rfl))
        have e53 : a.tmps[53]?.getD undef = .bool true := hI.val 34 53 rfl (hall 34 (by kernel_rfl))
        refine StepV.done rfl (wanted_free rfl) fun K hK => ?_
        exact op_pick_yes rfl e47 (hK _ _ (Below.refl _ _) ((eval_tmp 53).trans e53))
      · have f := hI.val 35 54 rfl (hall 35 (by kernel_rfl))
        refine StepV.done rfl (wanted_free rfl) fun K hK => ?_
        exact op_assign rfl (hK _ _ (Below.refl _ _) f)
    case done =>
      intro a W hv hI
      obtain ⟨t, df⟩ := a
      obtain rfl : df = [] := hI.defs
      have hz : t.size = 55 := hI.size
      have b0 := hI.below
      have e6 : t[6]?.getD undef = .bool true := hv 36 6 rfl
      clear hv hI
      obtain ⟨y, hy, ht⟩ := arr_slots t 55 hz
      have hl : (slotsFrom y 0 55).toArray = #[y 0, y 1, y 2, y 3, y 4, y 5, y 6, y 7, y 8, y 9, y 10, y 11, y 12, y 13, y 14, y 15, y 16, y 17, y 18, y 19, y 20, y 21, y 22, y 23, y 24, y 25, y 26, y 27, y 28, y 29, y 30, y 31, y 32, y 33, y 34, y 35, y 36, y 37, y 38, y 39, y 40, y 41, y 42, y 43, y 44, y 45, y 46, y 47, y 48, y 49, y 50, y 51, y 52, y 53, y 54] := rfl
      rw [hy] at e6
      rw [ht, hl, e6]
      clear ht hl hz hy e6
      go_wp2_with fail
      go_ret
      exact ⟨rfl, by rw [hs1]; exact B2.out.trans (b0.mono (by have := B2.out.size; omega))⟩
  · skip
    refine wp_region_val (spV [.is (.bool true), .is (.bool true), .pool (with_ z0 y), .is (.pointer (some ⟨s1, 0, none⟩)), .is (.int .i64 (y).1), .pool (without (with_ z0 y) (y).1), .pool z0, .is (.pointer (some ⟨s1, 0, none⟩)), .is (.int .i64 (y).1), .pool (without z0 (y).1), .is (.bool true), .is (.bool true), .is (.bool true), .is (.pointer (some ⟨s1, 0, none⟩)), .is (.int .i64 (y).1), .is (.pointer (some ⟨(s1 + 1), 0, none⟩)), .is (.int .i64 (yc).1), .is (.bool true), .is (.bool true), .any, .any, .any, .any, .any, .any, .any, .is (.bool true), .is (.bool true), .is (.bool true), .pool (with_ z0 y), .is (.int .i64 (((with_ z0 y) : List _).length : Nat)), .pool z0, .is (.int .i64 ((z0 : List _).length : Nat)), .is (.int .i64 ((z0.length + 1 : Nat) : Int)), .is (.bool true), .is (.bool true), .is (.bool true)]) (spV_kept _) (by kernel_rfl) (by kernel_rfl) (by kernel_rfl) ?step ?done
    case step =>
      intro d a W i hi hall hI
      replace hi : i < 37 := hi
      have b0 := hI.below
      obtain rfl | rfl | rfl | rfl | rfl | rfl | rfl | rfl | rfl | rfl | rfl | rfl | rfl | rfl | rfl | rfl | rfl | rfl | rfl | rfl | rfl | rfl | rfl | rfl | rfl | rfl | rfl | rfl | rfl | rfl | rfl | rfl | rfl | rfl | rfl | rfl | rfl : i = 0 ∨ i = 1 ∨ i = 2 ∨ i = 3 ∨ i = 4 ∨ i = 5 ∨ i = 6 ∨ i = 7 ∨ i = 8 ∨ i = 9 ∨ i = 10 ∨ i = 11 ∨ i = 12 ∨ i = 13 ∨ i = 14 ∨ i = 15 ∨ i = 16 ∨ i = 17 ∨ i = 18 ∨ i = 19 ∨ i = 20 ∨ i = 21 ∨ i = 22 ∨ i = 23 ∨ i = 24 ∨ i = 25 ∨ i = 26 ∨ i = 27 ∨ i = 28 ∨ i = 29 ∨ i = 30 ∨ i = 31 ∨ i = 32 ∨ i = 33 ∨ i = 34 ∨ i = 35 ∨ i = 36 := by omega
      · have e7 : a.tmps[7]?.getD undef = .bool true := hI.old 7 (unwritten_of (by kernel_rfl) d)
        refine StepV.done rfl (wanted_free rfl) fun K hK => ?_
        exact op_move rfl (hK _ _ (Below.refl _ _) e7)
      · have f := hI.val 0 19 rfl (hall 0 (by kernel_rfl))
        refine StepV.done rfl (wanted_free rfl) fun K hK => ?_
        exact op_move rfl (hK _ _ (Below.refl _ _) f)
      · have g : a.tmps[20]?.getD undef = .bool true := hI.val 1 20 rfl (hall 1 (by kernel_rfl))
        have e8 : a.tmps[8]?.getD undef = polV aw cw (with_ z0 y) := hI.old 8 (unwritten_of (by kernel_rfl) d)
        have l8 := Lies.kept M2.out b0
        refine StepV.done rfl (by rw [wanted_if (j := 1) (s := 20) (want := true) (b := true) rfl rfl g]; rfl) fun K hK => ?_
        exact op_move rfl (hK _ _ (Below.refl _ _) ⟨_, _, e8, l8⟩)
      · have g : a.tmps[20]?.getD undef = .bool true := hI.val 1 20 rfl (hall 1 (by kernel_rfl))
        have e4 : a.tmps[4]?.getD undef = .pointer (some ⟨s1, 0, none⟩) := hI.old 4 (unwritten_of (by kernel_rfl) d)
        refine StepV.done rfl (by rw [wanted_if (j := 1) (s := 20) (want := true) (b := true) rfl rfl g]; rfl) fun K hK => ?_
        clear hall hI
        refine op_run (.pointer (some ⟨s1, 0, none⟩)) W ?_ (hK _ _ (Below.refl _ _) rfl)
        clear hK
        simp only [List.getElem_toArray, List.getElem_cons_zero, List.getElem_cons_succ, execOp, Act.eval]
        go_simp
      · have g : a.tmps[20]?.getD undef = .bool true := hI.val 1 20 rfl (hall 1 (by kernel_rfl))
        have e22 : a.tmps[22]?.getD undef = .pointer (some ⟨s1, 0, none⟩) := hI.val 3 22 rfl (hall 3 (by kernel_rfl))
        have c0 := (b0.cell (World.block_lt_of_cell? _ _ m0)).trans m0
        have c1 := (b0.cell (World.block_lt_of_cell? _ _ m1)).trans m1
        refine StepV.done rfl (by rw [wanted_if (j := 1) (s := 20) (want := true) (b := true) rfl rfl g]; rfl) fun K hK => ?_
        clear hall hI
        refine op_run (.int .i64 (y).1) W ?_ (hK _ _ (Below.refl _ _) rfl)
        clear hK
        simp only [List.getElem_toArray, List.getElem_cons_zero, List.getElem_cons_succ, execOp, Act.eval]
        go_simp
      · have g : a.tmps[20]?.getD undef = .bool true := hI.val 1 20 rfl (hall 1 (by kernel_rfl))
        obtain ⟨p21, q21, e21, l21⟩ : ∃ p c, a.tmps[21]?.getD undef = polV p c (with_ z0 y) ∧ Lies W p c (with_ z0 y) := hI.val 2 21 rfl (hall 2 (by kernel_rfl))
        have e23 : a.tmps[23]?.getD undef = .int .i64 (y).1 := hI.val 4 23 rfl (hall 4 (by kernel_rfl))
        refine StepV.done rfl (by rw [wanted_if (j := 1) (s := 20) (want := true) (b := true) rfl rfl g]; rfl) fun K hK => ?_
        have C := (Without_told p21 q21 (with_ z0 y) (y).1 W l21 (by omega)).mono (R' := fun e W2 => ∃ v, e = .returned v ∧ (∃ p c, v = polV p c (without (with_ z0 y) (y).1) ∧ Lies W2 p c (without (with_ z0 y) (y).1)) ∧ Below W.heap.size W W2) (fun e W2 ⟨v, he, hg, hb⟩ => ⟨v, he, hg, hb⟩)
        refine op_call 15 #[polV p21 q21 (with_ z0 y), .int .i64 (y).1] (fun v W2 => (∃ p c, v = polV p c (without (with_ z0 y) (y).1) ∧ Lies W2 p c (without (with_ z0 y) (y).1)) ∧ Below W.heap.size W W2) ?_ C (fun v W2 ⟨h1, h2⟩ => hK v W2 h2 h1)
        clear hall hI hK C
        simp only [List.getElem_toArray, List.getElem_cons_zero, List.getElem_cons_succ, execOp]
        go_simp
      · have g : a.tmps[20]?.getD undef = .bool true := hI.val 1 20 rfl (hall 1 (by kernel_rfl))
        have e0 : a.tmps[0]?.getD undef = polV a0 c0 z0 := hI.old 0 (unwritten_of (by kernel_rfl) d)
        have l0 := Lies.kept L2.out b0
        refine StepV.done rfl (by rw [wanted_if (j := 1) (s := 20) (want := true) (b := true) rfl rfl g]; rfl) fun K hK => ?_
        exact op_move rfl (hK _ _ (Below.refl _ _) ⟨_, _, e0, l0⟩)
      · have g : a.tmps[20]?.getD undef = .bool true := hI.val 1 20 rfl (hall 1 (by kernel_rfl))
        have e4 : a.tmps[4]?.getD undef = .pointer (some ⟨s1, 0, none⟩) := hI.old 4 (unwritten_of (by kernel_rfl) d)
        refine StepV.done rfl (by rw [wanted_if (j := 1) (s := 20) (want := true) (b := true) rfl rfl g]; rfl) fun K hK => ?_
        clear hall hI
        refine op_run (.pointer (some ⟨s1, 0, none⟩)) W ?_ (hK _ _ (Below.refl _ _) rfl)
        clear hK
        simp only [List.getElem_toArray, List.getElem_cons_zero, List.getElem_cons_succ, execOp, Act.eval]
        go_simp
      · have g : a.tmps[20]?.getD undef = .bool true := hI.val 1 20 rfl (hall 1 (by kernel_rfl))
        have e26 : a.tmps[26]?.getD undef = .pointer (some ⟨s1, 0, none⟩) := hI.val 7 26 rfl (hall 7 (by kernel_rfl))
        have c0 := (b0.cell (World.block_lt_of_cell? _ _ m0)).trans m0
        have c1 := (b0.cell (World.block_lt_of_cell? _ _ m1)).trans m1
        refine StepV.done rfl (by rw [wanted_if (j := 1) (s := 20) (want := true) (b := true) rfl rfl g]; rfl) fun K hK => ?_
        clear hall hI
        refine op_run (.int .i64 (y).1) W ?_ (hK _ _ (Below.refl _ _) rfl)
        clear hK
        simp only [List.getElem_toArray, List.getElem_cons_zero, List.getElem_cons_succ, execOp, Act.eval]
        go_simp
      · have g : a.tmps[20]?.getD undef = .bool true := hI.val 1 20 rfl (hall 1 (by kernel_rfl))
        obtain ⟨p25, q25, e25, l25⟩ : ∃ p c, a.tmps[25]?.getD undef = polV p c z0 ∧ Lies W p c z0 := hI.val 6 25 rfl (hall 6 (by kernel_rfl))
        have e27 : a.tmps[27]?.getD undef = .int .i64 (y).1 := hI.val 8 27 rfl (hall 8 (by kernel_rfl))
        refine StepV.done rfl (by rw [wanted_if (j := 1) (s := 20) (want := true) (b := true) rfl rfl g]; rfl) fun K hK => ?_
        have C := (Without_told p25 q25 z0 (y).1 W l25 (by omega)).mono (R' := fun e W2 => ∃ v, e = .returned v ∧ (∃ p c, v = polV p c (without z0 (y).1) ∧ Lies W2 p c (without z0 (y).1)) ∧ Below W.heap.size W W2) (fun e W2 ⟨v, he, hg, hb⟩ => ⟨v, he, hg, hb⟩)
        refine op_call 15 #[polV p25 q25 z0, .int .i64 (y).1] (fun v W2 => (∃ p c, v = polV p c (without z0 (y).1) ∧ Lies W2 p c (without z0 (y).1)) ∧ Below W.heap.size W W2) ?_ C (fun v W2 ⟨h1, h2⟩ => hK v W2 h2 h1)
        clear hall hI hK C
        simp only [List.getElem_toArray, List.getElem_cons_zero, List.getElem_cons_succ, execOp]
        go_simp
      · have g : a.tmps[20]?.getD undef = .bool true := hI.val 1 20 rfl (hall 1 (by kernel_rfl))
        obtain ⟨p24, q24, e24, l24⟩ : ∃ p c, a.tmps[24]?.getD undef = polV p c (without (with_ z0 y) (y).1) ∧ Lies W p c (without (with_ z0 y) (y).1) := hI.val 5 24 rfl (hall 5 (by kernel_rfl))
        obtain ⟨p28, q28, e28, l28⟩ : ∃ p c, a.tmps[28]?.getD undef = polV p c (without z0 (y).1) ∧ Lies W p c (without z0 (y).1) := hI.val 9 28 rfl (hall 9 (by kernel_rfl))
        refine StepV.done rfl (by rw [wanted_if (j := 1) (s := 20) (want := true) (b := true) rfl rfl g]; rfl) fun K hK => ?_
        have C := (Same_told p24 q24 (without (with_ z0 y) (y).1) p28 q28 (without z0 (y).1) true (by simp [without_with]) W l24 l28).mono (R' := fun e W2 => ∃ v, e = .returned v ∧ v = .bool true ∧ Below W.heap.size W W2) (fun e W2 ⟨he, hb⟩ => ⟨_, he, rfl, hb⟩)
        refine op_call 24 #[polV p24 q24 (without (with_ z0 y) (y).1), polV p28 q28 (without z0 (y).1)] (fun v W2 => v = .bool true ∧ Below W.heap.size W W2) ?_ C (fun v W2 ⟨h1, h2⟩ => hK v W2 h2 h1)
        clear hall hI hK C
        simp only [List.getElem_toArray, List.getElem_cons_zero, List.getElem_cons_succ, execOp]
        go_simp
      · have e20 : a.tmps[20]?.getD undef = .bool true := hI.val 1 20 rfl (hall 1 (by kernel_rfl))
        have e29 : a.tmps[29]?.getD undef = .bool true := hI.val 10 29 rfl (hall 10 (by kernel_rfl))
        refine StepV.done rfl (wanted_free rfl) fun K hK => ?_
        exact op_pick_yes rfl e20 (hK _ _ (Below.refl _ _) ((eval_tmp 29).trans e29))
      · have f := hI.val 11 30 rfl (hall 11 (by kernel_rfl))
        refine StepV.done rfl (wanted_free rfl) fun K hK => ?_
        exact op_move rfl (hK _ _ (Below.refl _ _) f)
      · have g : a.tmps[31]?.getD undef = .bool true := hI.val 12 31 rfl (hall 12 (by kernel_rfl))
        have e4 : a.tmps[4]?.getD undef = .pointer (some ⟨s1, 0, none⟩) := hI.old 4 (unwritten_of (by kernel_rfl) d)
        refine StepV.done rfl (by rw [wanted_if (j := 12) (s := 31) (want := true) (b := true) rfl rfl g]; rfl) fun K hK => ?_
        clear hall hI
        refine op_run (.pointer (some ⟨s1, 0, none⟩)) W ?_ (hK _ _ (Below.refl _ _) rfl)
        clear hK
        simp only [List.getElem_toArray, List.getElem_cons_zero, List.getElem_cons_succ, execOp, Act.eval]
        go_simp
      · have g : a.tmps[31]?.getD undef = .bool true := hI.val 12 31 rfl (hall 12 (by kernel_rfl))
        have e32 : a.tmps[32]?.getD undef = .pointer (some ⟨s1, 0, none⟩) := hI.val 13 32 rfl (hall 13 (by kernel_rfl))
        have c0 := (b0.cell (World.block_lt_of_cell? _ _ m0)).trans m0
        have c1 := (b0.cell (World.block_lt_of_cell? _ _ m1)).trans m1
        refine StepV.done rfl (by rw [wanted_if (j := 12) (s := 31) (want := true) (b := true) rfl rfl g]; rfl) fun K hK => ?_
        clear hall hI
        refine op_run (.int .i64 (y).1) W ?_ (hK _ _ (Below.refl _ _) rfl)
        clear hK
        simp only [List.getElem_toArray, List.getElem_cons_zero, List.getElem_cons_succ, execOp, Act.eval]
        go_simp
      · have g : a.tmps[31]?.getD undef = .bool true := hI.val 12 31 rfl (hall 12 (by kernel_rfl))
        have e5 : a.tmps[5]?.getD undef = .pointer (some ⟨(s1 + 1), 0, none⟩) := hI.old 5 (unwritten_of (by kernel_rfl) d)
        refine StepV.done rfl (by rw [wanted_if (j := 12) (s := 31) (want := true) (b := true) rfl rfl g]; rfl) fun K hK => ?_
        clear hall hI
        refine op_run (.pointer (some ⟨(s1 + 1), 0, none⟩)) W ?_ (hK _ _ (Below.refl _ _) rfl)
        clear hK
        simp only [List.getElem_toArray, List.getElem_cons_zero, List.getElem_cons_succ, execOp, Act.eval]
        go_simp
      · have g : a.tmps[31]?.getD undef = .bool true := hI.val 12 31 rfl (hall 12 (by kernel_rfl))
        have e34 : a.tmps[34]?.getD undef = .pointer (some ⟨(s1 + 1), 0, none⟩) := hI.val 15 34 rfl (hall 15 (by kernel_rfl))
        have c0 := (b0.cell (World.block_lt_of_cell? _ _ m2)).trans m2
        have c1 := (b0.cell (World.block_lt_of_cell? _ _ m3)).trans m3
        refine StepV.done rfl (by rw [wanted_if (j := 12) (s := 31) (want := true) (b := true) rfl rfl g]; rfl) fun K hK => ?_
        clear hall hI
        refine op_run (.int .i64 (yc).1) W ?_ (hK _ _ (Below.refl _ _) rfl)
        clear hK
        simp only [List.getElem_toArray, List.getElem_cons_zero, List.getElem_cons_succ, execOp, Act.eval]
        go_simp
      · have g : a.tmps[31]?.getD undef = .bool true := hI.val 12 31 rfl (hall 12 (by kernel_rfl))
        have e33 : a.tmps[33]?.getD undef = .int .i64 (y).1 := hI.val 14 33 rfl (hall 14 (by kernel_rfl))
        have e35 : a.tmps[35]?.getD undef = .int .i64 (yc).1 := hI.val 16 35 rfl (hall 16 (by kernel_rfl))
        have hq : ((y).1 != (yc).1) = true := bne_iff_ne.2 he
        refine StepV.done rfl (by rw [wanted_if (j := 12) (s := 31) (want := true) (b := true) rfl rfl g]; rfl) fun K hK => ?_
        clear hall hI
        refine op_run (.bool true) W ?_ (hK _ _ (Below.refl _ _) rfl)
        clear hK
        simp only [List.getElem_toArray, List.getElem_cons_zero, List.getElem_cons_succ, execOp, Act.eval]
        go_simp
      · have g : a.tmps[31]?.getD undef = .bool true := hI.val 12 31 rfl (hall 12 (by kernel_rfl))
        have f := hI.val 17 36 rfl (hall 17 (by kernel_rfl))
        refine StepV.done rfl (by rw [wanted_if (j := 12) (s := 31) (want := true) (b := true) rfl rfl g]; rfl) fun K hK => ?_
        exact op_move rfl (hK _ _ (Below.refl _ _) f)
      · have g : a.tmps[37]?.getD undef = .bool true := hI.val 18 37 rfl (hall 18 (by kernel_rfl))
        exact StepV.left rfl (by rw [wanted_if (j := 18) (s := 37) (want := false) (b := true) rfl rfl g]; rfl) trivial
      · have g : a.tmps[37]?.getD undef = .bool true := hI.val 18 37 rfl (hall 18 (by kernel_rfl))
        exact StepV.left rfl (by rw [wanted_if (j := 18) (s := 37) (want := false) (b := true) rfl rfl g]; rfl) trivial
      · have g : a.tmps[37]?.getD undef = .bool true := hI.val 18 37 rfl (hall 18 (by kernel_rfl))
        exact StepV.left rfl (by rw [wanted_if (j := 18) (s := 37) (want := false) (b := true) rfl rfl g]; rfl) trivial
      · have g : a.tmps[37]?.getD undef = .bool true := hI.val 18 37 rfl (hall 18 (by kernel_rfl))
        exact StepV.left rfl (by rw [wanted_if (j := 18) (s := 37) (want := false) (b := true) rfl rfl g]; rfl) trivial
      · have g : a.tmps[37]?.getD undef = .bool true := hI.val 18 37 rfl (hall 18 (by kernel_rfl))
        exact StepV.left rfl (by rw [wanted_if (j := 18) (s := 37) (want := false) (b := true) rfl rfl g]; rfl) trivial
      · have g : a.tmps[37]?.getD undef = .bool true := hI.val 18 37 rfl (hall 18 (by kernel_rfl))
        exact StepV.left rfl (by rw [wanted_if (j := 18) (s := 37) (want := false) (b := true) rfl rfl g]; rfl) trivial
      · have g : a.tmps[37]?.getD undef = .bool true := hI.val 18 37 rfl (hall 18 (by kernel_rfl))
        exact StepV.left rfl (by rw [wanted_if (j := 18) (s := 37) (want := false) (b := true) rfl rfl g]; rfl) trivial
      · have g : a.tmps[31]?.getD undef = .bool true := hI.val 12 31 rfl (hall 12 (by kernel_rfl))
        have e37 : a.tmps[37]?.getD undef = .bool true := hI.val 18 37 rfl (hall 18 (by kernel_rfl))
        refine StepV.done rfl (by rw [wanted_if (j := 12) (s := 31) (want := true) (b := true) rfl rfl g]; rfl) fun K hK => ?_
        exact op_pick_yes rfl e37 (hK _ _ (Below.refl _ _) rfl)
      · have e31 : a.tmps[31]?.getD undef = .bool true := hI.val 12 31 rfl (hall 12 (by kernel_rfl))
        have e45 : a.tmps[45]?.getD undef = .bool true := hI.val 26 45 rfl (hall 26 (by kernel_rfl))
        refine StepV.done rfl (wanted_free rfl) fun K hK => ?_
        exact op_pick_yes rfl e31 (hK _ _ (Below.refl _ _) ((eval_tmp 45).trans e45))
      · have f := hI.val 27 46 rfl (hall 27 (by kernel_rfl))
        refine StepV.done rfl (wanted_free rfl) fun K hK => ?_
        exact op_move rfl (hK _ _ (Below.refl _ _) f)
      · have g : a.tmps[47]?.getD undef = .bool true := hI.val 28 47 rfl (hall 28 (by kernel_rfl))
        have e8 : a.tmps[8]?.getD undef = polV aw cw (with_ z0 y) := hI.old 8 (unwritten_of (by kernel_rfl) d)
        have l8 := Lies.kept M2.out b0
        refine StepV.done rfl (by rw [wanted_if (j := 28) (s := 47) (want := true) (b := true) rfl rfl g]; rfl) fun K hK => ?_
        exact op_move rfl (hK _ _ (Below.refl _ _) ⟨_, _, e8, l8⟩)
      · have g : a.tmps[47]?.getD undef = .bool true := hI.val 28 47 rfl (hall 28 (by kernel_rfl))
        obtain ⟨p48, q48, e48, l48⟩ : ∃ p c, a.tmps[48]?.getD undef = polV p c (with_ z0 y) ∧ Lies W p c (with_ z0 y) := hI.val 29 48 rfl (hall 29 (by kernel_rfl))
        refine StepV.done rfl (by rw [wanted_if (j := 28) (s := 47) (want := true) (b := true) rfl rfl g]; rfl) fun K hK => ?_
        clear hall hI
        refine op_run (.int .i64 (((with_ z0 y) : List _).length : Nat)) W ?_ (hK _ _ (Below.refl _ _) rfl)
        clear hK
        simp only [List.getElem_toArray, List.getElem_cons_zero, List.getElem_cons_succ, execOp]
        go_simp
      · have g : a.tmps[47]?.getD undef = .bool true := hI.val 28 47 rfl (hall 28 (by kernel_rfl))
        have e0 : a.tmps[0]?.getD undef = polV a0 c0 z0 := hI.old 0 (unwritten_of (by kernel_rfl) d)
        have l0 := Lies.kept L2.out b0
        refine StepV.done rfl (by rw [wanted_if (j := 28) (s := 47) (want := true) (b := true) rfl rfl g]; rfl) fun K hK => ?_
        exact op_move rfl (hK _ _ (Below.refl _ _) ⟨_, _, e0, l0⟩)
      · have g : a.tmps[47]?.getD undef = .bool true := hI.val 28 47 rfl (hall 28 (by kernel_rfl))
        obtain ⟨p50, q50, e50, l50⟩ : ∃ p c, a.tmps[50]?.getD undef = polV p c z0 ∧ Lies W p c z0 := hI.val 31 50 rfl (hall 31 (by kernel_rfl))
        refine StepV.done rfl (by rw [wanted_if (j := 28) (s := 47) (want := true) (b := true) rfl rfl g]; rfl) fun K hK => ?_
        clear hall hI
        refine op_run (.int .i64 ((z0 : List _).length : Nat)) W ?_ (hK _ _ (Below.refl _ _) rfl)
        clear hK
        simp only [List.getElem_toArray, List.getElem_cons_zero, List.getElem_cons_succ, execOp]
        go_simp
      · have g : a.tmps[47]?.getD undef = .bool true := hI.val 28 47 rfl (hall 28 (by kernel_rfl))
        have e51 : a.tmps[51]?.getD undef = .int .i64 ((z0 : List _).length : Nat) := hI.val 32 51 rfl (hall 32 (by kernel_rfl))
        refine StepV.done rfl (by rw [wanted_if (j := 28) (s := 47) (want := true) (b := true) rfl rfl g]; rfl) fun K hK => ?_
        clear hall hI
        refine op_run (.int .i64 ((z0.length + 1 : Nat) : Int)) W ?_ (hK _ _ (Below.refl _ _) rfl)
        clear hK
        simp only [List.getElem_toArray, List.getElem_cons_zero, List.getElem_cons_succ, execOp, Act.eval]
        go_simp
        rw [IntKind.wrap_i64]; omega
      · have g : a.tmps[47]?.getD undef = .bool true := hI.val 28 47 rfl (hall 28 (by kernel_rfl))
        have e49 : a.tmps[49]?.getD undef = .int .i64 (((with_ z0 y) : List _).length : Nat) := hI.val 30 49 rfl (hall 30 (by kernel_rfl))
        have e52 : a.tmps[52]?.getD undef = .int .i64 ((z0.length + 1 : Nat) : Int) := hI.val 33 52 rfl (hall 33 (by kernel_rfl))
        refine StepV.done rfl (by rw [wanted_if (j := 28) (s := 47) (want := true) (b := true) rfl rfl g]; rfl) fun K hK => ?_
        clear hall hI
        refine op_run (.bool true) W ?_ (hK _ _ (Below.refl _ _) rfl)
        clear hK
        simp only [List.getElem_toArray, List.getElem_cons_zero, List.getElem_cons_succ, execOp, Act.eval]
        go_simp; try omega
      · have e47 : a.tmps[47]?.getD undef = .bool true := hI.val 28 47 rfl (hall 28 (by kernel_rfl))
        have e53 : a.tmps[53]?.getD undef = .bool true := hI.val 34 53 rfl (hall 34 (by kernel_rfl))
        refine StepV.done rfl (wanted_free rfl) fun K hK => ?_
        exact op_pick_yes rfl e47 (hK _ _ (Below.refl _ _) ((eval_tmp 53).trans e53))
      · have f := hI.val 35 54 rfl (hall 35 (by kernel_rfl))
        refine StepV.done rfl (wanted_free rfl) fun K hK => ?_
        exact op_assign rfl (hK _ _ (Below.refl _ _) f)
    case done =>
      intro a W hv hI
      obtain ⟨t, df⟩ := a
      obtain rfl : df = [] := hI.defs
      have hz : t.size = 55 := hI.size
      have b0 := hI.below
      have e6 : t[6]?.getD undef = .bool true := hv 36 6 rfl
      clear hv hI
      obtain ⟨y, hy, ht⟩ := arr_slots t 55 hz
      have hl : (slotsFrom y 0 55).toArray = #[y 0, y 1, y 2, y 3, y 4, y 5, y 6, y 7, y 8, y 9, y 10, y 11, y 12, y 13, y 14, y 15, y 16, y 17, y 18, y 19, y 20, y 21, y 22, y 23, y 24, y 25, y 26, y 27, y 28, y 29, y 30, y 31, y 32, y 33, y 34, y 35, y 36, y 37, y 38, y 39, y 40, y 41, y 42, y 43, y 44, y 45, y 46, y 47, y 48, y 49, y 50, y 51, y 52, y 53, y 54] := rfl
      rw [hy] at e6
      rw [ht, hl, e6]
      clear ht hl hz hy e6
      go_wp2_with fail
      go_ret
      exact ⟨rfl, by rw [hs1]; exact B2.out.trans (b0.mono (by have := B2.out.size; omega))⟩

theorem own_PoolOut : ownKnob Try.prog.godebug = none := by kernel_rfl
set_option maxRecDepth 100000 in
set_option maxHeartbeats 800000 in
theorem lifted_PoolOut (os : Os) (started : os.Started) (H : Type) (enc : TypeId × Value → H) :
    ReturnsInHanded {} Try.checked os 8 .any (Rows.poolOutSpec.pre6 enc Try.prog Try.f8 Rows.poolOutRow.domain false) (Rows.poolOutSpec.post enc Try.prog Try.f8 false true false false) := by
  refine returnsInHanded_of_change (C := Try.checked) own_PoolOut started (by kernel_rfl) Try.func8
    (ChangeSpec.witness6 (enc := enc) (C := Try.checked) false ⟨#[], #[.slice none 0 0, .agg #[.int .i64 0, .int .i64 0], .agg #[.int .i64 0, .int .i64 0]], []⟩ 8 (by kernel_rfl) (by kernel_rfl) (by kernel_rfl) (by kernel_rfl)) ?_
  intro W base args ds gs before hval0 hW _ _
  have hval : ∀ (j : Nat) t v, Try.f8.params[j]? = some t → args[j]? = some v → Value.okWide Try.prog W .any base t v := hval0
  have hW' := hW
  obtain ⟨p, q, hA0, hV, rfl, _, _⟩ := hW
  have hA : DataW.TrodAll enc Try.prog W 0 (fun _ => true) true Try.f8.params.toList args.toList ds p := hA0
  rw [Try.params8] at hA hval
  obtain ⟨v0, vs0, d0, ds0, p0, q0, ha0, rfl, rfl, t0, r0⟩ := trodAll_cons hA
  obtain ⟨v1, vs1, d1, ds1, p1, q1, ha1, rfl, rfl, t1, r1⟩ := trodAll_cons r0
  obtain ⟨v2, vs2, d2, ds2, p2, q2, ha2, rfl, rfl, t2, r2⟩ := trodAll_cons r1
  obtain ⟨rfl, rfl, rfl⟩ := trodAll_nil r2
  subst ha2
  subst ha1
  obtain rfl : args = #[v0, v1, v2] := by cases args; simp_all
  obtain ⟨rfl, rfl⟩ := trodVars_none hV
  have k0 := t0
  have lt0 : ∀ x ∈ p0, x.block < W.heap.size := by obtain ⟨m, hm⟩ := k0; exact DataW.trod_lt m _ _ _ hm
  obtain ⟨a0, c0, z0, rfl, h0, g0⟩ := Stp.open_pool (hval 0 22 v0 rfl rfl) t0
  have k1 := t1
  have lt1 : ∀ x ∈ p1, x.block < W.heap.size := by obtain ⟨m, hm⟩ := k1; exact DataW.trod_lt m _ _ _ hm
  obtain ⟨a1, rfl, h1⟩ := Stp.open_backend (hval 1 24 v1 rfl rfl) t1
  have k2 := t2
  have lt2 : ∀ x ∈ p2, x.block < W.heap.size := by obtain ⟨m, hm⟩ := k2; exact DataW.trod_lt m _ _ _ hm
  obtain ⟨a2, rfl, h2⟩ := Stp.open_backend (hval 2 24 v2 rfl rfl) t2
  clear hA0 hval0
  refine (walk_PoolOut a0 c0 z0 a1 a2 W h0 g0 h1 h2).mono fun e W' ⟨he, hnx⟩ => ?_
  subst he
  exact ⟨_, rfl, ⟨_, _, _, [], _, [], hW', trodAll_cons_mk (shut_bool Try.underlying4 _) trodAll_mk0, (trodAll_cons_mk (Below.trod Stp.laidOut (by kernel_rfl) (of_decide_eq_true (by kernel_rfl)) k0 hnx lt0) (trodAll_cons_mk (Below.trod Stp.laidOut (by kernel_rfl) (of_decide_eq_true (by kernel_rfl)) k1 hnx lt1) (trodAll_cons_mk (Below.trod Stp.laidOut (by kernel_rfl) (of_decide_eq_true (by kernel_rfl)) k2 hnx lt2) trodAll_mk0))), rfl, hnx.frame _, fun h => by cases h⟩⟩

theorem poolOut_holds : Rows.PoolOutSaid :=
  OpenClaim.holds_of_wide 8 Try.f8 rfl rfl rfl rfl rfl rfl rfl ⟨rfl, rfl, rfl, rfl, rfl⟩ rfl rfl rfl rfl rfl (by kernel_rfl) Try.func8 (by kernel_rfl)
    (of_decide_eq_true (by kernel_rfl)) (by unfold Func.isWrapper; first | (rw [if_pos (by decide +kernel)]; kernel_rfl) | (rw [if_neg (by decide +kernel)]; exact ⟨rfl, rfl⟩))
    (fun os started H enc _ => lifted_PoolOut os started H enc)

#print axioms poolOut_holds
end Go.Proofs.Ytbejhkodfkcbpaa
