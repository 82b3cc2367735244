/-
  PoolTells: for every p, q, b and id the law PoolTells answers true: whether a pool may be, and what it is with others, without some, and in order, is just what the document says. No condition.
-/
import Derived.Test.YtbejhkodfkcbpaaRows
import Derived.Test.YtbejhkodfkcbpaaStp
import Derived.Test.YtbejhkodfkcbpaaWkB
import Derived.ProofKit
import Derived.OpenShut
import Derived.ChangeMaps5
namespace Go.Proofs.Ytbejhkodfkcbpaa
open Go.ChangeShapes Go.WideShapes Go.ChangeAt Go.RowKit Go.Shelf
open Go.ChangeMaps (open_string shut_string)
open Pol Rgn

set_option maxRecDepth 100000 in
set_option maxHeartbeats 8000000 in
theorem walk_PoolTells (a0 : Option Addr) (c0 : Nat) (z0 : List Bk) (a1 : Option Addr) (c1 : Nat) (z1 : List Bk) (y : Bk) (id : Int) (w : World) (h0 : Lies w a0 c0 z0) (g0 : ∀ x ∈ z0, Stp.BkOk x) (h1 : Lies w a1 c1 z1) (g1 : ∀ x ∈ z1, Stp.BkOk x) (_h2 : Stp.BkOk y) (_h3 : (Lit.int .i64 id).wf = true) :
    Calls Try.prog 3 #[polV a0 c0 z0, polV a1 c1 z1, .agg #[.int .i64 y.1, .int .i64 y.2], .int .i64 id] w fun e W' => e = .returned (.bool true) ∧ Below w.heap.size w W' := by
  have K0 := Lib.hid (show ∀ x ∈ z0, (Lit.int .i64 x.1).wf = true from fun x hx => (g0 x hx).1)
  have K1 := Lib.hid (show ∀ x ∈ z1, (Lit.int .i64 x.1).wf = true from fun x hx => (g1 x hx).1)
  have al := below_alloc w (.cells #[.int .i64 y.1, .int .i64 y.2] 24)
  have H := Lib.hid (h0.kept al)
  have H' := Lib.hid (h1.kept al)
  have A := Lib.hid al
  clear h0 g0 h1 g1 al
  have y0 : (w.alloc (.cells #[.int .i64 y.1, .int .i64 y.2] 24)).cell? ⟨w.heap.size, 0, none⟩ = some (.int .i64 y.1) := by simp
  have y1 : (w.alloc (.cells #[.int .i64 y.1, .int .i64 y.2] 24)).cell? ⟨w.heap.size, 1, none⟩ = some (.int .i64 y.2) := by simp
  by_cases h60 : 60 < z0.length
  · have d0 : decide ((60 : Int) < (z0.length : Int)) = true := decide_eq_true (by omega)
    have d1 : decide (60 < z0.length) = true := decide_eq_true h60
    go_enter Try.func3, Try.ntmps3
    go_wp2_with fail
    refine (works_any _).mono ?_
    rintro e w1 ⟨rfl, hb⟩
    have B1 := Lib.hid (below2 A.out hb)
    clear hb
    go_wp2_with fail
    go_ret
    exact ⟨rfl, B1.out⟩
  have d0 : decide ((60 : Int) < (z0.length : Int)) = false := decide_eq_false (by omega)
  have d1 : decide (60 < z0.length) = false := decide_eq_false h60
  by_cases h61 : 60 < z1.length
  · have d2 : decide ((60 : Int) < (z1.length : Int)) = true := decide_eq_true (by omega)
    have d3 : decide (60 < z1.length) = true := decide_eq_true h61
    go_enter Try.func3, Try.ntmps3
    go_wp2_with fail
    refine (works_any _).mono ?_
    rintro e w1 ⟨rfl, hb⟩
    have B1 := Lib.hid (below2 A.out hb)
    clear hb
    go_wp2_with fail
    go_ret
    exact ⟨rfl, B1.out⟩
  have d2 : decide ((60 : Int) < (z1.length : Int)) = false := decide_eq_false (by omega)
  have d3 : decide (60 < z1.length) = false := decide_eq_false h61
  have hz : z0.length ≤ 60 := by omega
  go_enter Try.func3, Try.ntmps3
  go_wp2_with fail
  refine (works_any _).mono ?_
  rintro e w1 ⟨rfl, hb⟩
  have L1 := Lib.hid (H.out.kept hb)
  have M1 := Lib.hid (H'.out.kept hb)
  have k0 := (hb.cell (World.block_lt_of_cell? _ _ y0)).trans y0
  have k1 := (hb.cell (World.block_lt_of_cell? _ _ y1)).trans y1
  have B1 := Lib.hid (below2 A.out hb)
  clear hb H H' A y0 y1
  generalize hs1 : w.heap.size = s1 at *
  go_wp2_with fail
  refine wp_region_val (spV [.pool z0, .pool (sorted z0), .pool z0, .pool (sorted z0), .is (.bool true), .is (.bool true), .pool z0, .is (bkV y), .pool (with_ z0 y), .pool z0, .is (bkV y), .pool (with_ z0 y), .is (.bool true), .is (.bool true), .is (.bool true), .pool z0, .is (.int .i64 id), .pool (without z0 id), .pool z0, .is (.int .i64 id), .pool (without z0 id), .is (.bool true), .is (.bool true), .is (.bool true)]) (spV_kept _) (by kernel_rfl) (by kernel_rfl) (by kernel_rfl) ?step ?done
  case step =>
    intro d a W i hi hall hI
    replace hi : i < 24 := hi
    have b0 := hI.below
    obtain rfl | rfl | rfl | rfl | rfl | rfl | rfl | rfl | rfl | rfl | rfl | rfl | rfl | rfl | rfl | rfl | rfl | rfl | rfl | rfl | rfl | rfl | rfl | rfl : i = 0 ∨ i = 1 ∨ i = 2 ∨ i = 3 ∨ i = 4 ∨ i = 5 ∨ i = 6 ∨ i = 7 ∨ i = 8 ∨ i = 9 ∨ i = 10 ∨ i = 11 ∨ i = 12 ∨ i = 13 ∨ i = 14 ∨ i = 15 ∨ i = 16 ∨ i = 17 ∨ i = 18 ∨ i = 19 ∨ i = 20 ∨ i = 21 ∨ i = 22 ∨ i = 23 := by omega
    · have e0 : a.tmps[0]?.getD undef = polV a0 c0 z0 := hI.old 0 (unwritten_of (by kernel_rfl) d)
      have l0 := Lies.kept L1.out b0
      refine StepV.done rfl (wanted_free rfl) fun K hK => ?_
      exact op_move rfl (hK _ _ (Below.refl _ _) ⟨_, _, e0, l0⟩)
    · obtain ⟨p25, q25, e25, l25⟩ : ∃ p c, a.tmps[25]?.getD undef = polV p c z0 ∧ Lies W p c z0 := hI.val 0 25 rfl (hall 0 (by kernel_rfl))
      refine StepV.done rfl (wanted_free rfl) fun K hK => ?_
      have C := (Sorted_told p25 q25 z0 W l25 (by omega)).mono (R' := fun e W2 => ∃ v, e = .returned v ∧ (∃ p c, v = polV p c (sorted z0) ∧ Lies W2 p c (sorted z0)) ∧ Below W.heap.size W W2) (fun e W2 ⟨v, he, hg, hb⟩ => ⟨v, he, hg, hb⟩)
      refine op_call 11 #[polV p25 q25 z0] (fun v W2 => (∃ p c, v = polV p c (sorted z0) ∧ Lies W2 p c (sorted z0)) ∧ Below W.heap.size W W2) ?_ C (fun v W2 ⟨h1, h2⟩ => hK v W2 h2 h1)
      clear hall hI hK C
      simp only [List.getElem_toArray, List.getElem_cons_zero, List.getElem_cons_succ, execOp]
      go_simp
    · have e0 : a.tmps[0]?.getD undef = polV a0 c0 z0 := hI.old 0 (unwritten_of (by kernel_rfl) d)
      have l0 := Lies.kept L1.out b0
      refine StepV.done rfl (wanted_free rfl) fun K hK => ?_
      exact op_move rfl (hK _ _ (Below.refl _ _) ⟨_, _, e0, l0⟩)
    · obtain ⟨p27, q27, e27, l27⟩ : ∃ p c, a.tmps[27]?.getD undef = polV p c z0 ∧ Lies W p c z0 := hI.val 2 27 rfl (hall 2 (by kernel_rfl))
      refine StepV.done rfl (wanted_free rfl) fun K hK => ?_
      have C := (refSorted_any p27 q27 z0 W l27 (by omega)).mono (R' := fun e W2 => ∃ v, e = .returned v ∧ (∃ p c, v = polV p c (sorted z0) ∧ Lies W2 p c (sorted z0)) ∧ Below W.heap.size W W2) (fun e W2 ⟨v, he, hg, hb⟩ => ⟨v, he, hg.lies, hb⟩)
      refine op_call 12 #[polV p27 q27 z0] (fun v W2 => (∃ p c, v = polV p c (sorted z0) ∧ Lies W2 p c (sorted z0)) ∧ Below W.heap.size W W2) ?_ C (fun v W2 ⟨h1, h2⟩ => hK v W2 h2 h1)
      clear hall hI hK C
      simp only [List.getElem_toArray, List.getElem_cons_zero, List.getElem_cons_succ, execOp]
      go_simp
    · obtain ⟨p26, q26, e26, l26⟩ : ∃ p c, a.tmps[26]?.getD undef = polV p c (sorted z0) ∧ Lies W p c (sorted z0) := hI.val 1 26 rfl (hall 1 (by kernel_rfl))
      obtain ⟨p28, q28, e28, l28⟩ : ∃ p c, a.tmps[28]?.getD undef = polV p c (sorted z0) ∧ Lies W p c (sorted z0) := hI.val 3 28 rfl (hall 3 (by kernel_rfl))
      refine StepV.done rfl (wanted_free rfl) fun K hK => ?_
      have C := (refSame_any p26 q26 (sorted z0) p28 q28 (sorted z0) true (by simp) W l26 l28).mono (R' := fun e W2 => ∃ v, e = .returned v ∧ v = .bool true ∧ Below W.heap.size W W2) (fun e W2 ⟨he, hb⟩ => ⟨_, he, rfl, hb⟩)
      refine op_call 10 #[polV p26 q26 (sorted z0), polV p28 q28 (sorted z0)] (fun v W2 => v = .bool true ∧ Below W.heap.size W W2) ?_ C (fun v W2 ⟨h1, h2⟩ => hK v W2 h2 h1)
      clear hall hI hK C
      simp only [List.getElem_toArray, List.getElem_cons_zero, List.getElem_cons_succ, execOp]
      go_simp
    · have f := hI.val 4 29 rfl (hall 4 (by kernel_rfl))
      refine StepV.done rfl (wanted_free rfl) fun K hK => ?_
      exact op_move rfl (hK _ _ (Below.refl _ _) f)
    · have g : a.tmps[30]?.getD undef = .bool true := hI.val 5 30 rfl (hall 5 (by kernel_rfl))
      have e0 : a.tmps[0]?.getD undef = polV a0 c0 z0 := hI.old 0 (unwritten_of (by kernel_rfl) d)
      have l0 := Lies.kept L1.out b0
      refine StepV.done rfl (by rw [wanted_if (j := 5) (s := 30) (want := true) (b := true) rfl rfl g]; rfl) fun K hK => ?_
      exact op_move rfl (hK _ _ (Below.refl _ _) ⟨_, _, e0, l0⟩)
    · have g : a.tmps[30]?.getD undef = .bool true := hI.val 5 30 rfl (hall 5 (by kernel_rfl))
      have e6 : a.tmps[6]?.getD undef = .pointer (some ⟨s1, 0, none⟩) := hI.old 6 (unwritten_of (by kernel_rfl) d)
      have c0 := (b0.cell (World.block_lt_of_cell? _ _ k0)).trans k0
      have c1 := (b0.cell (World.block_lt_of_cell? _ _ k1)).trans k1
      refine StepV.done rfl (by rw [wanted_if (j := 5) (s := 30) (want := true) (b := true) rfl rfl g]; rfl) fun K hK => ?_
      clear hall hI
      refine op_run (bkV y) W ?_ (hK _ _ (Below.refl _ _) rfl)
      clear hK
      simp only [List.getElem_toArray, List.getElem_cons_zero, List.getElem_cons_succ, execOp, Act.eval]
      go_simp
    · have g : a.tmps[30]?.getD undef = .bool true := hI.val 5 30 rfl (hall 5 (by kernel_rfl))
      obtain ⟨p31, q31, e31, l31⟩ : ∃ p c, a.tmps[31]?.getD undef = polV p c z0 ∧ Lies W p c z0 := hI.val 6 31 rfl (hall 6 (by kernel_rfl))
      have e32 : a.tmps[32]?.getD undef = bkV y := hI.val 7 32 rfl (hall 7 (by kernel_rfl))
      refine StepV.done rfl (by rw [wanted_if (j := 5) (s := 30) (want := true) (b := true) rfl rfl g]; rfl) fun K hK => ?_
      have C := (With_told p31 q31 z0 y W l31 (by omega)).mono (R' := fun e W2 => ∃ v, e = .returned v ∧ (∃ p c, v = polV p c (with_ z0 y) ∧ Lies W2 p c (with_ z0 y)) ∧ Below W.heap.size W W2) (fun e W2 ⟨v, he, hg, hb⟩ => ⟨v, he, hg, hb⟩)
      refine op_call 13 #[polV p31 q31 z0, bkV y] (fun v W2 => (∃ p c, v = polV p c (with_ z0 y) ∧ Lies W2 p c (with_ z0 y)) ∧ Below W.heap.size W W2) ?_ C (fun v W2 ⟨h1, h2⟩ => hK v W2 h2 h1)
      clear hall hI hK C
      simp only [List.getElem_toArray, List.getElem_cons_zero, List.getElem_cons_succ, execOp]
      go_simp
    · have g : a.tmps[30]?.getD undef = .bool true := hI.val 5 30 rfl (hall 5 (by kernel_rfl))
      have e0 : a.tmps[0]?.getD undef = polV a0 c0 z0 := hI.old 0 (unwritten_of (by kernel_rfl) d)
      have l0 := Lies.kept L1.out b0
      refine StepV.done rfl (by rw [wanted_if (j := 5) (s := 30) (want := true) (b := true) rfl rfl g]; rfl) fun K hK => ?_
      exact op_move rfl (hK _ _ (Below.refl _ _) ⟨_, _, e0, l0⟩)
    · have g : a.tmps[30]?.getD undef = .bool true := hI.val 5 30 rfl (hall 5 (by kernel_rfl))
      have e6 : a.tmps[6]?.getD undef = .pointer (some ⟨s1, 0, none⟩) := hI.old 6 (unwritten_of (by kernel_rfl) d)
      have c0 := (b0.cell (World.block_lt_of_cell? _ _ k0)).trans k0
      have c1 := (b0.cell (World.block_lt_of_cell? _ _ k1)).trans k1
      refine StepV.done rfl (by rw [wanted_if (j := 5) (s := 30) (want := true) (b := true) rfl rfl g]; rfl) fun K hK => ?_
      clear hall hI
      refine op_run (bkV y) W ?_ (hK _ _ (Below.refl _ _) rfl)
      clear hK
      simp only [List.getElem_toArray, List.getElem_cons_zero, List.getElem_cons_succ, execOp, Act.eval]
      go_simp
    · have g : a.tmps[30]?.getD undef = .bool true := hI.val 5 30 rfl (hall 5 (by kernel_rfl))
      obtain ⟨p34, q34, e34, l34⟩ : ∃ p c, a.tmps[34]?.getD undef = polV p c z0 ∧ Lies W p c z0 := hI.val 9 34 rfl (hall 9 (by kernel_rfl))
      have e35 : a.tmps[35]?.getD undef = bkV y := hI.val 10 35 rfl (hall 10 (by kernel_rfl))
      refine StepV.done rfl (by rw [wanted_if (j := 5) (s := 30) (want := true) (b := true) rfl rfl g]; rfl) fun K hK => ?_
      have C := (refWith_any p34 q34 z0 y W l34 (by omega)).mono (R' := fun e W2 => ∃ v, e = .returned v ∧ (∃ p c, v = polV p c (with_ z0 y) ∧ Lies W2 p c (with_ z0 y)) ∧ Below W.heap.size W W2) (fun e W2 ⟨v, he, hg, hb⟩ => ⟨v, he, hg.lies, hb⟩)
      refine op_call 14 #[polV p34 q34 z0, bkV y] (fun v W2 => (∃ p c, v = polV p c (with_ z0 y) ∧ Lies W2 p c (with_ z0 y)) ∧ Below W.heap.size W W2) ?_ C (fun v W2 ⟨h1, h2⟩ => hK v W2 h2 h1)
      clear hall hI hK C
      simp only [List.getElem_toArray, List.getElem_cons_zero, List.getElem_cons_succ, execOp]
      go_simp
    · have g : a.tmps[30]?.getD undef = .bool true := hI.val 5 30 rfl (hall 5 (by kernel_rfl))
      obtain ⟨p33, q33, e33, l33⟩ : ∃ p c, a.tmps[33]?.getD undef = polV p c (with_ z0 y) ∧ Lies W p c (with_ z0 y) := hI.val 8 33 rfl (hall 8 (by kernel_rfl))
      obtain ⟨p36, q36, e36, l36⟩ : ∃ p c, a.tmps[36]?.getD undef = polV p c (with_ z0 y) ∧ Lies W p c (with_ z0 y) := hI.val 11 36 rfl (hall 11 (by kernel_rfl))
      refine StepV.done rfl (by rw [wanted_if (j := 5) (s := 30) (want := true) (b := true) rfl rfl g]; rfl) fun K hK => ?_
      have C := (refSame_any p33 q33 (with_ z0 y) p36 q36 (with_ z0 y) true (by simp) W l33 l36).mono (R' := fun e W2 => ∃ v, e = .returned v ∧ v = .bool true ∧ Below W.heap.size W W2) (fun e W2 ⟨he, hb⟩ => ⟨_, he, rfl, hb⟩)
      refine op_call 10 #[polV p33 q33 (with_ z0 y), polV p36 q36 (with_ z0 y)] (fun v W2 => v = .bool true ∧ Below W.heap.size W W2) ?_ C (fun v W2 ⟨h1, h2⟩ => hK v W2 h2 h1)
      clear hall hI hK C
      simp only [List.getElem_toArray, List.getElem_cons_zero, List.getElem_cons_succ, execOp]
      go_simp
    · have e30 : a.tmps[30]?.getD undef = .bool true := hI.val 5 30 rfl (hall 5 (by kernel_rfl))
      have e37 : a.tmps[37]?.getD undef = .bool true := hI.val 12 37 rfl (hall 12 (by kernel_rfl))
      refine StepV.done rfl (wanted_free rfl) fun K hK => ?_
      exact op_pick_yes rfl e30 (hK _ _ (Below.refl _ _) ((eval_tmp 37).trans e37))
    · have f := hI.val 13 38 rfl (hall 13 (by kernel_rfl))
      refine StepV.done rfl (wanted_free rfl) fun K hK => ?_
      exact op_move rfl (hK _ _ (Below.refl _ _) f)
    · have g : a.tmps[39]?.getD undef = .bool true := hI.val 14 39 rfl (hall 14 (by kernel_rfl))
      have e0 : a.tmps[0]?.getD undef = polV a0 c0 z0 := hI.old 0 (unwritten_of (by kernel_rfl) d)
      have l0 := Lies.kept L1.out b0
      refine StepV.done rfl (by rw [wanted_if (j := 14) (s := 39) (want := true) (b := true) rfl rfl g]; rfl) fun K hK => ?_
      exact op_move rfl (hK _ _ (Below.refl _ _) ⟨_, _, e0, l0⟩)
    · have g : a.tmps[39]?.getD undef = .bool true := hI.val 14 39 rfl (hall 14 (by kernel_rfl))
      have e3 : a.tmps[3]?.getD undef = .int .i64 id := hI.old 3 (unwritten_of (by kernel_rfl) d)
      refine StepV.done rfl (by rw [wanted_if (j := 14) (s := 39) (want := true) (b := true) rfl rfl g]; rfl) fun K hK => ?_
      exact op_move rfl (hK _ _ (Below.refl _ _) e3)
    · have g : a.tmps[39]?.getD undef = .bool true := hI.val 14 39 rfl (hall 14 (by kernel_rfl))
      obtain ⟨p40, q40, e40, l40⟩ : ∃ p c, a.tmps[40]?.getD undef = polV p c z0 ∧ Lies W p c z0 := hI.val 15 40 rfl (hall 15 (by kernel_rfl))
      have e41 : a.tmps[41]?.getD undef = .int .i64 id := hI.val 16 41 rfl (hall 16 (by kernel_rfl))
      refine StepV.done rfl (by rw [wanted_if (j := 14) (s := 39) (want := true) (b := true) rfl rfl g]; rfl) fun K hK => ?_
      have C := (Without_told p40 q40 z0 id W l40 (by omega)).mono (R' := fun e W2 => ∃ v, e = .returned v ∧ (∃ p c, v = polV p c (without z0 id) ∧ Lies W2 p c (without z0 id)) ∧ Below W.heap.size W W2) (fun e W2 ⟨v, he, hg, hb⟩ => ⟨v, he, hg, hb⟩)
      refine op_call 15 #[polV p40 q40 z0, .int .i64 id] (fun v W2 => (∃ p c, v = polV p c (without z0 id) ∧ Lies W2 p c (without z0 id)) ∧ Below W.heap.size W W2) ?_ C (fun v W2 ⟨h1, h2⟩ => hK v W2 h2 h1)
      clear hall hI hK C
      simp only [List.getElem_toArray, List.getElem_cons_zero, List.getElem_cons_succ, execOp]
      go_simp
    · have g : a.tmps[39]?.getD undef = .bool true := hI.val 14 39 rfl (hall 14 (by kernel_rfl))
      have e0 : a.tmps[0]?.getD undef = polV a0 c0 z0 := hI.old 0 (unwritten_of (by kernel_rfl) d)
      have l0 := Lies.kept L1.out b0
      refine StepV.done rfl (by rw [wanted_if (j := 14) (s := 39) (want := true) (b := true) rfl rfl g]; rfl) fun K hK => ?_
      exact op_move rfl (hK _ _ (Below.refl _ _) ⟨_, _, e0, l0⟩)
    · have g : a.tmps[39]?.getD undef = .bool true := hI.val 14 39 rfl (hall 14 (by kernel_rfl))
      have e3 : a.tmps[3]?.getD undef = .int .i64 id := hI.old 3 (unwritten_of (by kernel_rfl) d)
      refine StepV.done rfl (by rw [wanted_if (j := 14) (s := 39) (want := true) (b := true) rfl rfl g]; rfl) fun K hK => ?_
      exact op_move rfl (hK _ _ (Below.refl _ _) e3)
    · have g : a.tmps[39]?.getD undef = .bool true := hI.val 14 39 rfl (hall 14 (by kernel_rfl))
      obtain ⟨p43, q43, e43, l43⟩ : ∃ p c, a.tmps[43]?.getD undef = polV p c z0 ∧ Lies W p c z0 := hI.val 18 43 rfl (hall 18 (by kernel_rfl))
      have e44 : a.tmps[44]?.getD undef = .int .i64 id := hI.val 19 44 rfl (hall 19 (by kernel_rfl))
      refine StepV.done rfl (by rw [wanted_if (j := 14) (s := 39) (want := true) (b := true) rfl rfl g]; rfl) fun K hK => ?_
      have C := (refWithout_any p43 q43 z0 id W l43 (by omega)).mono (R' := fun e W2 => ∃ v, e = .returned v ∧ (∃ p c, v = polV p c (without z0 id) ∧ Lies W2 p c (without z0 id)) ∧ Below W.heap.size W W2) (fun e W2 ⟨v, he, hg, hb⟩ => ⟨v, he, hg.lies, hb⟩)
      refine op_call 16 #[polV p43 q43 z0, .int .i64 id] (fun v W2 => (∃ p c, v = polV p c (without z0 id) ∧ Lies W2 p c (without z0 id)) ∧ Below W.heap.size W W2) ?_ C (fun v W2 ⟨h1, h2⟩ => hK v W2 h2 h1)
      clear hall hI hK C
      simp only [List.getElem_toArray, List.getElem_cons_zero, List.getElem_cons_succ, execOp]
      go_simp
    · have g : a.tmps[39]?.getD undef = .bool true := hI.val 14 39 rfl (hall 14 (by kernel_rfl))
      obtain ⟨p42, q42, e42, l42⟩ : ∃ p c, a.tmps[42]?.getD undef = polV p c (without z0 id) ∧ Lies W p c (without z0 id) := hI.val 17 42 rfl (hall 17 (by kernel_rfl))
      obtain ⟨p45, q45, e45, l45⟩ : ∃ p c, a.tmps[45]?.getD undef = polV p c (without z0 id) ∧ Lies W p c (without z0 id) := hI.val 20 45 rfl (hall 20 (by kernel_rfl))
      refine StepV.done rfl (by rw [wanted_if (j := 14) (s := 39) (want := true) (b := true) rfl rfl g]; rfl) fun K hK => ?_
      have C := (refSame_any p42 q42 (without z0 id) p45 q45 (without z0 id) true (by simp) W l42 l45).mono (R' := fun e W2 => ∃ v, e = .returned v ∧ v = .bool true ∧ Below W.heap.size W W2) (fun e W2 ⟨he, hb⟩ => ⟨_, he, rfl, hb⟩)
      refine op_call 10 #[polV p42 q42 (without z0 id), polV p45 q45 (without z0 id)] (fun v W2 => v = .bool true ∧ Below W.heap.size W W2) ?_ C (fun v W2 ⟨h1, h2⟩ => hK v W2 h2 h1)
      clear hall hI hK C
      simp only [List.getElem_toArray, List.getElem_cons_zero, List.getElem_cons_succ, execOp]
      go_simp
    · have e39 : a.tmps[39]?.getD undef = .bool true := hI.val 14 39 rfl (hall 14 (by kernel_rfl))
      have e46 : a.tmps[46]?.getD undef = .bool true := hI.val 21 46 rfl (hall 21 (by kernel_rfl))
      refine StepV.done rfl (wanted_free rfl) fun K hK => ?_
      exact op_pick_yes rfl e39 (hK _ _ (Below.refl _ _) ((eval_tmp 46).trans e46))
    · have f := hI.val 22 47 rfl (hall 22 (by kernel_rfl))
      refine StepV.done rfl (wanted_free rfl) fun K hK => ?_
      exact op_assign rfl (hK _ _ (Below.refl _ _) f)
  case done =>
    intro a W hv hI
    obtain ⟨t, df⟩ := a
    obtain rfl : df = [] := hI.defs
    have hz : t.size = 88 := hI.size
    have b0 := hI.below
    have e0 : t[0]?.getD undef = polV a0 c0 z0 := hI.old 0 (unwritten_of (by kernel_rfl) _)
    have e1 : t[1]?.getD undef = polV a1 c1 z1 := hI.old 1 (unwritten_of (by kernel_rfl) _)
    have e3 : t[3]?.getD undef = .int .i64 id := hI.old 3 (unwritten_of (by kernel_rfl) _)
    have e9 : t[9]?.getD undef = .bool true := hI.old 9 (unwritten_of (by kernel_rfl) _)
    have e10 : t[10]?.getD undef = .bool true := hv 23 10 rfl
    clear hv hI
    obtain ⟨y, hy, ht⟩ := arr_slots t 88 hz
    have hl : (slotsFrom y 0 88).toArray = #[y 0, y 1, y 2, y 3, y 4, y 5, y 6, y 7, y 8, y 9, y 10, y 11, y 12, y 13, y 14, y 15, y 16, y 17, y 18, y 19, y 20, y 21, y 22, y 23, y 24, y 25, y 26, y 27, y 28, y 29, y 30, y 31, y 32, y 33, y 34, y 35, y 36, y 37, y 38, y 39, y 40, y 41, y 42, y 43, y 44, y 45, y 46, y 47, y 48, y 49, y 50, y 51, y 52, y 53, y 54, y 55, y 56, y 57, y 58, y 59, y 60, y 61, y 62, y 63, y 64, y 65, y 66, y 67, y 68, y 69, y 70, y 71, y 72, y 73, y 74, y 75, y 76, y 77, y 78, y 79, y 80, y 81, y 82, y 83, y 84, y 85, y 86, y 87] := rfl
    rw [hy] at e0
    rw [hy] at e1
    rw [hy] at e3
    rw [hy] at e9
    rw [hy] at e10
    rw [ht, hl, e0, e1, e3, e9, e10]
    clear ht hl hz hy e0 e1 e3 e9 e10
    have L2 := Lib.hid (L1.out.kept b0)
    have M2 := Lib.hid (M1.out.kept b0)
    have hsz := B1.out.size
    have B2 := Lib.hid (B1.out.trans (b0.mono (by omega)))
    clear b0 L1 M1 B1 k0 k1 hsz
    go_wp2_with fail
    refine (Gone_told a0 c0 z0 a1 c1 z1 W L2.out M2.out (by omega) K0.out K1.out).mono ?_
    rintro e w3 ⟨v, rfl, ⟨a3, c3, rfl, hL3⟩, hb⟩
    have L3 := Lib.hid (L2.out.kept hb)
    have M3 := Lib.hid (M2.out.kept hb)
    have G3 := Lib.hid hL3
    have B3 := Lib.hid (B2.out.trans (hb.mono (by have := B2.out.size; omega)))
    clear hb hL3 L2 M2 B2
    go_wp2_with fail
    refine (refGone_any a0 c0 z0 a1 c1 z1 w3 L3.out M3.out (by omega)).mono ?_
    rintro e w4 ⟨v, rfl, ho, hb⟩
    obtain ⟨a4, c4, rfl, hL4⟩ := ho.lies
    have L4 := Lib.hid (L3.out.kept hb)
    have M4 := Lib.hid (M3.out.kept hb)
    have G4 := Lib.hid (G3.out.kept hb)
    have N4 := Lib.hid hL4
    have B4 := Lib.hid (B3.out.trans (hb.mono (by have := B3.out.size; omega)))
    clear hb hL4 ho L3 M3 G3 B3
    go_wp2_with fail
    refine (refInts_any a3 c3 (gone z0 z1) a4 c4 (gone z0 z1) true (by simp) w4 G4.out N4.out).mono ?_
    rintro e w5 ⟨rfl, hb⟩
    have L5 := Lib.hid (L4.out.kept hb)
    have M5 := Lib.hid (M4.out.kept hb)
    have B5 := Lib.hid (B4.out.trans (hb.mono (by have := B4.out.size; omega)))
    clear hb L4 M4 G4 N4 B4
    obtain ⟨sm, hsm⟩ : ∃ sm : Bool, z0 = z1 ↔ sm = true := ⟨decide (z0 = z1), by simp⟩
    have HSm := Lib.hid hsm
    clear hsm
    go_wp2_with fail
    refine (refSame_any a0 c0 z0 a1 c1 z1 sm HSm.out w5 L5.out M5.out).mono ?_
    rintro e w6 ⟨rfl, hb⟩
    have L6 := Lib.hid (L5.out.kept hb)
    have M6 := Lib.hid (M5.out.kept hb)
    have B6 := Lib.hid (B5.out.trans (hb.mono (by have := B5.out.size; omega)))
    clear hb L5 M5 B5
    by_cases hc : chk z0
    · have hC := Lib.hid hc
      clear hc
      go_wp2_with fail
      refine (Check_yes a0 c0 z0 hC.out w6 L6.out).mono ?_
      rintro e w7 ⟨rfl, hb⟩
      have L7 := Lib.hid (L6.out.kept hb)
      have M7 := Lib.hid (M6.out.kept hb)
      have B7 := Lib.hid (B6.out.trans (hb.mono (by have := B6.out.size; omega)))
      clear hb L6 M6 B6
      go_wp2_with fail
      refine (refCheck_yes a0 c0 z0 hC.out w7 L7.out).mono ?_
      rintro e w8 ⟨rfl, hb⟩
      have L8 := Lib.hid (L7.out.kept hb)
      have M8 := Lib.hid (M7.out.kept hb)
      have B8 := Lib.hid (B7.out.trans (hb.mono (by have := B7.out.size; omega)))
      clear hb L7 M7 B7
      go_wp2_with fail
      refine (Find_told a0 c0 z0 id w8 L8.out).mono ?_
      rintro e w9 ⟨rfl, hb⟩
      have L9 := Lib.hid (L8.out.kept hb)
      have M9 := Lib.hid (M8.out.kept hb)
      have B9 := Lib.hid (B8.out.trans (hb.mono (by have := B8.out.size; omega)))
      clear hb L8 M8 B8
      have FF := Lib.hid (refFind_any a0 c0 z0 id w9 L9.out)
      generalize find z0 id 0 = ff at *
      go_wp2_with fail
      refine FF.out.mono ?_
      rintro e w10 ⟨rfl, rfl⟩
      go_wp2_with fail
      refine (Same_told a0 c0 z0 a1 c1 z1 sm HSm.out w9 L9.out M9.out).mono ?_
      rintro e w11 ⟨rfl, hb⟩
      have B11 := Lib.hid (B9.out.trans (hb.mono (by have := B9.out.size; omega)))
      clear hb
      go_wp2_with fail
      go_ret
      exact ⟨rfl, by rw [hs1]; exact B11.out⟩
    · have hC := Lib.hid hc
      clear hc
      go_wp2_with fail
      refine (Check_no a0 c0 z0 hC.out w6 L6.out).mono ?_
      rintro e w7 ⟨rfl, hb⟩
      have L7 := Lib.hid (L6.out.kept hb)
      have M7 := Lib.hid (M6.out.kept hb)
      have B7 := Lib.hid (B6.out.trans (hb.mono (by have := B6.out.size; omega)))
      clear hb L6 M6 B6
      go_wp2_with fail
      refine (refCheck_no a0 c0 z0 hC.out w7 L7.out).mono ?_
      rintro e w8 ⟨rfl, hb⟩
      have L8 := Lib.hid (L7.out.kept hb)
      have M8 := Lib.hid (M7.out.kept hb)
      have B8 := Lib.hid (B7.out.trans (hb.mono (by have := B7.out.size; omega)))
      clear hb L7 M7 B7
      go_wp2_with fail
      refine (Find_told a0 c0 z0 id w8 L8.out).mono ?_
      rintro e w9 ⟨rfl, hb⟩
      have L9 := Lib.hid (L8.out.kept hb)
      have M9 := Lib.hid (M8.out.kept hb)
      have B9 := Lib.hid (B8.out.trans (hb.mono (by have := B8.out.size; omega)))
      clear hb L8 M8 B8
      have FF := Lib.hid (refFind_any a0 c0 z0 id w9 L9.out)
      generalize find z0 id 0 = ff at *
      go_wp2_with fail
      refine FF.out.mono ?_
      rintro e w10 ⟨rfl, rfl⟩
      go_wp2_with fail
      refine (Same_told a0 c0 z0 a1 c1 z1 sm HSm.out w9 L9.out M9.out).mono ?_
      rintro e w11 ⟨rfl, hb⟩
      have B11 := Lib.hid (B9.out.trans (hb.mono (by have := B9.out.size; omega)))
      clear hb
      go_wp2_with fail
      go_ret
      exact ⟨rfl, by rw [hs1]; exact B11.out⟩

theorem own_PoolTells : ownKnob Try.prog.godebug = none := by kernel_rfl
set_option maxRecDepth 100000 in
set_option maxHeartbeats 800000 in
theorem lifted_PoolTells (os : Os) (started : os.Started) (H : Type) (enc : TypeId × Value → H) :
    ReturnsInHanded {} Try.checked os 3 .any (Rows.poolTellsSpec.pre6 enc Try.prog Try.f3 Rows.poolTellsRow.domain false) (Rows.poolTellsSpec.post enc Try.prog Try.f3 false true false false) := by
  refine returnsInHanded_of_change (C := Try.checked) own_PoolTells started (by kernel_rfl) Try.func3
    (ChangeSpec.witness6 (enc := enc) (C := Try.checked) false ⟨#[], #[.slice none 0 0, .slice none 0 0, .agg #[.int .i64 0, .int .i64 0], .int .i64 0], []⟩ 8 (by kernel_rfl) (by kernel_rfl) (by kernel_rfl) (by kernel_rfl)) ?_
  intro W base args ds gs before hval0 hW _ _
  have hval : ∀ (j : Nat) t v, Try.f3.params[j]? = some t → args[j]? = some v → Value.okWide Try.prog W .any base t v := hval0
  have hW' := hW
  obtain ⟨p, q, hA0, hV, rfl, _, _⟩ := hW
  have hA : DataW.TrodAll enc Try.prog W 0 (fun _ => true) true Try.f3.params.toList args.toList ds p := hA0
  rw [Try.params3] at hA hval
  obtain ⟨v0, vs0, d0, ds0, p0, q0, ha0, rfl, rfl, t0, r0⟩ := trodAll_cons hA
  obtain ⟨v1, vs1, d1, ds1, p1, q1, ha1, rfl, rfl, t1, r1⟩ := trodAll_cons r0
  obtain ⟨v2, vs2, d2, ds2, p2, q2, ha2, rfl, rfl, t2, r2⟩ := trodAll_cons r1
  obtain ⟨v3, vs3, d3, ds3, p3, q3, ha3, rfl, rfl, t3, r3⟩ := trodAll_cons r2
  obtain ⟨rfl, rfl, rfl⟩ := trodAll_nil r3
  subst ha3
  subst ha2
  subst ha1
  obtain rfl : args = #[v0, v1, v2, v3] := by cases args; simp_all
  obtain ⟨rfl, rfl⟩ := trodVars_none hV
  have k0 := t0
  have lt0 : ∀ x ∈ p0, x.block < W.heap.size := by obtain ⟨m, hm⟩ := k0; exact DataW.trod_lt m _ _ _ hm
  obtain ⟨a0, c0, z0, rfl, h0, g0⟩ := Stp.open_pool (hval 0 22 v0 rfl rfl) t0
  have k1 := t1
  have lt1 : ∀ x ∈ p1, x.block < W.heap.size := by obtain ⟨m, hm⟩ := k1; exact DataW.trod_lt m _ _ _ hm
  obtain ⟨a1, c1, z1, rfl, h1, g1⟩ := Stp.open_pool (hval 1 22 v1 rfl rfl) t1
  have k2 := t2
  have lt2 : ∀ x ∈ p2, x.block < W.heap.size := by obtain ⟨m, hm⟩ := k2; exact DataW.trod_lt m _ _ _ hm
  obtain ⟨a2, rfl, h2⟩ := Stp.open_backend (hval 2 24 v2 rfl rfl) t2
  obtain ⟨a3, rfl, rfl, rfl, h3⟩ := open_int Try.underlying3 (hval 3 3 v3 rfl rfl) t3
  clear hA0 hval0
  refine (walk_PoolTells a0 c0 z0 a1 c1 z1 a2 a3 W h0 g0 h1 g1 h2 h3).mono fun e W' ⟨he, hnx⟩ => ?_
  subst he
  exact ⟨_, rfl, ⟨_, _, _, [], _, [], hW', trodAll_cons_mk (shut_bool Try.underlying4 _) trodAll_mk0, (trodAll_cons_mk (Below.trod Stp.laidOut (by kernel_rfl) (of_decide_eq_true (by kernel_rfl)) k0 hnx lt0) (trodAll_cons_mk (Below.trod Stp.laidOut (by kernel_rfl) (of_decide_eq_true (by kernel_rfl)) k1 hnx lt1) (trodAll_cons_mk (Below.trod Stp.laidOut (by kernel_rfl) (of_decide_eq_true (by kernel_rfl)) k2 hnx lt2) (trodAll_cons_mk (shut_int Try.underlying3 h3) trodAll_mk0)))), rfl, hnx.frame _, fun h => by cases h⟩⟩

theorem poolTells_holds : Rows.PoolTellsSaid :=
  OpenClaim.holds_of_wide 3 Try.f3 rfl rfl rfl rfl rfl rfl rfl ⟨rfl, rfl, rfl, rfl, rfl⟩ rfl rfl rfl rfl rfl (by kernel_rfl) Try.func3 (by kernel_rfl)
    (of_decide_eq_true (by kernel_rfl)) (by unfold Func.isWrapper; first | (rw [if_pos (by decide +kernel)]; kernel_rfl) | (rw [if_neg (by decide +kernel)]; exact ⟨rfl, rfl⟩))
    (fun os started H enc _ => lifted_PoolTells os started H enc)

#print axioms poolTells_holds
end Go.Proofs.Ytbejhkodfkcbpaa
