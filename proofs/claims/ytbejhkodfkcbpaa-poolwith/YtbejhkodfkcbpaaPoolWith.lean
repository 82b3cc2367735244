/-
  PoolWith: for every p, b and id the law PoolWith answers true: what is put in is found, all others stay, and once more it changes nothing. No condition.
-/
import Derived.Test.YtbejhkodfkcbpaaRows
import Derived.Test.YtbejhkodfkcbpaaStp
import Derived.Test.YtbejhkodfkcbpaaWkB
import Derived.Deep.CutRange
import Derived.ProofKit
import Derived.OpenShut
import Derived.ChangeMaps5
namespace Go.Proofs.Ytbejhkodfkcbpaa
open Go.ChangeShapes Go.WideShapes Go.ChangeAt Go.RowKit Go.Shelf
open Go.ChangeMaps (open_string shut_string)
open Pol Rgn

set_option maxRecDepth 100000 in
set_option maxHeartbeats 8000000 in
theorem walk_PoolWith (a0 : Option Addr) (c0 : Nat) (z0 : List Bk) (y : Bk) (id : Int) (w : World) (h0 : Lies w a0 c0 z0) (_g0 : ∀ x ∈ z0, Stp.BkOk x) (_h1 : Stp.BkOk y) (_h2 : (Lit.int .i64 id).wf = true) :
    Calls Try.prog 4 #[polV a0 c0 z0, .agg #[.int .i64 y.1, .int .i64 y.2], .int .i64 id] w fun e W' => e = .returned (.bool true) ∧ Below w.heap.size w W' := by
  have al := below_alloc w (.cells #[.int .i64 y.1, .int .i64 y.2] 24)
  have H := Lib.hid (h0.kept al)
  have A := Lib.hid al
  clear h0 _g0 al
  have y0 : (w.alloc (.cells #[.int .i64 y.1, .int .i64 y.2] 24)).cell? ⟨w.heap.size, 0, none⟩ = some (.int .i64 y.1) := by simp
  have y1 : (w.alloc (.cells #[.int .i64 y.1, .int .i64 y.2] 24)).cell? ⟨w.heap.size, 1, none⟩ = some (.int .i64 y.2) := by simp
  by_cases h60 : 60 < z0.length
  · have d0 : decide ((60 : Int) < (z0.length : Int)) = true := decide_eq_true (by omega)
    have d1 : decide (60 < z0.length) = true := decide_eq_true h60
    go_enter Try.func4, Try.ntmps4
    go_wp2_with fail
    refine (works_any _).mono ?_
    rintro e w1 ⟨rfl, hb⟩
    have B1 := Lib.hid (below2 A.out hb)
    clear hb
    go_wp2_with fail
    go_ret
    exact ⟨rfl, B1.out⟩
  have d0 : decide ((60 : Int) < (z0.length : Int)) = false := decide_eq_false (by omega)
  have d1 : decide (60 < z0.length) = false := decide_eq_false h60
  have hz : z0.length ≤ 60 := by omega
  have hwl := with_length y z0
  obtain ⟨zw, hzw⟩ : ∃ zw, zw = with_ z0 y := ⟨_, rfl⟩
  obtain ⟨k, hk, hkl, hky⟩ : ∃ k : Nat, find zw y.1 0 = (k : Int) ∧ k < zw.length ∧ zw[k]? = some y := by rw [hzw]; exact with_found y z0
  have TW := Lib.hid (show with_ zw y = zw by rw [hzw]; exact with_twice y z0)
  have CK := Lib.hid (show chk z0 → (chk zw ↔ rng y ∧ zw.length ≤ 32) by rw [hzw]; exact with_chk y z0)
  have OT := Lib.hid (show id ≠ y.1 → (0 ≤ find zw id 0 ↔ 0 ≤ find z0 id 0) by intro h; rw [hzw, find_pos, find_pos]; exact with_other y z0 id h)
  rw [← hzw] at hwl
  have HZ := Lib.hid hzw
  have HK := Lib.hid hk
  clear hzw hk
  go_enter Try.func4, Try.ntmps4
  go_wp2_with fail
  refine (works_any _).mono ?_
  rintro e w1 ⟨rfl, hb⟩
  have L1 := Lib.hid (H.out.kept hb)
  have k0 := (hb.cell (World.block_lt_of_cell? _ _ y0)).trans y0
  have k1 := (hb.cell (World.block_lt_of_cell? _ _ y1)).trans y1
  have B1 := Lib.hid (below2 A.out hb)
  clear hb H A y0 y1
  generalize hs1 : w.heap.size = s1 at *
  go_wp2_with fail
  refine (With_told a0 c0 z0 y w1 L1.out (by omega)).mono ?_
  rintro e w2 ⟨v, rfl, hg, hb⟩
  rw [← HZ.out] at hg
  obtain ⟨aw, cw, rfl, hLw⟩ := hg
  have L2 := Lib.hid (L1.out.kept hb)
  have M2 := Lib.hid hLw
  have hCw := hLw.len
  have hMw := hLw.max
  unfold maxLen at hMw
  have k0' := (hb.cell (World.block_lt_of_cell? _ _ k0)).trans k0
  have k1' := (hb.cell (World.block_lt_of_cell? _ _ k1)).trans k1
  have B2 := Lib.hid (B1.out.trans (hb.mono (by have := B1.out.size; omega)))
  clear hb hLw L1 B1 k0 k1
  go_wp2_with fail
  refine (Find_told aw cw zw y.1 w2 M2.out).mono ?_
  rintro e w3 ⟨rfl, hb⟩
  rw [HK.out]
  have L3 := Lib.hid (L2.out.kept hb)
  have M3 := Lib.hid (M2.out.kept hb)
  have m0 := (hb.cell (World.block_lt_of_cell? _ _ k0')).trans k0'
  have m1 := (hb.cell (World.block_lt_of_cell? _ _ k1')).trans k1'
  have B3 := Lib.hid (B2.out.trans (hb.mono (by have := B2.out.size; omega)))
  clear hb L2 M2 B2 k0' k1' HK
  obtain ⟨bw, ow, rfl, q0, q1⟩ := M3.out.at hkl
  have hyk : zw[k] = y := by rw [List.getElem?_eq_getElem hkl] at hky; exact Option.some.inj hky
  rw [hyk] at q0 q1
  clear hyk hky
  go_wp2_with fail
  obtain ⟨rt, hrt⟩ : ∃ rt : Bool, rt = true ↔ rng y ∧ zw.length ≤ 32 := by
    by_cases h : rng y ∧ zw.length ≤ 32
    · exact ⟨true, by simp [h]⟩
    · exact ⟨false, by simp [h]⟩
  have RT := Lib.hid hrt
  clear hrt
  by_cases he : id = y.1
  · have hq0 : (id != y.1) = false := by simp [he]
    clear he
    refine wp_region_val (spV [.is (.int .i64 (k : Int)), .is (.bool false), .is (.bool false), .is (.int .i64 (k : Int)), .pool zw, .is (.int .i64 ((zw : List _).length : Nat)), .is (.bool false), .is (.bool false), .is (.bool false), .is (polV (some ⟨bw, ow, none⟩) cw zw), .is (.int .i64 (k : Int)), .is (.pointer (some ⟨bw, ow + k * 2, none⟩)), .is (bkV y), .is (bkV y), .is (.bool false), .is (.bool false), .is (.bool false), .is (.int .i64 id), .is (.pointer (some ⟨s1, 0, none⟩)), .is (.int .i64 (y).1), .is (.bool false), .is (.bool false), .any, .any, .any, .any, .any, .any, .any, .any, .any, .is (.bool false), .is (.bool false)]) (spV_kept _) (by kernel_rfl) (by kernel_rfl) (by kernel_rfl) ?step ?done
    case step =>
      intro d a W i hi hall hI
      replace hi : i < 33 := hi
      have b0 := hI.below
      obtain rfl | rfl | rfl | rfl | rfl | rfl | rfl | rfl | rfl | rfl | rfl | rfl | rfl | rfl | rfl | rfl | rfl | rfl | rfl | rfl | rfl | rfl | rfl | rfl | rfl | rfl | rfl | rfl | rfl | rfl | rfl | rfl | rfl : i = 0 ∨ i = 1 ∨ i = 2 ∨ i = 3 ∨ i = 4 ∨ i = 5 ∨ i = 6 ∨ i = 7 ∨ i = 8 ∨ i = 9 ∨ i = 10 ∨ i = 11 ∨ i = 12 ∨ i = 13 ∨ i = 14 ∨ i = 15 ∨ i = 16 ∨ i = 17 ∨ i = 18 ∨ i = 19 ∨ i = 20 ∨ i = 21 ∨ i = 22 ∨ i = 23 ∨ i = 24 ∨ i = 25 ∨ i = 26 ∨ i = 27 ∨ i = 28 ∨ i = 29 ∨ i = 30 ∨ i = 31 ∨ i = 32 := by omega
      · have e9 : a.tmps[9]?.getD undef = .int .i64 (k : Int) := hI.old 9 (unwritten_of (by kernel_rfl) d)
        refine StepV.done rfl (wanted_free rfl) fun K hK => ?_
        exact op_move rfl (hK _ _ (Below.refl _ _) e9)
      · have e25 : a.tmps[25]?.getD undef = .int .i64 (k : Int) := hI.val 0 25 rfl (hall 0 (by kernel_rfl))
        have hq : decide ((k : Int) < 0) = false := decide_eq_false (by omega)
        refine StepV.done rfl (wanted_free rfl) fun K hK => ?_
        clear hall hI
        refine op_run (.bool false) W ?_ (hK _ _ (Below.refl _ _) rfl)
        clear hK
        simp only [List.getElem_toArray, List.getElem_cons_zero, List.getElem_cons_succ, execOp, Act.eval]
        go_simp
      · have f := hI.val 1 26 rfl (hall 1 (by kernel_rfl))
        refine StepV.done rfl (wanted_free rfl) fun K hK => ?_
        exact op_move rfl (hK _ _ (Below.refl _ _) f)
      · have g : a.tmps[27]?.getD undef = .bool false := hI.val 2 27 rfl (hall 2 (by kernel_rfl))
        have e9 : a.tmps[9]?.getD undef = .int .i64 (k : Int) := hI.old 9 (unwritten_of (by kernel_rfl) d)
        refine StepV.done rfl (by rw [wanted_if (j := 2) (s := 27) (want := false) (b := false) rfl rfl g]; rfl) fun K hK => ?_
        exact op_move rfl (hK _ _ (Below.refl _ _) e9)
      · have g : a.tmps[27]?.getD undef = .bool false := hI.val 2 27 rfl (hall 2 (by kernel_rfl))
        have e8 : a.tmps[8]?.getD undef = polV (some ⟨bw, ow, none⟩) cw zw := hI.old 8 (unwritten_of (by kernel_rfl) d)
        have l8 := Lies.kept M3.out b0
        refine StepV.done rfl (by rw [wanted_if (j := 2) (s := 27) (want := false) (b := false) rfl rfl g]; rfl) fun K hK => ?_
        exact op_move rfl (hK _ _ (Below.refl _ _) ⟨_, _, e8, l8⟩)
      · have g : a.tmps[27]?.getD undef = .bool false := hI.val 2 27 rfl (hall 2 (by kernel_rfl))
        obtain ⟨p29, q29, e29, l29⟩ : ∃ p c, a.tmps[29]?.getD undef = polV p c zw ∧ Lies W p c zw := hI.val 4 29 rfl (hall 4 (by kernel_rfl))
        refine StepV.done rfl (by rw [wanted_if (j := 2) (s := 27) (want := false) (b := false) rfl rfl g]; rfl) fun K hK => ?_
        clear hall hI
        refine op_run (.int .i64 ((zw : List _).length : Nat)) W ?_ (hK _ _ (Below.refl _ _) rfl)
        clear hK
        simp only [List.getElem_toArray, List.getElem_cons_zero, List.getElem_cons_succ, execOp]
        go_simp
      · have g : a.tmps[27]?.getD undef = .bool false := hI.val 2 27 rfl (hall 2 (by kernel_rfl))
        have e28 : a.tmps[28]?.getD undef = .int .i64 (k : Int) := hI.val 3 28 rfl (hall 3 (by kernel_rfl))
        have e30 : a.tmps[30]?.getD undef = .int .i64 ((zw : List _).length : Nat) := hI.val 5 30 rfl (hall 5 (by kernel_rfl))
        have hq : decide ((zw.length : Int) ≤ (k : Int)) = false := decide_eq_false (by omega)
        have hq2 : decide (zw.length ≤ k) = false := decide_eq_false (by omega)
        refine StepV.done rfl (by rw [wanted_if (j := 2) (s := 27) (want := false) (b := false) rfl rfl g]; rfl) fun K hK => ?_
        clear hall hI
        refine op_run (.bool false) W ?_ (hK _ _ (Below.refl _ _) rfl)
        clear hK
        simp only [List.getElem_toArray, List.getElem_cons_zero, List.getElem_cons_succ, execOp, Act.eval]
        go_simp
      · have e27 : a.tmps[27]?.getD undef = .bool false := hI.val 2 27 rfl (hall 2 (by kernel_rfl))
        have e31 : a.tmps[31]?.getD undef = .bool false := hI.val 6 31 rfl (hall 6 (by kernel_rfl))
        refine StepV.done rfl (wanted_free rfl) fun K hK => ?_
        exact op_pick_no rfl e27 (hK _ _ (Below.refl _ _) ((eval_tmp 31).trans e31))
      · have f := hI.val 7 32 rfl (hall 7 (by kernel_rfl))
        refine StepV.done rfl (wanted_free rfl) fun K hK => ?_
        exact op_move rfl (hK _ _ (Below.refl _ _) f)
      · have g : a.tmps[33]?.getD undef = .bool false := hI.val 8 33 rfl (hall 8 (by kernel_rfl))
        have e8 : a.tmps[8]?.getD undef = polV (some ⟨bw, ow, none⟩) cw zw := hI.old 8 (unwritten_of (by kernel_rfl) d)
        have l8 := Lies.kept M3.out b0
        refine StepV.done rfl (by rw [wanted_if (j := 8) (s := 33) (want := false) (b := false) rfl rfl g]; rfl) fun K hK => ?_
        exact op_move rfl (hK _ _ (Below.refl _ _) e8)
      · have g : a.tmps[33]?.getD undef = .bool false := hI.val 8 33 rfl (hall 8 (by kernel_rfl))
        have e9 : a.tmps[9]?.getD undef = .int .i64 (k : Int) := hI.old 9 (unwritten_of (by kernel_rfl) d)
        refine StepV.done rfl (by rw [wanted_if (j := 8) (s := 33) (want := false) (b := false) rfl rfl g]; rfl) fun K hK => ?_
        exact op_move rfl (hK _ _ (Below.refl _ _) e9)
      · have g : a.tmps[33]?.getD undef = .bool false := hI.val 8 33 rfl (hall 8 (by kernel_rfl))
        have e34 : a.tmps[34]?.getD undef = polV (some ⟨bw, ow, none⟩) cw zw := hI.val 9 34 rfl (hall 9 (by kernel_rfl))
        have e35 : a.tmps[35]?.getD undef = .int .i64 (k : Int) := hI.val 10 35 rfl (hall 10 (by kernel_rfl))
        refine StepV.done rfl (by rw [wanted_if (j := 8) (s := 33) (want := false) (b := false) rfl rfl g]; rfl) fun K hK => ?_
        clear hall hI
        refine op_run (.pointer (some ⟨bw, ow + k * 2, none⟩)) W ?_ (hK _ _ (Below.refl _ _) rfl)
        clear hK
        simp only [List.getElem_toArray, List.getElem_cons_zero, List.getElem_cons_succ, execOp, Act.eval]
        go_simp
      · have g : a.tmps[33]?.getD undef = .bool false := hI.val 8 33 rfl (hall 8 (by kernel_rfl))
        have e36 : a.tmps[36]?.getD undef = .pointer (some ⟨bw, ow + k * 2, none⟩) := hI.val 11 36 rfl (hall 11 (by kernel_rfl))
        refine StepV.done rfl (by rw [wanted_if (j := 8) (s := 33) (want := false) (b := false) rfl rfl g]; rfl) fun K hK => ?_
        have c0 := (b0.cell (World.block_lt_of_cell? _ _ q0)).trans q0
        have c1 := (b0.cell (World.block_lt_of_cell? _ _ q1)).trans q1
        clear hall hI
        refine op_run (bkV y) W ?_ (hK _ _ (Below.refl _ _) rfl)
        clear hK
        simp only [List.getElem_toArray, List.getElem_cons_zero, List.getElem_cons_succ, execOp, Act.eval]
        go_simp
      · have g : a.tmps[33]?.getD undef = .bool false := hI.val 8 33 rfl (hall 8 (by kernel_rfl))
        have e4 : a.tmps[4]?.getD undef = .pointer (some ⟨s1, 0, none⟩) := hI.old 4 (unwritten_of (by kernel_rfl) d)
        have c0 := (b0.cell (World.block_lt_of_cell? _ _ m0)).trans m0
        have c1 := (b0.cell (World.block_lt_of_cell? _ _ m1)).trans m1
        refine StepV.done rfl (by rw [wanted_if (j := 8) (s := 33) (want := false) (b := false) rfl rfl g]; rfl) fun K hK => ?_
        clear hall hI
        refine op_run (bkV y) W ?_ (hK _ _ (Below.refl _ _) rfl)
        clear hK
        simp only [List.getElem_toArray, List.getElem_cons_zero, List.getElem_cons_succ, execOp, Act.eval]
        go_simp
      · have g : a.tmps[33]?.getD undef = .bool false := hI.val 8 33 rfl (hall 8 (by kernel_rfl))
        have e37 : a.tmps[37]?.getD undef = bkV y := hI.val 12 37 rfl (hall 12 (by kernel_rfl))
        have e38 : a.tmps[38]?.getD undef = bkV y := hI.val 13 38 rfl (hall 13 (by kernel_rfl))
        have CC := bk_cmp y y true (by simp)
        refine StepV.done rfl (by rw [wanted_if (j := 8) (s := 33) (want := false) (b := false) rfl rfl g]; rfl) fun K hK => ?_
        clear hall hI
        refine op_run (.bool false) W ?_ (hK _ _ (Below.refl _ _) rfl)
        clear hK
        simp only [List.getElem_toArray, List.getElem_cons_zero, List.getElem_cons_succ, execOp, Act.eval]
        go_simp
      · have e33 : a.tmps[33]?.getD undef = .bool false := hI.val 8 33 rfl (hall 8 (by kernel_rfl))
        have e39 : a.tmps[39]?.getD undef = .bool false := hI.val 14 39 rfl (hall 14 (by kernel_rfl))
        refine StepV.done rfl (wanted_free rfl) fun K hK => ?_
        exact op_pick_no rfl e33 (hK _ _ (Below.refl _ _) ((eval_tmp 39).trans e39))
      · have f := hI.val 15 40 rfl (hall 15 (by kernel_rfl))
        refine StepV.done rfl (wanted_free rfl) fun K hK => ?_
        exact op_move rfl (hK _ _ (Below.refl _ _) f)
      · have g : a.tmps[41]?.getD undef = .bool false := hI.val 16 41 rfl (hall 16 (by kernel_rfl))
        have e2 : a.tmps[2]?.getD undef = .int .i64 id := hI.old 2 (unwritten_of (by kernel_rfl) d)
        refine StepV.done rfl (by rw [wanted_if (j := 16) (s := 41) (want := false) (b := false) rfl rfl g]; rfl) fun K hK => ?_
        exact op_move rfl (hK _ _ (Below.refl _ _) e2)
      · have g : a.tmps[41]?.getD undef = .bool false := hI.val 16 41 rfl (hall 16 (by kernel_rfl))
        have e4 : a.tmps[4]?.getD undef = .pointer (some ⟨s1, 0, none⟩) := hI.old 4 (unwritten_of (by kernel_rfl) d)
        refine StepV.done rfl (by rw [wanted_if (j := 16) (s := 41) (want := false) (b := false) rfl rfl g]; rfl) fun K hK => ?_
        clear hall hI
        refine op_run (.pointer (some ⟨s1, 0, none⟩)) W ?_ (hK _ _ (Below.refl _ _) rfl)
        clear hK
        simp only [List.getElem_toArray, List.getElem_cons_zero, List.getElem_cons_succ, execOp, Act.eval]
        go_simp
      · have g : a.tmps[41]?.getD undef = .bool false := hI.val 16 41 rfl (hall 16 (by kernel_rfl))
        have e43 : a.tmps[43]?.getD undef = .pointer (some ⟨s1, 0, none⟩) := hI.val 18 43 rfl (hall 18 (by kernel_rfl))
        have c0 := (b0.cell (World.block_lt_of_cell? _ _ m0)).trans m0
        have c1 := (b0.cell (World.block_lt_of_cell? _ _ m1)).trans m1
        refine StepV.done rfl (by rw [wanted_if (j := 16) (s := 41) (want := false) (b := false) rfl rfl g]; rfl) fun K hK => ?_
        clear hall hI
        refine op_run (.int .i64 (y).1) W ?_ (hK _ _ (Below.refl _ _) rfl)
        clear hK
        simp only [List.getElem_toArray, List.getElem_cons_zero, List.getElem_cons_succ, execOp, Act.eval]
        go_simp
      · have g : a.tmps[41]?.getD undef = .bool false := hI.val 16 41 rfl (hall 16 (by kernel_rfl))
        have e42 : a.tmps[42]?.getD undef = .int .i64 id := hI.val 17 42 rfl (hall 17 (by kernel_rfl))
        have e44 : a.tmps[44]?.getD undef = .int .i64 (y).1 := hI.val 19 44 rfl (hall 19 (by kernel_rfl))
        refine StepV.done rfl (by rw [wanted_if (j := 16) (s := 41) (want := false) (b := false) rfl rfl g]; rfl) fun K hK => ?_
        clear hall hI
        refine op_run (.bool false) W ?_ (hK _ _ (Below.refl _ _) rfl)
        clear hK
        simp only [List.getElem_toArray, List.getElem_cons_zero, List.getElem_cons_succ, execOp, Act.eval]
        go_simp
      · have g : a.tmps[41]?.getD undef = .bool false := hI.val 16 41 rfl (hall 16 (by kernel_rfl))
        have f := hI.val 20 45 rfl (hall 20 (by kernel_rfl))
        refine StepV.done rfl (by rw [wanted_if (j := 16) (s := 41) (want := false) (b := false) rfl rfl g]; rfl) fun K hK => ?_
        exact op_move rfl (hK _ _ (Below.refl _ _) f)
      · have g : a.tmps[46]?.getD undef = .bool false := hI.val 21 46 rfl (hall 21 (by kernel_rfl))
        exact StepV.left rfl (by rw [wanted_if (j := 21) (s := 46) (want := true) (b := false) rfl rfl g]; rfl) trivial
      · have g : a.tmps[46]?.getD undef = .bool false := hI.val 21 46 rfl (hall 21 (by kernel_rfl))
        exact StepV.left rfl (by rw [wanted_if (j := 21) (s := 46) (want := true) (b := false) rfl rfl g]; rfl) trivial
      · have g : a.tmps[46]?.getD undef = .bool false := hI.val 21 46 rfl (hall 21 (by kernel_rfl))
        exact StepV.left rfl (by rw [wanted_if (j := 21) (s := 46) (want := true) (b := false) rfl rfl g]; rfl) trivial
      · have g : a.tmps[46]?.getD undef = .bool false := hI.val 21 46 rfl (hall 21 (by kernel_rfl))
        exact StepV.left rfl (by rw [wanted_if (j := 21) (s := 46) (want := true) (b := false) rfl rfl g]; rfl) trivial
      · have g : a.tmps[46]?.getD undef = .bool false := hI.val 21 46 rfl (hall 21 (by kernel_rfl))
        exact StepV.left rfl (by rw [wanted_if (j := 21) (s := 46) (want := true) (b := false) rfl rfl g]; rfl) trivial
      · have g : a.tmps[46]?.getD undef = .bool false := hI.val 21 46 rfl (hall 21 (by kernel_rfl))
        exact StepV.left rfl (by rw [wanted_if (j := 21) (s := 46) (want := true) (b := false) rfl rfl g]; rfl) trivial
      · have g : a.tmps[46]?.getD undef = .bool false := hI.val 21 46 rfl (hall 21 (by kernel_rfl))
        exact StepV.left rfl (by rw [wanted_if (j := 21) (s := 46) (want := true) (b := false) rfl rfl g]; rfl) trivial
      · have g : a.tmps[46]?.getD undef = .bool false := hI.val 21 46 rfl (hall 21 (by kernel_rfl))
        exact StepV.left rfl (by rw [wanted_if (j := 21) (s := 46) (want := true) (b := false) rfl rfl g]; rfl) trivial
      · have g : a.tmps[46]?.getD undef = .bool false := hI.val 21 46 rfl (hall 21 (by kernel_rfl))
        exact StepV.left rfl (by rw [wanted_if (j := 21) (s := 46) (want := true) (b := false) rfl rfl g]; rfl) trivial
      · have g : a.tmps[41]?.getD undef = .bool false := hI.val 16 41 rfl (hall 16 (by kernel_rfl))
        have e46 : a.tmps[46]?.getD undef = .bool false := hI.val 21 46 rfl (hall 21 (by kernel_rfl))
        refine StepV.done rfl (by rw [wanted_if (j := 16) (s := 41) (want := false) (b := false) rfl rfl g]; rfl) fun K hK => ?_
        exact op_pick_no rfl e46 (hK _ _ (Below.refl _ _) rfl)
      · have e41 : a.tmps[41]?.getD undef = .bool false := hI.val 16 41 rfl (hall 16 (by kernel_rfl))
        have e56 : a.tmps[56]?.getD undef = .bool false := hI.val 31 56 rfl (hall 31 (by kernel_rfl))
        refine StepV.done rfl (wanted_free rfl) fun K hK => ?_
        exact op_pick_no rfl e41 (hK _ _ (Below.refl _ _) ((eval_tmp 56).trans e56))
    case done =>
      intro a W hv hI
      obtain ⟨t, df⟩ := a
      obtain rfl : df = [] := hI.defs
      have hz : t.size = 101 := hI.size
      have b0 := hI.below
      have e0 : t[0]?.getD undef = polV a0 c0 z0 := hI.old 0 (unwritten_of (by kernel_rfl) _)
      have e2 : t[2]?.getD undef = .int .i64 id := hI.old 2 (unwritten_of (by kernel_rfl) _)
      have e4 : t[4]?.getD undef = .pointer (some ⟨s1, 0, none⟩) := hI.old 4 (unwritten_of (by kernel_rfl) _)
      have e7 : t[7]?.getD undef = .bool true := hI.old 7 (unwritten_of (by kernel_rfl) _)
      have e8 : t[8]?.getD undef = polV (some ⟨bw, ow, none⟩) cw zw := hI.old 8 (unwritten_of (by kernel_rfl) _)
      have e9 : t[9]?.getD undef = .int .i64 (k : Int) := hI.old 9 (unwritten_of (by kernel_rfl) _)
      have e57 : t[57]?.getD undef = .bool false := hv 32 57 rfl
      clear hv hI
      obtain ⟨ys, hy, ht⟩ := arr_slots t 101 hz
      have hl : (slotsFrom ys 0 101).toArray = #[ys 0, ys 1, ys 2, ys 3, ys 4, ys 5, ys 6, ys 7, ys 8, ys 9, ys 10, ys 11, ys 12, ys 13, ys 14, ys 15, ys 16, ys 17, ys 18, ys 19, ys 20, ys 21, ys 22, ys 23, ys 24, ys 25, ys 26, ys 27, ys 28, ys 29, ys 30, ys 31, ys 32, ys 33, ys 34, ys 35, ys 36, ys 37, ys 38, ys 39, ys 40, ys 41, ys 42, ys 43, ys 44, ys 45, ys 46, ys 47, ys 48, ys 49, ys 50, ys 51, ys 52, ys 53, ys 54, ys 55, ys 56, ys 57, ys 58, ys 59, ys 60, ys 61, ys 62, ys 63, ys 64, ys 65, ys 66, ys 67, ys 68, ys 69, ys 70, ys 71, ys 72, ys 73, ys 74, ys 75, ys 76, ys 77, ys 78, ys 79, ys 80, ys 81, ys 82, ys 83, ys 84, ys 85, ys 86, ys 87, ys 88, ys 89, ys 90, ys 91, ys 92, ys 93, ys 94, ys 95, ys 96, ys 97, ys 98, ys 99, ys 100] := rfl
      rw [hy] at e0
      rw [hy] at e2
      rw [hy] at e4
      rw [hy] at e7
      rw [hy] at e8
      rw [hy] at e9
      rw [hy] at e57
      rw [ht, hl, e0, e2, e4, e7, e8, e9, e57]
      clear ht hl hz hy e0 e2 e4 e7 e8 e9 e57
      have L4 := Lib.hid (L3.out.kept b0)
      have M4 := Lib.hid (M3.out.kept b0)
      have m0' := (b0.cell (World.block_lt_of_cell? _ _ m0)).trans m0
      have m1' := (b0.cell (World.block_lt_of_cell? _ _ m1)).trans m1
      have B4 := Lib.hid (B3.out.trans (b0.mono (by have := B3.out.size; omega)))
      clear b0 L3 M3 B3 m0 m1 q0 q1
      go_upto_region 10 with fail
      go_cut [10] from 58 to 80 (fun v W' => v = .bool rt ∧ W = W')
      case first =>
        by_cases r1 : 1 ≤ y.1
        · by_cases r2 : y.1 ≤ 65535
          · by_cases r3 : 1 ≤ y.2
            · by_cases r4 : y.2 ≤ 16
              · by_cases r5 : zw.length ≤ 32
                · have hrt : rt = true := RT.out.2 ⟨⟨r1, r2, r3, r4⟩, r5⟩
                  go_wp2_with fail
                  go_meet
                  exact ⟨by rw [hrt]; exact congrArg Value.bool (decide_eq_true (by omega)), rfl⟩
                · have hrt : rt = false := by cases rt with
                    | false => rfl
                    | true => have := RT.out.1 rfl; unfold rng at this; omega
                  go_wp2_with fail
                  go_meet
                  exact ⟨by rw [hrt]; exact congrArg Value.bool (decide_eq_false (by omega)), rfl⟩
              · have hrt : rt = false := by cases rt with
                  | false => rfl
                  | true => have := RT.out.1 rfl; unfold rng at this; omega
                go_wp2_with fail
                go_meet
                exact ⟨by rw [hrt], rfl⟩
            · have hrt : rt = false := by cases rt with
                | false => rfl
                | true => have := RT.out.1 rfl; unfold rng at this; omega
              go_wp2_with fail
              go_meet
              exact ⟨by rw [hrt], rfl⟩
          · have hrt : rt = false := by cases rt with
              | false => rfl
              | true => have := RT.out.1 rfl; unfold rng at this; omega
            go_wp2_with fail
            go_meet
            exact ⟨by rw [hrt], rfl⟩
        · have hrt : rt = false := by cases rt with
            | false => rfl
            | true => have := RT.out.1 rfl; unfold rng at this; omega
          go_wp2_with fail
          go_meet
          exact ⟨by rw [hrt], rfl⟩
      case rest =>
      obtain ⟨rfl, rfl⟩ := hcut
      by_cases hc : chk z0
      · have hC := Lib.hid hc
        have CK2 := Lib.hid (CK.out hc)
        clear hc CK
        go_wp2_with fail
        refine (Check_yes a0 c0 z0 hC.out W L4.out).mono ?_
        rintro e w5 ⟨rfl, hb⟩
        have M5 := Lib.hid (M4.out.kept hb)
        have n0 := (hb.cell (World.block_lt_of_cell? _ _ m0')).trans m0'
        have n1 := (hb.cell (World.block_lt_of_cell? _ _ m1')).trans m1'
        have B5 := Lib.hid (B4.out.trans (hb.mono (by have := B4.out.size; omega)))
        clear hb L4 M4 B4 m0' m1'
        cases rt with
        | true =>
          have hC2 := Lib.hid (CK2.out.2 (RT.out.1 rfl))
          clear CK2 RT
          go_wp2_with fail
          refine (Check_yes _ cw zw hC2.out w5 M5.out).mono ?_
          rintro e w6 ⟨rfl, hb⟩
          have M6 := Lib.hid (M5.out.kept hb)
          have o0 := (hb.cell (World.block_lt_of_cell? _ _ n0)).trans n0
          have o1 := (hb.cell (World.block_lt_of_cell? _ _ n1)).trans n1
          have B6 := Lib.hid (B5.out.trans (hb.mono (by have := B5.out.size; omega)))
          clear hb M5 B5 n0 n1
          go_wp2_with fail
          refine (With_told _ cw zw y w6 M6.out (by omega)).mono ?_
          rintro e w7 ⟨v, rfl, ⟨a7, c7, rfl, hL7⟩, hb⟩
          have M7 := Lib.hid (M6.out.kept hb)
          have N7 := Lib.hid hL7
          have B7 := Lib.hid (B6.out.trans (hb.mono (by have := B6.out.size; omega)))
          clear hb hL7 M6 B6
          go_wp2_with fail
          refine (Same_told a7 c7 (with_ zw y) _ cw zw true (by simp [TW.out]) w7 N7.out M7.out).mono ?_
          rintro e w8 ⟨rfl, hb⟩
          have B8 := Lib.hid (B7.out.trans (hb.mono (by have := B7.out.size; omega)))
          clear hb
          go_wp2_with fail
          go_ret
          exact ⟨rfl, by rw [hs1]; exact B8.out⟩
        | false =>
          have hC2 := Lib.hid (show ¬ chk zw from fun h => by have := RT.out.2 (CK2.out.1 h); cases this)
          clear CK2 RT
          go_wp2_with fail
          refine (Check_no _ cw zw hC2.out w5 M5.out).mono ?_
          rintro e w6 ⟨rfl, hb⟩
          have M6 := Lib.hid (M5.out.kept hb)
          have o0 := (hb.cell (World.block_lt_of_cell? _ _ n0)).trans n0
          have o1 := (hb.cell (World.block_lt_of_cell? _ _ n1)).trans n1
          have B6 := Lib.hid (B5.out.trans (hb.mono (by have := B5.out.size; omega)))
          clear hb M5 B5 n0 n1
          go_wp2_with fail
          refine (With_told _ cw zw y w6 M6.out (by omega)).mono ?_
          rintro e w7 ⟨v, rfl, ⟨a7, c7, rfl, hL7⟩, hb⟩
          have M7 := Lib.hid (M6.out.kept hb)
          have N7 := Lib.hid hL7
          have B7 := Lib.hid (B6.out.trans (hb.mono (by have := B6.out.size; omega)))
          clear hb hL7 M6 B6
          go_wp2_with fail
          refine (Same_told a7 c7 (with_ zw y) _ cw zw true (by simp [TW.out]) w7 N7.out M7.out).mono ?_
          rintro e w8 ⟨rfl, hb⟩
          have B8 := Lib.hid (B7.out.trans (hb.mono (by have := B7.out.size; omega)))
          clear hb
          go_wp2_with fail
          go_ret
          exact ⟨rfl, by rw [hs1]; exact B8.out⟩
      · have hC := Lib.hid hc
        clear hc CK RT
        go_wp2_with fail
        refine (Check_no a0 c0 z0 hC.out W L4.out).mono ?_
        have M5 := M4
        have n0 := m0'
        have n1 := m1'
        have B5 := B4
        clear M4 m0' m1' B4
        rintro e w6 ⟨rfl, hb⟩
        have M6 := Lib.hid (M5.out.kept hb)
        have o0 := (hb.cell (World.block_lt_of_cell? _ _ n0)).trans n0
        have o1 := (hb.cell (World.block_lt_of_cell? _ _ n1)).trans n1
        have B6 := Lib.hid (B5.out.trans (hb.mono (by have := B5.out.size; omega)))
        clear hb M5 B5 n0 n1
        go_wp2_with fail
        refine (With_told _ cw zw y w6 M6.out (by omega)).mono ?_
        rintro e w7 ⟨v, rfl, ⟨a7, c7, rfl, hL7⟩, hb⟩
        have M7 := Lib.hid (M6.out.kept hb)
        have N7 := Lib.hid hL7
        have B7 := Lib.hid (B6.out.trans (hb.mono (by have := B6.out.size; omega)))
        clear hb hL7 M6 B6
        go_wp2_with fail
        refine (Same_told a7 c7 (with_ zw y) _ cw zw true (by simp [TW.out]) w7 N7.out M7.out).mono ?_
        rintro e w8 ⟨rfl, hb⟩
        have B8 := Lib.hid (B7.out.trans (hb.mono (by have := B7.out.size; omega)))
        clear hb
        go_wp2_with fail
        go_ret
        exact ⟨rfl, by rw [hs1]; exact B8.out⟩
  · have hq0 : (id != y.1) = true := bne_iff_ne.2 he
    obtain ⟨bg, hb1⟩ : ∃ bg, decide (0 ≤ find zw id 0) = bg := ⟨_, rfl⟩
    have hb2 : decide (0 ≤ find z0 id 0) = bg := by rw [← hb1]; exact decide_eq_decide.2 (OT.out he).symm
    clear he
    refine wp_region_val (spV [.is (.int .i64 (k : Int)), .is (.bool false), .is (.bool false), .is (.int .i64 (k : Int)), .pool zw, .is (.int .i64 ((zw : List _).length : Nat)), .is (.bool false), .is (.bool false), .is (.bool false), .is (polV (some ⟨bw, ow, none⟩) cw zw), .is (.int .i64 (k : Int)), .is (.pointer (some ⟨bw, ow + k * 2, none⟩)), .is (bkV y), .is (bkV y), .is (.bool false), .is (.bool false), .is (.bool false), .is (.int .i64 id), .is (.pointer (some ⟨s1, 0, none⟩)), .is (.int .i64 (y).1), .is (.bool true), .is (.bool true), .pool zw, .is (.int .i64 id), .is (.int .i64 (find zw id 0)), .is (.bool bg), .pool z0, .is (.int .i64 id), .is (.int .i64 (find z0 id 0)), .is (.bool bg), .is (.bool false), .is (.bool false), .is (.bool false)]) (spV_kept _) (by kernel_rfl) (by kernel_rfl) (by kernel_rfl) ?step ?done
    case step =>
      intro d a W i hi hall hI
      replace hi : i < 33 := hi
      have b0 := hI.below
      obtain rfl | rfl | rfl | rfl | rfl | rfl | rfl | rfl | rfl | rfl | rfl | rfl | rfl | rfl | rfl | rfl | rfl | rfl | rfl | rfl | rfl | rfl | rfl | rfl | rfl | rfl | rfl | rfl | rfl | rfl | rfl | rfl | rfl : i = 0 ∨ i = 1 ∨ i = 2 ∨ i = 3 ∨ i = 4 ∨ i = 5 ∨ i = 6 ∨ i = 7 ∨ i = 8 ∨ i = 9 ∨ i = 10 ∨ i = 11 ∨ i = 12 ∨ i = 13 ∨ i = 14 ∨ i = 15 ∨ i = 16 ∨ i = 17 ∨ i = 18 ∨ i = 19 ∨ i = 20 ∨ i = 21 ∨ i = 22 ∨ i = 23 ∨ i = 24 ∨ i = 25 ∨ i = 26 ∨ i = 27 ∨ i = 28 ∨ i = 29 ∨ i = 30 ∨ i = 31 ∨ i = 32 := by omega
      · have e9 : a.tmps[9]?.getD undef = .int .i64 (k : Int) := hI.old 9 (unwritten_of (by kernel_rfl) d)
        refine StepV.done rfl (wanted_free rfl) fun K hK => ?_
        exact op_move rfl (hK _ _ (Below.refl _ _) e9)
      · have e25 : a.tmps[25]?.getD undef = .int .i64 (k : Int) := hI.val 0 25 rfl (hall 0 (by kernel_rfl))
        have hq : decide ((k : Int) < 0) = false := decide_eq_false (by omega)
        refine StepV.done rfl (wanted_free rfl) fun K hK => ?_
        clear hall hI
        refine op_run (.bool false) W ?_ (hK _ _ (Below.refl _ _) rfl)
        clear hK
        simp only [List.getElem_toArray, List.getElem_cons_zero, List.getElem_cons_succ, execOp, Act.eval]
        go_simp
      · have f := hI.val 1 26 rfl (hall 1 (by kernel_rfl))
        refine StepV.done rfl (wanted_free rfl) fun K hK => ?_
        exact op_move rfl (hK _ _ (Below.refl _ _) f)
      · have g : a.tmps[27]?.getD undef = .bool false := hI.val 2 27 rfl (hall 2 (by kernel_rfl))
        have e9 : a.tmps[9]?.getD undef = .int .i64 (k : Int) := hI.old 9 (unwritten_of (by kernel_rfl) d)
        refine StepV.done rfl (by rw [wanted_if (j := 2) (s := 27) (want := false) (b := false) rfl rfl g]; rfl) fun K hK => ?_
        exact op_move rfl (hK _ _ (Below.refl _ _) e9)
      · have g : a.tmps[27]?.getD undef = .bool false := hI.val 2 27 rfl (hall 2 (by kernel_rfl))
        have e8 : a.tmps[8]?.getD undef = polV (some ⟨bw, ow, none⟩) cw zw := hI.old 8 (unwritten_of (by kernel_rfl) d)
        have l8 := Lies.kept M3.out b0
        refine StepV.done rfl (by rw [wanted_if (j := 2) (s := 27) (want := false) (b := false) rfl rfl g]; rfl) fun K hK => ?_
        exact op_move rfl (hK _ _ (Below.refl _ _) ⟨_, _, e8, l8⟩)
      · have g : a.tmps[27]?.getD undef = .bool false := hI.val 2 27 rfl (hall 2 (by kernel_rfl))
        obtain ⟨p29, q29, e29, l29⟩ : ∃ p c, a.tmps[29]?.getD undef = polV p c zw ∧ Lies W p c zw := hI.val 4 29 rfl (hall 4 (by kernel_rfl))
        refine StepV.done rfl (by rw [wanted_if (j := 2) (s := 27) (want := false) (b := false) rfl rfl g]; rfl) fun K hK => ?_
        clear hall hI
        refine op_run (.int .i64 ((zw : List _).length : Nat)) W ?_ (hK _ _ (Below.refl _ _) rfl)
        clear hK
        simp only [List.getElem_toArray, List.getElem_cons_zero, List.getElem_cons_succ, execOp]
        go_simp
      · have g : a.tmps[27]?.getD undef = .bool false := hI.val 2 27 rfl (hall 2 (by kernel_rfl))
        have e28 : a.tmps[28]?.getD undef = .int .i64 (k : Int) := hI.val 3 28 rfl (hall 3 (by kernel_rfl))
        have e30 : a.tmps[30]?.getD undef = .int .i64 ((zw : List _).length : Nat) := hI.val 5 30 rfl (hall 5 (by kernel_rfl))
        have hq : decide ((zw.length : Int) ≤ (k : Int)) = false := decide_eq_false (by omega)
        have hq2 : decide (zw.length ≤ k) = false := decide_eq_false (by omega)
        refine StepV.done rfl (by rw [wanted_if (j := 2) (s := 27) (want := false) (b := false) rfl rfl g]; rfl) fun K hK => ?_
        clear hall hI
        refine op_run (.bool false) W ?_ (hK _ _ (Below.refl _ _) rfl)
        clear hK
        simp only [List.getElem_toArray, List.getElem_cons_zero, List.getElem_cons_succ, execOp, Act.eval]
        go_simp
      · have e27 : a.tmps[27]?.getD undef = .bool false := hI.val 2 27 rfl (hall 2 (by kernel_rfl))
        have e31 : a.tmps[31]?.getD undef = .bool false := hI.val 6 31 rfl (hall 6 (by kernel_rfl))
        refine StepV.done rfl (wanted_free rfl) fun K hK => ?_
        exact op_pick_no rfl e27 (hK _ _ (Below.refl _ _) ((eval_tmp 31).trans e31))
      · have f := hI.val 7 32 rfl (hall 7 (by kernel_rfl))
        refine StepV.done rfl (wanted_free rfl) fun K hK => ?_
        exact op_move rfl (hK _ _ (Below.refl _ _) f)
      · have g : a.tmps[33]?.getD undef = .bool false := hI.val 8 33 rfl (hall 8 (by kernel_rfl))
        have e8 : a.tmps[8]?.getD undef = polV (some ⟨bw, ow, none⟩) cw zw := hI.old 8 (unwritten_of (by kernel_rfl) d)
        have l8 := Lies.kept M3.out b0
        refine StepV.done rfl (by rw [wanted_if (j := 8) (s := 33) (want := false) (b := false) rfl rfl g]; rfl) fun K hK => ?_
        exact op_move rfl (hK _ _ (Below.refl _ _) e8)
      · have g : a.tmps[33]?.getD undef = .bool false := hI.val 8 33 rfl (hall 8 (by kernel_rfl))
        have e9 : a.tmps[9]?.getD undef = .int .i64 (k : Int) := hI.old 9 (unwritten_of (by kernel_rfl) d)
        refine StepV.done rfl (by rw [wanted_if (j := 8) (s := 33) (want := false) (b := false) rfl rfl g]; rfl) fun K hK => ?_
        exact op_move rfl (hK _ _ (Below.refl _ _) e9)
      · have g : a.tmps[33]?.getD undef = .bool false := hI.val 8 33 rfl (hall 8 (by kernel_rfl))
        have e34 : a.tmps[34]?.getD undef = polV (some ⟨bw, ow, none⟩) cw zw := hI.val 9 34 rfl (hall 9 (by kernel_rfl))
        have e35 : a.tmps[35]?.getD undef = .int .i64 (k : Int) := hI.val 10 35 rfl (hall 10 (by kernel_rfl))
        refine StepV.done rfl (by rw [wanted_if (j := 8) (s := 33) (want := false) (b := false) rfl rfl g]; rfl) fun K hK => ?_
        clear hall hI
        refine op_run (.pointer (some ⟨bw, ow + k * 2, none⟩)) W ?_ (hK _ _ (Below.refl _ _) rfl)
        clear hK
        simp only [List.getElem_toArray, List.getElem_cons_zero, List.getElem_cons_succ, execOp, Act.eval]
        go_simp
      · have g : a.tmps[33]?.getD undef = .bool false := hI.val 8 33 rfl (hall 8 (by kernel_rfl))
        have e36 : a.tmps[36]?.getD undef = .pointer (some ⟨bw, ow + k * 2, none⟩) := hI.val 11 36 rfl (hall 11 (by kernel_rfl))
        refine StepV.done rfl (by rw [wanted_if (j := 8) (s := 33) (want := false) (b := false) rfl rfl g]; rfl) fun K hK => ?_
        have c0 := (b0.cell (World.block_lt_of_cell? _ _ q0)).trans q0
        have c1 := (b0.cell (World.block_lt_of_cell? _ _ q1)).trans q1
        clear hall hI
        refine op_run (bkV y) W ?_ (hK _ _ (Below.refl _ _) rfl)
        clear hK
        simp only [List.getElem_toArray, List.getElem_cons_zero, List.getElem_cons_succ, execOp, Act.eval]
        go_simp
      · have g : a.tmps[33]?.getD undef = .bool false := hI.val 8 33 rfl (hall 8 (by kernel_rfl))
        have e4 : a.tmps[4]?.getD undef = .pointer (some ⟨s1, 0, none⟩) := hI.old 4 (unwritten_of (by kernel_rfl) d)
        have c0 := (b0.cell (World.block_lt_of_cell? _ _ m0)).trans m0
        have c1 := (b0.cell (World.block_lt_of_cell? _ _ m1)).trans m1
        refine StepV.done rfl (by rw [wanted_if (j := 8) (s := 33) (want := false) (b := false) rfl rfl g]; rfl) fun K hK => ?_
        clear hall hI
        refine op_run (bkV y) W ?_ (hK _ _ (Below.refl _ _) rfl)
        clear hK
        simp only [List.getElem_toArray, List.getElem_cons_zero, List.getElem_cons_succ, execOp, Act.eval]
        go_simp
      · have g : a.tmps[33]?.getD undef = .bool false := hI.val 8 33 rfl (hall 8 (by kernel_rfl))
        have e37 : a.tmps[37]?.getD undef = bkV y := hI.val 12 37 rfl (hall 12 (by kernel_rfl))
        have e38 : a.tmps[38]?.getD undef = bkV y := hI.val 13 38 rfl (hall 13 (by kernel_rfl))
        have CC := bk_cmp y y true (by simp)
        refine StepV.done rfl (by rw [wanted_if (j := 8) (s := 33) (want := false) (b := false) rfl rfl g]; rfl) fun K hK => ?_
        clear hall hI
        refine op_run (.bool false) W ?_ (hK _ _ (Below.refl _ _) rfl)
        clear hK
        simp only [List.getElem_toArray, List.getElem_cons_zero, List.getElem_cons_succ, execOp, Act.eval]
        go_simp
      · have e33 : a.tmps[33]?.getD undef = .bool false := hI.val 8 33 rfl (hall 8 (by kernel_rfl))
        have e39 : a.tmps[39]?.getD undef = .bool false := hI.val 14 39 rfl (hall 14 (by kernel_rfl))
        refine StepV.done rfl (wanted_free rfl) fun K hK => ?_
        exact op_pick_no rfl e33 (hK _ _ (Below.refl _ _) ((eval_tmp 39).trans e39))
      · have f := hI.val 15 40 rfl (hall 15 (by kernel_rfl))
        refine StepV.done rfl (wanted_free rfl) fun K hK => ?_
        exact op_move rfl (hK _ _ (Below.refl _ _) f)
      · have g : a.tmps[41]?.getD undef = .bool false := hI.val 16 41 rfl (hall 16 (by kernel_rfl))
        have e2 : a.tmps[2]?.getD undef = .int .i64 id := hI.old 2 (unwritten_of (by kernel_rfl) d)
        refine StepV.done rfl (by rw [wanted_if (j := 16) (s := 41) (want := false) (b := false) rfl rfl g]; rfl) fun K hK => ?_
        exact op_move rfl (hK _ _ (Below.refl _ _) e2)
      · have g : a.tmps[41]?.getD undef = .bool false := hI.val 16 41 rfl (hall 16 (by kernel_rfl))
        have e4 : a.tmps[4]?.getD undef = .pointer (some ⟨s1, 0, none⟩) := hI.old 4 (unwritten_of (by kernel_rfl) d)
        refine StepV.done rfl (by rw [wanted_if (j := 16) (s := 41) (want := false) (b := false) rfl rfl g]; rfl) fun K hK => ?_
        clear hall hI
        refine op_run (.pointer (some ⟨s1, 0, none⟩)) W ?_ (hK _ _ (Below.refl _ _) rfl)
        clear hK
        simp only [List.getElem_toArray, List.getElem_cons_zero, List.getElem_cons_succ, execOp, Act.eval]
        go_simp
      · have g : a.tmps[41]?.getD undef = .bool false := hI.val 16 41 rfl (hall 16 (by kernel_rfl))
        have e43 : a.tmps[43]?.getD undef = .pointer (some ⟨s1, 0, none⟩) := hI.val 18 43 rfl (hall 18 (by kernel_rfl))
        have c0 := (b0.cell (World.block_lt_of_cell? _ _ m0)).trans m0
        have c1 := (b0.cell (World.block_lt_of_cell? _ _ m1)).trans m1
        refine StepV.done rfl (by rw [wanted_if (j := 16) (s := 41) (want := false) (b := false) rfl rfl g]; rfl) fun K hK => ?_
        clear hall hI
        refine op_run (.int .i64 (y).1) W ?_ (hK _ _ (Below.refl _ _) rfl)
        clear hK
        simp only [List.getElem_toArray, List.getElem_cons_zero, List.getElem_cons_succ, execOp, Act.eval]
        go_simp
      · have g : a.tmps[41]?.getD undef = .bool false := hI.val 16 41 rfl (hall 16 (by kernel_rfl))
        have e42 : a.tmps[42]?.getD undef = .int .i64 id := hI.val 17 42 rfl (hall 17 (by kernel_rfl))
        have e44 : a.tmps[44]?.getD undef = .int .i64 (y).1 := hI.val 19 44 rfl (hall 19 (by kernel_rfl))
        refine StepV.done rfl (by rw [wanted_if (j := 16) (s := 41) (want := false) (b := false) rfl rfl g]; rfl) fun K hK => ?_
        clear hall hI
        refine op_run (.bool true) W ?_ (hK _ _ (Below.refl _ _) rfl)
        clear hK
        simp only [List.getElem_toArray, List.getElem_cons_zero, List.getElem_cons_succ, execOp, Act.eval]
        go_simp
      · have g : a.tmps[41]?.getD undef = .bool false := hI.val 16 41 rfl (hall 16 (by kernel_rfl))
        have f := hI.val 20 45 rfl (hall 20 (by kernel_rfl))
        refine StepV.done rfl (by rw [wanted_if (j := 16) (s := 41) (want := false) (b := false) rfl rfl g]; rfl) fun K hK => ?_
        exact op_move rfl (hK _ _ (Below.refl _ _) f)
      · have g : a.tmps[46]?.getD undef = .bool true := hI.val 21 46 rfl (hall 21 (by kernel_rfl))
        have e8 : a.tmps[8]?.getD undef = polV (some ⟨bw, ow, none⟩) cw zw := hI.old 8 (unwritten_of (by kernel_rfl) d)
        have l8 := Lies.kept M3.out b0
        refine StepV.done rfl (by rw [wanted_if (j := 21) (s := 46) (want := true) (b := true) rfl rfl g]; rfl) fun K hK => ?_
        exact op_move rfl (hK _ _ (Below.refl _ _) ⟨_, _, e8, l8⟩)
      · have g : a.tmps[46]?.getD undef = .bool true := hI.val 21 46 rfl (hall 21 (by kernel_rfl))
        have e2 : a.tmps[2]?.getD undef = .int .i64 id := hI.old 2 (unwritten_of (by kernel_rfl) d)
        refine StepV.done rfl (by rw [wanted_if (j := 21) (s := 46) (want := true) (b := true) rfl rfl g]; rfl) fun K hK => ?_
        exact op_move rfl (hK _ _ (Below.refl _ _) e2)
      · have g : a.tmps[46]?.getD undef = .bool true := hI.val 21 46 rfl (hall 21 (by kernel_rfl))
        obtain ⟨p47, q47, e47, l47⟩ : ∃ p c, a.tmps[47]?.getD undef = polV p c zw ∧ Lies W p c zw := hI.val 22 47 rfl (hall 22 (by kernel_rfl))
        have e48 : a.tmps[48]?.getD undef = .int .i64 id := hI.val 23 48 rfl (hall 23 (by kernel_rfl))
        refine StepV.done rfl (by rw [wanted_if (j := 21) (s := 46) (want := true) (b := true) rfl rfl g]; rfl) fun K hK => ?_
        have C := (Find_told p47 q47 zw id W l47).mono (R' := fun e W2 => ∃ v, e = .returned v ∧ v = .int .i64 (find zw id 0) ∧ Below W.heap.size W W2) (fun e W2 ⟨he, hb⟩ => ⟨_, he, rfl, hb⟩)
        refine op_call 22 #[polV p47 q47 zw, .int .i64 id] (fun v W2 => v = .int .i64 (find zw id 0) ∧ Below W.heap.size W W2) ?_ C (fun v W2 ⟨h1, h2⟩ => hK v W2 h2 h1)
        clear hall hI hK C
        simp only [List.getElem_toArray, List.getElem_cons_zero, List.getElem_cons_succ, execOp]
        go_simp
      · have g : a.tmps[46]?.getD undef = .bool true := hI.val 21 46 rfl (hall 21 (by kernel_rfl))
        have e49 : a.tmps[49]?.getD undef = .int .i64 (find zw id 0) := hI.val 24 49 rfl (hall 24 (by kernel_rfl))
        refine StepV.done rfl (by rw [wanted_if (j := 21) (s := 46) (want := true) (b := true) rfl rfl g]; rfl) fun K hK => ?_
        clear hall hI
        refine op_run (.bool bg) W ?_ (hK _ _ (Below.refl _ _) rfl)
        clear hK
        simp only [List.getElem_toArray, List.getElem_cons_zero, List.getElem_cons_succ, execOp, Act.eval]
        go_simp
      · have g : a.tmps[46]?.getD undef = .bool true := hI.val 21 46 rfl (hall 21 (by kernel_rfl))
        have e0 : a.tmps[0]?.getD undef = polV a0 c0 z0 := hI.old 0 (unwritten_of (by kernel_rfl) d)
        have l0 := Lies.kept L3.out b0
        refine StepV.done rfl (by rw [wanted_if (j := 21) (s := 46) (want := true) (b := true) rfl rfl g]; rfl) fun K hK => ?_
        exact op_move rfl (hK _ _ (Below.refl _ _) ⟨_, _, e0, l0⟩)
      · have g : a.tmps[46]?.getD undef = .bool true := hI.val 21 46 rfl (hall 21 (by kernel_rfl))
        have e2 : a.tmps[2]?.getD undef = .int .i64 id := hI.old 2 (unwritten_of (by kernel_rfl) d)
        refine StepV.done rfl (by rw [wanted_if (j := 21) (s := 46) (want := true) (b := true) rfl rfl g]; rfl) fun K hK => ?_
        exact op_move rfl (hK _ _ (Below.refl _ _) e2)
      · have g : a.tmps[46]?.getD undef = .bool true := hI.val 21 46 rfl (hall 21 (by kernel_rfl))
        obtain ⟨p51, q51, e51, l51⟩ : ∃ p c, a.tmps[51]?.getD undef = polV p c z0 ∧ Lies W p c z0 := hI.val 26 51 rfl (hall 26 (by kernel_rfl))
        have e52 : a.tmps[52]?.getD undef = .int .i64 id := hI.val 27 52 rfl (hall 27 (by kernel_rfl))
        refine StepV.done rfl (by rw [wanted_if (j := 21) (s := 46) (want := true) (b := true) rfl rfl g]; rfl) fun K hK => ?_
        have C := (Find_told p51 q51 z0 id W l51).mono (R' := fun e W2 => ∃ v, e = .returned v ∧ v = .int .i64 (find z0 id 0) ∧ Below W.heap.size W W2) (fun e W2 ⟨he, hb⟩ => ⟨_, he, rfl, hb⟩)
        refine op_call 22 #[polV p51 q51 z0, .int .i64 id] (fun v W2 => v = .int .i64 (find z0 id 0) ∧ Below W.heap.size W W2) ?_ C (fun v W2 ⟨h1, h2⟩ => hK v W2 h2 h1)
        clear hall hI hK C
        simp only [List.getElem_toArray, List.getElem_cons_zero, List.getElem_cons_succ, execOp]
        go_simp
      · have g : a.tmps[46]?.getD undef = .bool true := hI.val 21 46 rfl (hall 21 (by kernel_rfl))
        have e53 : a.tmps[53]?.getD undef = .int .i64 (find z0 id 0) := hI.val 28 53 rfl (hall 28 (by kernel_rfl))
        refine StepV.done rfl (by rw [wanted_if (j := 21) (s := 46) (want := true) (b := true) rfl rfl g]; rfl) fun K hK => ?_
        clear hall hI
        refine op_run (.bool bg) W ?_ (hK _ _ (Below.refl _ _) rfl)
        clear hK
        simp only [List.getElem_toArray, List.getElem_cons_zero, List.getElem_cons_succ, execOp, Act.eval]
        go_simp
      · have g : a.tmps[46]?.getD undef = .bool true := hI.val 21 46 rfl (hall 21 (by kernel_rfl))
        have e50 : a.tmps[50]?.getD undef = .bool bg := hI.val 25 50 rfl (hall 25 (by kernel_rfl))
        have e54 : a.tmps[54]?.getD undef = .bool bg := hI.val 29 54 rfl (hall 29 (by kernel_rfl))
        have hq : (bg != bg) = false := by simp
        refine StepV.done rfl (by rw [wanted_if (j := 21) (s := 46) (want := true) (b := true) rfl rfl g]; rfl) fun K hK => ?_
        clear hall hI
        refine op_run (.bool false) W ?_ (hK _ _ (Below.refl _ _) rfl)
        clear hK
        simp only [List.getElem_toArray, List.getElem_cons_zero, List.getElem_cons_succ, execOp, Act.eval]
        go_simp
      · have g : a.tmps[41]?.getD undef = .bool false := hI.val 16 41 rfl (hall 16 (by kernel_rfl))
        have e46 : a.tmps[46]?.getD undef = .bool true := hI.val 21 46 rfl (hall 21 (by kernel_rfl))
        have e55 : a.tmps[55]?.getD undef = .bool false := hI.val 30 55 rfl (hall 30 (by kernel_rfl))
        refine StepV.done rfl (by rw [wanted_if (j := 16) (s := 41) (want := false) (b := false) rfl rfl g]; rfl) fun K hK => ?_
        exact op_pick_yes rfl e46 (hK _ _ (Below.refl _ _) ((eval_tmp 55).trans e55))
      · have e41 : a.tmps[41]?.getD undef = .bool false := hI.val 16 41 rfl (hall 16 (by kernel_rfl))
        have e56 : a.tmps[56]?.getD undef = .bool false := hI.val 31 56 rfl (hall 31 (by kernel_rfl))
        refine StepV.done rfl (wanted_free rfl) fun K hK => ?_
        exact op_pick_no rfl e41 (hK _ _ (Below.refl _ _) ((eval_tmp 56).trans e56))
    case done =>
      intro a W hv hI
      obtain ⟨t, df⟩ := a
      obtain rfl : df = [] := hI.defs
      have hz : t.size = 101 := hI.size
      have b0 := hI.below
      have e0 : t[0]?.getD undef = polV a0 c0 z0 := hI.old 0 (unwritten_of (by kernel_rfl) _)
      have e2 : t[2]?.getD undef = .int .i64 id := hI.old 2 (unwritten_of (by kernel_rfl) _)
      have e4 : t[4]?.getD undef = .pointer (some ⟨s1, 0, none⟩) := hI.old 4 (unwritten_of (by kernel_rfl) _)
      have e7 : t[7]?.getD undef = .bool true := hI.old 7 (unwritten_of (by kernel_rfl) _)
      have e8 : t[8]?.getD undef = polV (some ⟨bw, ow, none⟩) cw zw := hI.old 8 (unwritten_of (by kernel_rfl) _)
      have e9 : t[9]?.getD undef = .int .i64 (k : Int) := hI.old 9 (unwritten_of (by kernel_rfl) _)
      have e57 : t[57]?.getD undef = .bool false := hv 32 57 rfl
      clear hv hI
      obtain ⟨ys, hy, ht⟩ := arr_slots t 101 hz
      have hl : (slotsFrom ys 0 101).toArray = #[ys 0, ys 1, ys 2, ys 3, ys 4, ys 5, ys 6, ys 7, ys 8, ys 9, ys 10, ys 11, ys 12, ys 13, ys 14, ys 15, ys 16, ys 17, ys 18, ys 19, ys 20, ys 21, ys 22, ys 23, ys 24, ys 25, ys 26, ys 27, ys 28, ys 29, ys 30, ys 31, ys 32, ys 33, ys 34, ys 35, ys 36, ys 37, ys 38, ys 39, ys 40, ys 41, ys 42, ys 43, ys 44, ys 45, ys 46, ys 47, ys 48, ys 49, ys 50, ys 51, ys 52, ys 53, ys 54, ys 55, ys 56, ys 57, ys 58, ys 59, ys 60, ys 61, ys 62, ys 63, ys 64, ys 65, ys 66, ys 67, ys 68, ys 69, ys 70, ys 71, ys 72, ys 73, ys 74, ys 75, ys 76, ys 77, ys 78, ys 79, ys 80, ys 81, ys 82, ys 83, ys 84, ys 85, ys 86, ys 87, ys 88, ys 89, ys 90, ys 91, ys 92, ys 93, ys 94, ys 95, ys 96, ys 97, ys 98, ys 99, ys 100] := rfl
      rw [hy] at e0
      rw [hy] at e2
      rw [hy] at e4
      rw [hy] at e7
      rw [hy] at e8
      rw [hy] at e9
      rw [hy] at e57
      rw [ht, hl, e0, e2, e4, e7, e8, e9, e57]
      clear ht hl hz hy e0 e2 e4 e7 e8 e9 e57
      have L4 := Lib.hid (L3.out.kept b0)
      have M4 := Lib.hid (M3.out.kept b0)
      have m0' := (b0.cell (World.block_lt_of_cell? _ _ m0)).trans m0
      have m1' := (b0.cell (World.block_lt_of_cell? _ _ m1)).trans m1
      have B4 := Lib.hid (B3.out.trans (b0.mono (by have := B3.out.size; omega)))
      clear b0 L3 M3 B3 m0 m1 q0 q1
      go_upto_region 10 with fail
      go_cut [10] from 58 to 80 (fun v W' => v = .bool rt ∧ W = W')
      case first =>
        by_cases r1 : 1 ≤ y.1
        · by_cases r2 : y.1 ≤ 65535
          · by_cases r3 : 1 ≤ y.2
            · by_cases r4 : y.2 ≤ 16
              · by_cases r5 : zw.length ≤ 32
                · have hrt : rt = true := RT.out.2 ⟨⟨r1, r2, r3, r4⟩, r5⟩
                  go_wp2_with fail
                  go_meet
                  exact ⟨by rw [hrt]; exact congrArg Value.bool (decide_eq_true (by omega)), rfl⟩
                · have hrt : rt = false := by cases rt with
                    | false => rfl
                    | true => have := RT.out.1 rfl; unfold rng at this; omega
                  go_wp2_with fail
                  go_meet
                  exact ⟨by rw [hrt]; exact congrArg Value.bool (decide_eq_false (by omega)), rfl⟩
              · have hrt : rt = false := by cases rt with
                  | false => rfl
                  | true => have := RT.out.1 rfl; unfold rng at this; omega
                go_wp2_with fail
                go_meet
                exact ⟨by rw [hrt], rfl⟩
            · have hrt : rt = false := by cases rt with
                | false => rfl
                | true => have := RT.out.1 rfl; unfold rng at this; omega
              go_wp2_with fail
              go_meet
              exact ⟨by rw [hrt], rfl⟩
          · have hrt : rt = false := by cases rt with
              | false => rfl
              | true => have := RT.out.1 rfl; unfold rng at this; omega
            go_wp2_with fail
            go_meet
            exact ⟨by rw [hrt], rfl⟩
        · have hrt : rt = false := by cases rt with
            | false => rfl
            | true => have := RT.out.1 rfl; unfold rng at this; omega
          go_wp2_with fail
          go_meet
          exact ⟨by rw [hrt], rfl⟩
      case rest =>
      obtain ⟨rfl, rfl⟩ := hcut
      by_cases hc : chk z0
      · have hC := Lib.hid hc
        have CK2 := Lib.hid (CK.out hc)
        clear hc CK
        go_wp2_with fail
        refine (Check_yes a0 c0 z0 hC.out W L4.out).mono ?_
        rintro e w5 ⟨rfl, hb⟩
        have M5 := Lib.hid (M4.out.kept hb)
        have n0 := (hb.cell (World.block_lt_of_cell? _ _ m0')).trans m0'
        have n1 := (hb.cell (World.block_lt_of_cell? _ _ m1')).trans m1'
        have B5 := Lib.hid (B4.out.trans (hb.mono (by have := B4.out.size; omega)))
        clear hb L4 M4 B4 m0' m1'
        cases rt with
        | true =>
          have hC2 := Lib.hid (CK2.out.2 (RT.out.1 rfl))
          clear CK2 RT
          go_wp2_with fail
          refine (Check_yes _ cw zw hC2.out w5 M5.out).mono ?_
          rintro e w6 ⟨rfl, hb⟩
          have M6 := Lib.hid (M5.out.kept hb)
          have o0 := (hb.cell (World.block_lt_of_cell? _ _ n0)).trans n0
          have o1 := (hb.cell (World.block_lt_of_cell? _ _ n1)).trans n1
          have B6 := Lib.hid (B5.out.trans (hb.mono (by have := B5.out.size; omega)))
          clear hb M5 B5 n0 n1
          go_wp2_with fail
          refine (With_told _ cw zw y w6 M6.out (by omega)).mono ?_
          rintro e w7 ⟨v, rfl, ⟨a7, c7, rfl, hL7⟩, hb⟩
          have M7 := Lib.hid (M6.out.kept hb)
          have N7 := Lib.hid hL7
          have B7 := Lib.hid (B6.out.trans (hb.mono (by have := B6.out.size; omega)))
          clear hb hL7 M6 B6
          go_wp2_with fail
          refine (Same_told a7 c7 (with_ zw y) _ cw zw true (by simp [TW.out]) w7 N7.out M7.out).mono ?_
          rintro e w8 ⟨rfl, hb⟩
          have B8 := Lib.hid (B7.out.trans (hb.mono (by have := B7.out.size; omega)))
          clear hb
          go_wp2_with fail
          go_ret
          exact ⟨rfl, by rw [hs1]; exact B8.out⟩
        | false =>
          have hC2 := Lib.hid (show ¬ chk zw from fun h => by have := RT.out.2 (CK2.out.1 h); cases this)
          clear CK2 RT
          go_wp2_with fail
          refine (Check_no _ cw zw hC2.out w5 M5.out).mono ?_
          rintro e w6 ⟨rfl, hb⟩
          have M6 := Lib.hid (M5.out.kept hb)
          have o0 := (hb.cell (World.block_lt_of_cell? _ _ n0)).trans n0
          have o1 := (hb.cell (World.block_lt_of_cell? _ _ n1)).trans n1
          have B6 := Lib.hid (B5.out.trans (hb.mono (by have := B5.out.size; omega)))
          clear hb M5 B5 n0 n1
          go_wp2_with fail
          refine (With_told _ cw zw y w6 M6.out (by omega)).mono ?_
          rintro e w7 ⟨v, rfl, ⟨a7, c7, rfl, hL7⟩, hb⟩
          have M7 := Lib.hid (M6.out.kept hb)
          have N7 := Lib.hid hL7
          have B7 := Lib.hid (B6.out.trans (hb.mono (by have := B6.out.size; omega)))
          clear hb hL7 M6 B6
          go_wp2_with fail
          refine (Same_told a7 c7 (with_ zw y) _ cw zw true (by simp [TW.out]) w7 N7.out M7.out).mono ?_
          rintro e w8 ⟨rfl, hb⟩
          have B8 := Lib.hid (B7.out.trans (hb.mono (by have := B7.out.size; omega)))
          clear hb
          go_wp2_with fail
          go_ret
          exact ⟨rfl, by rw [hs1]; exact B8.out⟩
      · have hC := Lib.hid hc
        clear hc CK RT
        go_wp2_with fail
        refine (Check_no a0 c0 z0 hC.out W L4.out).mono ?_
        have M5 := M4
        have n0 := m0'
        have n1 := m1'
        have B5 := B4
        clear M4 m0' m1' B4
        rintro e w6 ⟨rfl, hb⟩
        have M6 := Lib.hid (M5.out.kept hb)
        have o0 := (hb.cell (World.block_lt_of_cell? _ _ n0)).trans n0
        have o1 := (hb.cell (World.block_lt_of_cell? _ _ n1)).trans n1
        have B6 := Lib.hid (B5.out.trans (hb.mono (by have := B5.out.size; omega)))
        clear hb M5 B5 n0 n1
        go_wp2_with fail
        refine (With_told _ cw zw y w6 M6.out (by omega)).mono ?_
        rintro e w7 ⟨v, rfl, ⟨a7, c7, rfl, hL7⟩, hb⟩
        have M7 := Lib.hid (M6.out.kept hb)
        have N7 := Lib.hid hL7
        have B7 := Lib.hid (B6.out.trans (hb.mono (by have := B6.out.size; omega)))
        clear hb hL7 M6 B6
        go_wp2_with fail
        refine (Same_told a7 c7 (with_ zw y) _ cw zw true (by simp [TW.out]) w7 N7.out M7.out).mono ?_
        rintro e w8 ⟨rfl, hb⟩
        have B8 := Lib.hid (B7.out.trans (hb.mono (by have := B7.out.size; omega)))
        clear hb
        go_wp2_with fail
        go_ret
        exact ⟨rfl, by rw [hs1]; exact B8.out⟩

theorem own_PoolWith : ownKnob Try.prog.godebug = none := by kernel_rfl
set_option maxRecDepth 100000 in
set_option maxHeartbeats 800000 in
theorem lifted_PoolWith (os : Os) (started : os.Started) (H : Type) (enc : TypeId × Value → H) :
    ReturnsInHanded {} Try.checked os 4 .any (Rows.poolWithSpec.pre6 enc Try.prog Try.f4 Rows.poolWithRow.domain false) (Rows.poolWithSpec.post enc Try.prog Try.f4 false true false false) := by
  refine returnsInHanded_of_change (C := Try.checked) own_PoolWith started (by kernel_rfl) Try.func4
    (ChangeSpec.witness6 (enc := enc) (C := Try.checked) false ⟨#[], #[.slice none 0 0, .agg #[.int .i64 0, .int .i64 0], .int .i64 0], []⟩ 8 (by kernel_rfl) (by kernel_rfl) (by kernel_rfl) (by kernel_rfl)) ?_
  intro W base args ds gs before hval0 hW _ _
  have hval : ∀ (j : Nat) t v, Try.f4.params[j]? = some t → args[j]? = some v → Value.okWide Try.prog W .any base t v := hval0
  have hW' := hW
  obtain ⟨p, q, hA0, hV, rfl, _, _⟩ := hW
  have hA : DataW.TrodAll enc Try.prog W 0 (fun _ => true) true Try.f4.params.toList args.toList ds p := hA0
  rw [Try.params4] at hA hval
  obtain ⟨v0, vs0, d0, ds0, p0, q0, ha0, rfl, rfl, t0, r0⟩ := trodAll_cons hA
  obtain ⟨v1, vs1, d1, ds1, p1, q1, ha1, rfl, rfl, t1, r1⟩ := trodAll_cons r0
  obtain ⟨v2, vs2, d2, ds2, p2, q2, ha2, rfl, rfl, t2, r2⟩ := trodAll_cons r1
  obtain ⟨rfl, rfl, rfl⟩ := trodAll_nil r2
  subst ha2
  subst ha1
  obtain rfl : args = #[v0, v1, v2] := by cases args; simp_all
  obtain ⟨rfl, rfl⟩ := trodVars_none hV
  have k0 := t0
  have lt0 : ∀ x ∈ p0, x.block < W.heap.size := by obtain ⟨m, hm⟩ := k0; exact DataW.trod_lt m _ _ _ hm
  obtain ⟨a0, c0, z0, rfl, h0, g0⟩ := Stp.open_pool (hval 0 22 v0 rfl rfl) t0
  have k1 := t1
  have lt1 : ∀ x ∈ p1, x.block < W.heap.size := by obtain ⟨m, hm⟩ := k1; exact DataW.trod_lt m _ _ _ hm
  obtain ⟨a1, rfl, h1⟩ := Stp.open_backend (hval 1 24 v1 rfl rfl) t1
  obtain ⟨a2, rfl, rfl, rfl, h2⟩ := open_int Try.underlying3 (hval 2 3 v2 rfl rfl) t2
  clear hA0 hval0
  refine (walk_PoolWith a0 c0 z0 a1 a2 W h0 g0 h1 h2).mono fun e W' ⟨he, hnx⟩ => ?_
  subst he
  exact ⟨_, rfl, ⟨_, _, _, [], _, [], hW', trodAll_cons_mk (shut_bool Try.underlying4 _) trodAll_mk0, (trodAll_cons_mk (Below.trod Stp.laidOut (by kernel_rfl) (of_decide_eq_true (by kernel_rfl)) k0 hnx lt0) (trodAll_cons_mk (Below.trod Stp.laidOut (by kernel_rfl) (of_decide_eq_true (by kernel_rfl)) k1 hnx lt1) (trodAll_cons_mk (shut_int Try.underlying3 h2) trodAll_mk0))), rfl, hnx.frame _, fun h => by cases h⟩⟩

theorem poolWith_holds : Rows.PoolWithSaid :=
  OpenClaim.holds_of_wide 4 Try.f4 rfl rfl rfl rfl rfl rfl rfl ⟨rfl, rfl, rfl, rfl, rfl⟩ rfl rfl rfl rfl rfl (by kernel_rfl) Try.func4 (by kernel_rfl)
    (of_decide_eq_true (by kernel_rfl)) (by unfold Func.isWrapper; first | (rw [if_pos (by decide +kernel)]; kernel_rfl) | (rw [if_neg (by decide +kernel)]; exact ⟨rfl, rfl⟩))
    (fun os started H enc _ => lifted_PoolWith os started H enc)

#print axioms poolWith_holds
end Go.Proofs.Ytbejhkodfkcbpaa
