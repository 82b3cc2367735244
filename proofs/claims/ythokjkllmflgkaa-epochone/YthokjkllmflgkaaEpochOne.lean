/-
  EpochOne: for every n and row of acts the law EpochOne answers true: a slot is taken by one at a time. No condition.
-/
import Derived.Test.YthokjkllmflgkaaRows
import Derived.Test.YthokjkllmflgkaaSten
import Derived.Test.YthokjkllmflgkaaKepX
import Derived.Test.YthokjkllmflgkaaRgnS
import Derived.ProofKit
import Derived.OpenShut
import Derived.ChangeMaps5
import Derived.BigQuiet
import Derived.WalkSmall
import Derived.BigRegion
namespace Go.Proofs.Ythokjkllmflgkaa
open Go.ChangeShapes Go.WideShapes Go.ChangeAt Go.RowKit Go.Shelf
open Go.ChangeMaps (open_string shut_string)
open RowG Trn Kep Epo Rgn Sps

set_option maxRecDepth 100000 in
set_option maxHeartbeats 4000000 in
theorem walk_EpochOne (a0 : Int) (a1 : Option Addr) (c1 : Nat) (z1 : List ActM) (w : World) (_h0 : (Lit.int .i64 a0).wf = true) (h1 : Lies actM w a1 c1 z1) (g1 : ∀ x ∈ z1, Epo.ActOk w x) :
    Calls Try.prog 4 #[.int .i64 a0, rowV a1 c1 z1] w fun e W' => e = .returned (.bool true) ∧ Below w.heap.size w W' := by
  have H1 := Lib.hid h1
  have G1 := Lib.hid g1
  have hC1 := h1.len
  have hM1 := h1.max
  unfold maxLen at hM1
  clear h1 g1
  go_enter Try.func4, Try.ntmps4
  go_wp2_with fail
  refine (works_any _).mono ?_
  rintro e w1 ⟨rfl, hb⟩
  have B1 := Lib.hid hb
  have L1 := Lib.hid (H1.out.kept hb)
  have K1 := Lib.hid (fun x hx => ok_kept (G1.out x hx) hb)
  clear hb H1 G1
  go_wp2_with fail
  refine (few_any _ _ _ _ L1.out).mono ?_
  rintro e w1' ⟨rfl, e1⟩
  subst e1
  by_cases g0 : fewE z1
  case neg =>
    rw [decide_eq_false g0]
    go_wp2_with fail
    go_ret
    exact ⟨rfl, B1.out⟩
  rw [decide_eq_true g0]
  have hz1 : z1.length ≤ 60 := g0.1
  go_wp2_with fail
  refine (New_told a0 _).mono ?_
  rintro e w2 ⟨rfl, hk, hb⟩
  have HP := Lib.hid (show w.heap.size ≤ w1'.heap.size from B1.out.size)
  have BN := Lib.hid (below2 B1.out hb)
  have BW := Lib.hid hb
  rw [← after_zero a0 z1] at hk
  have H0 := Lib.hid hk
  have hp := hk.1.lt
  generalize hpp : w1'.heap.size = p at *
  have HPP := Lib.hid hpp
  clear hb hk hpp
  have hmk := run_eight w2
  go_wp2_with fail
  have R0 := row_nums w2 8 (by unfold maxLen; omega)
  have al : Below w2.heap.size w2 (w2.alloc (.cells (madeCells zeroI 8) 3)) := (Below.refl _ w2).alloc (Nat.le_refl _) _
  have hs3 := World.size_alloc w2 (.cells (madeCells zeroI 8) 3)
  have H3 := keeps_kept H0.out al
  generalize w2.alloc (.cells (madeCells zeroI 8) 3) = w3 at *
  have BW3 := Lib.hid (BW.out.trans (al.mono (by omega)))
  have BN3 := Lib.hid (below2 BN.out al)
  clear al hmk
  generalize hgg : w2.heap.size = gb at *
  clear hgg
  rw [← heldOf_new a0, ← after_zero a0 z1] at R0
  go_loopw [8] (fun i W => ∃ j : Nat, j ≤ z1.length ∧ i = .int .i64 j ∧ Keeps W p (after a0 z1 j) ∧ Row numK 3 W gb 8 (heldOf (after a0 z1 j)) ∧ Turned (fun k => k = p ∨ k = gb) w3 W) (fun i _ => z1.length - (intOf i).toNat)
  case atStart => exact ⟨0, Nat.zero_le _, rfl, H3, R0, Turned.refl _ _⟩
  case round =>
    obtain ⟨j, hj, rfl, hh, hr, ht⟩ := hrel
    have BB := Lib.hid (HPP.out ▸ Turned.below BW3.out ht (by omega) (fun k hk => by omega) : Below w1'.heap.size w1' wr)
    have hsz := ht.size
    have H := Lib.hid hh
    have R := Lib.hid hr
    have T := Lib.hid ht
    clear hh ht hr H3 R0
    by_cases hlt : j < z1.length
    case pos =>
      obtain ⟨bz, oz, rfl, x0, x1, x2, x3⟩ := lies_actM L1.out hlt
      have hbz : bz < w1'.heap.size := World.block_lt_of_cell? _ _ x0
      have HR := Lib.hid (after_next a0 z1 hlt)
      have HL := Lib.hid (after_le a0 z1 j)
      have C := Lib.hid (do_any z1[j] (ok_kept (K1.out _ (List.getElem_mem hlt)) BB.out) H.out)
      have D := act_does (after a0 z1 j) z1[j].act
      have Y := Lib.hid (fun W (hb : Below w1'.heap.size w1' W) => (⟨(hb.cell hbz).trans x0, (hb.cell hbz).trans x1, (hb.cell hbz).trans x2, (hb.cell hbz).trans x3⟩ : W.cell? ⟨bz, oz + j * 4, none⟩ = some (.int .i64 z1[j].k) ∧ W.cell? ⟨bz, oz + j * 4 + 1, none⟩ = some (.int .i64 z1[j].slot) ∧ W.cell? ⟨bz, oz + j * 4 + 2, none⟩ = some (.int .i64 z1[j].at') ∧ W.cell? ⟨bz, oz + j * 4 + 3, none⟩ = some (rowV z1[j].p z1[j].c z1[j].pins)))
      generalize z1[j] = y at *
      generalize after a0 z1 j = s at *
      generalize act s y.act = sr at *
      obtain ⟨s', r⟩ := sr
      obtain ⟨yk, ys, ya, yp, yc, yP⟩ := y
      dsimp only [ActM.act] at C D HR Y
      obtain ⟨y0, y1, y2, y3⟩ := Y.out _ BB.out
      clear x0 x1 x2 x3
      go_wp2_with fail
      refine C.out.mono ?_
      rintro e w4 ⟨rfl, hh4, ht4⟩
      have hr4 := row_turned R.out (ht4.rest gb R.out.lt (by omega))
      have T4 := Lib.hid (T.out.trans (ht4.mono fun k hk => .inl hk))
      have B4 := Lib.hid (HPP.out ▸ Turned.below BW3.out T4.out (by omega) (fun k hk => by omega) : Below w1'.heap.size w1' w4)
      have H4 := Lib.hid hh4
      have R4 := Lib.hid hr4
      clear y0 y1 y2 y3
      obtain ⟨y0, y1, y2, y3⟩ := Y.out _ B4.out
      have ne : bz ≠ gb := by have := HPP.out; omega
      have f4 := fun o => R4.out.free (o := o)
      have hp8 := HL.out
      clear C Y hh4 ht4 hr4 H R T K1
      have fin : ∀ (W : World) (t : List Slot), t = s' → Keeps W p t → Row numK 3 W gb 8 (heldOf t) → Turned (fun k => k = p ∨ k = gb) w3 W → Keeps W p (after a0 z1 (j + 1)) ∧ Row numK 3 W gb 8 (heldOf (after a0 z1 (j + 1))) ∧ Turned (fun k => k = p ∨ k = gb) w3 W := fun W t e h1 h2 h3 => by
        rw [HR.out]; subst e; exact ⟨h1, h2, h3⟩
      cases D with
      | takes i hi h0 hs =>
        subst h0
        have hi8 : i < 8 := by omega
        have q0 := row_num R4.out (k := i) (by rw [heldOf_length HL.out]; exact hi8)
        rw [heldOf_at HL.out hi, hs] at q0
        have f0 := f4 i
        have d8 : decide ((8 : Int) ≤ (i : Int)) = false := decide_eq_false (by omega)
        have e8 : decide (8 ≤ i) = false := decide_eq_false (by omega)
        have b8 : (i : Int) < 8 := by omega
        have HS := Lib.hid (heldOf_set hi ⟨1,0⟩)
        have R5 := Lib.hid (row_set R4.out (k := i) (by rw [heldOf_length HL.out]; exact hi8) 1)
        have H5 := Lib.hid (keeps_turned (p := p) H4.out ((Turned.refl (fun k => k = gb) w4).setCell (a := ⟨gb, i, none⟩) rfl (.int .i64 1)) (by omega))
        have T5 := Lib.hid (T4.out.setCell (a := ⟨gb, i, none⟩) (.inr rfl) (.int .i64 1))
        rw [show (⟨1,0⟩ : Slot).st = 1 from rfl] at HS
        rw [← HS.out] at R5
        clear hs
        go_wp2_with fail
        exact ⟨⟨j + 1, by omega, by go_num, fin _ _ rfl H5.out R5.out T5.out⟩, by simp [intOf]; omega⟩
      | full h0 =>
        subst h0
        go_wp2_with fail
        exact ⟨⟨j + 1, by omega, by go_num, fin _ _ rfl H4.out R4.out T4.out⟩, by simp [intOf]; omega⟩
      | retires i hi h1 hx hs =>
        subst h1
        subst hx
        have hi8 : i < 8 := by omega
        have q0 := row_num R4.out (k := i) (by rw [heldOf_length HL.out]; exact hi8)
        rw [heldOf_at HL.out hi, hs] at q0
        have f0 := f4 i
        have d8 : decide ((8 : Int) ≤ (i : Int)) = false := decide_eq_false (by omega)
        have e8 : decide (8 ≤ i) = false := decide_eq_false (by omega)
        have b8 : (i : Int) < 8 := by omega
        have HS := Lib.hid (heldOf_set hi ⟨2,ya⟩)
        have R5 := Lib.hid (row_set R4.out (k := i) (by rw [heldOf_length HL.out]; exact hi8) 2)
        have H5 := Lib.hid (keeps_turned (p := p) H4.out ((Turned.refl (fun k => k = gb) w4).setCell (a := ⟨gb, i, none⟩) rfl (.int .i64 2)) (by omega))
        have T5 := Lib.hid (T4.out.setCell (a := ⟨gb, i, none⟩) (.inr rfl) (.int .i64 2))
        rw [show (⟨2,ya⟩ : Slot).st = 2 from rfl] at HS
        rw [← HS.out] at R5
        clear hs
        go_wp2_with fail
        exact ⟨⟨j + 1, by omega, by go_num, fin _ _ rfl H5.out R5.out T5.out⟩, by simp [intOf]; omega⟩
      | frees i hi h2 hx hs =>
        subst h2
        subst hx
        have hi8 : i < 8 := by omega
        have q0 := row_num R4.out (k := i) (by rw [heldOf_length HL.out]; exact hi8)
        rw [heldOf_at HL.out hi, hs] at q0
        have f0 := f4 i
        have d8 : decide ((8 : Int) ≤ (i : Int)) = false := decide_eq_false (by omega)
        have e8 : decide (8 ≤ i) = false := decide_eq_false (by omega)
        have b8 : (i : Int) < 8 := by omega
        have HS := Lib.hid (heldOf_set hi ⟨0,0⟩)
        have R5 := Lib.hid (row_set R4.out (k := i) (by rw [heldOf_length HL.out]; exact hi8) 0)
        have H5 := Lib.hid (keeps_turned (p := p) H4.out ((Turned.refl (fun k => k = gb) w4).setCell (a := ⟨gb, i, none⟩) rfl (.int .i64 0)) (by omega))
        have T5 := Lib.hid (T4.out.setCell (a := ⟨gb, i, none⟩) (.inr rfl) (.int .i64 0))
        rw [show (⟨0,0⟩ : Slot).st = 0 from rfl] at HS
        rw [← HS.out] at R5
        clear hs
        go_wp2_with fail
        exact ⟨⟨j + 1, by omega, by go_num, fin _ _ rfl H5.out R5.out T5.out⟩, by simp [intOf]; omega⟩
      | not h =>
        have d0 : (yk == 0) = false := by rcases h with rfl | rfl <;> rfl
        cases d1 : (yk == 1) with
        | true =>
          have d2 : (yk == 2) = false := by have : yk = 1 := by simpa using d1
                                            subst this; rfl
          clear h
          go_wp2_with fail
          exact ⟨⟨j + 1, by omega, by go_num, fin _ _ rfl H4.out R4.out T4.out⟩, by simp [intOf]; omega⟩
        | false =>
          have d2 : (yk == 2) = true := by rcases h with rfl | rfl
                                           · cases d1
                                           · rfl
          clear h
          go_wp2_with fail
          exact ⟨⟨j + 1, by omega, by go_num, fin _ _ rfl H4.out R4.out T4.out⟩, by simp [intOf]; omega⟩
      | asks h0 h1 h2 =>
        have d0 : (yk == 0) = false := by simpa using h0
        have d1 : (yk == 1) = false := by simpa using h1
        have d2 : (yk == 2) = false := by simpa using h2
        clear h0 h1 h2
        go_wp2_with fail
        exact ⟨⟨j + 1, by omega, by go_num, fin _ _ rfl H4.out R4.out T4.out⟩, by simp [intOf]; omega⟩
    case neg =>
      obtain rfl : j = z1.length := by omega
      have HL := Lib.hid (after_le a0 z1 z1.length)
      generalize after a0 z1 z1.length = s at *
      go_wp2_with fail
      go_loopw [10] (fun v W => ∃ i : Nat, i ≤ 8 ∧ v = .int .i64 i ∧ Keeps W p s ∧ Row numK 3 W gb 8 (heldOf s) ∧ Turned (fun k => k = p ∨ k = gb) w3 W) (fun v _ => 8 - (intOf v).toNat)
      case atStart => exact ⟨0, by omega, rfl, H.out, R.out, T.out⟩
      case round =>
        clear H R T BB
        obtain ⟨i, hi, rfl, hh, hr, ht⟩ := hrel
        have H := Lib.hid hh
        have R := Lib.hid hr
        have T := Lib.hid ht
        clear hh ht hr
        by_cases hlt : i < 8
        case pos =>
          have b8 : (i : Int) < 8 := by omega
          have hl8 := heldOf_length HL.out
          by_cases hil : i < s.length
          · have q0 := row_num R.out (k := i) (by rw [hl8]; exact hlt)
            rw [heldOf_at HL.out hil] at q0
            have CS := fun W (hb : Below wr.heap.size wr W) => State_told (H.out.1.kept hb) (i : Int)
            rw [state_nat hil] at CS
            generalize s[i].st = u at *
            go_wp2_with fail
            refine wp_region_val (spV [.is (.pointer (some ⟨p, 0, none⟩)), .is (.int .i64 (i : Nat)), .is (.int .i64 u), .is (.slice (some ⟨gb, 0, none⟩) 8 8), .is (.int .i64 (i : Nat)), .is (.pointer (some ⟨gb, i, none⟩)), .is (.int .i64 u), .is (.bool false), .is (.bool false), .is (undef), .is (undef), .is (undef), .is (undef), .is (undef), .is (undef), .is (undef), .is (undef), .is (undef), .is (undef), .is (undef), .is (.bool false)]) (spV_kept _) (by kernel_rfl) (by kernel_rfl) (by kernel_rfl) ?step ?done
            case step =>
              intro d a W i hi hall hI
              replace hi : i < 21 := hi
              have b0 := hI.below
              obtain rfl | rfl | rfl | rfl | rfl | rfl | rfl | rfl | rfl | rfl | rfl | rfl | rfl | rfl | rfl | rfl | rfl | rfl | rfl | rfl | rfl : i = 0 ∨ i = 1 ∨ i = 2 ∨ i = 3 ∨ i = 4 ∨ i = 5 ∨ i = 6 ∨ i = 7 ∨ i = 8 ∨ i = 9 ∨ i = 10 ∨ i = 11 ∨ i = 12 ∨ i = 13 ∨ i = 14 ∨ i = 15 ∨ i = 16 ∨ i = 17 ∨ i = 18 ∨ i = 19 ∨ i = 20 := by omega
              · have e6 : a.tmps[6]?.getD undef = .pointer (some ⟨p, 0, none⟩) := hI.old 6 (unwritten_of (by kernel_rfl) d)
                refine StepV.done rfl (wanted_free rfl) fun K hK => ?_
                exact op_move rfl (hK _ _ (Below.refl _ _) e6)
              · have e10 : a.tmps[10]?.getD undef = .int .i64 (i : Nat) := hI.old 10 (unwritten_of (by kernel_rfl) d)
                refine StepV.done rfl (wanted_free rfl) fun K hK => ?_
                exact op_move rfl (hK _ _ (Below.refl _ _) e10)
              · have e145 : a.tmps[145]?.getD undef = .pointer (some ⟨p, 0, none⟩) := hI.val 0 145 rfl (hall 0 (by kernel_rfl))
                have e146 : a.tmps[146]?.getD undef = .int .i64 (i : Nat) := hI.val 1 146 rfl (hall 1 (by kernel_rfl))
                refine StepV.done rfl (wanted_free rfl) fun K hK => ?_
                have C := (CS W b0).mono (R' := fun e W2 => ∃ v, e = .returned v ∧ v = .int .i64 u ∧ Below W.heap.size W W2) (fun e W2 ⟨he, hb⟩ => ⟨_, he, rfl, hb⟩)
                refine op_call 14 #[.pointer (some ⟨p, 0, none⟩), .int .i64 (i : Nat)] (fun v W2 => v = .int .i64 u ∧ Below W.heap.size W W2) ?_ C (fun v W2 ⟨h1, h2⟩ => hK v W2 h2 h1)
                clear hall hI hK C
                simp only [List.getElem_toArray, List.getElem_cons_zero, List.getElem_cons_succ, execOp]
                go_simp
              · have e7 : a.tmps[7]?.getD undef = .slice (some ⟨gb, 0, none⟩) 8 8 := hI.old 7 (unwritten_of (by kernel_rfl) d)
                refine StepV.done rfl (wanted_free rfl) fun K hK => ?_
                exact op_move rfl (hK _ _ (Below.refl _ _) e7)
              · have e10 : a.tmps[10]?.getD undef = .int .i64 (i : Nat) := hI.old 10 (unwritten_of (by kernel_rfl) d)
                refine StepV.done rfl (wanted_free rfl) fun K hK => ?_
                exact op_move rfl (hK _ _ (Below.refl _ _) e10)
              · have e148 : a.tmps[148]?.getD undef = .slice (some ⟨gb, 0, none⟩) 8 8 := hI.val 3 148 rfl (hall 3 (by kernel_rfl))
                have e149 : a.tmps[149]?.getD undef = .int .i64 (i : Nat) := hI.val 4 149 rfl (hall 4 (by kernel_rfl))
                refine StepV.done rfl (wanted_free rfl) fun K hK => ?_
                clear hall hI
                refine op_run (.pointer (some ⟨gb, i, none⟩)) W ?_ (hK _ _ (Below.refl _ _) rfl)
                clear hK
                simp only [List.getElem_toArray, List.getElem_cons_zero, List.getElem_cons_succ, execOp, Act.eval]
                go_simp
              · have e150 : a.tmps[150]?.getD undef = .pointer (some ⟨gb, i, none⟩) := hI.val 5 150 rfl (hall 5 (by kernel_rfl))
                refine StepV.done rfl (wanted_free rfl) fun K hK => ?_
                have k0 := (b0.cell (World.block_lt_of_cell? _ _ q0)).trans q0
                clear hall hI
                refine op_run (.int .i64 u) W ?_ (hK _ _ (Below.refl _ _) rfl)
                clear hK
                simp only [List.getElem_toArray, List.getElem_cons_zero, List.getElem_cons_succ, execOp, Act.eval]
                go_simp
              · have e147 : a.tmps[147]?.getD undef = .int .i64 u := hI.val 2 147 rfl (hall 2 (by kernel_rfl))
                have e151 : a.tmps[151]?.getD undef = .int .i64 u := hI.val 6 151 rfl (hall 6 (by kernel_rfl))
                refine StepV.done rfl (wanted_free rfl) fun K hK => ?_
                clear hall hI
                refine op_run (.bool false) W ?_ (hK _ _ (Below.refl _ _) rfl)
                clear hK
                simp only [List.getElem_toArray, List.getElem_cons_zero, List.getElem_cons_succ, execOp, Act.eval]
                go_simp
              · have f := hI.val 7 152 rfl (hall 7 (by kernel_rfl))
                refine StepV.done rfl (wanted_free rfl) fun K hK => ?_
                exact op_move rfl (hK _ _ (Below.refl _ _) f)
              · have g : a.tmps[153]?.getD undef = .bool false := hI.val 8 153 rfl (hall 8 (by kernel_rfl))
                exact StepV.left rfl (by rw [wanted_if (j := 8) (s := 153) (want := true) (b := false) rfl rfl g]; rfl) rfl
              · have g : a.tmps[153]?.getD undef = .bool false := hI.val 8 153 rfl (hall 8 (by kernel_rfl))
                exact StepV.left rfl (by rw [wanted_if (j := 8) (s := 153) (want := true) (b := false) rfl rfl g]; rfl) rfl
              · have g : a.tmps[153]?.getD undef = .bool false := hI.val 8 153 rfl (hall 8 (by kernel_rfl))
                exact StepV.left rfl (by rw [wanted_if (j := 8) (s := 153) (want := true) (b := false) rfl rfl g]; rfl) rfl
              · have g : a.tmps[153]?.getD undef = .bool false := hI.val 8 153 rfl (hall 8 (by kernel_rfl))
                exact StepV.left rfl (by rw [wanted_if (j := 8) (s := 153) (want := true) (b := false) rfl rfl g]; rfl) rfl
              · have g : a.tmps[153]?.getD undef = .bool false := hI.val 8 153 rfl (hall 8 (by kernel_rfl))
                exact StepV.left rfl (by rw [wanted_if (j := 8) (s := 153) (want := true) (b := false) rfl rfl g]; rfl) rfl
              · have g : a.tmps[158]?.getD undef = undef := hI.val 13 158 rfl (hall 13 (by kernel_rfl))
                exact StepV.left rfl (wanted_undef (j := 13) (s := 158) (want := false) rfl rfl g) rfl
              · have g : a.tmps[158]?.getD undef = undef := hI.val 13 158 rfl (hall 13 (by kernel_rfl))
                exact StepV.left rfl (wanted_undef (j := 13) (s := 158) (want := false) rfl rfl g) rfl
              · have g : a.tmps[158]?.getD undef = undef := hI.val 13 158 rfl (hall 13 (by kernel_rfl))
                exact StepV.left rfl (wanted_undef (j := 13) (s := 158) (want := false) rfl rfl g) rfl
              · have g : a.tmps[158]?.getD undef = undef := hI.val 13 158 rfl (hall 13 (by kernel_rfl))
                exact StepV.left rfl (wanted_undef (j := 13) (s := 158) (want := false) rfl rfl g) rfl
              · have g : a.tmps[158]?.getD undef = undef := hI.val 13 158 rfl (hall 13 (by kernel_rfl))
                exact StepV.left rfl (wanted_undef (j := 13) (s := 158) (want := false) rfl rfl g) rfl
              · have g : a.tmps[153]?.getD undef = .bool false := hI.val 8 153 rfl (hall 8 (by kernel_rfl))
                exact StepV.left rfl (by rw [wanted_if (j := 8) (s := 153) (want := true) (b := false) rfl rfl g]; rfl) rfl
              · have e153 : a.tmps[153]?.getD undef = .bool false := hI.val 8 153 rfl (hall 8 (by kernel_rfl))
                refine StepV.done rfl (wanted_free rfl) fun K hK => ?_
                exact op_pick_no rfl e153 (hK _ _ (Below.refl _ _) rfl)
            case done =>
              intro a W hv hI
              obtain ⟨t, df⟩ := a
              obtain rfl : df = [] := hI.defs
              have hz : t.size = 167 := hI.size
              have b0 := hI.below
              have e165 : t[165]?.getD undef = .bool false := hv 20 165 rfl
              have e0 := hI.old 0 (unwritten_of (by kernel_rfl) _)
              have e1 := hI.old 1 (unwritten_of (by kernel_rfl) _)
              have e2 := hI.old 2 (unwritten_of (by kernel_rfl) _)
              have e3 := hI.old 3 (unwritten_of (by kernel_rfl) _)
              have e4 := hI.old 4 (unwritten_of (by kernel_rfl) _)
              have e5 := hI.old 5 (unwritten_of (by kernel_rfl) _)
              have e6 := hI.old 6 (unwritten_of (by kernel_rfl) _)
              have e7 := hI.old 7 (unwritten_of (by kernel_rfl) _)
              have e8 := hI.old 8 (unwritten_of (by kernel_rfl) _)
              have e9 := hI.old 9 (unwritten_of (by kernel_rfl) _)
              have e10 := hI.old 10 (unwritten_of (by kernel_rfl) _)
              have e11 := hI.old 11 (unwritten_of (by kernel_rfl) _)
              have e12 := hI.old 12 (unwritten_of (by kernel_rfl) _)
              have e13 := hI.old 13 (unwritten_of (by kernel_rfl) _)
              have e14 := hI.old 14 (unwritten_of (by kernel_rfl) _)
              have e15 := hI.old 15 (unwritten_of (by kernel_rfl) _)
              have e16 := hI.old 16 (unwritten_of (by kernel_rfl) _)
              have e17 := hI.old 17 (unwritten_of (by kernel_rfl) _)
              have e18 := hI.old 18 (unwritten_of (by kernel_rfl) _)
              have e19 := hI.old 19 (unwritten_of (by kernel_rfl) _)
              have e20 := hI.old 20 (unwritten_of (by kernel_rfl) _)
              have e21 := hI.old 21 (unwritten_of (by kernel_rfl) _)
              have e22 := hI.old 22 (unwritten_of (by kernel_rfl) _)
              have e23 := hI.old 23 (unwritten_of (by kernel_rfl) _)
              have e24 := hI.old 24 (unwritten_of (by kernel_rfl) _)
              have e25 := hI.old 25 (unwritten_of (by kernel_rfl) _)
              have e26 := hI.old 26 (unwritten_of (by kernel_rfl) _)
              have e27 := hI.old 27 (unwritten_of (by kernel_rfl) _)
              have e28 := hI.old 28 (unwritten_of (by kernel_rfl) _)
              have e29 := hI.old 29 (unwritten_of (by kernel_rfl) _)
              have e30 := hI.old 30 (unwritten_of (by kernel_rfl) _)
              have e31 := hI.old 31 (unwritten_of (by kernel_rfl) _)
              have e32 := hI.old 32 (unwritten_of (by kernel_rfl) _)
              have e33 := hI.old 33 (unwritten_of (by kernel_rfl) _)
              have e34 := hI.old 34 (unwritten_of (by kernel_rfl) _)
              have e35 := hI.old 35 (unwritten_of (by kernel_rfl) _)
              have e36 := hI.old 36 (unwritten_of (by kernel_rfl) _)
              have e37 := hI.old 37 (unwritten_of (by kernel_rfl) _)
              have e38 := hI.old 38 (unwritten_of (by kernel_rfl) _)
              have e39 := hI.old 39 (unwritten_of (by kernel_rfl) _)
              have e40 := hI.old 40 (unwritten_of (by kernel_rfl) _)
              have e41 := hI.old 41 (unwritten_of (by kernel_rfl) _)
              have e42 := hI.old 42 (unwritten_of (by kernel_rfl) _)
              have e43 := hI.old 43 (unwritten_of (by kernel_rfl) _)
              have e44 := hI.old 44 (unwritten_of (by kernel_rfl) _)
              have e45 := hI.old 45 (unwritten_of (by kernel_rfl) _)
              have e46 := hI.old 46 (unwritten_of (by kernel_rfl) _)
              have e47 := hI.old 47 (unwritten_of (by kernel_rfl) _)
              have e48 := hI.old 48 (unwritten_of (by kernel_rfl) _)
              have e49 := hI.old 49 (unwritten_of (by kernel_rfl) _)
              have e50 := hI.old 50 (unwritten_of (by kernel_rfl) _)
              have e51 := hI.old 51 (unwritten_of (by kernel_rfl) _)
              have e52 := hI.old 52 (unwritten_of (by kernel_rfl) _)
              have e53 := hI.old 53 (unwritten_of (by kernel_rfl) _)
              have e54 := hI.old 54 (unwritten_of (by kernel_rfl) _)
              have e55 := hI.old 55 (unwritten_of (by kernel_rfl) _)
              have e56 := hI.old 56 (unwritten_of (by kernel_rfl) _)
              have e57 := hI.old 57 (unwritten_of (by kernel_rfl) _)
              have e58 := hI.old 58 (unwritten_of (by kernel_rfl) _)
              have e59 := hI.old 59 (unwritten_of (by kernel_rfl) _)
              have e60 := hI.old 60 (unwritten_of (by kernel_rfl) _)
              have e61 := hI.old 61 (unwritten_of (by kernel_rfl) _)
              have e62 := hI.old 62 (unwritten_of (by kernel_rfl) _)
              have e63 := hI.old 63 (unwritten_of (by kernel_rfl) _)
              have e64 := hI.old 64 (unwritten_of (by kernel_rfl) _)
              have e65 := hI.old 65 (unwritten_of (by kernel_rfl) _)
              have e66 := hI.old 66 (unwritten_of (by kernel_rfl) _)
              have e67 := hI.old 67 (unwritten_of (by kernel_rfl) _)
              have e68 := hI.old 68 (unwritten_of (by kernel_rfl) _)
              have e69 := hI.old 69 (unwritten_of (by kernel_rfl) _)
              have e70 := hI.old 70 (unwritten_of (by kernel_rfl) _)
              have e71 := hI.old 71 (unwritten_of (by kernel_rfl) _)
              have e72 := hI.old 72 (unwritten_of (by kernel_rfl) _)
              have e73 := hI.old 73 (unwritten_of (by kernel_rfl) _)
              have e74 := hI.old 74 (unwritten_of (by kernel_rfl) _)
              have e75 := hI.old 75 (unwritten_of (by kernel_rfl) _)
              have e76 := hI.old 76 (unwritten_of (by kernel_rfl) _)
              have e77 := hI.old 77 (unwritten_of (by kernel_rfl) _)
              have e78 := hI.old 78 (unwritten_of (by kernel_rfl) _)
              have e79 := hI.old 79 (unwritten_of (by kernel_rfl) _)
              have e80 := hI.old 80 (unwritten_of (by kernel_rfl) _)
              have e81 := hI.old 81 (unwritten_of (by kernel_rfl) _)
              have e82 := hI.old 82 (unwritten_of (by kernel_rfl) _)
              have e83 := hI.old 83 (unwritten_of (by kernel_rfl) _)
              have e84 := hI.old 84 (unwritten_of (by kernel_rfl) _)
              have e85 := hI.old 85 (unwritten_of (by kernel_rfl) _)
              have e86 := hI.old 86 (unwritten_of (by kernel_rfl) _)
              have e87 := hI.old 87 (unwritten_of (by kernel_rfl) _)
              have e88 := hI.old 88 (unwritten_of (by kernel_rfl) _)
              have e89 := hI.old 89 (unwritten_of (by kernel_rfl) _)
              have e90 := hI.old 90 (unwritten_of (by kernel_rfl) _)
              have e91 := hI.old 91 (unwritten_of (by kernel_rfl) _)
              have e92 := hI.old 92 (unwritten_of (by kernel_rfl) _)
              have e93 := hI.old 93 (unwritten_of (by kernel_rfl) _)
              have e94 := hI.old 94 (unwritten_of (by kernel_rfl) _)
              have e95 := hI.old 95 (unwritten_of (by kernel_rfl) _)
              have e96 := hI.old 96 (unwritten_of (by kernel_rfl) _)
              have e97 := hI.old 97 (unwritten_of (by kernel_rfl) _)
              have e98 := hI.old 98 (unwritten_of (by kernel_rfl) _)
              have e99 := hI.old 99 (unwritten_of (by kernel_rfl) _)
              have e100 := hI.old 100 (unwritten_of (by kernel_rfl) _)
              have e101 := hI.old 101 (unwritten_of (by kernel_rfl) _)
              have e102 := hI.old 102 (unwritten_of (by kernel_rfl) _)
              have e103 := hI.old 103 (unwritten_of (by kernel_rfl) _)
              have e104 := hI.old 104 (unwritten_of (by kernel_rfl) _)
              have e105 := hI.old 105 (unwritten_of (by kernel_rfl) _)
              have e106 := hI.old 106 (unwritten_of (by kernel_rfl) _)
              have e107 := hI.old 107 (unwritten_of (by kernel_rfl) _)
              have e108 := hI.old 108 (unwritten_of (by kernel_rfl) _)
              have e109 := hI.old 109 (unwritten_of (by kernel_rfl) _)
              have e110 := hI.old 110 (unwritten_of (by kernel_rfl) _)
              have e111 := hI.old 111 (unwritten_of (by kernel_rfl) _)
              have e112 := hI.old 112 (unwritten_of (by kernel_rfl) _)
              have e113 := hI.old 113 (unwritten_of (by kernel_rfl) _)
              have e114 := hI.old 114 (unwritten_of (by kernel_rfl) _)
              have e115 := hI.old 115 (unwritten_of (by kernel_rfl) _)
              have e116 := hI.old 116 (unwritten_of (by kernel_rfl) _)
              have e117 := hI.old 117 (unwritten_of (by kernel_rfl) _)
              have e118 := hI.old 118 (unwritten_of (by kernel_rfl) _)
              have e119 := hI.old 119 (unwritten_of (by kernel_rfl) _)
              have e120 := hI.old 120 (unwritten_of (by kernel_rfl) _)
              have e121 := hI.old 121 (unwritten_of (by kernel_rfl) _)
              have e122 := hI.old 122 (unwritten_of (by kernel_rfl) _)
              have e123 := hI.old 123 (unwritten_of (by kernel_rfl) _)
              have e124 := hI.old 124 (unwritten_of (by kernel_rfl) _)
              have e125 := hI.old 125 (unwritten_of (by kernel_rfl) _)
              have e126 := hI.old 126 (unwritten_of (by kernel_rfl) _)
              have e127 := hI.old 127 (unwritten_of (by kernel_rfl) _)
              have e128 := hI.old 128 (unwritten_of (by kernel_rfl) _)
              have e129 := hI.old 129 (unwritten_of (by kernel_rfl) _)
              have e130 := hI.old 130 (unwritten_of (by kernel_rfl) _)
              have e131 := hI.old 131 (unwritten_of (by kernel_rfl) _)
              have e132 := hI.old 132 (unwritten_of (by kernel_rfl) _)
              have e133 := hI.old 133 (unwritten_of (by kernel_rfl) _)
              have e134 := hI.old 134 (unwritten_of (by kernel_rfl) _)
              have e135 := hI.old 135 (unwritten_of (by kernel_rfl) _)
              have e136 := hI.old 136 (unwritten_of (by kernel_rfl) _)
              have e137 := hI.old 137 (unwritten_of (by kernel_rfl) _)
              have e138 := hI.old 138 (unwritten_of (by kernel_rfl) _)
              have e139 := hI.old 139 (unwritten_of (by kernel_rfl) _)
              have e140 := hI.old 140 (unwritten_of (by kernel_rfl) _)
              have e141 := hI.old 141 (unwritten_of (by kernel_rfl) _)
              have e142 := hI.old 142 (unwritten_of (by kernel_rfl) _)
              have e143 := hI.old 143 (unwritten_of (by kernel_rfl) _)
              have e144 := hI.old 144 (unwritten_of (by kernel_rfl) _)
              have e166 := hI.old 166 (unwritten_of (by kernel_rfl) _)
              clear hv hI
              simp only [List.getElem?_toArray, List.getElem?_cons_succ, List.getElem?_cons_zero, Option.getD_some] at e0 e1 e2 e3 e4 e5 e6 e7 e8 e9 e10 e11 e12 e13 e14 e15 e16 e17 e18 e19 e20 e21 e22 e23 e24 e25 e26 e27 e28 e29 e30 e31 e32 e33 e34 e35 e36 e37 e38 e39 e40 e41 e42 e43 e44 e45 e46 e47 e48 e49 e50 e51 e52 e53 e54 e55 e56 e57 e58 e59 e60 e61 e62 e63 e64 e65 e66 e67 e68 e69 e70 e71 e72 e73 e74 e75 e76 e77 e78 e79 e80 e81 e82 e83 e84 e85 e86 e87 e88 e89 e90 e91 e92 e93 e94 e95 e96 e97 e98 e99 e100 e101 e102 e103 e104 e105 e106 e107 e108 e109 e110 e111 e112 e113 e114 e115 e116 e117 e118 e119 e120 e121 e122 e123 e124 e125 e126 e127 e128 e129 e130 e131 e132 e133 e134 e135 e136 e137 e138 e139 e140 e141 e142 e143 e144 e166
              obtain ⟨ys, hy, ht⟩ := arr_slots t 167 hz
              have hl : (slotsFrom ys 0 167).toArray = #[ys 0, ys 1, ys 2, ys 3, ys 4, ys 5, ys 6, ys 7, ys 8, ys 9, ys 10, ys 11, ys 12, ys 13, ys 14, ys 15, ys 16, ys 17, ys 18, ys 19, ys 20, ys 21, ys 22, ys 23, ys 24, ys 25, ys 26, ys 27, ys 28, ys 29, ys 30, ys 31, ys 32, ys 33, ys 34, ys 35, ys 36, ys 37, ys 38, ys 39, ys 40, ys 41, ys 42, ys 43, ys 44, ys 45, ys 46, ys 47, ys 48, ys 49, ys 50, ys 51, ys 52, ys 53, ys 54, ys 55, ys 56, ys 57, ys 58, ys 59, ys 60, ys 61, ys 62, ys 63, ys 64, ys 65, ys 66, ys 67, ys 68, ys 69, ys 70, ys 71, ys 72, ys 73, ys 74, ys 75, ys 76, ys 77, ys 78, ys 79, ys 80, ys 81, ys 82, ys 83, ys 84, ys 85, ys 86, ys 87, ys 88, ys 89, ys 90, ys 91, ys 92, ys 93, ys 94, ys 95, ys 96, ys 97, ys 98, ys 99, ys 100, ys 101, ys 102, ys 103, ys 104, ys 105, ys 106, ys 107, ys 108, ys 109, ys 110, ys 111, ys 112, ys 113, ys 114, ys 115, ys 116, ys 117, ys 118, ys 119, ys 120, ys 121, ys 122, ys 123, ys 124, ys 125, ys 126, ys 127, ys 128, ys 129, ys 130, ys 131, ys 132, ys 133, ys 134, ys 135, ys 136, ys 137, ys 138, ys 139, ys 140, ys 141, ys 142, ys 143, ys 144, ys 145, ys 146, ys 147, ys 148, ys 149, ys 150, ys 151, ys 152, ys 153, ys 154, ys 155, ys 156, ys 157, ys 158, ys 159, ys 160, ys 161, ys 162, ys 163, ys 164, ys 165, ys 166] := rfl
              rw [hy] at e0 e1 e2 e3 e4 e5 e6 e7 e8 e9 e10 e11 e12 e13 e14 e15 e16 e17 e18 e19 e20 e21 e22 e23 e24 e25 e26 e27 e28 e29 e30 e31 e32 e33 e34 e35 e36 e37 e38 e39 e40 e41 e42 e43 e44 e45 e46 e47 e48 e49 e50 e51 e52 e53 e54 e55 e56 e57 e58 e59 e60 e61 e62 e63 e64 e65 e66 e67 e68 e69 e70 e71 e72 e73 e74 e75 e76 e77 e78 e79 e80 e81 e82 e83 e84 e85 e86 e87 e88 e89 e90 e91 e92 e93 e94 e95 e96 e97 e98 e99 e100 e101 e102 e103 e104 e105 e106 e107 e108 e109 e110 e111 e112 e113 e114 e115 e116 e117 e118 e119 e120 e121 e122 e123 e124 e125 e126 e127 e128 e129 e130 e131 e132 e133 e134 e135 e136 e137 e138 e139 e140 e141 e142 e143 e144 e166 e165
              rw [ht, hl, e0, e1, e2, e3, e4, e5, e6, e7, e8, e9, e10, e11, e12, e13, e14, e15, e16, e17, e18, e19, e20, e21, e22, e23, e24, e25, e26, e27, e28, e29, e30, e31, e32, e33, e34, e35, e36, e37, e38, e39, e40, e41, e42, e43, e44, e45, e46, e47, e48, e49, e50, e51, e52, e53, e54, e55, e56, e57, e58, e59, e60, e61, e62, e63, e64, e65, e66, e67, e68, e69, e70, e71, e72, e73, e74, e75, e76, e77, e78, e79, e80, e81, e82, e83, e84, e85, e86, e87, e88, e89, e90, e91, e92, e93, e94, e95, e96, e97, e98, e99, e100, e101, e102, e103, e104, e105, e106, e107, e108, e109, e110, e111, e112, e113, e114, e115, e116, e117, e118, e119, e120, e121, e122, e123, e124, e125, e126, e127, e128, e129, e130, e131, e132, e133, e134, e135, e136, e137, e138, e139, e140, e141, e142, e143, e144, e166, e165]
              clear ht hl hz hy e0 e1 e2 e3 e4 e5 e6 e7 e8 e9 e10 e11 e12 e13 e14 e15 e16 e17 e18 e19 e20 e21 e22 e23 e24 e25 e26 e27 e28 e29 e30 e31 e32 e33 e34 e35 e36 e37 e38 e39 e40 e41 e42 e43 e44 e45 e46 e47 e48 e49 e50 e51 e52 e53 e54 e55 e56 e57 e58 e59 e60 e61 e62 e63 e64 e65 e66 e67 e68 e69 e70 e71 e72 e73 e74 e75 e76 e77 e78 e79 e80 e81 e82 e83 e84 e85 e86 e87 e88 e89 e90 e91 e92 e93 e94 e95 e96 e97 e98 e99 e100 e101 e102 e103 e104 e105 e106 e107 e108 e109 e110 e111 e112 e113 e114 e115 e116 e117 e118 e119 e120 e121 e122 e123 e124 e125 e126 e127 e128 e129 e130 e131 e132 e133 e134 e135 e136 e137 e138 e139 e140 e141 e142 e143 e144 e166 e165
              have HB := Lib.hid b0
              clear b0
              go_wp2_with fail
              refine ⟨⟨i + 1, by omega, by go_num, keeps_kept H.out HB.out, R.out.kept HB.out, T.out.trans (Turned.of_below HB.out)⟩, by simp [intOf]; omega⟩
          · have q0 := row_num R.out (k := i) (by rw [hl8]; exact hlt)
            rw [heldOf_out HL.out (by omega) hlt] at q0
            have CS := fun W (hb : Below wr.heap.size wr W) => State_told (H.out.1.kept hb) (i : Int)
            rw [state_out (by omega)] at CS
            go_wp2_with fail
            refine wp_region_val (spV [.is (.pointer (some ⟨p, 0, none⟩)), .is (.int .i64 (i : Nat)), .is (.int .i64 (-1)), .is (.slice (some ⟨gb, 0, none⟩) 8 8), .is (.int .i64 (i : Nat)), .is (.pointer (some ⟨gb, i, none⟩)), .is (.int .i64 0), .is (.bool true), .is (.bool true), .is (.pointer (some ⟨p, 0, none⟩)), .is (.int .i64 (i : Nat)), .is (.int .i64 (-1)), .is (.bool false), .is (.bool false), .is (.slice (some ⟨gb, 0, none⟩) 8 8), .is (.int .i64 (i : Nat)), .is (.pointer (some ⟨gb, i, none⟩)), .is (.int .i64 0), .is (.bool false), .is (.bool false), .is (.bool false)]) (spV_kept _) (by kernel_rfl) (by kernel_rfl) (by kernel_rfl) ?step ?done
            case step =>
              intro d a W i hi hall hI
              replace hi : i < 21 := hi
              have b0 := hI.below
              obtain rfl | rfl | rfl | rfl | rfl | rfl | rfl | rfl | rfl | rfl | rfl | rfl | rfl | rfl | rfl | rfl | rfl | rfl | rfl | rfl | rfl : i = 0 ∨ i = 1 ∨ i = 2 ∨ i = 3 ∨ i = 4 ∨ i = 5 ∨ i = 6 ∨ i = 7 ∨ i = 8 ∨ i = 9 ∨ i = 10 ∨ i = 11 ∨ i = 12 ∨ i = 13 ∨ i = 14 ∨ i = 15 ∨ i = 16 ∨ i = 17 ∨ i = 18 ∨ i = 19 ∨ i = 20 := by omega
              · have e6 : a.tmps[6]?.getD undef = .pointer (some ⟨p, 0, none⟩) := hI.old 6 (unwritten_of (by kernel_rfl) d)
                refine StepV.done rfl (wanted_free rfl) fun K hK => ?_
                exact op_move rfl (hK _ _ (Below.refl _ _) e6)
              · have e10 : a.tmps[10]?.getD undef = .int .i64 (i : Nat) := hI.old 10 (unwritten_of (by kernel_rfl) d)
                refine StepV.done rfl (wanted_free rfl) fun K hK => ?_
                exact op_move rfl (hK _ _ (Below.refl _ _) e10)
              · have e145 : a.tmps[145]?.getD undef = .pointer (some ⟨p, 0, none⟩) := hI.val 0 145 rfl (hall 0 (by kernel_rfl))
                have e146 : a.tmps[146]?.getD undef = .int .i64 (i : Nat) := hI.val 1 146 rfl (hall 1 (by kernel_rfl))
                refine StepV.done rfl (wanted_free rfl) fun K hK => ?_
                have C := (CS W b0).mono (R' := fun e W2 => ∃ v, e = .returned v ∧ v = .int .i64 (-1) ∧ Below W.heap.size W W2) (fun e W2 ⟨he, hb⟩ => ⟨_, he, rfl, hb⟩)
                refine op_call 14 #[.pointer (some ⟨p, 0, none⟩), .int .i64 (i : Nat)] (fun v W2 => v = .int .i64 (-1) ∧ Below W.heap.size W W2) ?_ C (fun v W2 ⟨h1, h2⟩ => hK v W2 h2 h1)
                clear hall hI hK C
                simp only [List.getElem_toArray, List.getElem_cons_zero, List.getElem_cons_succ, execOp]
                go_simp
              · have e7 : a.tmps[7]?.getD undef = .slice (some ⟨gb, 0, none⟩) 8 8 := hI.old 7 (unwritten_of (by kernel_rfl) d)
                refine StepV.done rfl (wanted_free rfl) fun K hK => ?_
                exact op_move rfl (hK _ _ (Below.refl _ _) e7)
              · have e10 : a.tmps[10]?.getD undef = .int .i64 (i : Nat) := hI.old 10 (unwritten_of (by kernel_rfl) d)
                refine StepV.done rfl (wanted_free rfl) fun K hK => ?_
                exact op_move rfl (hK _ _ (Below.refl _ _) e10)
              · have e148 : a.tmps[148]?.getD undef = .slice (some ⟨gb, 0, none⟩) 8 8 := hI.val 3 148 rfl (hall 3 (by kernel_rfl))
                have e149 : a.tmps[149]?.getD undef = .int .i64 (i : Nat) := hI.val 4 149 rfl (hall 4 (by kernel_rfl))
                refine StepV.done rfl (wanted_free rfl) fun K hK => ?_
                clear hall hI
                refine op_run (.pointer (some ⟨gb, i, none⟩)) W ?_ (hK _ _ (Below.refl _ _) rfl)
                clear hK
                simp only [List.getElem_toArray, List.getElem_cons_zero, List.getElem_cons_succ, execOp, Act.eval]
                go_simp
              · have e150 : a.tmps[150]?.getD undef = .pointer (some ⟨gb, i, none⟩) := hI.val 5 150 rfl (hall 5 (by kernel_rfl))
                refine StepV.done rfl (wanted_free rfl) fun K hK => ?_
                have k0 := (b0.cell (World.block_lt_of_cell? _ _ q0)).trans q0
                clear hall hI
                refine op_run (.int .i64 0) W ?_ (hK _ _ (Below.refl _ _) rfl)
                clear hK
                simp only [List.getElem_toArray, List.getElem_cons_zero, List.getElem_cons_succ, execOp, Act.eval]
                go_simp
              · have e147 : a.tmps[147]?.getD undef = .int .i64 (-1) := hI.val 2 147 rfl (hall 2 (by kernel_rfl))
                have e151 : a.tmps[151]?.getD undef = .int .i64 0 := hI.val 6 151 rfl (hall 6 (by kernel_rfl))
                refine StepV.done rfl (wanted_free rfl) fun K hK => ?_
                clear hall hI
                refine op_run (.bool true) W ?_ (hK _ _ (Below.refl _ _) rfl)
                clear hK
                simp only [List.getElem_toArray, List.getElem_cons_zero, List.getElem_cons_succ, execOp, Act.eval]
                go_simp
              · have f := hI.val 7 152 rfl (hall 7 (by kernel_rfl))
                refine StepV.done rfl (wanted_free rfl) fun K hK => ?_
                exact op_move rfl (hK _ _ (Below.refl _ _) f)
              · have g : a.tmps[153]?.getD undef = .bool true := hI.val 8 153 rfl (hall 8 (by kernel_rfl))
                have e6 : a.tmps[6]?.getD undef = .pointer (some ⟨p, 0, none⟩) := hI.old 6 (unwritten_of (by kernel_rfl) d)
                refine StepV.done rfl (by rw [wanted_if (j := 8) (s := 153) (want := true) (b := true) rfl rfl g]; rfl) fun K hK => ?_
                exact op_move rfl (hK _ _ (Below.refl _ _) e6)
              · have g : a.tmps[153]?.getD undef = .bool true := hI.val 8 153 rfl (hall 8 (by kernel_rfl))
                have e10 : a.tmps[10]?.getD undef = .int .i64 (i : Nat) := hI.old 10 (unwritten_of (by kernel_rfl) d)
                refine StepV.done rfl (by rw [wanted_if (j := 8) (s := 153) (want := true) (b := true) rfl rfl g]; rfl) fun K hK => ?_
                exact op_move rfl (hK _ _ (Below.refl _ _) e10)
              · have g : a.tmps[153]?.getD undef = .bool true := hI.val 8 153 rfl (hall 8 (by kernel_rfl))
                have e154 : a.tmps[154]?.getD undef = .pointer (some ⟨p, 0, none⟩) := hI.val 9 154 rfl (hall 9 (by kernel_rfl))
                have e155 : a.tmps[155]?.getD undef = .int .i64 (i : Nat) := hI.val 10 155 rfl (hall 10 (by kernel_rfl))
                refine StepV.done rfl (by rw [wanted_if (j := 8) (s := 153) (want := true) (b := true) rfl rfl g]; rfl) fun K hK => ?_
                have C := (CS W b0).mono (R' := fun e W2 => ∃ v, e = .returned v ∧ v = .int .i64 (-1) ∧ Below W.heap.size W W2) (fun e W2 ⟨he, hb⟩ => ⟨_, he, rfl, hb⟩)
                refine op_call 14 #[.pointer (some ⟨p, 0, none⟩), .int .i64 (i : Nat)] (fun v W2 => v = .int .i64 (-1) ∧ Below W.heap.size W W2) ?_ C (fun v W2 ⟨h1, h2⟩ => hK v W2 h2 h1)
                clear hall hI hK C
                simp only [List.getElem_toArray, List.getElem_cons_zero, List.getElem_cons_succ, execOp]
                go_simp
              · have g : a.tmps[153]?.getD undef = .bool true := hI.val 8 153 rfl (hall 8 (by kernel_rfl))
                have e156 : a.tmps[156]?.getD undef = .int .i64 (-1) := hI.val 11 156 rfl (hall 11 (by kernel_rfl))
                refine StepV.done rfl (by rw [wanted_if (j := 8) (s := 153) (want := true) (b := true) rfl rfl g]; rfl) fun K hK => ?_
                clear hall hI
                refine op_run (.bool false) W ?_ (hK _ _ (Below.refl _ _) rfl)
                clear hK
                simp only [List.getElem_toArray, List.getElem_cons_zero, List.getElem_cons_succ, execOp, Act.eval]
                go_simp
              · have g : a.tmps[153]?.getD undef = .bool true := hI.val 8 153 rfl (hall 8 (by kernel_rfl))
                have f := hI.val 12 157 rfl (hall 12 (by kernel_rfl))
                refine StepV.done rfl (by rw [wanted_if (j := 8) (s := 153) (want := true) (b := true) rfl rfl g]; rfl) fun K hK => ?_
                exact op_move rfl (hK _ _ (Below.refl _ _) f)
              · have g : a.tmps[158]?.getD undef = .bool false := hI.val 13 158 rfl (hall 13 (by kernel_rfl))
                have e7 : a.tmps[7]?.getD undef = .slice (some ⟨gb, 0, none⟩) 8 8 := hI.old 7 (unwritten_of (by kernel_rfl) d)
                refine StepV.done rfl (by rw [wanted_if (j := 13) (s := 158) (want := false) (b := false) rfl rfl g]; rfl) fun K hK => ?_
                exact op_move rfl (hK _ _ (Below.refl _ _) e7)
              · have g : a.tmps[158]?.getD undef = .bool false := hI.val 13 158 rfl (hall 13 (by kernel_rfl))
                have e10 : a.tmps[10]?.getD undef = .int .i64 (i : Nat) := hI.old 10 (unwritten_of (by kernel_rfl) d)
                refine StepV.done rfl (by rw [wanted_if (j := 13) (s := 158) (want := false) (b := false) rfl rfl g]; rfl) fun K hK => ?_
                exact op_move rfl (hK _ _ (Below.refl _ _) e10)
              · have g : a.tmps[158]?.getD undef = .bool false := hI.val 13 158 rfl (hall 13 (by kernel_rfl))
                have e159 : a.tmps[159]?.getD undef = .slice (some ⟨gb, 0, none⟩) 8 8 := hI.val 14 159 rfl (hall 14 (by kernel_rfl))
                have e160 : a.tmps[160]?.getD undef = .int .i64 (i : Nat) := hI.val 15 160 rfl (hall 15 (by kernel_rfl))
                refine StepV.done rfl (by rw [wanted_if (j := 13) (s := 158) (want := false) (b := false) rfl rfl g]; rfl) fun K hK => ?_
                clear hall hI
                refine op_run (.pointer (some ⟨gb, i, none⟩)) W ?_ (hK _ _ (Below.refl _ _) rfl)
                clear hK
                simp only [List.getElem_toArray, List.getElem_cons_zero, List.getElem_cons_succ, execOp, Act.eval]
                go_simp
              · have g : a.tmps[158]?.getD undef = .bool false := hI.val 13 158 rfl (hall 13 (by kernel_rfl))
                have e161 : a.tmps[161]?.getD undef = .pointer (some ⟨gb, i, none⟩) := hI.val 16 161 rfl (hall 16 (by kernel_rfl))
                refine StepV.done rfl (by rw [wanted_if (j := 13) (s := 158) (want := false) (b := false) rfl rfl g]; rfl) fun K hK => ?_
                have k0 := (b0.cell (World.block_lt_of_cell? _ _ q0)).trans q0
                clear hall hI
                refine op_run (.int .i64 0) W ?_ (hK _ _ (Below.refl _ _) rfl)
                clear hK
                simp only [List.getElem_toArray, List.getElem_cons_zero, List.getElem_cons_succ, execOp, Act.eval]
                go_simp
              · have g : a.tmps[158]?.getD undef = .bool false := hI.val 13 158 rfl (hall 13 (by kernel_rfl))
                have e162 : a.tmps[162]?.getD undef = .int .i64 0 := hI.val 17 162 rfl (hall 17 (by kernel_rfl))
                refine StepV.done rfl (by rw [wanted_if (j := 13) (s := 158) (want := false) (b := false) rfl rfl g]; rfl) fun K hK => ?_
                clear hall hI
                refine op_run (.bool false) W ?_ (hK _ _ (Below.refl _ _) rfl)
                clear hK
                simp only [List.getElem_toArray, List.getElem_cons_zero, List.getElem_cons_succ, execOp, Act.eval]
                go_simp
              · have g : a.tmps[153]?.getD undef = .bool true := hI.val 8 153 rfl (hall 8 (by kernel_rfl))
                have e158 : a.tmps[158]?.getD undef = .bool false := hI.val 13 158 rfl (hall 13 (by kernel_rfl))
                have e163 : a.tmps[163]?.getD undef = .bool false := hI.val 18 163 rfl (hall 18 (by kernel_rfl))
                refine StepV.done rfl (by rw [wanted_if (j := 8) (s := 153) (want := true) (b := true) rfl rfl g]; rfl) fun K hK => ?_
                exact op_pick_no rfl e158 (hK _ _ (Below.refl _ _) ((eval_tmp 163).trans e163))
              · have e153 : a.tmps[153]?.getD undef = .bool true := hI.val 8 153 rfl (hall 8 (by kernel_rfl))
                have e164 : a.tmps[164]?.getD undef = .bool false := hI.val 19 164 rfl (hall 19 (by kernel_rfl))
                refine StepV.done rfl (wanted_free rfl) fun K hK => ?_
                exact op_pick_yes rfl e153 (hK _ _ (Below.refl _ _) ((eval_tmp 164).trans e164))
            case done =>
              intro a W hv hI
              obtain ⟨t, df⟩ := a
              obtain rfl : df = [] := hI.defs
              have hz : t.size = 167 := hI.size
              have b0 := hI.below
              have e165 : t[165]?.getD undef = .bool false := hv 20 165 rfl
              have e0 := hI.old 0 (unwritten_of (by kernel_rfl) _)
              have e1 := hI.old 1 (unwritten_of (by kernel_rfl) _)
              have e2 := hI.old 2 (unwritten_of (by kernel_rfl) _)
              have e3 := hI.old 3 (unwritten_of (by kernel_rfl) _)
              have e4 := hI.old 4 (unwritten_of (by kernel_rfl) _)
              have e5 := hI.old 5 (unwritten_of (by kernel_rfl) _)
              have e6 := hI.old 6 (unwritten_of (by kernel_rfl) _)
              have e7 := hI.old 7 (unwritten_of (by kernel_rfl) _)
              have e8 := hI.old 8 (unwritten_of (by kernel_rfl) _)
              have e9 := hI.old 9 (unwritten_of (by kernel_rfl) _)
              have e10 := hI.old 10 (unwritten_of (by kernel_rfl) _)
              have e11 := hI.old 11 (unwritten_of (by kernel_rfl) _)
              have e12 := hI.old 12 (unwritten_of (by kernel_rfl) _)
              have e13 := hI.old 13 (unwritten_of (by kernel_rfl) _)
              have e14 := hI.old 14 (unwritten_of (by kernel_rfl) _)
              have e15 := hI.old 15 (unwritten_of (by kernel_rfl) _)
              have e16 := hI.old 16 (unwritten_of (by kernel_rfl) _)
              have e17 := hI.old 17 (unwritten_of (by kernel_rfl) _)
              have e18 := hI.old 18 (unwritten_of (by kernel_rfl) _)
              have e19 := hI.old 19 (unwritten_of (by kernel_rfl) _)
              have e20 := hI.old 20 (unwritten_of (by kernel_rfl) _)
              have e21 := hI.old 21 (unwritten_of (by kernel_rfl) _)
              have e22 := hI.old 22 (unwritten_of (by kernel_rfl) _)
              have e23 := hI.old 23 (unwritten_of (by kernel_rfl) _)
              have e24 := hI.old 24 (unwritten_of (by kernel_rfl) _)
              have e25 := hI.old 25 (unwritten_of (by kernel_rfl) _)
              have e26 := hI.old 26 (unwritten_of (by kernel_rfl) _)
              have e27 := hI.old 27 (unwritten_of (by kernel_rfl) _)
              have e28 := hI.old 28 (unwritten_of (by kernel_rfl) _)
              have e29 := hI.old 29 (unwritten_of (by kernel_rfl) _)
              have e30 := hI.old 30 (unwritten_of (by kernel_rfl) _)
              have e31 := hI.old 31 (unwritten_of (by kernel_rfl) _)
              have e32 := hI.old 32 (unwritten_of (by kernel_rfl) _)
              have e33 := hI.old 33 (unwritten_of (by kernel_rfl) _)
              have e34 := hI.old 34 (unwritten_of (by kernel_rfl) _)
              have e35 := hI.old 35 (unwritten_of (by kernel_rfl) _)
              have e36 := hI.old 36 (unwritten_of (by kernel_rfl) _)
              have e37 := hI.old 37 (unwritten_of (by kernel_rfl) _)
              have e38 := hI.old 38 (unwritten_of (by kernel_rfl) _)
              have e39 := hI.old 39 (unwritten_of (by kernel_rfl) _)
              have e40 := hI.old 40 (unwritten_of (by kernel_rfl) _)
              have e41 := hI.old 41 (unwritten_of (by kernel_rfl) _)
              have e42 := hI.old 42 (unwritten_of (by kernel_rfl) _)
              have e43 := hI.old 43 (unwritten_of (by kernel_rfl) _)
              have e44 := hI.old 44 (unwritten_of (by kernel_rfl) _)
              have e45 := hI.old 45 (unwritten_of (by kernel_rfl) _)
              have e46 := hI.old 46 (unwritten_of (by kernel_rfl) _)
              have e47 := hI.old 47 (unwritten_of (by kernel_rfl) _)
              have e48 := hI.old 48 (unwritten_of (by kernel_rfl) _)
              have e49 := hI.old 49 (unwritten_of (by kernel_rfl) _)
              have e50 := hI.old 50 (unwritten_of (by kernel_rfl) _)
              have e51 := hI.old 51 (unwritten_of (by kernel_rfl) _)
              have e52 := hI.old 52 (unwritten_of (by kernel_rfl) _)
              have e53 := hI.old 53 (unwritten_of (by kernel_rfl) _)
              have e54 := hI.old 54 (unwritten_of (by kernel_rfl) _)
              have e55 := hI.old 55 (unwritten_of (by kernel_rfl) _)
              have e56 := hI.old 56 (unwritten_of (by kernel_rfl) _)
              have e57 := hI.old 57 (unwritten_of (by kernel_rfl) _)
              have e58 := hI.old 58 (unwritten_of (by kernel_rfl) _)
              have e59 := hI.old 59 (unwritten_of (by kernel_rfl) _)
              have e60 := hI.old 60 (unwritten_of (by kernel_rfl) _)
              have e61 := hI.old 61 (unwritten_of (by kernel_rfl) _)
              have e62 := hI.old 62 (unwritten_of (by kernel_rfl) _)
              have e63 := hI.old 63 (unwritten_of (by kernel_rfl) _)
              have e64 := hI.old 64 (unwritten_of (by kernel_rfl) _)
              have e65 := hI.old 65 (unwritten_of (by kernel_rfl) _)
              have e66 := hI.old 66 (unwritten_of (by kernel_rfl) _)
              have e67 := hI.old 67 (unwritten_of (by kernel_rfl) _)
              have e68 := hI.old 68 (unwritten_of (by kernel_rfl) _)
              have e69 := hI.old 69 (unwritten_of (by kernel_rfl) _)
              have e70 := hI.old 70 (unwritten_of (by kernel_rfl) _)
              have e71 := hI.old 71 (unwritten_of (by kernel_rfl) _)
              have e72 := hI.old 72 (unwritten_of (by kernel_rfl) _)
              have e73 := hI.old 73 (unwritten_of (by kernel_rfl) _)
              have e74 := hI.old 74 (unwritten_of (by kernel_rfl) _)
              have e75 := hI.old 75 (unwritten_of (by kernel_rfl) _)
              have e76 := hI.old 76 (unwritten_of (by kernel_rfl) _)
              have e77 := hI.old 77 (unwritten_of (by kernel_rfl) _)
              have e78 := hI.old 78 (unwritten_of (by kernel_rfl) _)
              have e79 := hI.old 79 (unwritten_of (by kernel_rfl) _)
              have e80 := hI.old 80 (unwritten_of (by kernel_rfl) _)
              have e81 := hI.old 81 (unwritten_of (by kernel_rfl) _)
              have e82 := hI.old 82 (unwritten_of (by kernel_rfl) _)
              have e83 := hI.old 83 (unwritten_of (by kernel_rfl) _)
              have e84 := hI.old 84 (unwritten_of (by kernel_rfl) _)
              have e85 := hI.old 85 (unwritten_of (by kernel_rfl) _)
              have e86 := hI.old 86 (unwritten_of (by kernel_rfl) _)
              have e87 := hI.old 87 (unwritten_of (by kernel_rfl) _)
              have e88 := hI.old 88 (unwritten_of (by kernel_rfl) _)
              have e89 := hI.old 89 (unwritten_of (by kernel_rfl) _)
              have e90 := hI.old 90 (unwritten_of (by kernel_rfl) _)
              have e91 := hI.old 91 (unwritten_of (by kernel_rfl) _)
              have e92 := hI.old 92 (unwritten_of (by kernel_rfl) _)
              have e93 := hI.old 93 (unwritten_of (by kernel_rfl) _)
              have e94 := hI.old 94 (unwritten_of (by kernel_rfl) _)
              have e95 := hI.old 95 (unwritten_of (by kernel_rfl) _)
              have e96 := hI.old 96 (unwritten_of (by kernel_rfl) _)
              have e97 := hI.old 97 (unwritten_of (by kernel_rfl) _)
              have e98 := hI.old 98 (unwritten_of (by kernel_rfl) _)
              have e99 := hI.old 99 (unwritten_of (by kernel_rfl) _)
              have e100 := hI.old 100 (unwritten_of (by kernel_rfl) _)
              have e101 := hI.old 101 (unwritten_of (by kernel_rfl) _)
              have e102 := hI.old 102 (unwritten_of (by kernel_rfl) _)
              have e103 := hI.old 103 (unwritten_of (by kernel_rfl) _)
              have e104 := hI.old 104 (unwritten_of (by kernel_rfl) _)
              have e105 := hI.old 105 (unwritten_of (by kernel_rfl) _)
              have e106 := hI.old 106 (unwritten_of (by kernel_rfl) _)
              have e107 := hI.old 107 (unwritten_of (by kernel_rfl) _)
              have e108 := hI.old 108 (unwritten_of (by kernel_rfl) _)
              have e109 := hI.old 109 (unwritten_of (by kernel_rfl) _)
              have e110 := hI.old 110 (unwritten_of (by kernel_rfl) _)
              have e111 := hI.old 111 (unwritten_of (by kernel_rfl) _)
              have e112 := hI.old 112 (unwritten_of (by kernel_rfl) _)
              have e113 := hI.old 113 (unwritten_of (by kernel_rfl) _)
              have e114 := hI.old 114 (unwritten_of (by kernel_rfl) _)
              have e115 := hI.old 115 (unwritten_of (by kernel_rfl) _)
              have e116 := hI.old 116 (unwritten_of (by kernel_rfl) _)
              have e117 := hI.old 117 (unwritten_of (by kernel_rfl) _)
              have e118 := hI.old 118 (unwritten_of (by kernel_rfl) _)
              have e119 := hI.old 119 (unwritten_of (by kernel_rfl) _)
              have e120 := hI.old 120 (unwritten_of (by kernel_rfl) _)
              have e121 := hI.old 121 (unwritten_of (by kernel_rfl) _)
              have e122 := hI.old 122 (unwritten_of (by kernel_rfl) _)
              have e123 := hI.old 123 (unwritten_of (by kernel_rfl) _)
              have e124 := hI.old 124 (unwritten_of (by kernel_rfl) _)
              have e125 := hI.old 125 (unwritten_of (by kernel_rfl) _)
              have e126 := hI.old 126 (unwritten_of (by kernel_rfl) _)
              have e127 := hI.old 127 (unwritten_of (by kernel_rfl) _)
              have e128 := hI.old 128 (unwritten_of (by kernel_rfl) _)
              have e129 := hI.old 129 (unwritten_of (by kernel_rfl) _)
              have e130 := hI.old 130 (unwritten_of (by kernel_rfl) _)
              have e131 := hI.old 131 (unwritten_of (by kernel_rfl) _)
              have e132 := hI.old 132 (unwritten_of (by kernel_rfl) _)
              have e133 := hI.old 133 (unwritten_of (by kernel_rfl) _)
              have e134 := hI.old 134 (unwritten_of (by kernel_rfl) _)
              have e135 := hI.old 135 (unwritten_of (by kernel_rfl) _)
              have e136 := hI.old 136 (unwritten_of (by kernel_rfl) _)
              have e137 := hI.old 137 (unwritten_of (by kernel_rfl) _)
              have e138 := hI.old 138 (unwritten_of (by kernel_rfl) _)
              have e139 := hI.old 139 (unwritten_of (by kernel_rfl) _)
              have e140 := hI.old 140 (unwritten_of (by kernel_rfl) _)
              have e141 := hI.old 141 (unwritten_of (by kernel_rfl) _)
              have e142 := hI.old 142 (unwritten_of (by kernel_rfl) _)
              have e143 := hI.old 143 (unwritten_of (by kernel_rfl) _)
              have e144 := hI.old 144 (unwritten_of (by kernel_rfl) _)
              have e166 := hI.old 166 (unwritten_of (by kernel_rfl) _)
              clear hv hI
              simp only [List.getElem?_toArray, List.getElem?_cons_succ, List.getElem?_cons_zero, Option.getD_some] at e0 e1 e2 e3 e4 e5 e6 e7 e8 e9 e10 e11 e12 e13 e14 e15 e16 e17 e18 e19 e20 e21 e22 e23 e24 e25 e26 e27 e28 e29 e30 e31 e32 e33 e34 e35 e36 e37 e38 e39 e40 e41 e42 e43 e44 e45 e46 e47 e48 e49 e50 e51 e52 e53 e54 e55 e56 e57 e58 e59 e60 e61 e62 e63 e64 e65 e66 e67 e68 e69 e70 e71 e72 e73 e74 e75 e76 e77 e78 e79 e80 e81 e82 e83 e84 e85 e86 e87 e88 e89 e90 e91 e92 e93 e94 e95 e96 e97 e98 e99 e100 e101 e102 e103 e104 e105 e106 e107 e108 e109 e110 e111 e112 e113 e114 e115 e116 e117 e118 e119 e120 e121 e122 e123 e124 e125 e126 e127 e128 e129 e130 e131 e132 e133 e134 e135 e136 e137 e138 e139 e140 e141 e142 e143 e144 e166
              obtain ⟨ys, hy, ht⟩ := arr_slots t 167 hz
              have hl : (slotsFrom ys 0 167).toArray = #[ys 0, ys 1, ys 2, ys 3, ys 4, ys 5, ys 6, ys 7, ys 8, ys 9, ys 10, ys 11, ys 12, ys 13, ys 14, ys 15, ys 16, ys 17, ys 18, ys 19, ys 20, ys 21, ys 22, ys 23, ys 24, ys 25, ys 26, ys 27, ys 28, ys 29, ys 30, ys 31, ys 32, ys 33, ys 34, ys 35, ys 36, ys 37, ys 38, ys 39, ys 40, ys 41, ys 42, ys 43, ys 44, ys 45, ys 46, ys 47, ys 48, ys 49, ys 50, ys 51, ys 52, ys 53, ys 54, ys 55, ys 56, ys 57, ys 58, ys 59, ys 60, ys 61, ys 62, ys 63, ys 64, ys 65, ys 66, ys 67, ys 68, ys 69, ys 70, ys 71, ys 72, ys 73, ys 74, ys 75, ys 76, ys 77, ys 78, ys 79, ys 80, ys 81, ys 82, ys 83, ys 84, ys 85, ys 86, ys 87, ys 88, ys 89, ys 90, ys 91, ys 92, ys 93, ys 94, ys 95, ys 96, ys 97, ys 98, ys 99, ys 100, ys 101, ys 102, ys 103, ys 104, ys 105, ys 106, ys 107, ys 108, ys 109, ys 110, ys 111, ys 112, ys 113, ys 114, ys 115, ys 116, ys 117, ys 118, ys 119, ys 120, ys 121, ys 122, ys 123, ys 124, ys 125, ys 126, ys 127, ys 128, ys 129, ys 130, ys 131, ys 132, ys 133, ys 134, ys 135, ys 136, ys 137, ys 138, ys 139, ys 140, ys 141, ys 142, ys 143, ys 144, ys 145, ys 146, ys 147, ys 148, ys 149, ys 150, ys 151, ys 152, ys 153, ys 154, ys 155, ys 156, ys 157, ys 158, ys 159, ys 160, ys 161, ys 162, ys 163, ys 164, ys 165, ys 166] := rfl
              rw [hy] at e0 e1 e2 e3 e4 e5 e6 e7 e8 e9 e10 e11 e12 e13 e14 e15 e16 e17 e18 e19 e20 e21 e22 e23 e24 e25 e26 e27 e28 e29 e30 e31 e32 e33 e34 e35 e36 e37 e38 e39 e40 e41 e42 e43 e44 e45 e46 e47 e48 e49 e50 e51 e52 e53 e54 e55 e56 e57 e58 e59 e60 e61 e62 e63 e64 e65 e66 e67 e68 e69 e70 e71 e72 e73 e74 e75 e76 e77 e78 e79 e80 e81 e82 e83 e84 e85 e86 e87 e88 e89 e90 e91 e92 e93 e94 e95 e96 e97 e98 e99 e100 e101 e102 e103 e104 e105 e106 e107 e108 e109 e110 e111 e112 e113 e114 e115 e116 e117 e118 e119 e120 e121 e122 e123 e124 e125 e126 e127 e128 e129 e130 e131 e132 e133 e134 e135 e136 e137 e138 e139 e140 e141 e142 e143 e144 e166 e165
              rw [ht, hl, e0, e1, e2, e3, e4, e5, e6, e7, e8, e9, e10, e11, e12, e13, e14, e15, e16, e17, e18, e19, e20, e21, e22, e23, e24, e25, e26, e27, e28, e29, e30, e31, e32, e33, e34, e35, e36, e37, e38, e39, e40, e41, e42, e43, e44, e45, e46, e47, e48, e49, e50, e51, e52, e53, e54, e55, e56, e57, e58, e59, e60, e61, e62, e63, e64, e65, e66, e67, e68, e69, e70, e71, e72, e73, e74, e75, e76, e77, e78, e79, e80, e81, e82, e83, e84, e85, e86, e87, e88, e89, e90, e91, e92, e93, e94, e95, e96, e97, e98, e99, e100, e101, e102, e103, e104, e105, e106, e107, e108, e109, e110, e111, e112, e113, e114, e115, e116, e117, e118, e119, e120, e121, e122, e123, e124, e125, e126, e127, e128, e129, e130, e131, e132, e133, e134, e135, e136, e137, e138, e139, e140, e141, e142, e143, e144, e166, e165]
              clear ht hl hz hy e0 e1 e2 e3 e4 e5 e6 e7 e8 e9 e10 e11 e12 e13 e14 e15 e16 e17 e18 e19 e20 e21 e22 e23 e24 e25 e26 e27 e28 e29 e30 e31 e32 e33 e34 e35 e36 e37 e38 e39 e40 e41 e42 e43 e44 e45 e46 e47 e48 e49 e50 e51 e52 e53 e54 e55 e56 e57 e58 e59 e60 e61 e62 e63 e64 e65 e66 e67 e68 e69 e70 e71 e72 e73 e74 e75 e76 e77 e78 e79 e80 e81 e82 e83 e84 e85 e86 e87 e88 e89 e90 e91 e92 e93 e94 e95 e96 e97 e98 e99 e100 e101 e102 e103 e104 e105 e106 e107 e108 e109 e110 e111 e112 e113 e114 e115 e116 e117 e118 e119 e120 e121 e122 e123 e124 e125 e126 e127 e128 e129 e130 e131 e132 e133 e134 e135 e136 e137 e138 e139 e140 e141 e142 e143 e144 e166 e165
              have HB := Lib.hid b0
              clear b0
              go_wp2_with fail
              refine ⟨⟨i + 1, by omega, by go_num, keeps_kept H.out HB.out, R.out.kept HB.out, T.out.trans (Turned.of_below HB.out)⟩, by simp [intOf]; omega⟩
        case neg =>
          go_wp2_with fail
          go_ret
          exact ⟨rfl, Turned.below BN3.out T.out BN3.out.size (fun k hk => by have := HP.out; omega)⟩
theorem own_EpochOne : ownKnob Try.prog.godebug = none := by kernel_rfl
set_option maxRecDepth 100000 in
set_option maxHeartbeats 800000 in
theorem lifted_EpochOne (os : Os) (started : os.Started) (H : Type) (enc : TypeId × Value → H) :
    ReturnsInHanded {} Try.checked os 4 .any (Rows.epochOneSpec.pre6 enc Try.prog Try.f4 Rows.epochOneRow.domain false) (Rows.epochOneSpec.post enc Try.prog Try.f4 false true false false) := by
  refine returnsInHanded_of_change (C := Try.checked) own_EpochOne started (by kernel_rfl) Try.func4
    (ChangeSpec.witness6 (enc := enc) (C := Try.checked) false ⟨#[], #[.int .i64 0, .slice none 0 0], []⟩ 8 (by kernel_rfl) (by kernel_rfl) (by kernel_rfl) (by kernel_rfl)) ?_
  intro W base args ds gs before hval0 hW _ _
  have hval : ∀ (j : Nat) t v, Try.f4.params[j]? = some t → args[j]? = some v → Value.okWide Try.prog W .any base t v := hval0
  have hW' := hW
  obtain ⟨p, q, hA0, hV, rfl, _, _⟩ := hW
  have hA : DataW.TrodAll enc Try.prog W 0 (fun _ => true) true Try.f4.params.toList args.toList ds p := hA0
  rw [Try.params4] at hA hval
  obtain ⟨v0, vs0, d0, ds0, p0, q0, ha0, rfl, rfl, t0, r0⟩ := trodAll_cons hA
  obtain ⟨v1, vs1, d1, ds1, p1, q1, ha1, rfl, rfl, t1, r1⟩ := trodAll_cons r0
  obtain ⟨rfl, rfl, rfl⟩ := trodAll_nil r1
  subst ha1
  obtain rfl : args = #[v0, v1] := by cases args; simp_all
  obtain ⟨rfl, rfl⟩ := trodVars_none hV
  obtain ⟨a0, rfl, rfl, rfl, h0⟩ := open_int Try.underlying3 (hval 0 3 v0 rfl rfl) t0
  have k1 := t1
  have lt1 : ∀ x ∈ p1, x.block < W.heap.size := by obtain ⟨m, hm⟩ := k1; exact DataW.trod_lt m _ _ _ hm
  obtain ⟨a1, c1, z1, rfl, h1, g1⟩ := Sten.open_eacts (hval 1 22 v1 rfl rfl) t1
  clear hA0 hval0
  refine (walk_EpochOne a0 a1 c1 z1 W h0 h1 g1).mono fun e W' ⟨he, hnx⟩ => ?_
  subst he
  exact ⟨_, rfl, ⟨_, _, _, [], _, [], hW', trodAll_cons_mk (shut_bool Try.underlying4 _) trodAll_mk0, (trodAll_cons_mk (shut_int Try.underlying3 h0) (trodAll_cons_mk (Below.trod Sten.laidOut (by kernel_rfl) (of_decide_eq_true (by kernel_rfl)) k1 hnx lt1) trodAll_mk0)), rfl, hnx.frame _, fun h => by cases h⟩⟩

theorem epochOne_holds : Rows.EpochOneSaid :=
  OpenClaim.holds_of_wide 4 Try.f4 rfl rfl rfl rfl rfl rfl rfl ⟨rfl, rfl, rfl, rfl, rfl⟩ rfl rfl rfl rfl rfl (by kernel_rfl) Try.func4 (by kernel_rfl)
    (of_decide_eq_true (by kernel_rfl)) (by unfold Func.isWrapper; first | (rw [if_pos (by decide +kernel)]; kernel_rfl) | (rw [if_neg (by decide +kernel)]; exact ⟨rfl, rfl⟩))
    (fun os started H enc _ => lifted_EpochOne os started H enc)

#print axioms epochOne_holds
end Go.Proofs.Ythokjkllmflgkaa
