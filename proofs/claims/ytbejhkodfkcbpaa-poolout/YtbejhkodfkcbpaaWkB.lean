/-
  Pools: the document's examples.
-/
import Derived.Test.YtbejhkodfkcbpaaWkA
namespace Go.Proofs.Ytbejhkodfkcbpaa.Pol
open Go.RowKit Go.Shelf Rgn

set_option maxRecDepth 100000 in
set_option maxHeartbeats 8000000 in
theorem works_any (w : World) : Calls Try.prog 9 #[] w fun e W' => e = .returned (.bool true) ∧ Below w.heap.size w W' := by
  have k10 : ((w.alloc (Obj.cells #[Value.int IntKind.i64 1, Value.int IntKind.i64 1] 24)).alloc (Obj.cells #[Value.int IntKind.i64 1, Value.int IntKind.i64 2] 24)).cell? ⟨w.heap.size, 0, none⟩ = some (.int .i64 (1, 1).1) := by simp
  have k11 : ((w.alloc (Obj.cells #[Value.int IntKind.i64 1, Value.int IntKind.i64 1] 24)).alloc (Obj.cells #[Value.int IntKind.i64 1, Value.int IntKind.i64 2] 24)).cell? ⟨w.heap.size, 1, none⟩ = some (.int .i64 (1, 1).2) := by simp
  have k20 : ((w.alloc (Obj.cells #[Value.int IntKind.i64 1, Value.int IntKind.i64 1] 24)).alloc (Obj.cells #[Value.int IntKind.i64 1, Value.int IntKind.i64 2] 24)).cell? ⟨w.heap.size + 1, 0, none⟩ = some (.int .i64 (1, 2).1) := by simp
  have k21 : ((w.alloc (Obj.cells #[Value.int IntKind.i64 1, Value.int IntKind.i64 1] 24)).alloc (Obj.cells #[Value.int IntKind.i64 1, Value.int IntKind.i64 2] 24)).cell? ⟨w.heap.size + 1, 1, none⟩ = some (.int .i64 (1, 2).2) := by simp
  have B1 := Lib.hid (show Below w.heap.size w ((w.alloc (Obj.cells #[Value.int IntKind.i64 1, Value.int IntKind.i64 1] 24)).alloc (Obj.cells #[Value.int IntKind.i64 1, Value.int IntKind.i64 2] 24)) from ((Below.refl _ w).alloc (Nat.le_refl _) _).alloc (by simp) _)
  go_enter Try.func9, Try.ntmps9
  go_wp2_with fail
  generalize ((w.alloc (Obj.cells #[Value.int IntKind.i64 1, Value.int IntKind.i64 1] 24)).alloc (Obj.cells #[Value.int IntKind.i64 1, Value.int IntKind.i64 2] 24)) = w1 at *
  generalize hs1 : w.heap.size = s1 at *
  refine wp_region_val (spV [.is (bkV (1, 1)), .pool [(1, 1)], .is (bkV (1, 2)), .pool (with_ [(1, 1)] (1, 2)), .is (bkV (1, 2)), .pool [(1, 2)], .is (.bool true), .is (.bool true)]) (spV_kept _) (by kernel_rfl) (by kernel_rfl) (by kernel_rfl) ?step ?done
  case step =>
    intro d a W i hi hall hI
    replace hi : i < 8 := hi
    have b0 := hI.below
    obtain rfl | rfl | rfl | rfl | rfl | rfl | rfl | rfl : i = 0 ∨ i = 1 ∨ i = 2 ∨ i = 3 ∨ i = 4 ∨ i = 5 ∨ i = 6 ∨ i = 7 := by omega
    · have e1 : a.tmps[1]?.getD undef = .pointer (some ⟨s1, 0, none⟩) := hI.old 1 (unwritten_of (by kernel_rfl) d)
      have c0 := (b0.cell (World.block_lt_of_cell? _ _ k10)).trans k10
      have c1 := (b0.cell (World.block_lt_of_cell? _ _ k11)).trans k11
      refine StepV.done rfl (wanted_free rfl) fun K hK => ?_
      clear hall hI
      refine op_run (bkV (1, 1)) W ?_ (hK _ _ (Below.refl _ _) rfl)
      clear hK
      simp only [List.getElem_toArray, List.getElem_cons_zero, execOp, Act.eval]
      go_simp
    · have e7 : a.tmps[7]?.getD undef = bkV (1, 1) := hI.val 0 7 rfl (hall 0 (by kernel_rfl))
      refine StepV.done rfl (wanted_free rfl) fun K hK => ?_
      clear hall hI
      refine op_run (.slice (some ⟨W.heap.size, 0, none⟩) 1 1) (W.alloc (.cells #[.int .i64 ((1, 1) : Bk).1, .int .i64 ((1, 1) : Bk).2] 24)) ?_ (hK _ _ (below_alloc _ _) ⟨_, _, rfl, lies_new1 W (1, 1)⟩)
      clear hK
      simp only [List.getElem_toArray, List.getElem_cons_zero, List.getElem_cons_succ, execOp, Act.eval]
      go_simp
    · have e2 : a.tmps[2]?.getD undef = .pointer (some ⟨(s1 + 1), 0, none⟩) := hI.old 2 (unwritten_of (by kernel_rfl) d)
      have c0 := (b0.cell (World.block_lt_of_cell? _ _ k20)).trans k20
      have c1 := (b0.cell (World.block_lt_of_cell? _ _ k21)).trans k21
      refine StepV.done rfl (wanted_free rfl) fun K hK => ?_
      clear hall hI
      refine op_run (bkV (1, 2)) W ?_ (hK _ _ (Below.refl _ _) rfl)
      clear hK
      simp only [List.getElem_toArray, List.getElem_cons_zero, List.getElem_cons_succ, execOp, Act.eval]
      go_simp
    · obtain ⟨p8, q8, e8, l8⟩ : ∃ p c, a.tmps[8]?.getD undef = polV p c [(1, 1)] ∧ Lies W p c [(1, 1)] := hI.val 1 8 rfl (hall 1 (by kernel_rfl))
      have e9 : a.tmps[9]?.getD undef = bkV (1, 2) := hI.val 2 9 rfl (hall 2 (by kernel_rfl))
      refine StepV.done rfl (wanted_free rfl) fun K hK => ?_
      have C := (With_told p8 q8 [(1, 1)] (1, 2) W l8 (by simp)).mono (R' := fun e W2 => ∃ v, e = .returned v ∧ (∃ p c, v = polV p c (with_ [(1, 1)] (1, 2)) ∧ Lies W2 p c (with_ [(1, 1)] (1, 2))) ∧ Below W.heap.size W W2) (fun e W2 ⟨v, he, hg, hb⟩ => ⟨v, he, hg, hb⟩)
      refine op_call 13 #[polV p8 q8 [(1, 1)], bkV (1, 2)] (fun v W2 => (∃ p c, v = polV p c (with_ [(1, 1)] (1, 2)) ∧ Lies W2 p c (with_ [(1, 1)] (1, 2))) ∧ Below W.heap.size W W2) ?_ C (fun v W2 ⟨h1, h2⟩ => hK v W2 h2 h1)
      clear hall hI hK C
      simp only [List.getElem_toArray, List.getElem_cons_zero, List.getElem_cons_succ, execOp]
      go_simp
    · have e2 : a.tmps[2]?.getD undef = .pointer (some ⟨(s1 + 1), 0, none⟩) := hI.old 2 (unwritten_of (by kernel_rfl) d)
      have c0 := (b0.cell (World.block_lt_of_cell? _ _ k20)).trans k20
      have c1 := (b0.cell (World.block_lt_of_cell? _ _ k21)).trans k21
      refine StepV.done rfl (wanted_free rfl) fun K hK => ?_
      clear hall hI
      refine op_run (bkV (1, 2)) W ?_ (hK _ _ (Below.refl _ _) rfl)
      clear hK
      simp only [List.getElem_toArray, List.getElem_cons_zero, List.getElem_cons_succ, execOp, Act.eval]
      go_simp
    · have e11 : a.tmps[11]?.getD undef = bkV (1, 2) := hI.val 4 11 rfl (hall 4 (by kernel_rfl))
      refine StepV.done rfl (wanted_free rfl) fun K hK => ?_
      clear hall hI
      refine op_run (.slice (some ⟨W.heap.size, 0, none⟩) 1 1) (W.alloc (.cells #[.int .i64 ((1, 2) : Bk).1, .int .i64 ((1, 2) : Bk).2] 24)) ?_ (hK _ _ (below_alloc _ _) ⟨_, _, rfl, lies_new1 W (1, 2)⟩)
      clear hK
      simp only [List.getElem_toArray, List.getElem_cons_zero, List.getElem_cons_succ, execOp, Act.eval]
      go_simp
    · obtain ⟨p10, q10, e10, l10⟩ : ∃ p c, a.tmps[10]?.getD undef = polV p c (with_ [(1, 1)] (1, 2)) ∧ Lies W p c (with_ [(1, 1)] (1, 2)) := hI.val 3 10 rfl (hall 3 (by kernel_rfl))
      obtain ⟨p12, q12, e12, l12⟩ : ∃ p c, a.tmps[12]?.getD undef = polV p c [(1, 2)] ∧ Lies W p c [(1, 2)] := hI.val 5 12 rfl (hall 5 (by kernel_rfl))
      refine StepV.done rfl (wanted_free rfl) fun K hK => ?_
      have C := (refSame_any p10 q10 (with_ [(1, 1)] (1, 2)) p12 q12 [(1, 2)] true (by decide) W l10 l12).mono (R' := fun e W2 => ∃ v, e = .returned v ∧ v = .bool true ∧ Below W.heap.size W W2) (fun e W2 ⟨he, hb⟩ => ⟨_, he, rfl, hb⟩)
      refine op_call 10 #[polV p10 q10 (with_ [(1, 1)] (1, 2)), polV p12 q12 [(1, 2)]] (fun v W2 => v = .bool true ∧ Below W.heap.size W W2) ?_ C (fun v W2 ⟨h1, h2⟩ => hK v W2 h2 h1)
      clear hall hI hK C
      simp only [List.getElem_toArray, List.getElem_cons_zero, List.getElem_cons_succ, execOp]
      go_simp
    · have f := hI.val 6 13 rfl (hall 6 (by kernel_rfl))
      refine StepV.done rfl (wanted_free rfl) fun K hK => ?_
      exact op_assign rfl (hK _ _ (Below.refl _ _) f)
  case done =>
    intro a W hv hI
    obtain ⟨t, df⟩ := a
    obtain rfl : df = [] := hI.defs
    have hz : t.size = 65 := hI.size
    have b0 := hI.below
    have e1 : t[1]?.getD undef = .pointer (some ⟨s1, 0, none⟩) := hI.old 1 (unwritten_of (by kernel_rfl) _)
    have e2 : t[2]?.getD undef = .pointer (some ⟨(s1 + 1), 0, none⟩) := hI.old 2 (unwritten_of (by kernel_rfl) _)
    have e3 : t[3]?.getD undef = .bool true := hv 7 3 rfl
    clear hv hI
    obtain ⟨y, hy, ht⟩ := arr_slots t 65 hz
    have hl : (slotsFrom y 0 65).toArray = #[y 0, y 1, y 2, y 3, y 4, y 5, y 6, y 7, y 8, y 9, y 10, y 11, y 12, y 13, y 14, y 15, y 16, y 17, y 18, y 19, y 20, y 21, y 22, y 23, y 24, y 25, y 26, y 27, y 28, y 29, y 30, y 31, y 32, y 33, y 34, y 35, y 36, y 37, y 38, y 39, y 40, y 41, y 42, y 43, y 44, y 45, y 46, y 47, y 48, y 49, y 50, y 51, y 52, y 53, y 54, y 55, y 56, y 57, y 58, y 59, y 60, y 61, y 62, y 63, y 64] := rfl
    rw [hy] at e1
    rw [hy] at e2
    rw [hy] at e3
    rw [ht, hl, e1, e2, e3]
    clear ht hl hz hy e1 e2 e3
    have m10 := (b0.cell (World.block_lt_of_cell? _ _ k10)).trans k10
    have m11 := (b0.cell (World.block_lt_of_cell? _ _ k11)).trans k11
    have m20 := (b0.cell (World.block_lt_of_cell? _ _ k20)).trans k20
    have m21 := (b0.cell (World.block_lt_of_cell? _ _ k21)).trans k21
    have B2 := Lib.hid (B1.out.trans (b0.mono (by have := B1.out.size; omega)))
    clear k10 k11 k20 k21 b0 B1
    have G := Lib.hid (fun W0 => Gone_told (some ⟨W0.heap.size, 0, none⟩) 1 [(1, 1)] none 0 [] (W0.alloc (.cells #[.int .i64 1, .int .i64 1] 24)) (lies_new1 W0 (1, 1)) (lies_nil _) (by simp) (by simp [Lit.wf]; decide) (by simp))
    go_wp2_with fail
    refine (G.out W).mono ?_
    rintro e w3 ⟨v, rfl, ⟨a3, c3, rfl, h3⟩, hb3⟩
    have al := below_alloc W (.cells #[.int .i64 1, .int .i64 1] 24)
    have b3 := below2 al hb3
    have I3 := Lib.hid (refInts_any a3 c3 (gone [(1, 1)] []) (some ⟨w3.heap.size, 0, none⟩) 1 [1] true (by decide) (w3.alloc (.cells #[.int .i64 1] 3)) (h3.kept (below_alloc _ _)) (liesI_new1 w3 1))
    have n10 := (b3.cell (World.block_lt_of_cell? _ _ m10)).trans m10
    have n11 := (b3.cell (World.block_lt_of_cell? _ _ m11)).trans m11
    have n20 := (b3.cell (World.block_lt_of_cell? _ _ m20)).trans m20
    have n21 := (b3.cell (World.block_lt_of_cell? _ _ m21)).trans m21
    have al3 := below_alloc w3 (.cells #[.int .i64 1] 3)
    have o10 := (al3.cell (World.block_lt_of_cell? _ _ n10)).trans n10
    have o11 := (al3.cell (World.block_lt_of_cell? _ _ n11)).trans n11
    have o20 := (al3.cell (World.block_lt_of_cell? _ _ n20)).trans n20
    have o21 := (al3.cell (World.block_lt_of_cell? _ _ n21)).trans n21
    have hsz := B2.out.size
    have B3 := Lib.hid ((B2.out.trans (b3.mono (by omega))).trans (al3.mono (by have := b3.size; omega)))
    clear G al b3 hb3 h3 m10 m11 m20 m21 n10 n11 n20 n21 al3 hsz
    go_wp2_with fail
    generalize w3.alloc (.cells #[.int .i64 1] 3) = w4 at *
    refine I3.out.mono ?_
    rintro e w5 ⟨rfl, hb5⟩
    have k10 := (hb5.cell (World.block_lt_of_cell? _ _ o10)).trans o10
    have k11 := (hb5.cell (World.block_lt_of_cell? _ _ o11)).trans o11
    have k20 := (hb5.cell (World.block_lt_of_cell? _ _ o20)).trans o20
    have k21 := (hb5.cell (World.block_lt_of_cell? _ _ o21)).trans o21
    have B5 := Lib.hid (B3.out.trans (hb5.mono (by have := B3.out.size; omega)))
    clear hb5 I3 o10 o11 o20 o21 B2 B3
    go_wp2_with fail
    refine wp_region_val (spV [.is (.int .i64 0), .is (.bool true), .is (.bool true), .is (bkV (1, 1)), .is (bkV (1, 2)), .pool [(1, 1), (1, 2)], .is (.int .i64 10), .is (.bool true), .is (.bool true), .is (.bool true), .is (bkV (1, 1)), .pool [(1, 1)], .is (.int .i64 0), .is (.bool true), .is (.bool true), .is (.bool true), .is (bkV (1, 1)), .pool [(1, 1)], .is (.int .i64 0), .is (.bool true), .is (.bool true), .is (.bool true), .is (.int .i64 (-1)), .is (.bool true), .is (.bool true), .is (.bool true), .is (.bool true), .is (.bool true), .is (.bool true), .is (.bool true), .is (.bool true), .is (.bool true), .is (bkV (1, 1)), .pool [(1, 1)], .pool [], .is (.int .i64 0), .is (.bool true), .is (.bool true), .is (.bool true), .is (bkV (1, 1)), .pool [(1, 1)], .is (bkV (1, 1)), .pool [(1, 1)], .pool [(1, 1)], .is (.bool true), .is (.bool true), .is (.bool true)]) (spV_kept _) (by kernel_rfl) (by kernel_rfl) (by kernel_rfl) ?step ?done
    case step =>
      intro d a W i hi hall hI
      replace hi : i < 47 := hi
      have b0 := hI.below
      obtain rfl | rfl | rfl | rfl | rfl | rfl | rfl | rfl | rfl | rfl | rfl | rfl | rfl | rfl | rfl | rfl | rfl | rfl | rfl | rfl | rfl | rfl | rfl | rfl | rfl | rfl | rfl | rfl | rfl | rfl | rfl | rfl | rfl | rfl | rfl | rfl | rfl | rfl | rfl | rfl | rfl | rfl | rfl | rfl | rfl | rfl | rfl : i = 0 ∨ i = 1 ∨ i = 2 ∨ i = 3 ∨ i = 4 ∨ i = 5 ∨ i = 6 ∨ i = 7 ∨ i = 8 ∨ i = 9 ∨ i = 10 ∨ i = 11 ∨ i = 12 ∨ i = 13 ∨ i = 14 ∨ i = 15 ∨ i = 16 ∨ i = 17 ∨ i = 18 ∨ i = 19 ∨ i = 20 ∨ i = 21 ∨ i = 22 ∨ i = 23 ∨ i = 24 ∨ i = 25 ∨ i = 26 ∨ i = 27 ∨ i = 28 ∨ i = 29 ∨ i = 30 ∨ i = 31 ∨ i = 32 ∨ i = 33 ∨ i = 34 ∨ i = 35 ∨ i = 36 ∨ i = 37 ∨ i = 38 ∨ i = 39 ∨ i = 40 ∨ i = 41 ∨ i = 42 ∨ i = 43 ∨ i = 44 ∨ i = 45 ∨ i = 46 := by omega
      · refine StepV.done rfl (wanted_free rfl) fun K hK => ?_
        have C := (Check_told none 0 [] true (by simp [chk_iff]) W (lies_nil _)).mono (R' := fun e W2 => ∃ v, e = .returned v ∧ v = .int .i64 0 ∧ Below W.heap.size W W2) (fun e W2 ⟨he, hb⟩ => ⟨_, he, rfl, hb⟩)
        refine op_call 20 #[polV none 0 []] (fun v W2 => v = .int .i64 0 ∧ Below W.heap.size W W2) ?_ C (fun v W2 ⟨h1, h2⟩ => hK v W2 h2 h1)
        clear hall hI hK C
        simp only [List.getElem_toArray, List.getElem_cons_zero, execOp]
        go_simp
      · have e19 : a.tmps[19]?.getD undef = .int .i64 0 := hI.val 0 19 rfl (hall 0 (by kernel_rfl))
        refine StepV.done rfl (wanted_free rfl) fun K hK => ?_
        clear hall hI
        refine op_run (.bool true) W ?_ (hK _ _ (Below.refl _ _) rfl)
        clear hK
        simp only [List.getElem_toArray, List.getElem_cons_zero, List.getElem_cons_succ, execOp, Act.eval]
        go_simp
      · have f := hI.val 1 20 rfl (hall 1 (by kernel_rfl))
        refine StepV.done rfl (wanted_free rfl) fun K hK => ?_
        exact op_move rfl (hK _ _ (Below.refl _ _) f)
      · have g : a.tmps[21]?.getD undef = .bool true := hI.val 2 21 rfl (hall 2 (by kernel_rfl))
        have e1 : a.tmps[1]?.getD undef = .pointer (some ⟨s1, 0, none⟩) := hI.old 1 (unwritten_of (by kernel_rfl) d)
        have c0 := (b0.cell (World.block_lt_of_cell? _ _ k10)).trans k10
        have c1 := (b0.cell (World.block_lt_of_cell? _ _ k11)).trans k11
        refine StepV.done rfl (by rw [wanted_if (j := 2) (s := 21) (want := true) (b := true) rfl rfl g]; rfl) fun K hK => ?_
        clear hall hI
        refine op_run (bkV (1, 1)) W ?_ (hK _ _ (Below.refl _ _) rfl)
        clear hK
        simp only [List.getElem_toArray, List.getElem_cons_zero, List.getElem_cons_succ, execOp, Act.eval]
        go_simp
      · have g : a.tmps[21]?.getD undef = .bool true := hI.val 2 21 rfl (hall 2 (by kernel_rfl))
        have e2 : a.tmps[2]?.getD undef = .pointer (some ⟨(s1 + 1), 0, none⟩) := hI.old 2 (unwritten_of (by kernel_rfl) d)
        have c0 := (b0.cell (World.block_lt_of_cell? _ _ k20)).trans k20
        have c1 := (b0.cell (World.block_lt_of_cell? _ _ k21)).trans k21
        refine StepV.done rfl (by rw [wanted_if (j := 2) (s := 21) (want := true) (b := true) rfl rfl g]; rfl) fun K hK => ?_
        clear hall hI
        refine op_run (bkV (1, 2)) W ?_ (hK _ _ (Below.refl _ _) rfl)
        clear hK
        simp only [List.getElem_toArray, List.getElem_cons_zero, List.getElem_cons_succ, execOp, Act.eval]
        go_simp
      · have g : a.tmps[21]?.getD undef = .bool true := hI.val 2 21 rfl (hall 2 (by kernel_rfl))
        have e22 : a.tmps[22]?.getD undef = bkV (1, 1) := hI.val 3 22 rfl (hall 3 (by kernel_rfl))
        have e23 : a.tmps[23]?.getD undef = bkV (1, 2) := hI.val 4 23 rfl (hall 4 (by kernel_rfl))
        refine StepV.done rfl (by rw [wanted_if (j := 2) (s := 21) (want := true) (b := true) rfl rfl g]; rfl) fun K hK => ?_
        clear hall hI
        refine op_run (.slice (some ⟨W.heap.size, 0, none⟩) 2 2) (W.alloc (.cells #[.int .i64 ((1, 1) : Bk).1, .int .i64 ((1, 1) : Bk).2, .int .i64 ((1, 2) : Bk).1, .int .i64 ((1, 2) : Bk).2] 24)) ?_ (hK _ _ (below_alloc _ _) ⟨_, _, rfl, lies_new2 W (1, 1) (1, 2)⟩)
        clear hK
        simp only [List.getElem_toArray, List.getElem_cons_zero, List.getElem_cons_succ, execOp, Act.eval]
        go_simp
      · have g : a.tmps[21]?.getD undef = .bool true := hI.val 2 21 rfl (hall 2 (by kernel_rfl))
        obtain ⟨p24, q24, e24, l24⟩ : ∃ p c, a.tmps[24]?.getD undef = polV p c [(1, 1), (1, 2)] ∧ Lies W p c [(1, 1), (1, 2)] := hI.val 5 24 rfl (hall 5 (by kernel_rfl))
        refine StepV.done rfl (by rw [wanted_if (j := 2) (s := 21) (want := true) (b := true) rfl rfl g]; rfl) fun K hK => ?_
        have C := (Check_told p24 q24 [(1, 1), (1, 2)] false (by simp [chk_iff]) W l24).mono (R' := fun e W2 => ∃ v, e = .returned v ∧ v = .int .i64 10 ∧ Below W.heap.size W W2) (fun e W2 ⟨he, hb⟩ => ⟨_, he, rfl, hb⟩)
        refine op_call 20 #[polV p24 q24 [(1, 1), (1, 2)]] (fun v W2 => v = .int .i64 10 ∧ Below W.heap.size W W2) ?_ C (fun v W2 ⟨h1, h2⟩ => hK v W2 h2 h1)
        clear hall hI hK C
        simp only [List.getElem_toArray, List.getElem_cons_zero, List.getElem_cons_succ, execOp]
        go_simp
      · have g : a.tmps[21]?.getD undef = .bool true := hI.val 2 21 rfl (hall 2 (by kernel_rfl))
        have e25 : a.tmps[25]?.getD undef = .int .i64 10 := hI.val 6 25 rfl (hall 6 (by kernel_rfl))
        refine StepV.done rfl (by rw [wanted_if (j := 2) (s := 21) (want := true) (b := true) rfl rfl g]; rfl) fun K hK => ?_
        clear hall hI
        refine op_run (.bool true) W ?_ (hK _ _ (Below.refl _ _) rfl)
        clear hK
        simp only [List.getElem_toArray, List.getElem_cons_zero, List.getElem_cons_succ, execOp, Act.eval]
        go_simp
      · have e21 : a.tmps[21]?.getD undef = .bool true := hI.val 2 21 rfl (hall 2 (by kernel_rfl))
        have e26 : a.tmps[26]?.getD undef = .bool true := hI.val 7 26 rfl (hall 7 (by kernel_rfl))
        refine StepV.done rfl (wanted_free rfl) fun K hK => ?_
        exact op_pick_yes rfl e21 (hK _ _ (Below.refl _ _) ((eval_tmp 26).trans e26))
      · have f := hI.val 8 27 rfl (hall 8 (by kernel_rfl))
        refine StepV.done rfl (wanted_free rfl) fun K hK => ?_
        exact op_move rfl (hK _ _ (Below.refl _ _) f)
      · have g : a.tmps[28]?.getD undef = .bool true := hI.val 9 28 rfl (hall 9 (by kernel_rfl))
        have e1 : a.tmps[1]?.getD undef = .pointer (some ⟨s1, 0, none⟩) := hI.old 1 (unwritten_of (by kernel_rfl) d)
        have c0 := (b0.cell (World.block_lt_of_cell? _ _ k10)).trans k10
        have c1 := (b0.cell (World.block_lt_of_cell? _ _ k11)).trans k11
        refine StepV.done rfl (by rw [wanted_if (j := 9) (s := 28) (want := true) (b := true) rfl rfl g]; rfl) fun K hK => ?_
        clear hall hI
        refine op_run (bkV (1, 1)) W ?_ (hK _ _ (Below.refl _ _) rfl)
        clear hK
        simp only [List.getElem_toArray, List.getElem_cons_zero, List.getElem_cons_succ, execOp, Act.eval]
        go_simp
      · have g : a.tmps[28]?.getD undef = .bool true := hI.val 9 28 rfl (hall 9 (by kernel_rfl))
        have e29 : a.tmps[29]?.getD undef = bkV (1, 1) := hI.val 10 29 rfl (hall 10 (by kernel_rfl))
        refine StepV.done rfl (by rw [wanted_if (j := 9) (s := 28) (want := true) (b := true) rfl rfl g]; rfl) fun K hK => ?_
        clear hall hI
        refine op_run (.slice (some ⟨W.heap.size, 0, none⟩) 1 1) (W.alloc (.cells #[.int .i64 ((1, 1) : Bk).1, .int .i64 ((1, 1) : Bk).2] 24)) ?_ (hK _ _ (below_alloc _ _) ⟨_, _, rfl, lies_new1 W (1, 1)⟩)
        clear hK
        simp only [List.getElem_toArray, List.getElem_cons_zero, List.getElem_cons_succ, execOp, Act.eval]
        go_simp
      · have g : a.tmps[28]?.getD undef = .bool true := hI.val 9 28 rfl (hall 9 (by kernel_rfl))
        obtain ⟨p30, q30, e30, l30⟩ : ∃ p c, a.tmps[30]?.getD undef = polV p c [(1, 1)] ∧ Lies W p c [(1, 1)] := hI.val 11 30 rfl (hall 11 (by kernel_rfl))
        refine StepV.done rfl (by rw [wanted_if (j := 9) (s := 28) (want := true) (b := true) rfl rfl g]; rfl) fun K hK => ?_
        have C := (Check_told p30 q30 [(1, 1)] true (by simp [chk_iff, rng]) W l30).mono (R' := fun e W2 => ∃ v, e = .returned v ∧ v = .int .i64 0 ∧ Below W.heap.size W W2) (fun e W2 ⟨he, hb⟩ => ⟨_, he, rfl, hb⟩)
        refine op_call 20 #[polV p30 q30 [(1, 1)]] (fun v W2 => v = .int .i64 0 ∧ Below W.heap.size W W2) ?_ C (fun v W2 ⟨h1, h2⟩ => hK v W2 h2 h1)
        clear hall hI hK C
        simp only [List.getElem_toArray, List.getElem_cons_zero, List.getElem_cons_succ, execOp]
        go_simp
      · have g : a.tmps[28]?.getD undef = .bool true := hI.val 9 28 rfl (hall 9 (by kernel_rfl))
        have e31 : a.tmps[31]?.getD undef = .int .i64 0 := hI.val 12 31 rfl (hall 12 (by kernel_rfl))
        refine StepV.done rfl (by rw [wanted_if (j := 9) (s := 28) (want := true) (b := true) rfl rfl g]; rfl) fun K hK => ?_
        clear hall hI
        refine op_run (.bool true) W ?_ (hK _ _ (Below.refl _ _) rfl)
        clear hK
        simp only [List.getElem_toArray, List.getElem_cons_zero, List.getElem_cons_succ, execOp, Act.eval]
        go_simp
      · have e28 : a.tmps[28]?.getD undef = .bool true := hI.val 9 28 rfl (hall 9 (by kernel_rfl))
        have e32 : a.tmps[32]?.getD undef = .bool true := hI.val 13 32 rfl (hall 13 (by kernel_rfl))
        refine StepV.done rfl (wanted_free rfl) fun K hK => ?_
        exact op_pick_yes rfl e28 (hK _ _ (Below.refl _ _) ((eval_tmp 32).trans e32))
      · have f := hI.val 14 33 rfl (hall 14 (by kernel_rfl))
        refine StepV.done rfl (wanted_free rfl) fun K hK => ?_
        exact op_move rfl (hK _ _ (Below.refl _ _) f)
      · have g : a.tmps[34]?.getD undef = .bool true := hI.val 15 34 rfl (hall 15 (by kernel_rfl))
        have e1 : a.tmps[1]?.getD undef = .pointer (some ⟨s1, 0, none⟩) := hI.old 1 (unwritten_of (by kernel_rfl) d)
        have c0 := (b0.cell (World.block_lt_of_cell? _ _ k10)).trans k10
        have c1 := (b0.cell (World.block_lt_of_cell? _ _ k11)).trans k11
        refine StepV.done rfl (by rw [wanted_if (j := 15) (s := 34) (want := true) (b := true) rfl rfl g]; rfl) fun K hK => ?_
        clear hall hI
        refine op_run (bkV (1, 1)) W ?_ (hK _ _ (Below.refl _ _) rfl)
        clear hK
        simp only [List.getElem_toArray, List.getElem_cons_zero, List.getElem_cons_succ, execOp, Act.eval]
        go_simp
      · have g : a.tmps[34]?.getD undef = .bool true := hI.val 15 34 rfl (hall 15 (by kernel_rfl))
        have e35 : a.tmps[35]?.getD undef = bkV (1, 1) := hI.val 16 35 rfl (hall 16 (by kernel_rfl))
        refine StepV.done rfl (by rw [wanted_if (j := 15) (s := 34) (want := true) (b := true) rfl rfl g]; rfl) fun K hK => ?_
        clear hall hI
        refine op_run (.slice (some ⟨W.heap.size, 0, none⟩) 1 1) (W.alloc (.cells #[.int .i64 ((1, 1) : Bk).1, .int .i64 ((1, 1) : Bk).2] 24)) ?_ (hK _ _ (below_alloc _ _) ⟨_, _, rfl, lies_new1 W (1, 1)⟩)
        clear hK
        simp only [List.getElem_toArray, List.getElem_cons_zero, List.getElem_cons_succ, execOp, Act.eval]
        go_simp
      · have g : a.tmps[34]?.getD undef = .bool true := hI.val 15 34 rfl (hall 15 (by kernel_rfl))
        obtain ⟨p36, q36, e36, l36⟩ : ∃ p c, a.tmps[36]?.getD undef = polV p c [(1, 1)] ∧ Lies W p c [(1, 1)] := hI.val 17 36 rfl (hall 17 (by kernel_rfl))
        refine StepV.done rfl (by rw [wanted_if (j := 15) (s := 34) (want := true) (b := true) rfl rfl g]; rfl) fun K hK => ?_
        have C := (Find_told p36 q36 [(1, 1)] 1 W l36).mono (R' := fun e W2 => ∃ v, e = .returned v ∧ v = .int .i64 0 ∧ Below W.heap.size W W2) (fun e W2 ⟨he, hb⟩ => ⟨_, he, rfl, hb⟩)
        refine op_call 22 #[polV p36 q36 [(1, 1)], .int .i64 1] (fun v W2 => v = .int .i64 0 ∧ Below W.heap.size W W2) ?_ C (fun v W2 ⟨h1, h2⟩ => hK v W2 h2 h1)
        clear hall hI hK C
        simp only [List.getElem_toArray, List.getElem_cons_zero, List.getElem_cons_succ, execOp]
        go_simp
      · have g : a.tmps[34]?.getD undef = .bool true := hI.val 15 34 rfl (hall 15 (by kernel_rfl))
        have e37 : a.tmps[37]?.getD undef = .int .i64 0 := hI.val 18 37 rfl (hall 18 (by kernel_rfl))
        refine StepV.done rfl (by rw [wanted_if (j := 15) (s := 34) (want := true) (b := true) rfl rfl g]; rfl) fun K hK => ?_
        clear hall hI
        refine op_run (.bool true) W ?_ (hK _ _ (Below.refl _ _) rfl)
        clear hK
        simp only [List.getElem_toArray, List.getElem_cons_zero, List.getElem_cons_succ, execOp, Act.eval]
        go_simp
      · have e34 : a.tmps[34]?.getD undef = .bool true := hI.val 15 34 rfl (hall 15 (by kernel_rfl))
        have e38 : a.tmps[38]?.getD undef = .bool true := hI.val 19 38 rfl (hall 19 (by kernel_rfl))
        refine StepV.done rfl (wanted_free rfl) fun K hK => ?_
        exact op_pick_yes rfl e34 (hK _ _ (Below.refl _ _) ((eval_tmp 38).trans e38))
      · have f := hI.val 20 39 rfl (hall 20 (by kernel_rfl))
        refine StepV.done rfl (wanted_free rfl) fun K hK => ?_
        exact op_move rfl (hK _ _ (Below.refl _ _) f)
      · have g : a.tmps[40]?.getD undef = .bool true := hI.val 21 40 rfl (hall 21 (by kernel_rfl))
        refine StepV.done rfl (by rw [wanted_if (j := 21) (s := 40) (want := true) (b := true) rfl rfl g]; rfl) fun K hK => ?_
        have C := (Find_told none 0 [] 1 W (lies_nil _)).mono (R' := fun e W2 => ∃ v, e = .returned v ∧ v = .int .i64 (-1) ∧ Below W.heap.size W W2) (fun e W2 ⟨he, hb⟩ => ⟨_, he, rfl, hb⟩)
        refine op_call 22 #[polV none 0 [], .int .i64 1] (fun v W2 => v = .int .i64 (-1) ∧ Below W.heap.size W W2) ?_ C (fun v W2 ⟨h1, h2⟩ => hK v W2 h2 h1)
        clear hall hI hK C
        simp only [List.getElem_toArray, List.getElem_cons_zero, List.getElem_cons_succ, execOp]
        go_simp
      · have g : a.tmps[40]?.getD undef = .bool true := hI.val 21 40 rfl (hall 21 (by kernel_rfl))
        have e41 : a.tmps[41]?.getD undef = .int .i64 (-1) := hI.val 22 41 rfl (hall 22 (by kernel_rfl))
        refine StepV.done rfl (by rw [wanted_if (j := 21) (s := 40) (want := true) (b := true) rfl rfl g]; rfl) fun K hK => ?_
        clear hall hI
        refine op_run (.bool true) W ?_ (hK _ _ (Below.refl _ _) rfl)
        clear hK
        simp only [List.getElem_toArray, List.getElem_cons_zero, List.getElem_cons_succ, execOp, Act.eval]
        go_simp
      · have e40 : a.tmps[40]?.getD undef = .bool true := hI.val 21 40 rfl (hall 21 (by kernel_rfl))
        have e42 : a.tmps[42]?.getD undef = .bool true := hI.val 23 42 rfl (hall 23 (by kernel_rfl))
        refine StepV.done rfl (wanted_free rfl) fun K hK => ?_
        exact op_pick_yes rfl e40 (hK _ _ (Below.refl _ _) ((eval_tmp 42).trans e42))
      · have f := hI.val 24 43 rfl (hall 24 (by kernel_rfl))
        refine StepV.done rfl (wanted_free rfl) fun K hK => ?_
        exact op_move rfl (hK _ _ (Below.refl _ _) f)
      · have g : a.tmps[44]?.getD undef = .bool true := hI.val 25 44 rfl (hall 25 (by kernel_rfl))
        have e3 : a.tmps[3]?.getD undef = .bool true := hI.old 3 (unwritten_of (by kernel_rfl) d)
        refine StepV.done rfl (by rw [wanted_if (j := 25) (s := 44) (want := true) (b := true) rfl rfl g]; rfl) fun K hK => ?_
        exact op_move rfl (hK _ _ (Below.refl _ _) e3)
      · have e44 : a.tmps[44]?.getD undef = .bool true := hI.val 25 44 rfl (hall 25 (by kernel_rfl))
        have e45 : a.tmps[45]?.getD undef = .bool true := hI.val 26 45 rfl (hall 26 (by kernel_rfl))
        refine StepV.done rfl (wanted_free rfl) fun K hK => ?_
        exact op_pick_yes rfl e44 (hK _ _ (Below.refl _ _) ((eval_tmp 45).trans e45))
      · have f := hI.val 27 46 rfl (hall 27 (by kernel_rfl))
        refine StepV.done rfl (wanted_free rfl) fun K hK => ?_
        exact op_move rfl (hK _ _ (Below.refl _ _) f)
      · have g : a.tmps[47]?.getD undef = .bool true := hI.val 28 47 rfl (hall 28 (by kernel_rfl))
        have e4 : a.tmps[4]?.getD undef = .bool true := hI.old 4 (unwritten_of (by kernel_rfl) d)
        refine StepV.done rfl (by rw [wanted_if (j := 28) (s := 47) (want := true) (b := true) rfl rfl g]; rfl) fun K hK => ?_
        exact op_move rfl (hK _ _ (Below.refl _ _) e4)
      · have e47 : a.tmps[47]?.getD undef = .bool true := hI.val 28 47 rfl (hall 28 (by kernel_rfl))
        have e48 : a.tmps[48]?.getD undef = .bool true := hI.val 29 48 rfl (hall 29 (by kernel_rfl))
        refine StepV.done rfl (wanted_free rfl) fun K hK => ?_
        exact op_pick_yes rfl e47 (hK _ _ (Below.refl _ _) ((eval_tmp 48).trans e48))
      · have f := hI.val 30 49 rfl (hall 30 (by kernel_rfl))
        refine StepV.done rfl (wanted_free rfl) fun K hK => ?_
        exact op_move rfl (hK _ _ (Below.refl _ _) f)
      · have g : a.tmps[50]?.getD undef = .bool true := hI.val 31 50 rfl (hall 31 (by kernel_rfl))
        have e1 : a.tmps[1]?.getD undef = .pointer (some ⟨s1, 0, none⟩) := hI.old 1 (unwritten_of (by kernel_rfl) d)
        have c0 := (b0.cell (World.block_lt_of_cell? _ _ k10)).trans k10
        have c1 := (b0.cell (World.block_lt_of_cell? _ _ k11)).trans k11
        refine StepV.done rfl (by rw [wanted_if (j := 31) (s := 50) (want := true) (b := true) rfl rfl g]; rfl) fun K hK => ?_
        clear hall hI
        refine op_run (bkV (1, 1)) W ?_ (hK _ _ (Below.refl _ _) rfl)
        clear hK
        simp only [List.getElem_toArray, List.getElem_cons_zero, List.getElem_cons_succ, execOp, Act.eval]
        go_simp
      · have g : a.tmps[50]?.getD undef = .bool true := hI.val 31 50 rfl (hall 31 (by kernel_rfl))
        have e51 : a.tmps[51]?.getD undef = bkV (1, 1) := hI.val 32 51 rfl (hall 32 (by kernel_rfl))
        refine StepV.done rfl (by rw [wanted_if (j := 31) (s := 50) (want := true) (b := true) rfl rfl g]; rfl) fun K hK => ?_
        clear hall hI
        refine op_run (.slice (some ⟨W.heap.size, 0, none⟩) 1 1) (W.alloc (.cells #[.int .i64 ((1, 1) : Bk).1, .int .i64 ((1, 1) : Bk).2] 24)) ?_ (hK _ _ (below_alloc _ _) ⟨_, _, rfl, lies_new1 W (1, 1)⟩)
        clear hK
        simp only [List.getElem_toArray, List.getElem_cons_zero, List.getElem_cons_succ, execOp, Act.eval]
        go_simp
      · have g : a.tmps[50]?.getD undef = .bool true := hI.val 31 50 rfl (hall 31 (by kernel_rfl))
        obtain ⟨p52, q52, e52, l52⟩ : ∃ p c, a.tmps[52]?.getD undef = polV p c [(1, 1)] ∧ Lies W p c [(1, 1)] := hI.val 33 52 rfl (hall 33 (by kernel_rfl))
        refine StepV.done rfl (by rw [wanted_if (j := 31) (s := 50) (want := true) (b := true) rfl rfl g]; rfl) fun K hK => ?_
        have C := (Without_told p52 q52 [(1, 1)] 1 W l52 (by simp)).mono (R' := fun e W2 => ∃ v, e = .returned v ∧ (∃ p c, v = polV p c [] ∧ Lies W2 p c []) ∧ Below W.heap.size W W2) (fun e W2 ⟨v, he, hg, hb⟩ => ⟨v, he, hg, hb⟩)
        refine op_call 15 #[polV p52 q52 [(1, 1)], .int .i64 1] (fun v W2 => (∃ p c, v = polV p c [] ∧ Lies W2 p c []) ∧ Below W.heap.size W W2) ?_ C (fun v W2 ⟨h1, h2⟩ => hK v W2 h2 h1)
        clear hall hI hK C
        simp only [List.getElem_toArray, List.getElem_cons_zero, List.getElem_cons_succ, execOp]
        go_simp
      · have g : a.tmps[50]?.getD undef = .bool true := hI.val 31 50 rfl (hall 31 (by kernel_rfl))
        obtain ⟨p53, q53, e53, l53⟩ : ∃ p c, a.tmps[53]?.getD undef = polV p c [] ∧ Lies W p c [] := hI.val 34 53 rfl (hall 34 (by kernel_rfl))
        refine StepV.done rfl (by rw [wanted_if (j := 31) (s := 50) (want := true) (b := true) rfl rfl g]; rfl) fun K hK => ?_
        clear hall hI
        refine op_run (.int .i64 0) W ?_ (hK _ _ (Below.refl _ _) rfl)
        clear hK
        simp only [List.getElem_toArray, List.getElem_cons_zero, List.getElem_cons_succ, execOp]
        go_simp
      · have g : a.tmps[50]?.getD undef = .bool true := hI.val 31 50 rfl (hall 31 (by kernel_rfl))
        have e54 : a.tmps[54]?.getD undef = .int .i64 0 := hI.val 35 54 rfl (hall 35 (by kernel_rfl))
        refine StepV.done rfl (by rw [wanted_if (j := 31) (s := 50) (want := true) (b := true) rfl rfl g]; rfl) fun K hK => ?_
        clear hall hI
        refine op_run (.bool true) W ?_ (hK _ _ (Below.refl _ _) rfl)
        clear hK
        simp only [List.getElem_toArray, List.getElem_cons_zero, List.getElem_cons_succ, execOp, Act.eval]
        go_simp
      · have e50 : a.tmps[50]?.getD undef = .bool true := hI.val 31 50 rfl (hall 31 (by kernel_rfl))
        have e55 : a.tmps[55]?.getD undef = .bool true := hI.val 36 55 rfl (hall 36 (by kernel_rfl))
        refine StepV.done rfl (wanted_free rfl) fun K hK => ?_
        exact op_pick_yes rfl e50 (hK _ _ (Below.refl _ _) ((eval_tmp 55).trans e55))
      · have f := hI.val 37 56 rfl (hall 37 (by kernel_rfl))
        refine StepV.done rfl (wanted_free rfl) fun K hK => ?_
        exact op_move rfl (hK _ _ (Below.refl _ _) f)
      · have g : a.tmps[57]?.getD undef = .bool true := hI.val 38 57 rfl (hall 38 (by kernel_rfl))
        have e1 : a.tmps[1]?.getD undef = .pointer (some ⟨s1, 0, none⟩) := hI.old 1 (unwritten_of (by kernel_rfl) d)
        have c0 := (b0.cell (World.block_lt_of_cell? _ _ k10)).trans k10
        have c1 := (b0.cell (World.block_lt_of_cell? _ _ k11)).trans k11
        refine StepV.done rfl (by rw [wanted_if (j := 38) (s := 57) (want := true) (b := true) rfl rfl g]; rfl) fun K hK => ?_
        clear hall hI
        refine op_run (bkV (1, 1)) W ?_ (hK _ _ (Below.refl _ _) rfl)
        clear hK
        simp only [List.getElem_toArray, List.getElem_cons_zero, List.getElem_cons_succ, execOp, Act.eval]
        go_simp
      · have g : a.tmps[57]?.getD undef = .bool true := hI.val 38 57 rfl (hall 38 (by kernel_rfl))
        have e58 : a.tmps[58]?.getD undef = bkV (1, 1) := hI.val 39 58 rfl (hall 39 (by kernel_rfl))
        refine StepV.done rfl (by rw [wanted_if (j := 38) (s := 57) (want := true) (b := true) rfl rfl g]; rfl) fun K hK => ?_
        clear hall hI
        refine op_run (.slice (some ⟨W.heap.size, 0, none⟩) 1 1) (W.alloc (.cells #[.int .i64 ((1, 1) : Bk).1, .int .i64 ((1, 1) : Bk).2] 24)) ?_ (hK _ _ (below_alloc _ _) ⟨_, _, rfl, lies_new1 W (1, 1)⟩)
        clear hK
        simp only [List.getElem_toArray, List.getElem_cons_zero, List.getElem_cons_succ, execOp, Act.eval]
        go_simp
      · have g : a.tmps[57]?.getD undef = .bool true := hI.val 38 57 rfl (hall 38 (by kernel_rfl))
        have e1 : a.tmps[1]?.getD undef = .pointer (some ⟨s1, 0, none⟩) := hI.old 1 (unwritten_of (by kernel_rfl) d)
        have c0 := (b0.cell (World.block_lt_of_cell? _ _ k10)).trans k10
        have c1 := (b0.cell (World.block_lt_of_cell? _ _ k11)).trans k11
        refine StepV.done rfl (by rw [wanted_if (j := 38) (s := 57) (want := true) (b := true) rfl rfl g]; rfl) fun K hK => ?_
        clear hall hI
        refine op_run (bkV (1, 1)) W ?_ (hK _ _ (Below.refl _ _) rfl)
        clear hK
        simp only [List.getElem_toArray, List.getElem_cons_zero, List.getElem_cons_succ, execOp, Act.eval]
        go_simp
      · have g : a.tmps[57]?.getD undef = .bool true := hI.val 38 57 rfl (hall 38 (by kernel_rfl))
        have e60 : a.tmps[60]?.getD undef = bkV (1, 1) := hI.val 41 60 rfl (hall 41 (by kernel_rfl))
        refine StepV.done rfl (by rw [wanted_if (j := 38) (s := 57) (want := true) (b := true) rfl rfl g]; rfl) fun K hK => ?_
        clear hall hI
        refine op_run (.slice (some ⟨W.heap.size, 0, none⟩) 1 1) (W.alloc (.cells #[.int .i64 ((1, 1) : Bk).1, .int .i64 ((1, 1) : Bk).2] 24)) ?_ (hK _ _ (below_alloc _ _) ⟨_, _, rfl, lies_new1 W (1, 1)⟩)
        clear hK
        simp only [List.getElem_toArray, List.getElem_cons_zero, List.getElem_cons_succ, execOp, Act.eval]
        go_simp
      · have g : a.tmps[57]?.getD undef = .bool true := hI.val 38 57 rfl (hall 38 (by kernel_rfl))
        obtain ⟨p61, q61, e61, l61⟩ : ∃ p c, a.tmps[61]?.getD undef = polV p c [(1, 1)] ∧ Lies W p c [(1, 1)] := hI.val 42 61 rfl (hall 42 (by kernel_rfl))
        refine StepV.done rfl (by rw [wanted_if (j := 38) (s := 57) (want := true) (b := true) rfl rfl g]; rfl) fun K hK => ?_
        have C := (Sorted_told p61 q61 [(1, 1)] W l61 (by simp)).mono (R' := fun e W2 => ∃ v, e = .returned v ∧ (∃ p c, v = polV p c [(1, 1)] ∧ Lies W2 p c [(1, 1)]) ∧ Below W.heap.size W W2) (fun e W2 ⟨v, he, hg, hb⟩ => ⟨v, he, hg, hb⟩)
        refine op_call 11 #[polV p61 q61 [(1, 1)]] (fun v W2 => (∃ p c, v = polV p c [(1, 1)] ∧ Lies W2 p c [(1, 1)]) ∧ Below W.heap.size W W2) ?_ C (fun v W2 ⟨h1, h2⟩ => hK v W2 h2 h1)
        clear hall hI hK C
        simp only [List.getElem_toArray, List.getElem_cons_zero, List.getElem_cons_succ, execOp]
        go_simp
      · have g : a.tmps[57]?.getD undef = .bool true := hI.val 38 57 rfl (hall 38 (by kernel_rfl))
        obtain ⟨p59, q59, e59, l59⟩ : ∃ p c, a.tmps[59]?.getD undef = polV p c [(1, 1)] ∧ Lies W p c [(1, 1)] := hI.val 40 59 rfl (hall 40 (by kernel_rfl))
        obtain ⟨p62, q62, e62, l62⟩ : ∃ p c, a.tmps[62]?.getD undef = polV p c [(1, 1)] ∧ Lies W p c [(1, 1)] := hI.val 43 62 rfl (hall 43 (by kernel_rfl))
        refine StepV.done rfl (by rw [wanted_if (j := 38) (s := 57) (want := true) (b := true) rfl rfl g]; rfl) fun K hK => ?_
        have C := (Same_told p59 q59 [(1, 1)] p62 q62 [(1, 1)] true (by simp) W l59 l62).mono (R' := fun e W2 => ∃ v, e = .returned v ∧ v = .bool true ∧ Below W.heap.size W W2) (fun e W2 ⟨he, hb⟩ => ⟨_, he, rfl, hb⟩)
        refine op_call 24 #[polV p59 q59 [(1, 1)], polV p62 q62 [(1, 1)]] (fun v W2 => v = .bool true ∧ Below W.heap.size W W2) ?_ C (fun v W2 ⟨h1, h2⟩ => hK v W2 h2 h1)
        clear hall hI hK C
        simp only [List.getElem_toArray, List.getElem_cons_zero, List.getElem_cons_succ, execOp]
        go_simp
      · have e57 : a.tmps[57]?.getD undef = .bool true := hI.val 38 57 rfl (hall 38 (by kernel_rfl))
        have e63 : a.tmps[63]?.getD undef = .bool true := hI.val 44 63 rfl (hall 44 (by kernel_rfl))
        refine StepV.done rfl (wanted_free rfl) fun K hK => ?_
        exact op_pick_yes rfl e57 (hK _ _ (Below.refl _ _) ((eval_tmp 63).trans e63))
      · have f := hI.val 45 64 rfl (hall 45 (by kernel_rfl))
        refine StepV.done rfl (wanted_free rfl) fun K hK => ?_
        exact op_assign rfl (hK _ _ (Below.refl _ _) f)
    case done =>
      intro a W5 hv hI
      obtain ⟨t, df⟩ := a
      obtain rfl : df = [] := hI.defs
      have hz : t.size = 65 := hI.size
      have b0 := hI.below
      have e0 : t[0]?.getD undef = .bool true := hv 46 0 rfl
      clear hv hI
      obtain ⟨y, hy, ht⟩ := arr_slots t 65 hz
      have hl : (slotsFrom y 0 65).toArray = #[y 0, y 1, y 2, y 3, y 4, y 5, y 6, y 7, y 8, y 9, y 10, y 11, y 12, y 13, y 14, y 15, y 16, y 17, y 18, y 19, y 20, y 21, y 22, y 23, y 24, y 25, y 26, y 27, y 28, y 29, y 30, y 31, y 32, y 33, y 34, y 35, y 36, y 37, y 38, y 39, y 40, y 41, y 42, y 43, y 44, y 45, y 46, y 47, y 48, y 49, y 50, y 51, y 52, y 53, y 54, y 55, y 56, y 57, y 58, y 59, y 60, y 61, y 62, y 63, y 64] := rfl
      rw [hy] at e0
      rw [ht, hl, e0]
      clear ht hl hz hy e0
      go_wp2_with fail
      go_ret
      exact ⟨rfl, by rw [hs1]; exact B5.out.trans (b0.mono (by have := B5.out.size; omega))⟩
end Go.Proofs.Ytbejhkodfkcbpaa.Pol
