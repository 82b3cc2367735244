/-
  Package cells: New.
-/
import Derived.Test.YtiokpccdkpgibaaCelE
import Derived.Test.YtiokpccdkpgibaaRgnX
namespace Go.Proofs.Ytiokpccdkpgibaa.Cel
open Go.RowKit Go.Shelf Go.WideShapes RowG Rgn

attribute [local go_sem] Oper.semAt_some

/-- What New's operations yield. -/
def newV (n m : Int) (B : Nat) : Nat → Nat → Nat → World → Value → Prop
  | 0, _, _, _, v => v = .int .i64 n
  | 1, _, _, _, v => v = .int .i64 (size n : Nat)
  | 2, lo, hi, w, v => ∃ g, v = .slice (some ⟨g, 0, none⟩) (size n) (size n) ∧ Row numK 3 w g (size n) (List.replicate (size n) 0) ∧ lo ≤ g ∧ g < hi
  | 3, _, _, w, v => ∃ g, v = .slice (some ⟨g, 0, none⟩) 1 1 ∧ w.cell? ⟨g, 0, none⟩ = some (.int .i64 (-1))
  | 4, _, _, _, v => v = .int .i64 m
  | 5, _, _, _, v => v = .int .i64 (size m : Nat)
  | 6, lo, hi, w, v => ∃ g, v = .slice (some ⟨g, 0, none⟩) (size m) (size m) ∧ Row numK 3 w g (size m) (List.replicate (size m) (-1)) ∧ lo ≤ g ∧ g < hi
  | 7, _, _, w, v => ∃ c o, v = .agg #[.int .i64 0, .slice (some ⟨c, 0, none⟩) (size n) (size n), .slice (some ⟨o, 0, none⟩) (size m) (size m)] ∧ Row numK 3 w c (size n) (List.replicate (size n) 0) ∧ Row numK 3 w o (size m) (List.replicate (size m) (-1)) ∧ c ≠ o ∧ B ≤ c ∧ B ≤ o
  | _, _, _, w, v => ∃ f : Foot, v = .pointer (some ⟨f.p, 0, none⟩) ∧ Held w f (new n m) ∧ f.from' B
theorem newV_kept (n m : Int) (B : Nat) : ∀ j l k w w' v, newV n m B j l k w v → Below w.heap.size w w' → newV n m B j l k w' v := by
  intro j l k w w' v h hb
  match j with
  | 0 => exact h
  | 1 => exact h
  | 2 => obtain ⟨g, e, r, x⟩ := h; exact ⟨g, e, r.kept hb, x⟩
  | 3 => obtain ⟨g, e, r⟩ := h; exact ⟨g, e, (hb.cell (World.block_lt_of_cell? _ _ r)).trans r⟩
  | 4 => exact h
  | 5 => exact h
  | 6 => obtain ⟨g, e, r, x⟩ := h; exact ⟨g, e, r.kept hb, x⟩
  | 7 => obtain ⟨c, o, e, r, r', x⟩ := h; exact ⟨c, o, e, r.kept hb, r'.kept hb, x⟩
  | j + 8 => obtain ⟨f, e, r, x⟩ := h; exact ⟨f, e, r.kept hb, x⟩

set_option maxHeartbeats 1000000 in
theorem New_told (n m : Int) (w : World) : Calls Try.prog 9 #[.int .i64 n, .int .i64 m] w fun e W' => ∃ f : Foot, e = .returned (.pointer (some ⟨f.p, 0, none⟩)) ∧ Held W' f (new n m) ∧ f.from' w.heap.size ∧ Below w.heap.size w W' := by
  go_enter Try.func9, Try.ntmps9
  go_wp2_with fail
  refine wp_region_blk (newV n m w.heap.size) (newV_kept n m w.heap.size) (by kernel_rfl) (by kernel_rfl) (by kernel_rfl) ?step ?done
  case step =>
    intro d lo hi a W i hlt hall hI
    replace hlt : i < 10 := hlt
    have b0 := hI.below
    obtain rfl | rfl | rfl | rfl | rfl | rfl | rfl | rfl | rfl | rfl : i = 0 ∨ i = 1 ∨ i = 2 ∨ i = 3 ∨ i = 4 ∨ i = 5 ∨ i = 6 ∨ i = 7 ∨ i = 8 ∨ i = 9 := by omega
    · have e0 : a.tmps[0]?.getD undef = .int .i64 n := hI.old 0 (unwritten_of (by kernel_rfl) d)
      refine StepX.done rfl (wanted_free rfl) fun K hK => ?_
      exact op_move rfl (hK _ _ (Below.refl _ _) e0)
    · have e5 : a.tmps[5]?.getD undef = .int .i64 n := hI.val 0 5 rfl (hall 0 (by kernel_rfl))
      refine StepX.done rfl (wanted_free rfl) fun K hK => ?_
      refine op_call 21 #[.int .i64 n] (fun v W2 => v = .int .i64 (size n : Nat) ∧ W2 = W) ?_ ((within_told n W).mono fun e W2 ⟨he, hw⟩ => ⟨_, he, rfl, hw⟩) (fun v W2 ⟨h1, h2⟩ => hK v W2 (h2 ▸ Below.refl _ _) h1)
      clear hall hI hK
      simp only [List.getElem_toArray, List.getElem_cons_zero, List.getElem_cons_succ, execOp]
      go_simp
    · have e6 : a.tmps[6]?.getD undef = .int .i64 (size n : Nat) := hI.val 1 6 rfl (hall 1 (by kernel_rfl))
      refine StepX.done rfl (wanted_free rfl) fun K hK => ?_
      have hr := run_nums (size n) (by have := size_le n; omega) W
      refine op_run (.slice (some ⟨W.heap.size, 0, none⟩) (size n) (size n)) (W.alloc (.cells (madeCells zeroI (size n)) 3)) ?_ (hK _ _ ((Below.refl _ _).alloc (Nat.le_refl _) _) ⟨_, rfl, row_nums W _ (by have := size_le n; unfold maxLen; omega), Nat.le_refl _, by simp⟩)
      clear hall hI hK
      simp only [List.getElem_toArray, List.getElem_cons_zero, List.getElem_cons_succ, execOp]
      go_simp
    · refine StepX.done rfl (wanted_free rfl) fun K hK => ?_
      refine op_run (.slice (some ⟨W.heap.size, 0, none⟩) 1 1) (W.alloc (.cells #[.int .i64 (-1)] 3)) ?_ (hK _ _ ((Below.refl _ _).alloc (Nat.le_refl _) _) ⟨_, rfl, by simp⟩)
      clear hall hI hK
      simp only [List.getElem_toArray, List.getElem_cons_zero, List.getElem_cons_succ, execOp, Act.eval]
      go_simp
    · have e1 : a.tmps[1]?.getD undef = .int .i64 m := hI.old 1 (unwritten_of (by kernel_rfl) d)
      refine StepX.done rfl (wanted_free rfl) fun K hK => ?_
      exact op_move rfl (hK _ _ (Below.refl _ _) e1)
    · have e9 : a.tmps[9]?.getD undef = .int .i64 m := hI.val 4 9 rfl (hall 4 (by kernel_rfl))
      refine StepX.done rfl (wanted_free rfl) fun K hK => ?_
      refine op_call 21 #[.int .i64 m] (fun v W2 => v = .int .i64 (size m : Nat) ∧ W2 = W) ?_ ((within_told m W).mono fun e W2 ⟨he, hw⟩ => ⟨_, he, rfl, hw⟩) (fun v W2 ⟨h1, h2⟩ => hK v W2 (h2 ▸ Below.refl _ _) h1)
      clear hall hI hK
      simp only [List.getElem_toArray, List.getElem_cons_zero, List.getElem_cons_succ, execOp]
      go_simp
    · obtain ⟨g, e8, hc⟩ : ∃ g, a.tmps[8]?.getD undef = .slice (some ⟨g, 0, none⟩) 1 1 ∧ W.cell? ⟨g, 0, none⟩ = some (.int .i64 (-1)) := hI.val 3 8 rfl (hall 3 (by kernel_rfl))
      have e10 : a.tmps[10]?.getD undef = .int .i64 (size m : Nat) := hI.val 5 10 rfl (hall 5 (by kernel_rfl))
      refine StepX.done rfl (wanted_free rfl) fun K hK => ?_
      refine op_call 22 #[.slice (some ⟨g, 0, none⟩) 1 1, .int .i64 (size m : Nat)] (fun v W2 => v = .slice (some ⟨W.heap.size, 0, none⟩) (size m) (size m) ∧ Row numK 3 W2 W.heap.size (size m) (List.replicate (size m) (-1)) ∧ Below W.heap.size W W2) ?_
        ((Repeat_told g (-1) (size m) (size_le m) W hc).mono fun e W2 ⟨he, h1, h2⟩ => ⟨_, he, by simp [rowV], h1, h2⟩) (fun v W2 ⟨h1, h2, h3⟩ => hK v W2 h3 ⟨_, h1, h2, Nat.le_refl _, h2.lt⟩)
      clear hall hI hK hc
      simp only [List.getElem_toArray, List.getElem_cons_zero, List.getElem_cons_succ, execOp]
      go_simp
    · obtain ⟨c, e7, r7, l7, u7⟩ : ∃ g, a.tmps[7]?.getD undef = .slice (some ⟨g, 0, none⟩) (size n) (size n) ∧ Row numK 3 W g (size n) (List.replicate (size n) 0) ∧ lo 2 ≤ g ∧ g < hi 2 := hI.val 2 7 rfl (hall 2 (by kernel_rfl))
      obtain ⟨o, e11, r11, l11, u11⟩ : ∃ g, a.tmps[11]?.getD undef = .slice (some ⟨g, 0, none⟩) (size m) (size m) ∧ Row numK 3 W g (size m) (List.replicate (size m) (-1)) ∧ lo 6 ≤ g ∧ g < hi 6 := hI.val 6 11 rfl (hall 6 (by kernel_rfl))
      have ha := hI.apart 2 6 (hall 2 (by kernel_rfl)) (hall 6 (by kernel_rfl)) (by decide)
      have h2 := (hI.lim 2 (hall 2 (by kernel_rfl))).1
      have h6 := (hI.lim 6 (hall 6 (by kernel_rfl))).1
      refine StepX.done rfl (wanted_free rfl) fun K hK => ?_
      refine op_run (.agg #[.int .i64 0, .slice (some ⟨c, 0, none⟩) (size n) (size n), .slice (some ⟨o, 0, none⟩) (size m) (size m)]) W ?_ (hK _ _ (Below.refl _ _) ⟨c, o, rfl, r7, r11, by omega, by omega, by omega⟩)
      clear hall hI hK r7 r11 ha h2 h6
      simp only [List.getElem_toArray, List.getElem_cons_zero, List.getElem_cons_succ, execOp]
      go_simp
    · obtain ⟨c, o, e12, rc, ro, hco, hc, ho⟩ : ∃ c o, a.tmps[12]?.getD undef = .agg #[.int .i64 0, .slice (some ⟨c, 0, none⟩) (size n) (size n), .slice (some ⟨o, 0, none⟩) (size m) (size m)] ∧ Row numK 3 W c (size n) (List.replicate (size n) 0) ∧ Row numK 3 W o (size m) (List.replicate (size m) (-1)) ∧ c ≠ o ∧ w.heap.size ≤ c ∧ w.heap.size ≤ o := hI.val 7 12 rfl (hall 7 (by kernel_rfl))
      refine StepX.done rfl (wanted_free rfl) fun K hK => ?_
      have hb : Below W.heap.size W (W.alloc (.cells #[.int .i64 0, .slice (some ⟨c, 0, none⟩) (size n) (size n), .slice (some ⟨o, 0, none⟩) (size m) (size m)] 56)) := (Below.refl _ _).alloc (Nat.le_refl _) _
      have hh : Held (W.alloc (.cells #[.int .i64 0, .slice (some ⟨c, 0, none⟩) (size n) (size n), .slice (some ⟨o, 0, none⟩) (size m) (size m)] 56)) ⟨W.heap.size, c, o⟩ (new n m) := by
        have l1 := rc.lt
        have l2 := ro.lt
        refine ⟨?_, ?_, ?_, ⟨by show W.heap.size ≠ c; omega, by show W.heap.size ≠ o; omega, hco⟩⟩
        · rw [World.alloc_heap_new]; simp [new, rowV]
        · have := rc.kept hb; simpa [new] using this
        · have := ro.kept hb; simpa [new] using this
      refine op_run (.pointer (some ⟨W.heap.size, 0, none⟩)) (W.alloc (.cells #[.int .i64 0, .slice (some ⟨c, 0, none⟩) (size n) (size n), .slice (some ⟨o, 0, none⟩) (size m) (size m)] 56)) ?_ (hK _ _ hb ⟨⟨W.heap.size, c, o⟩, rfl, hh, b0.size, hc, ho⟩)
      clear hall hI hK rc ro hb hh
      simp only [List.getElem_toArray, List.getElem_cons_zero, List.getElem_cons_succ, execOp]
      go_simp
    · have f := hI.val 8 13 rfl (hall 8 (by kernel_rfl))
      refine StepX.done rfl (wanted_free rfl) fun K hK => ?_
      exact op_assign rfl (hK _ _ (Below.refl _ _) f)
  case done =>
    intro lo hi a W hI
    obtain ⟨f, e4, hh, hf⟩ : ∃ f : Foot, a.tmps[4]?.getD undef = .pointer (some ⟨f.p, 0, none⟩) ∧ Held W f (new n m) ∧ f.from' w.heap.size := hI.val 9 4 rfl rfl
    obtain ⟨t, df⟩ := a
    obtain rfl : df = [] := hI.defs
    have hz : t.size = 14 := hI.size
    have b0 := Lib.hid hI.below
    clear hI
    obtain ⟨ys, hy, ht⟩ := arr_slots t 14 hz
    have hl : (slotsFrom ys 0 14).toArray = #[ys 0, ys 1, ys 2, ys 3, ys 4, ys 5, ys 6, ys 7, ys 8, ys 9, ys 10, ys 11, ys 12, ys 13] := rfl
    rw [hy] at e4
    rw [ht, hl, e4]
    clear ht hl hz hy e4
    have HH := Lib.hid hh
    clear hh
    go_wp2_with fail
    go_ret
    exact ⟨f, rfl, HH.out, hf, b0.out⟩
end Go.Proofs.Ytiokpccdkpgibaa.Cel
