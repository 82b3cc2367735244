/-
  Package ip4: Parse.
-/
import Derived.Test.YtcdgcjpdlhknoaaIp4P
import Derived.Deep.RegionHeld3
namespace Go.Proofs.Ytcdgcjpdlhknoaa.Ip4
open Go.RowKit Go.Shelf Rgn

/-- What the operations of 'version, size, length := ..' yield. -/
def vals (s : ByteArray) (B : Nat) : Nat → Value
  | 0 => numF B
  | 1 => .int .i64 (gv s 0 1 : Nat)
  | 2 => .int .i64 (ver s : Nat)
  | 3 => numF B
  | 4 => .int .i64 (gv s 0 1 : Nat)
  | 5 => .int .i64 (gv s 0 1 % 16 : Nat)
  | 6 => .int .i64 (siz s : Nat)
  | 7 => numF B
  | _ => .int .i64 (len s : Nat)
def val3 (s : ByteArray) : Nat → Value
  | 9 => .int .i64 (ver s : Nat)
  | 10 => .int .i64 (siz s : Nat)
  | _ => .int .i64 (len s : Nat)

/-- What Parse answers where fault number c is the first (6: none is so). -/
def parseV (s : ByteArray) (c : Nat) : Value :=
  if c < 6 then .tuple #[.agg #[.string ⟨#[]⟩, .string ⟨#[]⟩, .int .i64 0], .string ⟨#[]⟩, .int .i64 (code c)]
  else .tuple #[.agg #[.string (s.extract 12 16), .string (s.extract 16 20), .int .i64 (gv s 9 1 : Nat)], .string (s.extract (siz s) (len s)), .int .i64 0]
theorem code_ne (c : Nat) : (code c != 0) = true := by
  unfold code; split <;> rfl

/-- Parse's frame while 'version, size, length' are got. -/
abbrev fr (s : ByteArray) (h : Nat) (x : Nat → Value) : Act := { tmps := #[.string s, .pointer (some ⟨h, 0, none⟩), .pointer (some ⟨h + 1, 0, none⟩), .string ⟨#[]⟩, .int .i64 0, .pointer (some ⟨h + 1 + 1 + 1, 0, none⟩), x 9, x 10, x 11, undef, .string s, numF (h + 1 + 1), x 0, x 1, x 2, x 3, x 4, x 5, x 6, x 7, x 8, undef, undef, undef, undef, undef, undef, undef, undef, undef, undef, undef, undef, undef, undef, undef, undef, undef, undef, undef, undef, undef, undef, undef, undef, undef, undef, undef, undef, undef], defers := [] }

set_option maxRecDepth 100000 in
set_option maxHeartbeats 2000000 in
theorem Parse_any (s : ByteArray) (hs : s.size ≤ 1099511627776) (c : Nat) (hc : c ≤ 6) (hno : ∀ i, i < c → so s i = false) (hyes : c < 6 → so s c = true) (w : World) :
    Calls Try.prog 24 #[.string s] w fun e W' => e = .returned (parseV s c) ∧ Below w.heap.size w W' := by
  go_enter Try.func24, Try.ntmps24
  go_wp2_with fail
  refine (numbers_any s _).mono ?_
  rintro e w1 ⟨rfl, rfl⟩
  go_wp2_with fail
  have b0 := ((Boxed.new w 9 (.string s)).alloc (.cells #[.string ⟨#[]⟩, .string ⟨#[]⟩, .int .i64 0] 49)).alloc (.cells #[.string s] 9) |>.alloc (.cells #[numF (w.heap.size + 1 + 1)] 86)
  have b2 := (Boxed.new ((w.alloc (.cells #[.string s] 9)).alloc (.cells #[.string ⟨#[]⟩, .string ⟨#[]⟩, .int .i64 0] 49)) 9 (.string s)).alloc (.cells #[numF (w.heap.size + 1 + 1)] 86)
  have b3 := Boxed.new (((w.alloc (.cells #[.string s] 9)).alloc (.cells #[.string ⟨#[]⟩, .string ⟨#[]⟩, .int .i64 0] 49)).alloc (.cells #[.string s] 9)) 86 (numF (w.heap.size + 1 + 1))
  have bh : ((((w.alloc (.cells #[.string s] 9)).alloc (.cells #[.string ⟨#[]⟩, .string ⟨#[]⟩, .int .i64 0] 49)).alloc (.cells #[.string s] 9)).alloc (.cells #[numF (w.heap.size + 1 + 1)] 86)).heap[w.heap.size + 1]? = some (.cells #[.string ⟨#[]⟩, .string ⟨#[]⟩, .int .i64 0] 49 (0, 0)) := by
    have h1 := World.alloc_heap_new (w.alloc (.cells #[.string s] 9)) (.cells #[.string ⟨#[]⟩, .string ⟨#[]⟩, .int .i64 0] 49)
    simp only [World.size_alloc] at h1
    rw [Below.heap_alloc _ _ _ (by simp), Below.heap_alloc _ _ _ (by simp)]
    exact h1
  simp only [World.size_alloc] at b0 b2 b3
  have hB0 : Below w.heap.size w ((((w.alloc (.cells #[.string s] 9)).alloc (.cells #[.string ⟨#[]⟩, .string ⟨#[]⟩, .int .i64 0] 49)).alloc (.cells #[.string s] 9)).alloc (.cells #[numF (w.heap.size + 1 + 1)] 86)) :=
    ((((Below.refl _ w).alloc (Nat.le_refl _) _).alloc (by simp) _).alloc (by simp; omega) _).alloc (by simp; omega) _
  generalize hW0 : ((((w.alloc (.cells #[.string s] 9)).alloc (.cells #[.string ⟨#[]⟩, .string ⟨#[]⟩, .int .i64 0] 49)).alloc (.cells #[.string s] 9)).alloc (.cells #[numF (w.heap.size + 1 + 1)] 86)) = W0 at *
  have hsz : W0.heap.size = w.heap.size + 4 := by rw [← hW0]; simp
  have HS := Lib.hid hsz
  have HW := Lib.hid hW0
  have hl0 := gv_le s 0 1 (by omega)
  have hl2 := gv_le s 2 2 (by omega)
  have E2 := Lib.hid (show ((ver s : Nat) : Int) = ((gv s 0 1 : Nat) : Int) / 16 by unfold ver; omega)
  have E5 := Lib.hid (and_15 (gv s 0 1 : Nat))
  have E6 := Lib.hid (show IntKind.i64.wrap (((gv s 0 1 : Nat) : Int) % 16 * 4) = (siz s : Nat) by rw [IntWalk.i64_in _ (by omega)]; unfold siz; omega)
  clear hW0
  refine wp_region_inv (fun d a w' => ∃ (x : Nat → Value) (b : Nat → Nat), a = fr s w.heap.size x ∧ Inv 9 3 W0 (fun _ => 3) (fun _ => .int .i64 0) (val3 s) (vals s (w.heap.size + 1 + 1)) d x b w')
    (by kernel_rfl) (by kernel_rfl) ?step ?done ?start
  case start => exact ⟨fun _ => undef, fun _ => 0, rfl, Inv.start _ _ _ (Below.refl _ W0).drew⟩
  case step =>
    rintro d a w' i hi hd hall ⟨x, b, rfl, hI⟩
    replace hi : i < 15 := hi
    obtain rfl | rfl | rfl | rfl | rfl | rfl | rfl | rfl | rfl | rfl | rfl | rfl | rfl | rfl | rfl : i = 0 ∨ i = 1 ∨ i = 2 ∨ i = 3 ∨ i = 4 ∨ i = 5 ∨ i = 6 ∨ i = 7 ∨ i = 8 ∨ i = 9 ∨ i = 10 ∨ i = 11 ∨ i = 12 ∨ i = 13 ∨ i = 14 := by omega
    · have c3 := (hI.below.cell (p := ⟨w.heap.size + 1 + 1 + 1, 0, none⟩) (by simp; omega)).trans b3.cell
      clear hall
      refine wpOp_step rfl (fun K hK => ?_)
      simp only [List.getElem_toArray, List.getElem_cons_zero]
      go_simp
      exact hK _ _ ⟨_, _, rfl, hI.yields (i := 0) (by omega) (Below.refl _ _)⟩
    · have h0 : x 0 = numF (w.heap.size + 1 + 1) := hI.pure 0 (by omega) (hall 0 (by kernel_rfl))
      have H2 := Lib.hid ((hI.below.cell (p := ⟨w.heap.size + 1 + 1, 0, none⟩) (by simp; omega)).trans b2.cell)
      clear hall
      refine wpOp_step rfl (fun K hK => ?_)
      simp only [List.getElem_toArray, List.getElem_cons_zero, List.getElem_cons_succ]
      go_simp
      refine (number_any s hs _ 0 1 (by omega) (by omega) w' H2.out).mono ?_
      rintro e w2 ⟨rfl, hb2⟩
      exact hK _ _ ⟨_, _, by simp [upv, vals, h0], hI.yields (i := 1) (by omega) hb2⟩
    · have h0 : x 1 = .int .i64 (gv s 0 1 : Nat) := hI.pure 1 (by omega) (hall 1 (by kernel_rfl))
      clear hall
      refine wpOp_step rfl (fun K hK => ?_)
      simp only [List.getElem_toArray, List.getElem_cons_zero, List.getElem_cons_succ]
      go_simp
      exact hK _ _ ⟨_, _, by simp [upv, vals, h0, E2.out], hI.yields (i := 2) (by omega) (Below.refl _ _)⟩
    · have c3 := (hI.below.cell (p := ⟨w.heap.size + 1 + 1 + 1, 0, none⟩) (by simp; omega)).trans b3.cell
      clear hall
      refine wpOp_step rfl (fun K hK => ?_)
      simp only [List.getElem_toArray, List.getElem_cons_zero, List.getElem_cons_succ]
      go_simp
      exact hK _ _ ⟨_, _, rfl, hI.yields (i := 3) (by omega) (Below.refl _ _)⟩
    · have h0 : x 3 = numF (w.heap.size + 1 + 1) := hI.pure 3 (by omega) (hall 3 (by kernel_rfl))
      have H2 := Lib.hid ((hI.below.cell (p := ⟨w.heap.size + 1 + 1, 0, none⟩) (by simp; omega)).trans b2.cell)
      clear hall
      refine wpOp_step rfl (fun K hK => ?_)
      simp only [List.getElem_toArray, List.getElem_cons_zero, List.getElem_cons_succ]
      go_simp
      refine (number_any s hs _ 0 1 (by omega) (by omega) w' H2.out).mono ?_
      rintro e w2 ⟨rfl, hb2⟩
      exact hK _ _ ⟨_, _, by simp [upv, vals, h0], hI.yields (i := 4) (by omega) hb2⟩
    · have h0 : x 4 = .int .i64 (gv s 0 1 : Nat) := hI.pure 4 (by omega) (hall 4 (by kernel_rfl))
      clear hall
      refine wpOp_step rfl (fun K hK => ?_)
      simp only [List.getElem_toArray, List.getElem_cons_zero, List.getElem_cons_succ]
      go_simp
      exact hK _ _ ⟨_, _, by simp [upv, vals, h0, E5.out], hI.yields (i := 5) (by omega) (Below.refl _ _)⟩
    · have h0 : x 5 = .int .i64 (gv s 0 1 % 16 : Nat) := hI.pure 5 (by omega) (hall 5 (by kernel_rfl))
      clear hall
      refine wpOp_step rfl (fun K hK => ?_)
      simp only [List.getElem_toArray, List.getElem_cons_zero, List.getElem_cons_succ]
      go_simp
      exact hK _ _ ⟨_, _, by simp [upv, vals, h0, E6.out], hI.yields (i := 6) (by omega) (Below.refl _ _)⟩
    · have c3 := (hI.below.cell (p := ⟨w.heap.size + 1 + 1 + 1, 0, none⟩) (by simp; omega)).trans b3.cell
      clear hall
      refine wpOp_step rfl (fun K hK => ?_)
      simp only [List.getElem_toArray, List.getElem_cons_zero, List.getElem_cons_succ]
      go_simp
      exact hK _ _ ⟨_, _, rfl, hI.yields (i := 7) (by omega) (Below.refl _ _)⟩
    · have h0 : x 7 = numF (w.heap.size + 1 + 1) := hI.pure 7 (by omega) (hall 7 (by kernel_rfl))
      have H2 := Lib.hid ((hI.below.cell (p := ⟨w.heap.size + 1 + 1, 0, none⟩) (by simp; omega)).trans b2.cell)
      clear hall
      refine wpOp_step rfl (fun K hK => ?_)
      simp only [List.getElem_toArray, List.getElem_cons_zero, List.getElem_cons_succ]
      go_simp
      refine (number_any s hs _ 2 2 (by omega) (by omega) w' H2.out).mono ?_
      rintro e w2 ⟨rfl, hb2⟩
      exact hK _ _ ⟨_, _, by simp [upv, vals, h0, len], hI.yields (i := 8) (by omega) hb2⟩
    · clear hall
      refine wpOp_step rfl (fun K hK => ?_)
      simp only [List.getElem_toArray, List.getElem_cons_zero, List.getElem_cons_succ]
      go_simp
      exact hK _ _ ⟨_, _, rfl, hI.makes (i := 9) (by omega) (by omega) hd⟩
    · clear hall
      refine wpOp_step rfl (fun K hK => ?_)
      simp only [List.getElem_toArray, List.getElem_cons_zero, List.getElem_cons_succ]
      go_simp
      exact hK _ _ ⟨_, _, rfl, hI.makes (i := 10) (by omega) (by omega) hd⟩
    · clear hall
      refine wpOp_step rfl (fun K hK => ?_)
      simp only [List.getElem_toArray, List.getElem_cons_zero, List.getElem_cons_succ]
      go_simp
      exact hK _ _ ⟨_, _, rfl, hI.makes (i := 11) (by omega) (by omega) hd⟩
    · have h0 : x 2 = .int .i64 (ver s : Nat) := hI.pure 2 (by omega) (hall 2 (by kernel_rfl))
      have hdl := hall 9 (by kernel_rfl)
      obtain ⟨h1, _, h2⟩ := hI.cell 9 (by omega) (by omega) hdl
      have c2 := h2.cell
      have f2 := h2.frozen
      clear hall
      refine wpOp_step rfl (fun K hK => ?_)
      simp only [List.getElem_toArray, List.getElem_cons_zero, List.getElem_cons_succ]
      go_simp
      exact hK _ _ ⟨_, _, rfl, hI.lays (i := 9) (by omega) (by omega) hdl⟩
    · have h0 : x 6 = .int .i64 (siz s : Nat) := hI.pure 6 (by omega) (hall 6 (by kernel_rfl))
      have hdl := hall 10 (by kernel_rfl)
      obtain ⟨h1, _, h2⟩ := hI.cell 10 (by omega) (by omega) hdl
      have c2 := h2.cell
      have f2 := h2.frozen
      clear hall
      refine wpOp_step rfl (fun K hK => ?_)
      simp only [List.getElem_toArray, List.getElem_cons_zero, List.getElem_cons_succ]
      go_simp
      exact hK _ _ ⟨_, _, rfl, hI.lays (i := 10) (by omega) (by omega) hdl⟩
    · have h0 : x 8 = .int .i64 (len s : Nat) := hI.pure 8 (by omega) (hall 8 (by kernel_rfl))
      have hdl := hall 11 (by kernel_rfl)
      obtain ⟨h1, _, h2⟩ := hI.cell 11 (by omega) (by omega) hdl
      have c2 := h2.cell
      have f2 := h2.frozen
      clear hall
      refine wpOp_step rfl (fun K hK => ?_)
      simp only [List.getElem_toArray, List.getElem_cons_zero, List.getElem_cons_succ]
      go_simp
      exact hK _ _ ⟨_, _, rfl, hI.lays (i := 11) (by omega) (by omega) hdl⟩
  case done =>
    rintro d a w' hall ⟨x, b, rfl, hI⟩
    replace hall : ∀ i, i < 15 → d i = true := hall
    have x0 : x 0 = numF (w.heap.size + 1 + 1) := hI.pure 0 (by omega) (hall 0 (by omega))
    have x1 : x 1 = .int .i64 (gv s 0 1 : Nat) := hI.pure 1 (by omega) (hall 1 (by omega))
    have x2 : x 2 = .int .i64 (ver s : Nat) := hI.pure 2 (by omega) (hall 2 (by omega))
    have x3 : x 3 = numF (w.heap.size + 1 + 1) := hI.pure 3 (by omega) (hall 3 (by omega))
    have x4 : x 4 = .int .i64 (gv s 0 1 : Nat) := hI.pure 4 (by omega) (hall 4 (by omega))
    have x5 : x 5 = .int .i64 (gv s 0 1 % 16 : Nat) := hI.pure 5 (by omega) (hall 5 (by omega))
    have x6 : x 6 = .int .i64 (siz s : Nat) := hI.pure 6 (by omega) (hall 6 (by omega))
    have x7 : x 7 = numF (w.heap.size + 1 + 1) := hI.pure 7 (by omega) (hall 7 (by omega))
    have x8 : x 8 = .int .i64 (len s : Nat) := hI.pure 8 (by omega) (hall 8 (by omega))
    obtain ⟨x9, l9, r9⟩ := hI.cell 9 (by omega) (by omega) (hall 9 (by omega))
    obtain ⟨x10, l10, r10⟩ := hI.cell 10 (by omega) (by omega) (hall 10 (by omega))
    obtain ⟨x11, l11, r11⟩ := hI.cell 11 (by omega) (by omega) (hall 11 (by omega))
    rw [if_pos (hall (9 + 3) (by omega))] at r9
    rw [if_pos (hall (10 + 3) (by omega))] at r10
    rw [if_pos (hall (11 + 3) (by omega))] at r11
    have hB := hI.below
    rw [show fr s w.heap.size x = fr s w.heap.size (fun i => if i = 9 then .pointer (some ⟨b 9, 0, none⟩) else if i = 10 then .pointer (some ⟨b 10, 0, none⟩) else if i = 11 then .pointer (some ⟨b 11, 0, none⟩) else vals s (w.heap.size + 1 + 1) i) by simp [fr, vals, x0, x1, x2, x3, x4, x5, x6, x7, x8, x9, x10, x11]]
    clear x0 x1 x2 x3 x4 x5 x6 x7 x8 x9 x10 x11 hI hall
    generalize b 9 = B6 at *
    generalize b 10 = B7 at *
    generalize b 11 = B8 at *
    clear b x d E2 E5 E6
    simp only [fr, vals, reduceIte, Nat.reduceEqDiff]
    have hBw : Below w.heap.size w w' := hB0.trans (hB.mono hB0.size)
    go_wp2_with fail
    refine (first_parse s hs w.heap.size B6 B7 B8 w' (boxed_below b0 hB) (boxed_below b2 hB) (boxed_below b3 hB) r9 r10 r11 c hc hno hyes).mono ?_
    rintro e w2 ⟨rfl, hb2⟩
    have hBw2 : Below w.heap.size w w2 := hBw.trans (hb2.mono hBw.size)
    have hB2 : Below W0.heap.size W0 w2 := hB.trans (hb2.mono hB.size)
    have bh2 : w2.heap[w.heap.size + 1]? = some (.cells #[.string ⟨#[]⟩, .string ⟨#[]⟩, .int .i64 0] 49 (0, 0)) := (hB2.block (w.heap.size + 1) (by omega)).trans bh
    have t0 := head_cell0 bh2
    have t1 := head_cell1 bh2
    have t2 := head_cell2 bh2
    have u0 := head_free bh2 0
    have u1 := head_free bh2 1
    have u2 := head_free bh2 2
    by_cases hc6 : c < 6
    · rw [if_pos hc6]
      have hn : (code c != 0) = true := code_ne c
      have PV := Lib.hid (show parseV s c = .tuple #[.agg #[.string ⟨#[]⟩, .string ⟨#[]⟩, .int .i64 0], .string ⟨#[]⟩, .int .i64 (code c)] from if_pos hc6)
      clear hno hyes b0 b2 b3 r9 r10 r11 HW bh bh2 hB hB2
      go_wp2_with fail
      refine bodyPost_ret (v := .tuple #[.agg #[.string ⟨#[]⟩, .string ⟨#[]⟩, .int .i64 0], .string ⟨#[]⟩, .int .i64 (code c)]) (by simp [results, Try.results24, go_sem, t0, t1, t2]) rfl ⟨by rw [PV.out], ?_⟩
      exact ((hBw2.setCell (p := ⟨w.heap.size + 1, 0, none⟩) (by simp) _).setCell (p := ⟨w.heap.size + 1, 1, none⟩) (by simp) _).setCell (p := ⟨w.heap.size + 1, 2, none⟩) (by simp) _
    · obtain rfl : c = 6 := by omega
      rw [if_neg hc6]
      have PV := Lib.hid (show parseV s 6 = .tuple #[.agg #[.string (s.extract 12 16), .string (s.extract 16 20), .int .i64 (gv s 9 1 : Nat)], .string (s.extract (siz s) (len s)), .int .i64 0] from if_neg hc6)
      have n0 := of_decide_eq_false (hno 0 (by omega))
      have n2 := of_decide_eq_false (hno 2 (by omega))
      have n3 := of_decide_eq_false (hno 3 (by omega))
      have z0 := (boxed_below (boxed_below b0 hB) hb2).cell
      have z2 := (boxed_below (boxed_below b2 hB) hb2).cell
      have z3 := (boxed_below (boxed_below b3 hB) hb2).cell
      have z7 : w2.cell? ⟨B7, 0, none⟩ = some (.int .i64 (siz s : Nat)) := (boxed_below r10 hb2).cell
      have z8 : w2.cell? ⟨B8, 0, none⟩ = some (.int .i64 (len s : Nat)) := (boxed_below r11 hb2).cell
      have HB := Lib.hid bh2
      have i1 : (20 : Int) ≤ (s.size : Int) := by omega
      have i16 : (16 : Int) ≤ (s.size : Int) := by omega
      have i2 : ((siz s : Nat) : Int) ≤ ((len s : Nat) : Int) := by omega
      have i3 : ((len s : Nat) : Int) ≤ (s.size : Int) := by omega
      have m7 : ¬ (w.heap.size + 1 = B7) := by omega
      have m8 : ¬ (w.heap.size + 1 = B8) := by omega
      clear hno hyes b0 b2 b3 r9 r10 r11 HW bh bh2 hB hB2 t0 t1 t2 u0 u1 u2
      go_wp2_with fail
      go_region_held3 (fun W => Below w.heap.size w W ∧ W.cell? ⟨w.heap.size, 0, none⟩ = some (.string s) ∧ W.cell? ⟨w.heap.size + 1 + 1, 0, none⟩ = some (.string s) ∧ W.cell? ⟨w.heap.size + 1 + 1 + 1, 0, none⟩ = some (numF (w.heap.size + 1 + 1)) ∧ W.cell? ⟨B7, 0, none⟩ = some (.int .i64 (siz s : Nat)) ∧ W.cell? ⟨B8, 0, none⟩ = some (.int .i64 (len s : Nat)))
        (first | exact ⟨hBw2.drew, z0, z2, z3, z7, z8⟩ | exact ⟨g0, g1, g2, g3, g7, g8⟩ | (refine ⟨((g0.setCell (p := ⟨w.heap.size + 1, 0, none⟩) (by simp) _).setCell (p := ⟨w.heap.size + 1, 1, none⟩) (by simp) _).setCell (p := ⟨w.heap.size + 1, 2, none⟩) (by simp) _, ?_⟩; go_keep))
        ((go_at_call 76; refine (number_any s hs _ 9 1 (by omega) (by omega) w2.drew z2).mono ?_; rintro e w3 ⟨rfl, hb3⟩; have g0 : Below w.heap.size w w3 := hBw2.drew.trans (hb3.mono hBw2.size); have g1 : w3.cell? _ = _ := (hb3.cell (World.block_lt_of_cell? w2 _ z0)).trans z0; have g2 : w3.cell? _ = _ := (hb3.cell (World.block_lt_of_cell? w2 _ z2)).trans z2; have g3 : w3.cell? _ = _ := (hb3.cell (World.block_lt_of_cell? w2 _ z3)).trans z3; have g7 : w3.cell? _ = _ := (hb3.cell (World.block_lt_of_cell? w2 _ z7)).trans z7; have g8 : w3.cell? _ = _ := (hb3.cell (World.block_lt_of_cell? w2 _ z8)).trans z8; have hq : w3.heap[w.heap.size + 1]? = some (.cells #[.string ⟨#[]⟩, .string ⟨#[]⟩, .int .i64 0] 49 (0, 0)) := (hb3.block _ (Array.getElem?_eq_some_iff.1 HB.out).1).trans HB.out; have t0 := head_cell0 hq; have t1 := head_cell1 hq; have t2 := head_cell2 hq; have u0 := head_free hq 0; have u1 := head_free hq 1; have u2 := head_free hq 2; clear hq))
      go_wp2
      refine bodyPost_ret (v := .tuple #[.agg #[.string (s.extract 12 16), .string (s.extract 16 20), .int .i64 (gv s 9 1 : Nat)], .string (s.extract (siz s) (len s)), .int .i64 0]) (by simp [results, Try.results24, go_sem, t0, t1, t2]) rfl ⟨by rw [PV.out], ?_⟩
      exact ((g0.setCell (p := ⟨w.heap.size + 1, 0, none⟩) (by simp) _).setCell (p := ⟨w.heap.size + 1, 1, none⟩) (by simp) _).setCell (p := ⟨w.heap.size + 1, 2, none⟩) (by simp) _
end Go.Proofs.Ytcdgcjpdlhknoaa.Ip4
