/-
  Package ip6: Parse.
-/
import Derived.Test.YtcdgcjpdlhknoaaIp6B
import Derived.Test.YtcdgcjpdlhknoaaRgnT
namespace Go.Proofs.Ytcdgcjpdlhknoaa.Ip6
open Go.RowKit Go.Shelf Txt Rgn
open Oct (num bytes_length str)

/-- The sizes of the fields of a head. -/
def zz : Nat → Nat
  | 0 => 4
  | 1 => 2
  | 2 => 1
  | 3 => 1
  | _ => 16
/-- The version that a head tells, and how many bytes it holds. -/
def ver (s : ByteArray) : Nat := gv s 0 4 / 268435456
def len (s : ByteArray) : Nat := gv s 4 2
/-- The zero head, no text, and an error. -/
abbrev badV (e : Int) : Value := .tuple #[.agg #[.string ⟨#[]⟩, .string ⟨#[]⟩, .int .i64 0], .string ⟨#[]⟩, .int .i64 e]
/-- The head, what it holds, and OK. -/
abbrev okV (s : ByteArray) : Value := .tuple #[.agg #[.string (s.extract 8 24), .string (s.extract 24 40), .int .i64 (gv s 6 1 : Nat)], .string (s.extract 40 (40 + len s)), .int .i64 0]

/-- What Parse answers of a text that is not short. -/
def longV (s : ByteArray) : Value := if ver s ≠ 6 then badV 3 else if s.size < 40 + len s then badV 4 else okV s
theorem longV_version {s : ByteArray} (h : ver s ≠ 6) : longV s = badV 3 := if_pos h
theorem longV_length {s : ByteArray} (h : ver s = 6) (h2 : s.size < 40 + len s) : longV s = badV 4 := by unfold longV; rw [if_neg (by omega), if_pos h2]
theorem longV_ok {s : ByteArray} (h : ver s = 6) (h2 : ¬ s.size < 40 + len s) : longV s = okV s := by unfold longV; rw [if_neg (by omega), if_neg h2]

theorem head_cells {W : World} {b T : Nat} {v0 v1 v2 : Value} (h : W.heap[b]? = some (.cells #[v0, v1, v2] T (0, 0))) :
    W.cell? ⟨b, 0, none⟩ = some v0 ∧ W.cell? ⟨b, 1, none⟩ = some v1 ∧ W.cell? ⟨b, 2, none⟩ = some v2 ∧ ∀ i, W.frozen? ⟨b, i, none⟩ = false :=
  ⟨by simp [World.cell?, h], by simp [World.cell?, h], by simp [World.cell?, h], fun i => by simp [World.frozen?, h]⟩
/-- The six sizes, in their row. -/
theorem sizes_cells (W : World) (b : Nat) (h : W.heap[b]? = some (.cells #[.int .i64 4, .int .i64 2, .int .i64 1, .int .i64 1, .int .i64 16, .int .i64 16] 3 (0, 0))) : ∀ j, j < 6 → W.cell? ⟨b, j, none⟩ = some (.int .i64 (zz j : Nat)) := by
  intro j hj
  obtain rfl | rfl | rfl | rfl | rfl | rfl : j = 0 ∨ j = 1 ∨ j = 2 ∨ j = 3 ∨ j = 4 ∨ j = 5 := by omega
  all_goals (rw [Lib.cell_of_heap h]; rfl)

/-- The seven fields of a head, in a row of the call's own. -/
def Fields (s : ByteArray) (g : Nat) (W : World) : Prop := ∀ j, j < 7 → W.cell? ⟨g, j, none⟩ = some (.string (if j < 6 then s.extract (pre zz j) (pre zz (j + 1)) else s.extract 40 s.size))
theorem Fields.kept {s : ByteArray} {g : Nat} {W W' : World} (h : Fields s g W) (hb : Below W.heap.size W W') : Fields s g W' := fun j hj =>
  (hb.cell (p := ⟨g, j, none⟩) (World.block_lt_of_cell? W _ (h j hj))).trans (h j hj)
theorem fields_of {s : ByteArray} {B g cap : Nat} {W : World} (h : W.ownsRow B 9 1 (.slice (some ⟨g, 0, none⟩) 7 cap) 7 (cutL s zz 6 ++ [.string (s.extract (pre zz 6) s.size)])) : Fields s g W := by
  intro j hj
  rw [h.cellAt j (by omega)]
  by_cases h6 : j < 6
  · rw [if_pos h6, List.getElem?_append_left (by rw [cutL_length]; exact h6), cutL_get s zz h6]
  · obtain rfl : j = 6 := by omega
    rw [if_neg h6, List.getElem?_append_right (by rw [cutL_length]; omega), cutL_length]; rfl

set_option maxRecDepth 100000 in
set_option maxHeartbeats 2000000 in
theorem Parse_short (s : ByteArray) (hs : s.size < 40) (w : World) :
    Calls Try.prog 26 #[.string s] w fun e W' => e = .returned (badV 2) ∧ Below w.heap.size w W' := by
  have hB0 : Below w.heap.size w ((w.alloc (.cells #[.string ⟨#[]⟩, .string ⟨#[]⟩, .int .i64 0] 52)).alloc (.cells #[.int .i64 4, .int .i64 2, .int .i64 1, .int .i64 1, .int .i64 16, .int .i64 16] 3)) := ((Below.refl _ w).alloc (Nat.le_refl _) _).alloc (by simp) _
  have cF := cut_any s (by omega) zz 6 (w.heap.size + 1) 6 (by omega) ((w.alloc (.cells #[.string ⟨#[]⟩, .string ⟨#[]⟩, .int .i64 0] 52)).alloc (.cells #[.int .i64 4, .int .i64 2, .int .i64 1, .int .i64 1, .int .i64 16, .int .i64 16] 3)) (by simp) (sizes_cells _ _ (by
    have := World.alloc_heap_new (w.alloc (.cells #[.string ⟨#[]⟩, .string ⟨#[]⟩, .int .i64 0] 52)) (.cells #[.int .i64 4, .int .i64 2, .int .i64 1, .int .i64 1, .int .i64 16, .int .i64 16] 3)
    rwa [World.size_alloc] at this))
  have CF := Lib.hid cF
  have bh : ((w.alloc (.cells #[.string ⟨#[]⟩, .string ⟨#[]⟩, .int .i64 0] 52)).alloc (.cells #[.int .i64 4, .int .i64 2, .int .i64 1, .int .i64 1, .int .i64 16, .int .i64 16] 3)).heap[w.heap.size]? = some (.cells #[.string ⟨#[]⟩, .string ⟨#[]⟩, .int .i64 0] 52 (0, 0)) := by
    rw [Below.heap_alloc _ _ _ (by simp)]
    exact World.alloc_heap_new w _
  clear cF
  go_enter Try.func26, Try.ntmps26
  go_wp2_with fail
  refine CF.out.mono ?_
  clear CF
  rintro e w2 (⟨_, rfl, hb2⟩ | ⟨h, _⟩)
  · have hB2 : Below w.heap.size w w2 := below2 hB0 hb2
    obtain ⟨z0, z1, z2, zf⟩ := head_cells ((hb2.block w.heap.size (by simp; omega)).trans bh)
    have f0 := zf 0
    have f1 := zf 1
    have f2 := zf 2
    clear zf bh hb2 hB0
    go_wp2_with fail
    refine bodyPost_ret (v := badV 2) (by simp [results, Try.results26, go_sem, z0, z1, z2]) rfl ⟨rfl, ?_⟩
    exact ((hB2.setCell (p := ⟨w.heap.size, 0, none⟩) (by simp) _).setCell (p := ⟨w.heap.size, 1, none⟩) (by simp) _).setCell (p := ⟨w.heap.size, 2, none⟩) (by simp) _
  · exact absurd h (by have : pre zz 6 = 40 := rfl
                       omega)

/-- Parse's frame while the head is made. -/
abbrev frP (s : ByteArray) (h g cap n q : Nat) (R : ByteArray) (x : Nat → Value) : Act := { tmps := #[.string s, undef, .pointer (some ⟨h, 0, none⟩), .string ⟨#[]⟩, .int .i64 0, .slice (some ⟨g, 0, none⟩) 7 cap, .bool true, .int .i64 (n : Nat), x 11, .tuple #[.slice (some ⟨g, 0, none⟩) 7 cap, .bool true], .string s, .slice (some ⟨h + 1, 0, none⟩) 6 6, .tuple #[.slice (some ⟨g, 0, none⟩) 7 cap, .bool true], .slice (some ⟨g, 0, none⟩) 7 cap, .bool true, .bool true, .bool false, undef, .slice (some ⟨g, 0, none⟩) 7 cap, .pointer (some ⟨g, 0, none⟩), .string (s.extract 0 4), .int .i64 (q : Nat), .int .i64 ((q : Int) / 268435456), .bool false, undef, .slice (some ⟨g, 0, none⟩) 7 cap, .pointer (some ⟨g, 1, none⟩), .string (s.extract 4 6), .int .i64 (n : Nat), .int .i64 (n : Nat), .slice (some ⟨g, 0, none⟩) 7 cap, .pointer (some ⟨g, 6, none⟩), .string R, .int .i64 (R.size : Nat), .bool false, undef, x 0, x 1, x 2, x 3, x 4, x 5, x 6, x 7, x 8, x 9, x 10, undef, undef, undef, undef, undef, undef], defers := [] }
/-- What its operations yield. -/
def valP (s : ByteArray) (g cap : Nat) : Nat → Value
  | 0 | 3 | 6 => .slice (some ⟨g, 0, none⟩) 7 cap
  | 1 => .pointer (some ⟨g, 4, none⟩)
  | 2 => .string (s.extract 8 24)
  | 4 => .pointer (some ⟨g, 5, none⟩)
  | 5 => .string (s.extract 24 40)
  | 7 => .pointer (some ⟨g, 2, none⟩)
  | 8 => .string (s.extract 6 7)
  | 9 => .int .i64 (gv s 6 1 : Nat)
  | _ => .agg #[.string (s.extract 8 24), .string (s.extract 24 40), .int .i64 (gv s 6 1 : Nat)]

set_option maxRecDepth 100000 in
set_option maxHeartbeats 2000000 in
theorem Parse_long (s : ByteArray) (h40 : 40 ≤ s.size) (hs : s.size ≤ 1099511627776) (w : World) :
    Calls Try.prog 26 #[.string s] w fun e W' => e = .returned (longV s) ∧ Below w.heap.size w W' := by
  have hB0 : Below w.heap.size w ((w.alloc (.cells #[.string ⟨#[]⟩, .string ⟨#[]⟩, .int .i64 0] 52)).alloc (.cells #[.int .i64 4, .int .i64 2, .int .i64 1, .int .i64 1, .int .i64 16, .int .i64 16] 3)) := ((Below.refl _ w).alloc (Nat.le_refl _) _).alloc (by simp) _
  have cF := cut_any s (by omega) zz 6 (w.heap.size + 1) 6 (by omega) ((w.alloc (.cells #[.string ⟨#[]⟩, .string ⟨#[]⟩, .int .i64 0] 52)).alloc (.cells #[.int .i64 4, .int .i64 2, .int .i64 1, .int .i64 1, .int .i64 16, .int .i64 16] 3)) (by simp) (sizes_cells _ _ (by
    have := World.alloc_heap_new (w.alloc (.cells #[.string ⟨#[]⟩, .string ⟨#[]⟩, .int .i64 0] 52)) (.cells #[.int .i64 4, .int .i64 2, .int .i64 1, .int .i64 1, .int .i64 16, .int .i64 16] 3)
    rwa [World.size_alloc] at this))
  have CF := Lib.hid cF
  have bh : ((w.alloc (.cells #[.string ⟨#[]⟩, .string ⟨#[]⟩, .int .i64 0] 52)).alloc (.cells #[.int .i64 4, .int .i64 2, .int .i64 1, .int .i64 1, .int .i64 16, .int .i64 16] 3)).heap[w.heap.size]? = some (.cells #[.string ⟨#[]⟩, .string ⟨#[]⟩, .int .i64 0] 52 (0, 0)) := by
    rw [Below.heap_alloc _ _ _ (by simp)]
    exact World.alloc_heap_new w _
  clear cF
  go_enter Try.func26, Try.ntmps26
  go_wp2_with fail
  refine CF.out.mono ?_
  clear CF
  rintro e w2 (⟨h, _⟩ | ⟨_, v, rfl, hown, hb2⟩)
  · exact absurd h (by have : pre zz 6 = 40 := rfl
                       omega)
  have hB2 : Below w.heap.size w w2 := below2 hB0 hb2
  obtain ⟨g, cap, rfl, hg1⟩ : ∃ g cap, v = .slice (some ⟨g, 0, none⟩) 7 cap ∧ w.heap.size + 2 ≤ g := by
    rcases hown.2 with ⟨_, h0⟩ | ⟨g, cap, cur, hv, hg, _⟩
    · omega
    · exact ⟨g, cap, hv, by simpa using hg⟩
  have hF2 := Lib.hid (fields_of hown)
  have HB := Lib.hid ((hb2.block w.heap.size (by simp; omega)).trans bh)
  have hf0 : w2.cell? ⟨g, 0, none⟩ = some (.string (s.extract 0 4)) := hF2.out 0 (by omega)
  have hf1 : w2.cell? ⟨g, 1, none⟩ = some (.string (s.extract 4 6)) := hF2.out 1 (by omega)
  clear hown bh hb2 hB0
  go_wp2_with fail
  refine (number_any (s.extract 0 4) (by rw [ext_size s 0 4 (by omega)]; omega) (by rw [ext_size s 0 4 (by omega)]; omega) _).mono ?_
  rintro e w3 ⟨rfl, hb3⟩
  rw [gv_ext]
  have hB3 := below2 hB2 hb3
  have hF3 := Lib.hid (hF2.out.kept hb3)
  have HB3 := Lib.hid ((hb3.block w.heap.size (Array.getElem?_eq_some_iff.1 HB.out).1).trans HB.out)
  have HV := Lib.hid (show ver s = gv s 0 (4 - 0) / 268435456 from rfl)
  have hq : gv s 0 (4 - 0) < 4294967296 := gv_lt s 0 4 (by omega)
  clear hF2 HB hf0 hf1 hb3 hB2
  generalize gv s 0 (4 - 0) = q at *
  by_cases hv : ver s = 6
  · have hne : ((q : Int) / 268435456 != 6) = false := by rw [HV.out] at hv; simp; omega
    have hf1 : w3.cell? ⟨g, 1, none⟩ = some (.string (s.extract 4 6)) := hF3.out 1 (by omega)
    go_wp2_with fail
    refine (number_any (s.extract 4 6) (by rw [ext_size s 4 6 (by omega)]; omega) (by rw [ext_size s 4 6 (by omega)]; omega) _).mono ?_
    rintro e w4 ⟨rfl, hb4⟩
    rw [gv_ext]
    have hB4 := below2 hB3 hb4
    have hF4 := Lib.hid (hF3.out.kept hb4)
    have HB4 := Lib.hid ((hb4.block w.heap.size (Array.getElem?_eq_some_iff.1 HB3.out).1).trans HB3.out)
    have HL := Lib.hid (show len s = gv s 4 (6 - 4) from rfl)
    have hl : gv s 4 (6 - 4) < 65536 := gv_lt s 4 2 (by omega)
    have HR := Lib.hid (ext_size s 40 s.size (Nat.le_refl _))
    have hf6 : w4.cell? ⟨g, 6, none⟩ = some (.string (s.extract 40 s.size)) := hF4.out 6 (by omega)
    clear hF3 HB3 hf1 hb4 hB3 hne HV hq
    generalize gv s 4 (6 - 4) = n at *
    generalize hRd : s.extract 40 s.size = R at *
    have hRs : R.size ≤ 1099511627776 := by have := HR.out; omega
    by_cases hn : R.size < n
    · have hd : decide (R.size < n) = true := decide_eq_true hn
      obtain ⟨z0, z1, z2, zf⟩ := head_cells HB4.out
      have f0 := zf 0
      have f1 := zf 1
      have f2 := zf 2
      have PV := Lib.hid (longV_length hv (by rw [HL.out]; have := HR.out; omega))
      clear zf hF4 HB4
      go_wp2_with fail
      refine bodyPost_ret (v := badV 4) (by simp [results, Try.results26, go_sem, z0, z1, z2]) rfl ⟨by rw [PV.out], ?_⟩
      exact ((hB4.setCell (p := ⟨w.heap.size, 0, none⟩) (by simp) _).setCell (p := ⟨w.heap.size, 1, none⟩) (by simp) _).setCell (p := ⟨w.heap.size, 2, none⟩) (by simp) _
    · have hd : decide (R.size < n) = false := decide_eq_false hn
      have PV := Lib.hid (longV_ok hv (by rw [HL.out]; have := HR.out; omega))
      go_wp2_with fail
      have hn0 : n ≤ R.size := by omega
      clear hd hf6 hn
      refine wp_region_inv (fun d a W => ∃ (x : Nat → Value) (b : Nat), a = frP s w.heap.size g cap n q R x ∧ InvT 11 12 w4 (.string ⟨#[]⟩) (.string ⟨#[]⟩) (.int .i64 0) (.string (s.extract 8 24)) (.string (s.extract 24 40)) (.int .i64 (gv s 6 1 : Nat)) (valP s g cap) d x b W)
        (by kernel_rfl) (by kernel_rfl) ?step ?done ?start
      case start => exact ⟨fun _ => undef, 0, rfl, InvT.start _ _ _ (Below.refl _ w4).drew⟩
      case step =>
        rintro d a W i hi hd hall ⟨x, b, rfl, hI⟩
        replace hi : i < 13 := hi
        obtain rfl | rfl | rfl | rfl | rfl | rfl | rfl | rfl | rfl | rfl | rfl | rfl | rfl : i = 0 ∨ i = 1 ∨ i = 2 ∨ i = 3 ∨ i = 4 ∨ i = 5 ∨ i = 6 ∨ i = 7 ∨ i = 8 ∨ i = 9 ∨ i = 10 ∨ i = 11 ∨ i = 12 := by omega
        · clear hall
          refine wpOp_step rfl (fun K hK => ?_)
          simp only [List.getElem_toArray, List.getElem_cons_zero]
          go_simp
          exact hK _ _ ⟨_, _, by simp [upv, valP], hI.yields (i := 0) (by omega) (by omega) (Below.refl _ _)⟩
        · have h0 : x 0 = .slice (some ⟨g, 0, none⟩) 7 cap := hI.pure 0 (by omega) (by omega) (hall 0 (by kernel_rfl))
          clear hall
          refine wpOp_step rfl (fun K hK => ?_)
          simp only [List.getElem_toArray, List.getElem_cons_zero, List.getElem_cons_succ]
          go_simp
          exact hK _ _ ⟨_, _, by simp [upv, valP, h0], hI.yields (i := 1) (by omega) (by omega) (Below.refl _ _)⟩
        · have h1 : x 1 = .pointer (some ⟨g, 4, none⟩) := hI.pure 1 (by omega) (by omega) (hall 1 (by kernel_rfl))
          have hc : W.cell? ⟨g, 4, none⟩ = some (.string (s.extract 8 24)) := (hF4.out.kept hI.below) 4 (by omega)
          clear hall
          refine wpOp_step rfl (fun K hK => ?_)
          simp only [List.getElem_toArray, List.getElem_cons_zero, List.getElem_cons_succ]
          go_simp
          exact hK _ _ ⟨_, _, by simp [upv, valP, h1], hI.yields (i := 2) (by omega) (by omega) (Below.refl _ _)⟩
        · clear hall
          refine wpOp_step rfl (fun K hK => ?_)
          simp only [List.getElem_toArray, List.getElem_cons_zero, List.getElem_cons_succ]
          go_simp
          exact hK _ _ ⟨_, _, by simp [upv, valP], hI.yields (i := 3) (by omega) (by omega) (Below.refl _ _)⟩
        · have h3 : x 3 = .slice (some ⟨g, 0, none⟩) 7 cap := hI.pure 3 (by omega) (by omega) (hall 3 (by kernel_rfl))
          clear hall
          refine wpOp_step rfl (fun K hK => ?_)
          simp only [List.getElem_toArray, List.getElem_cons_zero, List.getElem_cons_succ]
          go_simp
          exact hK _ _ ⟨_, _, by simp [upv, valP, h3], hI.yields (i := 4) (by omega) (by omega) (Below.refl _ _)⟩
        · have h4 : x 4 = .pointer (some ⟨g, 5, none⟩) := hI.pure 4 (by omega) (by omega) (hall 4 (by kernel_rfl))
          have hc : W.cell? ⟨g, 5, none⟩ = some (.string (s.extract 24 40)) := (hF4.out.kept hI.below) 5 (by omega)
          clear hall
          refine wpOp_step rfl (fun K hK => ?_)
          simp only [List.getElem_toArray, List.getElem_cons_zero, List.getElem_cons_succ]
          go_simp
          exact hK _ _ ⟨_, _, by simp [upv, valP, h4], hI.yields (i := 5) (by omega) (by omega) (Below.refl _ _)⟩
        · clear hall
          refine wpOp_step rfl (fun K hK => ?_)
          simp only [List.getElem_toArray, List.getElem_cons_zero, List.getElem_cons_succ]
          go_simp
          exact hK _ _ ⟨_, _, by simp [upv, valP], hI.yields (i := 6) (by omega) (by omega) (Below.refl _ _)⟩
        · have h6 : x 6 = .slice (some ⟨g, 0, none⟩) 7 cap := hI.pure 6 (by omega) (by omega) (hall 6 (by kernel_rfl))
          clear hall
          refine wpOp_step rfl (fun K hK => ?_)
          simp only [List.getElem_toArray, List.getElem_cons_zero, List.getElem_cons_succ]
          go_simp
          exact hK _ _ ⟨_, _, by simp [upv, valP, h6], hI.yields (i := 7) (by omega) (by omega) (Below.refl _ _)⟩
        · have h7 : x 7 = .pointer (some ⟨g, 2, none⟩) := hI.pure 7 (by omega) (by omega) (hall 7 (by kernel_rfl))
          have hc : W.cell? ⟨g, 2, none⟩ = some (.string (s.extract 6 7)) := (hF4.out.kept hI.below) 2 (by omega)
          clear hall
          refine wpOp_step rfl (fun K hK => ?_)
          simp only [List.getElem_toArray, List.getElem_cons_zero, List.getElem_cons_succ]
          go_simp
          exact hK _ _ ⟨_, _, by simp [upv, valP, h7], hI.yields (i := 8) (by omega) (by omega) (Below.refl _ _)⟩
        · have h8 : x 8 = .string (s.extract 6 7) := hI.pure 8 (by omega) (by omega) (hall 8 (by kernel_rfl))
          clear hall
          refine wpOp_step rfl (fun K hK => ?_)
          simp only [List.getElem_toArray, List.getElem_cons_zero, List.getElem_cons_succ]
          go_simp
          refine (number_any (s.extract 6 7) (by rw [ext_size s 6 7 (by omega)]; omega) (by rw [ext_size s 6 7 (by omega)]; omega) _).mono ?_
          rintro e w5 ⟨rfl, hb5⟩
          rw [gv_ext]
          exact hK _ _ ⟨_, _, by simp [upv, valP, h8], hI.yields (i := 9) (by omega) (by omega) hb5⟩
        · have h2 : x 2 = .string (s.extract 8 24) := hI.pure 2 (by omega) (by omega) (hall 2 (by kernel_rfl))
          have h5 : x 5 = .string (s.extract 24 40) := hI.pure 5 (by omega) (by omega) (hall 5 (by kernel_rfl))
          have h9 : x 9 = .int .i64 (gv s 6 1 : Nat) := hI.pure 9 (by omega) (by omega) (hall 9 (by kernel_rfl))
          clear hall
          refine wpOp_step rfl (fun K hK => ?_)
          simp only [List.getElem_toArray, List.getElem_cons_zero, List.getElem_cons_succ]
          go_simp
          exact hK _ _ ⟨_, _, by simp [upv, valP, h2, h5, h9], hI.yields (i := 10) (by omega) (by omega) (Below.refl _ _)⟩
        · clear hall
          refine wpOp_step rfl (fun K hK => ?_)
          simp only [List.getElem_toArray, List.getElem_cons_zero, List.getElem_cons_succ]
          go_simp
          exact hK _ _ ⟨_, _, by simp [upv], hI.makes (by omega) hd _⟩
        · have h10 : x 10 = .agg #[.string (s.extract 8 24), .string (s.extract 24 40), .int .i64 (gv s 6 1 : Nat)] := hI.pure 10 (by omega) (by omega) (hall 10 (by kernel_rfl))
          have hdl := hall 11 (by kernel_rfl)
          obtain ⟨h11, _, hz, _⟩ := hI.cell hdl
          obtain ⟨c0, c1, c2, cf⟩ := hz hd
          have f0 := cf 0
          have f1 := cf 1
          have f2 := cf 2
          clear cf hz
          clear hall
          refine wpOp_step rfl (fun K hK => ?_)
          simp only [List.getElem_toArray, List.getElem_cons_zero, List.getElem_cons_succ]
          go_simp
          exact hK _ _ ⟨_, _, rfl, hI.lays (by omega) hdl hd⟩
      case done =>
        rintro d a W hall ⟨x, b, rfl, hI⟩
        replace hall : ∀ i, i < 13 → d i = true := hall
        obtain ⟨h11, hb, _, hz⟩ := hI.cell (hall 11 (by omega))
        obtain ⟨c0, c1, c2, _⟩ := hz (hall 12 (by omega))
        have hBW := hI.below
        have hB5 := below2 hB4 hBW
        obtain ⟨z0, z1, z2, zf⟩ := head_cells ((hBW.block w.heap.size (Array.getElem?_eq_some_iff.1 HB4.out).1).trans HB4.out)
        have f0 := zf 0
        have f1 := zf 1
        have f2 := zf 2
        have hf6 : W.cell? ⟨g, 6, none⟩ = some (.string R) := by rw [← hRd]; exact (hF4.out.kept hBW) 6 (by omega)
        have hblt : w.heap.size < w4.heap.size := (Array.getElem?_eq_some_iff.1 HB4.out).1
        have m1 : ¬ (w.heap.size = b) := by omega
        have m2 : ¬ (w.heap.size = g) := by omega
        have hn' : (n : Int) ≤ (R.size : Int) := by omega
        rename_i hl1 hr1
        clear hz hI hall zf hF4 HB4 hBW hB4 hl1 hr1 d
        simp only [frP, h11]
        clear h11
        have hC := Lib.hid ((((hB5.drew).setCell (p := ⟨w.heap.size, 0, none⟩) (by simp) (.string (s.extract 8 24))).setCell (p := ⟨w.heap.size, 1, none⟩) (by simp) (.string (s.extract 24 40))).setCell (p := ⟨w.heap.size, 2, none⟩) (by simp) (.int .i64 (gv s 6 1 : Nat)))
        clear hB5 hblt hb hg1
        go_wp2_with fail
        go_region
        all_goals go_wp2
        have eR : R.extract 0 n = s.extract 40 (40 + len s) := by
          have := HR.out
          rw [← hRd, ext_ext s _ _ _ _ (by omega), HL.out]
        exact bodyPost_ret (v := .tuple #[.agg #[.string (s.extract 8 24), .string (s.extract 24 40), .int .i64 (gv s 6 1 : Nat)], .string (R.extract 0 n), .int .i64 0]) (by simp [results, Try.results26, go_sem, z0, z1, z2]) rfl ⟨by rw [PV.out, eR], hC.out⟩
  · have hne : ((q : Int) / 268435456 != 6) = true := by rw [HV.out] at hv; simp; omega
    obtain ⟨z0, z1, z2, zf⟩ := head_cells HB3.out
    have f0 := zf 0
    have f1 := zf 1
    have f2 := zf 2
    clear zf
    go_wp2_with fail
    refine bodyPost_ret (v := badV 3) (by simp [results, Try.results26, go_sem, z0, z1, z2]) rfl ⟨by rw [longV_version hv], ?_⟩
    exact ((hB3.setCell (p := ⟨w.heap.size, 0, none⟩) (by simp) _).setCell (p := ⟨w.heap.size, 1, none⟩) (by simp) _).setCell (p := ⟨w.heap.size, 2, none⟩) (by simp) _
end Go.Proofs.Ytcdgcjpdlhknoaa.Ip6
