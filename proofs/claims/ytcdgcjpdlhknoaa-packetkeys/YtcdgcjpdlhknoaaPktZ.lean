/-
  The document's answer for packet (package gangplankref07): Of.
-/
import Derived.Test.YtcdgcjpdlhknoaaPktY
import Derived.Test.YtcdgcjpdlhknoaaRgnB
import Derived.Test.YtcdgcjpdlhknoaaPrtF
namespace Go.Proofs.Ytcdgcjpdlhknoaa.Pkt
open Go.RowKit Go.Shelf Txt Rgn

theorem abs_slot {C : Value → Prop} {v : Value} (v' : Value) (e : v = v') (h : ∀ N, N = v' → C N) : C v := h v e
def lit3 (l : List Value) : Nat → Value := fun j => l.getD j undef
/-- Of's frame while the key is made. -/
abbrev frO (s : ByteArray) (h : Nat) (N : Value) (y x : Nat → Value) : Act := { tmps := #[.string s, y 1, .pointer (some ⟨h, 0, none⟩), y 3, N, x 19, y 6, y 7, y 8, y 9, y 10, y 11, y 12, y 13, y 14, x 0, x 1, x 2, x 3, x 4, x 5, x 6, x 7, x 8, x 9, x 10, x 11, x 12, x 13, x 14, x 15, x 16, x 17, x 18, y 34, y 35, y 36, y 37, y 38, y 39, y 40, y 41, y 42, y 43, y 44, y 45, y 46, y 47], defers := [] }
def valO (s : ByteArray) (n : Nat) : Nat → Value
  | 0 | 3 | 6 | 8 | 10 | 14 => .string s
  | 1 => .int .u8 (gv s 0 1 : Nat)
  | 2 => .int .i64 (gv s 0 1 : Nat)
  | 4 => .int .u8 (gv s 1 1 : Nat)
  | 5 => .int .i64 (gv s 1 1 : Nat)
  | 7 => .int .i64 (gv s 2 2 : Nat)
  | 9 => .int .i64 (gv s 4 2 : Nat)
  | 11 | 15 => .int .i64 (n : Nat)
  | 12 => .int .i64 (6 + (n : Int))
  | 13 => .string (s.extract 6 (6 + n))
  | 16 => .int .i64 (22 + (n : Int))
  | 17 => .string (s.extract 22 (22 + n))
  | 18 => keyV (gv s 0 1 : Nat) (s.extract 6 (6 + n)) (s.extract 22 (22 + n)) (gv s 2 2 : Nat) (gv s 4 2 : Nat) (gv s 1 1 : Nat)
  | _ => undef

set_option maxRecDepth 100000 in
set_option maxHeartbeats 2000000 in
theorem refOf_size (B : ByteArray) (h : B.size ≠ 38) : Tells 21 #[.string B] (.tuple #[zeroK, .bool false]) := by
  intro w
  have n0 : ((B.size : Int) != 38) = true := bne_iff_ne.2 (by omega)
  clear h
  go_enter Try.func21, Try.ntmps21
  go_wp2_with fail
  exact bodyPost_ret (v := .tuple #[zeroK, .bool false]) (by simp [results, Try.results21, go_sem]) rfl ⟨rfl, below_alloc w _⟩

set_option maxRecDepth 100000 in
set_option maxHeartbeats 4000000 in
theorem refOf_gen (B R : ByteArray) (hB : B.size = 38) (n : Nat) (hn16 : n ≤ 16) (hn : (gv B 0 1 = 4 ∧ n = 4) ∨ (gv B 0 1 ≠ 4 ∧ n = 16)) (ok : Bool) (ht : Tells 19 #[keyV (gv B 0 1 : Nat) (B.extract 6 (6 + n)) (B.extract 22 (22 + n)) (gv B 2 2 : Nat) (gv B 4 2 : Nat) (gv B 1 1 : Nat)] (.tuple #[.string R, .bool ok])) (same : Bool) (hs : decide (R = B) = same) :
    Tells 21 #[.string B] (ofV (ok && same) (gv B 0 1 : Nat) (B.extract 6 (6 + n)) (B.extract 22 (22 + n)) (gv B 2 2 : Nat) (gv B 4 2 : Nat) (gv B 1 1 : Nat)) := by
  intro w
  have n0 : ((B.size : Int) != 38) = false := by rw [hB]; rfl
  have HT := Lib.hid ht
  have T1 := text_cmp R B
  rw [hs] at T1
  have P0 := Lib.hid (keyed_new w 0 ⟨#[]⟩ ⟨#[]⟩ 0 0 0)
  have B0 := Lib.hid (below_alloc w (.cells (keyC 0 ⟨#[]⟩ ⟨#[]⟩ 0 0 0) 24))
  have g0 := Lib.hid (Prt.gv_byte B 0 (by omega))
  have l0 := gv_lt B 0 1 (by omega)
  have l1 := gv_lt B 1 1 (by omega)
  have z0 := IntWalk.i64_in ((gv B 0 1 : Nat) : Int) (by omega)
  have z1 := IntWalk.i64_in ((gv B 1 1 : Nat) : Int) (by omega)
  have a1 : IntKind.i64.wrap (6 + (n : Int)) = 6 + (n : Int) := IntWalk.i64_in _ (by omega)
  have a2 : IntKind.i64.wrap (22 + (n : Int)) = 22 + (n : Int) := IntWalk.i64_in _ (by omega)
  clear ht hs
  rcases hn with ⟨hv, hn⟩ | ⟨hv, hn⟩
  · have t4 : (((B[0]).toNat : Int) == 4) = true := beq_iff_eq.2 (by rw [← g0.out, hv]; rfl)
    have HN := Lib.hid hn
    clear hv hn
    go_enter Try.func21, Try.ntmps21
    go_wp2_with fail
    change Code.wp _ _ _ (frO B w.heap.size (.int .i64 4) (lit3 [undef, undef, undef, .bool false, undef, undef, undef, undef, .string B, .int .i64 38, .bool false, undef, .string B, .int .u8 ((B[0]).toNat : Nat), .bool true]) (fun _ => undef)) _
    generalize lit3 [undef, undef, undef, .bool false, undef, undef, undef, undef, .string B, .int .i64 38, .bool false, undef, .string B, .int .u8 ((B[0]).toNat : Nat), .bool true] = y0
    refine abs_slot (C := fun N => Code.wp _ _ _ (frO B w.heap.size N y0 (fun _ => undef)) _) (.int .i64 (n : Nat)) (by rw [HN.out]; rfl) ?_
    rintro N rfl
    clear HN
    refine wp_region_inv (fun d a W => ∃ (x' : Nat → Value) (b : Nat), a = frO B w.heap.size (.int .i64 (n : Nat)) y0 x' ∧ InvB 19 20 (w.alloc (.cells (keyC 0 ⟨#[]⟩ ⟨#[]⟩ 0 0 0) 24)) 24 (keyC 0 ⟨#[]⟩ ⟨#[]⟩ 0 0 0) (keyC (gv B 0 1 : Nat) (B.extract 6 (6 + n)) (B.extract 22 (22 + n)) (gv B 2 2 : Nat) (gv B 4 2 : Nat) (gv B 1 1 : Nat)) (valO B n) d x' b W) (by kernel_rfl) (by kernel_rfl) ?step ?done ?start
    case start => exact ⟨fun _ => undef, 0, rfl, InvB.start _ _ _ (Below.refl _ _).drew⟩
    case step =>
      rintro d a W i hi hd hall ⟨x', b, rfl, hI⟩
      replace hi : i < 21 := hi
      obtain rfl | rfl | rfl | rfl | rfl | rfl | rfl | rfl | rfl | rfl | rfl | rfl | rfl | rfl | rfl | rfl | rfl | rfl | rfl | rfl | rfl : i = 0 ∨ i = 1 ∨ i = 2 ∨ i = 3 ∨ i = 4 ∨ i = 5 ∨ i = 6 ∨ i = 7 ∨ i = 8 ∨ i = 9 ∨ i = 10 ∨ i = 11 ∨ i = 12 ∨ i = 13 ∨ i = 14 ∨ i = 15 ∨ i = 16 ∨ i = 17 ∨ i = 18 ∨ i = 19 ∨ i = 20 := by omega
      · clear hall
        refine wpOp_step rfl (fun K hK1 => ?_)
        simp only [List.getElem_toArray, List.getElem_cons_zero]
        go_simp
        exact hK1 _ _ ⟨_, _, by simp [upv, valO], hI.yields (i := 0) (by omega) (by omega) (Below.refl _ _)⟩
      · have h0 : x' 0 = .string B := hI.pure 0 (by omega) (by omega) (hall 0 (by kernel_rfl))
        have gb := Lib.hid (Prt.gv_byte B 0 (by omega))
        clear hall
        refine wpOp_step rfl (fun K hK1 => ?_)
        simp only [List.getElem_toArray, List.getElem_cons_zero, List.getElem_cons_succ]
        go_simp
        exact hK1 _ _ ⟨_, _, by simp [upv, valO, h0, gb.out], hI.yields (i := 1) (by omega) (by omega) (Below.refl _ _)⟩
      · have h1 : x' 1 = .int .u8 (gv B 0 1 : Nat) := hI.pure 1 (by omega) (by omega) (hall 1 (by kernel_rfl))
        clear hall
        refine wpOp_step rfl (fun K hK1 => ?_)
        simp only [List.getElem_toArray, List.getElem_cons_zero, List.getElem_cons_succ]
        go_simp
        exact hK1 _ _ ⟨_, _, by simp [upv, valO, h1], hI.yields (i := 2) (by omega) (by omega) (Below.refl _ _)⟩
      · clear hall
        refine wpOp_step rfl (fun K hK1 => ?_)
        simp only [List.getElem_toArray, List.getElem_cons_zero, List.getElem_cons_succ]
        go_simp
        exact hK1 _ _ ⟨_, _, by simp [upv, valO], hI.yields (i := 3) (by omega) (by omega) (Below.refl _ _)⟩
      · have h3 : x' 3 = .string B := hI.pure 3 (by omega) (by omega) (hall 3 (by kernel_rfl))
        have gb := Lib.hid (Prt.gv_byte B 1 (by omega))
        clear hall
        refine wpOp_step rfl (fun K hK1 => ?_)
        simp only [List.getElem_toArray, List.getElem_cons_zero, List.getElem_cons_succ]
        go_simp
        exact hK1 _ _ ⟨_, _, by simp [upv, valO, h3, gb.out], hI.yields (i := 4) (by omega) (by omega) (Below.refl _ _)⟩
      · have h4 : x' 4 = .int .u8 (gv B 1 1 : Nat) := hI.pure 4 (by omega) (by omega) (hall 4 (by kernel_rfl))
        clear hall
        refine wpOp_step rfl (fun K hK1 => ?_)
        simp only [List.getElem_toArray, List.getElem_cons_zero, List.getElem_cons_succ]
        go_simp
        exact hK1 _ _ ⟨_, _, by simp [upv, valO, h4], hI.yields (i := 5) (by omega) (by omega) (Below.refl _ _)⟩
      · clear hall
        refine wpOp_step rfl (fun K hK1 => ?_)
        simp only [List.getElem_toArray, List.getElem_cons_zero, List.getElem_cons_succ]
        go_simp
        exact hK1 _ _ ⟨_, _, by simp [upv, valO], hI.yields (i := 6) (by omega) (by omega) (Below.refl _ _)⟩
      · have h6 : x' 6 = .string B := hI.pure 6 (by omega) (by omega) (hall 6 (by kernel_rfl))
        clear hall
        refine wpOp_step rfl (fun K hK1 => ?_)
        simp only [List.getElem_toArray, List.getElem_cons_zero, List.getElem_cons_succ]
        go_simp
        refine (Prt.refWord_any B (by omega) 2 (by omega) W).mono ?_
        rintro e w3 ⟨rfl, rfl⟩
        exact hK1 _ _ ⟨_, _, by simp [upv, valO, h6], hI.yields (i := 7) (by omega) (by omega) (Below.refl _ _)⟩
      · clear hall
        refine wpOp_step rfl (fun K hK1 => ?_)
        simp only [List.getElem_toArray, List.getElem_cons_zero, List.getElem_cons_succ]
        go_simp
        exact hK1 _ _ ⟨_, _, by simp [upv, valO], hI.yields (i := 8) (by omega) (by omega) (Below.refl _ _)⟩
      · have h8 : x' 8 = .string B := hI.pure 8 (by omega) (by omega) (hall 8 (by kernel_rfl))
        clear hall
        refine wpOp_step rfl (fun K hK1 => ?_)
        simp only [List.getElem_toArray, List.getElem_cons_zero, List.getElem_cons_succ]
        go_simp
        refine (Prt.refWord_any B (by omega) 4 (by omega) W).mono ?_
        rintro e w3 ⟨rfl, rfl⟩
        exact hK1 _ _ ⟨_, _, by simp [upv, valO, h8], hI.yields (i := 9) (by omega) (by omega) (Below.refl _ _)⟩
      · clear hall
        refine wpOp_step rfl (fun K hK1 => ?_)
        simp only [List.getElem_toArray, List.getElem_cons_zero, List.getElem_cons_succ]
        go_simp
        exact hK1 _ _ ⟨_, _, by simp [upv, valO], hI.yields (i := 10) (by omega) (by omega) (Below.refl _ _)⟩
      · clear hall
        refine wpOp_step rfl (fun K hK1 => ?_)
        simp only [List.getElem_toArray, List.getElem_cons_zero, List.getElem_cons_succ]
        go_simp
        exact hK1 _ _ ⟨_, _, by simp [upv, valO], hI.yields (i := 11) (by omega) (by omega) (Below.refl _ _)⟩
      · have h11 : x' 11 = .int .i64 (n : Nat) := hI.pure 11 (by omega) (by omega) (hall 11 (by kernel_rfl))
        clear hall
        refine wpOp_step rfl (fun K hK1 => ?_)
        simp only [List.getElem_toArray, List.getElem_cons_zero, List.getElem_cons_succ]
        go_simp
        exact hK1 _ _ ⟨_, _, by simp [upv, valO, h11], hI.yields (i := 12) (by omega) (by omega) (Below.refl _ _)⟩
      · have h10 : x' 10 = .string B := hI.pure 10 (by omega) (by omega) (hall 10 (by kernel_rfl))
        have h12 : x' 12 = .int .i64 (6 + (n : Int)) := hI.pure 12 (by omega) (by omega) (hall 12 (by kernel_rfl))
        have ES : (Instr.slice 9 (.string B) (some (.int .i64 6)) (some (.int .i64 (6 + (n : Int)))) none).run Try.prog W = .ok (.string (B.extract 6 (6 + n))) W := cut_text B 6 n (by omega) W
        clear hall
        refine wpOp_step rfl (fun K hK1 => ?_)
        simp only [List.getElem_toArray, List.getElem_cons_zero, List.getElem_cons_succ]
        go_simp
        exact hK1 _ _ ⟨_, _, by simp [upv, valO, h10, h12], hI.yields (i := 13) (by omega) (by omega) (Below.refl _ _)⟩
      · clear hall
        refine wpOp_step rfl (fun K hK1 => ?_)
        simp only [List.getElem_toArray, List.getElem_cons_zero, List.getElem_cons_succ]
        go_simp
        exact hK1 _ _ ⟨_, _, by simp [upv, valO], hI.yields (i := 14) (by omega) (by omega) (Below.refl _ _)⟩
      · clear hall
        refine wpOp_step rfl (fun K hK1 => ?_)
        simp only [List.getElem_toArray, List.getElem_cons_zero, List.getElem_cons_succ]
        go_simp
        exact hK1 _ _ ⟨_, _, by simp [upv, valO], hI.yields (i := 15) (by omega) (by omega) (Below.refl _ _)⟩
      · have h15 : x' 15 = .int .i64 (n : Nat) := hI.pure 15 (by omega) (by omega) (hall 15 (by kernel_rfl))
        clear hall
        refine wpOp_step rfl (fun K hK1 => ?_)
        simp only [List.getElem_toArray, List.getElem_cons_zero, List.getElem_cons_succ]
        go_simp
        exact hK1 _ _ ⟨_, _, by simp [upv, valO, h15], hI.yields (i := 16) (by omega) (by omega) (Below.refl _ _)⟩
      · have h14 : x' 14 = .string B := hI.pure 14 (by omega) (by omega) (hall 14 (by kernel_rfl))
        have h16 : x' 16 = .int .i64 (22 + (n : Int)) := hI.pure 16 (by omega) (by omega) (hall 16 (by kernel_rfl))
        have ES : (Instr.slice 9 (.string B) (some (.int .i64 22)) (some (.int .i64 (22 + (n : Int)))) none).run Try.prog W = .ok (.string (B.extract 22 (22 + n))) W := cut_text B 22 n (by omega) W
        clear hall
        refine wpOp_step rfl (fun K hK1 => ?_)
        simp only [List.getElem_toArray, List.getElem_cons_zero, List.getElem_cons_succ]
        go_simp
        exact hK1 _ _ ⟨_, _, by simp [upv, valO, h14, h16], hI.yields (i := 17) (by omega) (by omega) (Below.refl _ _)⟩
      · have h2 : x' 2 = .int .i64 (gv B 0 1 : Nat) := hI.pure 2 (by omega) (by omega) (hall 2 (by kernel_rfl))
        have h5 : x' 5 = .int .i64 (gv B 1 1 : Nat) := hI.pure 5 (by omega) (by omega) (hall 5 (by kernel_rfl))
        have h7 : x' 7 = .int .i64 (gv B 2 2 : Nat) := hI.pure 7 (by omega) (by omega) (hall 7 (by kernel_rfl))
        have h9 : x' 9 = .int .i64 (gv B 4 2 : Nat) := hI.pure 9 (by omega) (by omega) (hall 9 (by kernel_rfl))
        have h13 : x' 13 = .string (B.extract 6 (6 + n)) := hI.pure 13 (by omega) (by omega) (hall 13 (by kernel_rfl))
        have h17 : x' 17 = .string (B.extract 22 (22 + n)) := hI.pure 17 (by omega) (by omega) (hall 17 (by kernel_rfl))
        clear hall
        refine wpOp_step rfl (fun K hK1 => ?_)
        simp only [List.getElem_toArray, List.getElem_cons_zero, List.getElem_cons_succ]
        go_simp
        exact hK1 _ _ ⟨_, _, by simp [upv, valO, h2, h5, h7, h9, h13, h17], hI.yields (i := 18) (by omega) (by omega) (Below.refl _ _)⟩
      · clear hall
        refine wpOp_step rfl (fun K hK1 => ?_)
        simp only [List.getElem_toArray, List.getElem_cons_zero, List.getElem_cons_succ]
        go_simp
        exact hK1 _ _ ⟨_, _, by simp [upv], hI.makes (by omega) hd⟩
      · have h18 : x' 18 = keyV (gv B 0 1 : Nat) (B.extract 6 (6 + n)) (B.extract 22 (22 + n)) (gv B 2 2 : Nat) (gv B 4 2 : Nat) (gv B 1 1 : Nat) := hI.pure 18 (by omega) (by omega) (hall 18 (by kernel_rfl))
        obtain ⟨h19, hle, hz, _⟩ := hI.cell (hall 19 (by kernel_rfl))
        have hK := hz hd
        obtain ⟨k0, k1, k2, k3, k4, k5⟩ := Keyed.cells hK
        have fr := Keyed.free hK
        have h19d := hall 19 (by kernel_rfl)
        clear hall
        refine wpOp_step rfl (fun K hK1 => ?_)
        simp only [List.getElem_toArray, List.getElem_cons_zero, List.getElem_cons_succ]
        go_simp
        refine six_cells (C := fun W' => K _ W') hK ?_
        intro W6 hK6 hb6
        exact hK1 _ _ ⟨_, _, rfl, hI.lays (by omega) h19d hK6 hb6⟩
    case done =>
      rintro d a W hall ⟨x', b, rfl, hI⟩
      replace hall : ∀ i, i < 21 → d i = true := hall
      obtain ⟨h19, hle, _, hv⟩ := hI.cell (hall 19 (by omega))
      have hK := Lib.hid (hv (hall 20 (by omega)))
      have hR := Lib.hid (P0.out.kept hI.below)
      have hB := Lib.hid (below2 B0.out hI.below)
      clear hI hall hv P0 B0 hle
      obtain ⟨c0, c1, c2, c3, c4, c5⟩ := Keyed.cells hK.out
      go_wp2_with fail
      refine (HT.out _).mono ?_
      rintro e w5 ⟨rfl, hb5⟩
      have K5 := Lib.hid (Keyed.kept (V := (gv B 0 1 : Nat)) (x := B.extract 6 (6 + n)) (y := B.extract 22 (22 + n)) (F := (gv B 2 2 : Nat)) (T := (gv B 4 2 : Nat)) (p := (gv B 1 1 : Nat)) hK.out hb5)
      have R5 := Lib.hid (hR.out.kept hb5)
      have B5 := Lib.hid (below2 hB.out hb5)
      clear hb5 hK hR hB c0 c1 c2 c3 c4 c5 HT
      obtain ⟨c0, c1, c2, c3, c4, c5⟩ := K5.out.cells
      obtain ⟨k0, k1, k2, k3, k4, k5⟩ := R5.out.cells
      have fr := R5.out.free
      cases ok with
      | false =>
        go_wp2_with fail
        refine six_cells (C := fun W' => bodyPost _ _ _ _ _ W') R5.out ?_
        intro W6 hK6 hb6
        have B6 := Lib.hid (B5.out.trans hb6)
        clear hb6 k0 k1 k2 k3 k4 k5 c0 c1 c2 c3 c4 c5 fr K5 R5 B5
        obtain ⟨k0, k1, k2, k3, k4, k5⟩ := hK6.cells
        exact bodyPost_ret (v := .tuple #[zeroK, .bool false]) (by simp [results, Try.results21, go_sem, k0, k1, k2, k3, k4, k5]) rfl ⟨rfl, B6.out⟩
      | true =>
        cases same with
        | false =>
          go_wp2_with fail
          refine six_cells (C := fun W' => bodyPost _ _ _ _ _ W') R5.out ?_
          intro W6 hK6 hb6
          have B6 := Lib.hid (B5.out.trans hb6)
          clear hb6 k0 k1 k2 k3 k4 k5 c0 c1 c2 c3 c4 c5 fr K5 R5 B5
          obtain ⟨k0, k1, k2, k3, k4, k5⟩ := hK6.cells
          exact bodyPost_ret (v := .tuple #[zeroK, .bool false]) (by simp [results, Try.results21, go_sem, k0, k1, k2, k3, k4, k5]) rfl ⟨rfl, B6.out⟩
        | true =>
          go_wp2_with fail
          refine six_cells (C := fun W' => bodyPost _ _ _ _ _ W') R5.out ?_
          intro W6 hK6 hb6
          have B6 := Lib.hid (B5.out.trans hb6)
          clear hb6 k0 k1 k2 k3 k4 k5 c0 c1 c2 c3 c4 c5 fr K5 R5 B5
          obtain ⟨k0, k1, k2, k3, k4, k5⟩ := hK6.cells
          exact bodyPost_ret (v := .tuple #[keyV (gv B 0 1 : Nat) (B.extract 6 (6 + n)) (B.extract 22 (22 + n)) (gv B 2 2 : Nat) (gv B 4 2 : Nat) (gv B 1 1 : Nat), .bool true]) (by simp [results, Try.results21, go_sem, k0, k1, k2, k3, k4, k5]) rfl ⟨rfl, B6.out⟩
  · have t4 : (((B[0]).toNat : Int) == 4) = false := beq_false_of_ne (by rw [← g0.out]; omega)
    have HN := Lib.hid hn
    clear hv hn
    go_enter Try.func21, Try.ntmps21
    go_wp2_with fail
    change Code.wp _ _ _ (frO B w.heap.size (.int .i64 16) (lit3 [undef, undef, undef, .bool false, undef, undef, undef, undef, .string B, .int .i64 38, .bool false, undef, .string B, .int .u8 ((B[0]).toNat : Nat), .bool false]) (fun _ => undef)) _
    generalize lit3 [undef, undef, undef, .bool false, undef, undef, undef, undef, .string B, .int .i64 38, .bool false, undef, .string B, .int .u8 ((B[0]).toNat : Nat), .bool false] = y0
    refine abs_slot (C := fun N => Code.wp _ _ _ (frO B w.heap.size N y0 (fun _ => undef)) _) (.int .i64 (n : Nat)) (by rw [HN.out]; rfl) ?_
    rintro N rfl
    clear HN
    refine wp_region_inv (fun d a W => ∃ (x' : Nat → Value) (b : Nat), a = frO B w.heap.size (.int .i64 (n : Nat)) y0 x' ∧ InvB 19 20 (w.alloc (.cells (keyC 0 ⟨#[]⟩ ⟨#[]⟩ 0 0 0) 24)) 24 (keyC 0 ⟨#[]⟩ ⟨#[]⟩ 0 0 0) (keyC (gv B 0 1 : Nat) (B.extract 6 (6 + n)) (B.extract 22 (22 + n)) (gv B 2 2 : Nat) (gv B 4 2 : Nat) (gv B 1 1 : Nat)) (valO B n) d x' b W) (by kernel_rfl) (by kernel_rfl) ?step ?done ?start
    case start => exact ⟨fun _ => undef, 0, rfl, InvB.start _ _ _ (Below.refl _ _).drew⟩
    case step =>
      rintro d a W i hi hd hall ⟨x', b, rfl, hI⟩
      replace hi : i < 21 := hi
      obtain rfl | rfl | rfl | rfl | rfl | rfl | rfl | rfl | rfl | rfl | rfl | rfl | rfl | rfl | rfl | rfl | rfl | rfl | rfl | rfl | rfl : i = 0 ∨ i = 1 ∨ i = 2 ∨ i = 3 ∨ i = 4 ∨ i = 5 ∨ i = 6 ∨ i = 7 ∨ i = 8 ∨ i = 9 ∨ i = 10 ∨ i = 11 ∨ i = 12 ∨ i = 13 ∨ i = 14 ∨ i = 15 ∨ i = 16 ∨ i = 17 ∨ i = 18 ∨ i = 19 ∨ i = 20 := by omega
      · clear hall
        refine wpOp_step rfl (fun K hK1 => ?_)
        simp only [List.getElem_toArray, List.getElem_cons_zero]
        go_simp
        exact hK1 _ _ ⟨_, _, by simp [upv, valO], hI.yields (i := 0) (by omega) (by omega) (Below.refl _ _)⟩
      · have h0 : x' 0 = .string B := hI.pure 0 (by omega) (by omega) (hall 0 (by kernel_rfl))
        have gb := Lib.hid (Prt.gv_byte B 0 (by omega))
        clear hall
        refine wpOp_step rfl (fun K hK1 => ?_)
        simp only [List.getElem_toArray, List.getElem_cons_zero, List.getElem_cons_succ]
        go_simp
        exact hK1 _ _ ⟨_, _, by simp [upv, valO, h0, gb.out], hI.yields (i := 1) (by omega) (by omega) (Below.refl _ _)⟩
      · have h1 : x' 1 = .int .u8 (gv B 0 1 : Nat) := hI.pure 1 (by omega) (by omega) (hall 1 (by kernel_rfl))
        clear hall
        refine wpOp_step rfl (fun K hK1 => ?_)
        simp only [List.getElem_toArray, List.getElem_cons_zero, List.getElem_cons_succ]
        go_simp
        exact hK1 _ _ ⟨_, _, by simp [upv, valO, h1], hI.yields (i := 2) (by omega) (by omega) (Below.refl _ _)⟩
      · clear hall
        refine wpOp_step rfl (fun K hK1 => ?_)
        simp only [List.getElem_toArray, List.getElem_cons_zero, List.getElem_cons_succ]
        go_simp
        exact hK1 _ _ ⟨_, _, by simp [upv, valO], hI.yields (i := 3) (by omega) (by omega) (Below.refl _ _)⟩
      · have h3 : x' 3 = .string B := hI.pure 3 (by omega) (by omega) (hall 3 (by kernel_rfl))
        have gb := Lib.hid (Prt.gv_byte B 1 (by omega))
        clear hall
        refine wpOp_step rfl (fun K hK1 => ?_)
        simp only [List.getElem_toArray, List.getElem_cons_zero, List.getElem_cons_succ]
        go_simp
        exact hK1 _ _ ⟨_, _, by simp [upv, valO, h3, gb.out], hI.yields (i := 4) (by omega) (by omega) (Below.refl _ _)⟩
      · have h4 : x' 4 = .int .u8 (gv B 1 1 : Nat) := hI.pure 4 (by omega) (by omega) (hall 4 (by kernel_rfl))
        clear hall
        refine wpOp_step rfl (fun K hK1 => ?_)
        simp only [List.getElem_toArray, List.getElem_cons_zero, List.getElem_cons_succ]
        go_simp
        exact hK1 _ _ ⟨_, _, by simp [upv, valO, h4], hI.yields (i := 5) (by omega) (by omega) (Below.refl _ _)⟩
      · clear hall
        refine wpOp_step rfl (fun K hK1 => ?_)
        simp only [List.getElem_toArray, List.getElem_cons_zero, List.getElem_cons_succ]
        go_simp
        exact hK1 _ _ ⟨_, _, by simp [upv, valO], hI.yields (i := 6) (by omega) (by omega) (Below.refl _ _)⟩
      · have h6 : x' 6 = .string B := hI.pure 6 (by omega) (by omega) (hall 6 (by kernel_rfl))
        clear hall
        refine wpOp_step rfl (fun K hK1 => ?_)
        simp only [List.getElem_toArray, List.getElem_cons_zero, List.getElem_cons_succ]
        go_simp
        refine (Prt.refWord_any B (by omega) 2 (by omega) W).mono ?_
        rintro e w3 ⟨rfl, rfl⟩
        exact hK1 _ _ ⟨_, _, by simp [upv, valO, h6], hI.yields (i := 7) (by omega) (by omega) (Below.refl _ _)⟩
      · clear hall
        refine wpOp_step rfl (fun K hK1 => ?_)
        simp only [List.getElem_toArray, List.getElem_cons_zero, List.getElem_cons_succ]
        go_simp
        exact hK1 _ _ ⟨_, _, by simp [upv, valO], hI.yields (i := 8) (by omega) (by omega) (Below.refl _ _)⟩
      · have h8 : x' 8 = .string B := hI.pure 8 (by omega) (by omega) (hall 8 (by kernel_rfl))
        clear hall
        refine wpOp_step rfl (fun K hK1 => ?_)
        simp only [List.getElem_toArray, List.getElem_cons_zero, List.getElem_cons_succ]
        go_simp
        refine (Prt.refWord_any B (by omega) 4 (by omega) W).mono ?_
        rintro e w3 ⟨rfl, rfl⟩
        exact hK1 _ _ ⟨_, _, by simp [upv, valO, h8], hI.yields (i := 9) (by omega) (by omega) (Below.refl _ _)⟩
      · clear hall
        refine wpOp_step rfl (fun K hK1 => ?_)
        simp only [List.getElem_toArray, List.getElem_cons_zero, List.getElem_cons_succ]
        go_simp
        exact hK1 _ _ ⟨_, _, by simp [upv, valO], hI.yields (i := 10) (by omega) (by omega) (Below.refl _ _)⟩
      · clear hall
        refine wpOp_step rfl (fun K hK1 => ?_)
        simp only [List.getElem_toArray, List.getElem_cons_zero, List.getElem_cons_succ]
        go_simp
        exact hK1 _ _ ⟨_, _, by simp [upv, valO], hI.yields (i := 11) (by omega) (by omega) (Below.refl _ _)⟩
      · have h11 : x' 11 = .int .i64 (n : Nat) := hI.pure 11 (by omega) (by omega) (hall 11 (by kernel_rfl))
        clear hall
        refine wpOp_step rfl (fun K hK1 => ?_)
        simp only [List.getElem_toArray, List.getElem_cons_zero, List.getElem_cons_succ]
        go_simp
        exact hK1 _ _ ⟨_, _, by simp [upv, valO, h11], hI.yields (i := 12) (by omega) (by omega) (Below.refl _ _)⟩
      · have h10 : x' 10 = .string B := hI.pure 10 (by omega) (by omega) (hall 10 (by kernel_rfl))
        have h12 : x' 12 = .int .i64 (6 + (n : Int)) := hI.pure 12 (by omega) (by omega) (hall 12 (by kernel_rfl))
        have ES : (Instr.slice 9 (.string B) (some (.int .i64 6)) (some (.int .i64 (6 + (n : Int)))) none).run Try.prog W = .ok (.string (B.extract 6 (6 + n))) W := cut_text B 6 n (by omega) W
        clear hall
        refine wpOp_step rfl (fun K hK1 => ?_)
        simp only [List.getElem_toArray, List.getElem_cons_zero, List.getElem_cons_succ]
        go_simp
        exact hK1 _ _ ⟨_, _, by simp [upv, valO, h10, h12], hI.yields (i := 13) (by omega) (by omega) (Below.refl _ _)⟩
      · clear hall
        refine wpOp_step rfl (fun K hK1 => ?_)
        simp only [List.getElem_toArray, List.getElem_cons_zero, List.getElem_cons_succ]
        go_simp
        exact hK1 _ _ ⟨_, _, by simp [upv, valO], hI.yields (i := 14) (by omega) (by omega) (Below.refl _ _)⟩
      · clear hall
        refine wpOp_step rfl (fun K hK1 => ?_)
        simp only [List.getElem_toArray, List.getElem_cons_zero, List.getElem_cons_succ]
        go_simp
        exact hK1 _ _ ⟨_, _, by simp [upv, valO], hI.yields (i := 15) (by omega) (by omega) (Below.refl _ _)⟩
      · have h15 : x' 15 = .int .i64 (n : Nat) := hI.pure 15 (by omega) (by omega) (hall 15 (by kernel_rfl))
        clear hall
        refine wpOp_step rfl (fun K hK1 => ?_)
        simp only [List.getElem_toArray, List.getElem_cons_zero, List.getElem_cons_succ]
        go_simp
        exact hK1 _ _ ⟨_, _, by simp [upv, valO, h15], hI.yields (i := 16) (by omega) (by omega) (Below.refl _ _)⟩
      · have h14 : x' 14 = .string B := hI.pure 14 (by omega) (by omega) (hall 14 (by kernel_rfl))
        have h16 : x' 16 = .int .i64 (22 + (n : Int)) := hI.pure 16 (by omega) (by omega) (hall 16 (by kernel_rfl))
        have ES : (Instr.slice 9 (.string B) (some (.int .i64 22)) (some (.int .i64 (22 + (n : Int)))) none).run Try.prog W = .ok (.string (B.extract 22 (22 + n))) W := cut_text B 22 n (by omega) W
        clear hall
        refine wpOp_step rfl (fun K hK1 => ?_)
        simp only [List.getElem_toArray, List.getElem_cons_zero, List.getElem_cons_succ]
        go_simp
        exact hK1 _ _ ⟨_, _, by simp [upv, valO, h14, h16], hI.yields (i := 17) (by omega) (by omega) (Below.refl _ _)⟩
      · have h2 : x' 2 = .int .i64 (gv B 0 1 : Nat) := hI.pure 2 (by omega) (by omega) (hall 2 (by kernel_rfl))
        have h5 : x' 5 = .int .i64 (gv B 1 1 : Nat) := hI.pure 5 (by omega) (by omega) (hall 5 (by kernel_rfl))
        have h7 : x' 7 = .int .i64 (gv B 2 2 : Nat) := hI.pure 7 (by omega) (by omega) (hall 7 (by kernel_rfl))
        have h9 : x' 9 = .int .i64 (gv B 4 2 : Nat) := hI.pure 9 (by omega) (by omega) (hall 9 (by kernel_rfl))
        have h13 : x' 13 = .string (B.extract 6 (6 + n)) := hI.pure 13 (by omega) (by omega) (hall 13 (by kernel_rfl))
        have h17 : x' 17 = .string (B.extract 22 (22 + n)) := hI.pure 17 (by omega) (by omega) (hall 17 (by kernel_rfl))
        clear hall
        refine wpOp_step rfl (fun K hK1 => ?_)
        simp only [List.getElem_toArray, List.getElem_cons_zero, List.getElem_cons_succ]
        go_simp
        exact hK1 _ _ ⟨_, _, by simp [upv, valO, h2, h5, h7, h9, h13, h17], hI.yields (i := 18) (by omega) (by omega) (Below.refl _ _)⟩
      · clear hall
        refine wpOp_step rfl (fun K hK1 => ?_)
        simp only [List.getElem_toArray, List.getElem_cons_zero, List.getElem_cons_succ]
        go_simp
        exact hK1 _ _ ⟨_, _, by simp [upv], hI.makes (by omega) hd⟩
      · have h18 : x' 18 = keyV (gv B 0 1 : Nat) (B.extract 6 (6 + n)) (B.extract 22 (22 + n)) (gv B 2 2 : Nat) (gv B 4 2 : Nat) (gv B 1 1 : Nat) := hI.pure 18 (by omega) (by omega) (hall 18 (by kernel_rfl))
        obtain ⟨h19, hle, hz, _⟩ := hI.cell (hall 19 (by kernel_rfl))
        have hK := hz hd
        obtain ⟨k0, k1, k2, k3, k4, k5⟩ := Keyed.cells hK
        have fr := Keyed.free hK
        have h19d := hall 19 (by kernel_rfl)
        clear hall
        refine wpOp_step rfl (fun K hK1 => ?_)
        simp only [List.getElem_toArray, List.getElem_cons_zero, List.getElem_cons_succ]
        go_simp
        refine six_cells (C := fun W' => K _ W') hK ?_
        intro W6 hK6 hb6
        exact hK1 _ _ ⟨_, _, rfl, hI.lays (by omega) h19d hK6 hb6⟩
    case done =>
      rintro d a W hall ⟨x', b, rfl, hI⟩
      replace hall : ∀ i, i < 21 → d i = true := hall
      obtain ⟨h19, hle, _, hv⟩ := hI.cell (hall 19 (by omega))
      have hK := Lib.hid (hv (hall 20 (by omega)))
      have hR := Lib.hid (P0.out.kept hI.below)
      have hB := Lib.hid (below2 B0.out hI.below)
      clear hI hall hv P0 B0 hle
      obtain ⟨c0, c1, c2, c3, c4, c5⟩ := Keyed.cells hK.out
      go_wp2_with fail
      refine (HT.out _).mono ?_
      rintro e w5 ⟨rfl, hb5⟩
      have K5 := Lib.hid (Keyed.kept (V := (gv B 0 1 : Nat)) (x := B.extract 6 (6 + n)) (y := B.extract 22 (22 + n)) (F := (gv B 2 2 : Nat)) (T := (gv B 4 2 : Nat)) (p := (gv B 1 1 : Nat)) hK.out hb5)
      have R5 := Lib.hid (hR.out.kept hb5)
      have B5 := Lib.hid (below2 hB.out hb5)
      clear hb5 hK hR hB c0 c1 c2 c3 c4 c5 HT
      obtain ⟨c0, c1, c2, c3, c4, c5⟩ := K5.out.cells
      obtain ⟨k0, k1, k2, k3, k4, k5⟩ := R5.out.cells
      have fr := R5.out.free
      cases ok with
      | false =>
        go_wp2_with fail
        refine six_cells (C := fun W' => bodyPost _ _ _ _ _ W') R5.out ?_
        intro W6 hK6 hb6
        have B6 := Lib.hid (B5.out.trans hb6)
        clear hb6 k0 k1 k2 k3 k4 k5 c0 c1 c2 c3 c4 c5 fr K5 R5 B5
        obtain ⟨k0, k1, k2, k3, k4, k5⟩ := hK6.cells
        exact bodyPost_ret (v := .tuple #[zeroK, .bool false]) (by simp [results, Try.results21, go_sem, k0, k1, k2, k3, k4, k5]) rfl ⟨rfl, B6.out⟩
      | true =>
        cases same with
        | false =>
          go_wp2_with fail
          refine six_cells (C := fun W' => bodyPost _ _ _ _ _ W') R5.out ?_
          intro W6 hK6 hb6
          have B6 := Lib.hid (B5.out.trans hb6)
          clear hb6 k0 k1 k2 k3 k4 k5 c0 c1 c2 c3 c4 c5 fr K5 R5 B5
          obtain ⟨k0, k1, k2, k3, k4, k5⟩ := hK6.cells
          exact bodyPost_ret (v := .tuple #[zeroK, .bool false]) (by simp [results, Try.results21, go_sem, k0, k1, k2, k3, k4, k5]) rfl ⟨rfl, B6.out⟩
        | true =>
          go_wp2_with fail
          refine six_cells (C := fun W' => bodyPost _ _ _ _ _ W') R5.out ?_
          intro W6 hK6 hb6
          have B6 := Lib.hid (B5.out.trans hb6)
          clear hb6 k0 k1 k2 k3 k4 k5 c0 c1 c2 c3 c4 c5 fr K5 R5 B5
          obtain ⟨k0, k1, k2, k3, k4, k5⟩ := hK6.cells
          exact bodyPost_ret (v := .tuple #[keyV (gv B 0 1 : Nat) (B.extract 6 (6 + n)) (B.extract 22 (22 + n)) (gv B 2 2 : Nat) (gv B 4 2 : Nat) (gv B 1 1 : Nat), .bool true]) (by simp [results, Try.results21, go_sem, k0, k1, k2, k3, k4, k5]) rfl ⟨rfl, B6.out⟩

theorem refOf_yes (V : Int) (x y : ByteArray) (F T p : Int) (h : right V x y F T p) : Tells 21 #[.string (recS V x y F T p)] (.tuple #[keyV V x y F T p, .bool true]) := by
  obtain ⟨_, t0, t1, t2, t3⟩ := right_told h
  have sz := right_size h
  have es := recS_src V x y F T p (by omega)
  have ed := recS_dst V x y F T p (by omega)
  rw [sz.1] at es
  rw [sz.2.1] at ed
  have hn : (gv (recS V x y F T p) 0 1 = 4 ∧ addr V = 4) ∨ (gv (recS V x y F T p) 0 1 ≠ 4 ∧ addr V = 16) := by
    rcases h.1 with ⟨e, _, _⟩ | ⟨e, _, _⟩
    · exact .inl ⟨by omega, by unfold addr; rw [if_pos e]⟩
    · exact .inr ⟨by omega, by unfold addr; rw [if_neg (by omega), if_pos e]⟩
  have hb := refBytes_yes V x y F T p h
  have := refOf_gen (recS V x y F T p) (recS V x y F T p) (recS_size ..) (addr V) sz.2.2.2 hn true (by rw [t0, t1, t2, t3, es, ed]; exact hb) true (decide_eq_true rfl)
  rw [t0, t1, t2, t3, es, ed] at this
  exact this
theorem refOf_no (B : ByteArray) (h : ∀ V x y F T p, right V x y F T p → recS V x y F T p ≠ B) : Tells 21 #[.string B] (.tuple #[zeroK, .bool false]) := by
  by_cases hB : B.size = 38
  · obtain ⟨n, hn16, hn⟩ : ∃ n, n ≤ 16 ∧ ((gv B 0 1 = 4 ∧ n = 4) ∨ (gv B 0 1 ≠ 4 ∧ n = 16)) := by
      by_cases e : gv B 0 1 = 4
      · exact ⟨4, by omega, .inl ⟨e, rfl⟩⟩
      · exact ⟨16, by omega, .inr ⟨e, rfl⟩⟩
    by_cases hr : right (gv B 0 1 : Nat) (B.extract 6 (6 + n)) (B.extract 22 (22 + n)) (gv B 2 2 : Nat) (gv B 4 2 : Nat) (gv B 1 1 : Nat)
    · exact refOf_gen B _ hB n hn16 hn true (refBytes_yes _ _ _ _ _ _ hr) false (decide_eq_false (h _ _ _ _ _ _ hr))
    · exact refOf_gen B _ hB n hn16 hn false (refBytes_no _ _ _ _ _ _ hr) _ rfl
  · exact refOf_size B hB
end Go.Proofs.Ytcdgcjpdlhknoaa.Pkt
