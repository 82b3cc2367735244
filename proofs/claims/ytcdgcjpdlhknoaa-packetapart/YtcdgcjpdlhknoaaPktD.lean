/-
  Package packet: (*record).key of a record that may be a key's.
-/
import Derived.Test.YtcdgcjpdlhknoaaPktC
namespace Go.Proofs.Ytcdgcjpdlhknoaa.Pkt
open Go.RowKit Go.Shelf Txt Rgn
open Lib (byteCells)

/-- key's frame while the addresses are cut out. -/
abbrev frK (h k : Nat) (s : ByteArray) (n : Nat) (y x : Nat → Value) : Act := { tmps := #[y 0, y 1, .pointer (some ⟨h, 0, none⟩), y 3, .string s, .pointer (some ⟨k, 0, none⟩), .int .i64 (n : Nat), y 7, y 8, y 9, y 10, y 11, y 12, y 13, y 14, y 15, y 16, y 17, y 18, y 19, y 20, y 21, y 22, y 23, y 24, y 25, y 26, y 27, y 28, y 29, y 30, y 31, y 32, y 33, y 34, y 35, x 0, x 1, x 2, x 3, x 4, x 5, x 6, x 7, x 8, x 10, undef], defers := [] }
theorem cut_text (s : ByteArray) (a n : Nat) (h : a + n ≤ s.size) (W : World) : (Instr.slice 9 (.string s) (some (.int .i64 (a : Nat))) (some (.int .i64 ((a : Nat) + (n : Int)))) none).run Try.prog W = .ok (.string (s.extract a (a + n))) W := by
  have h1 : (0 : Int) ≤ a ∧ (a : Int) ≤ ((a : Int) + (n : Int)).toNat := by omega
  have h2 : (0 : Int) ≤ (a : Int) + (n : Int) ∧ (a : Int) + (n : Int) ≤ s.size := by omega
  have e : ((a : Int) + (n : Int)).toNat = a + n := by omega
  simp [Instr.slice, Instr.sliceBounds, Instr.sliceBound, run_underlying Try.underlying9, asIntOf, h1, h2, e]
def lit (l : List Value) : Nat → Value := fun j => l.getD j undef
/-- What its operations yield. -/
def valK (k : Nat) (s : ByteArray) (n : Nat) : Nat → Value
  | 0 | 4 => .string s
  | 1 | 5 => .int .i64 (n : Nat)
  | 2 => .int .i64 ((6 + n : Nat) : Int)
  | 3 => .string (s.extract 6 (6 + n))
  | 6 => .int .i64 ((22 + n : Nat) : Int)
  | 7 => .string (s.extract 22 (22 + n))
  | 8 => .pointer (some ⟨k, 1, none⟩)
  | 10 => .pointer (some ⟨k, 2, none⟩)
  | _ => undef
/-- The two keys, behind some of them. -/
structure StK (h k : Nat) (V : Int) (X Y : ByteArray) (F T p : Int) (w : World) (d : Nat → Bool) (W : World) : Prop where
  key : Keyed W k V (if d 9 = true then X else ⟨#[]⟩) (if d 11 = true then Y else ⟨#[]⟩) F T p
  res : Keyed W h 0 ⟨#[]⟩ ⟨#[]⟩ 0 0 0
  below : Below w.heap.size w W
section
variable {h k : Nat} {V : Int} {X Y : ByteArray} {F T p : Int} {w W : World} {d : Nat → Bool}
theorem StK.upd (hs : StK h k V X Y F T p w d W) (i : Nat) (h9 : i ≠ 9) (h11 : i ≠ 11) : StK h k V X Y F T p w (Rgn.upd d i) W := by
  refine ⟨?_, hs.res, hs.below⟩
  rw [upd_other d (Ne.symm h9), upd_other d (Ne.symm h11)]
  exact hs.key
theorem StK.set9 (hs : StK h k V X Y F T p w d W) (hne : h ≠ k) (hk : w.heap.size ≤ k) : StK h k V X Y F T p w (Rgn.upd d 9) (W.setCell ⟨k, 1, none⟩ (.string X)) := by
  refine ⟨?_, (Below.heap_setCell W ⟨k, 1, none⟩ _ h hne).trans hs.res, hs.below.setCell (p := ⟨k, 1, none⟩) hk _⟩
  rw [upd_same, upd_other d (by omega), if_pos rfl]
  exact set_of hs.key 1 _
theorem StK.set11 (hs : StK h k V X Y F T p w d W) (hne : h ≠ k) (hk : w.heap.size ≤ k) : StK h k V X Y F T p w (Rgn.upd d 11) (W.setCell ⟨k, 2, none⟩ (.string Y)) := by
  refine ⟨?_, (Below.heap_setCell W ⟨k, 2, none⟩ _ h hne).trans hs.res, hs.below.setCell (p := ⟨k, 2, none⟩) hk _⟩
  rw [upd_same, upd_other d (by omega), if_pos rfl]
  exact set_of hs.key 2 _
end

set_option maxRecDepth 100000 in
set_option maxHeartbeats 2000000 in
theorem key_good (b : Nat) (L : List UInt8) (hL : L.length = 38) (h : okR (Oct.str L)) (n : Nat) (hn : addr (gv (Oct.str L) 0 1 : Nat) = n) (hn1 : 1 ≤ n) (hn2 : n ≤ 16) (w : World) (hR : Rec w b L) :
    Calls Try.prog 37 #[.pointer (some ⟨b, 0, none⟩)] w fun e W' => e = .returned (.tuple #[keyV (rV (Oct.str L) : Nat) ((Oct.str L).extract 6 (6 + n)) ((Oct.str L).extract 22 (22 + n)) (rF (Oct.str L) : Nat) (rT (Oct.str L) : Nat) (rP (Oct.str L) : Nat), .bool true]) ∧ Below w.heap.size w W' := by
  have zS : (Oct.str L).size = 38 := by rw [str_size, hL]
  have e1 := run_text (w.alloc (.cells (keyC 0 ⟨#[]⟩ ⟨#[]⟩ 0 0 0) 24)) b L (hR.kept (below_alloc w _)) hL
  generalize Oct.str L = s at *
  have C0 := fun W => Lib.hid (number_any s 0 1 (by omega) (by omega) (by omega) W)
  have C1 := fun W => Lib.hid (number_any s 1 1 (by omega) (by omega) (by omega) W)
  have C2 := fun W => Lib.hid (number_any s 2 2 (by omega) (by omega) (by omega) W)
  have C3 := fun W => Lib.hid (number_any s 4 2 (by omega) (by omega) (by omega) W)
  have hp := h.2
  have AD := fun W => Lib.hid (address_is (gv s 0 1 : Nat) (n : Int) (by rw [hn]) W)
  have n0 : ((n : Int) == 0) = false := beq_false_of_ne (by omega)
  have a1 : IntKind.i64.wrap (6 + (n : Int)) = ((6 + n : Nat) : Int) := by rw [IntWalk.i64_in _ (by omega)]; omega
  have a2 : IntKind.i64.wrap (22 + (n : Int)) = ((22 + n : Nat) : Int) := by rw [IntWalk.i64_in _ (by omega)]; omega
  clear h hR hn
  change gv s 1 1 = 6 ∨ gv s 1 1 = 17 at hp
  unfold rV rF rT rP
  have p6 : (((gv s 1 1 : Nat) : Int) != 6) = false ∨ (((gv s 1 1 : Nat) : Int) != 6) = true ∧ (((gv s 1 1 : Nat) : Int) != 17) = false := by
    rcases hp with e | e <;> rw [e]
    · exact .inl rfl
    · exact .inr ⟨rfl, rfl⟩
  clear hp
  rcases p6 with p6 | ⟨p6, p17⟩
  · skip
    generalize gv s 0 1 = v at *
    generalize gv s 1 1 = p at *
    generalize gv s 2 2 = f at *
    generalize gv s 4 2 = t at *
    go_enter Try.func37, Try.ntmps37
    go_wp2_with fail
    refine (C0 _).out.mono ?_
    rintro e w1 ⟨rfl, hb1⟩
    have K1 := Lib.hid ((keyed_new w 0 ⟨#[]⟩ ⟨#[]⟩ 0 0 0).kept hb1)
    have B1 := Lib.hid (below2 (below_alloc w _) hb1)
    clear hb1
    go_wp2_with fail
    refine (C1 _).out.mono ?_
    rintro e w2 ⟨rfl, hb2⟩
    have K2 := Lib.hid (K1.out.kept hb2)
    have B2 := Lib.hid (below2 B1.out hb2)
    clear hb2 K1 B1
    go_wp2_with fail
    refine (C2 _).out.mono ?_
    rintro e w3 ⟨rfl, hb3⟩
    have K3 := Lib.hid (K2.out.kept hb3)
    have B3 := Lib.hid (below2 B2.out hb3)
    clear hb3 K2 B2
    go_wp2_with fail
    refine (C3 _).out.mono ?_
    rintro e w4 ⟨rfl, hb4⟩
    have KL := Lib.hid (show w.heap.size < w4.heap.size from Nat.lt_of_lt_of_le (Array.getElem?_eq_some_iff.1 K3.out).1 hb4.size)
    have K4 := Lib.hid ((K3.out.kept hb4).alloc (.cells (keyC v ⟨#[]⟩ ⟨#[]⟩ f t p) 24))
    have M4 := Lib.hid (keyed_new w4 v ⟨#[]⟩ ⟨#[]⟩ f t p)
    have B4 := Lib.hid (below2 (below2 B3.out hb4) (below_alloc w4 (.cells (keyC v ⟨#[]⟩ ⟨#[]⟩ f t p) 24)))
    clear hb4 K3 B3 C0 C1 C2 C3
    obtain ⟨c0, c1, c2, c3, c4, c5⟩ := M4.out.cells
    have fr := K4.out.free
    obtain ⟨k0, k1, k2, k3, k4, k5⟩ := K4.out.cells
    go_wp2_with fail
    refine (AD _).out.mono ?_
    rintro e w5 ⟨rfl, rfl⟩
    go_wp2_with fail
    have hk := KL.out
    change Code.wp _ _ _ (frK w.heap.size w4.heap.size s n (lit [.pointer (some ⟨b, 0, none⟩), undef, undef, .bool false, undef, undef, undef, .pointer (some ⟨b, 0, none⟩), .pointer (some ⟨b, 0, none⟩), .slice (some ⟨b, 0, none⟩) 38 38, .string s, .string s, .int .i64 (v : Nat), .string s, .int .i64 (p : Nat), .string s, .int .i64 (f : Nat), .string s, .int .i64 (t : Nat), .agg #[.int .i64 (v : Nat), .string ⟨#[]⟩, .string ⟨#[]⟩, .int .i64 (f : Nat), .int .i64 (t : Nat), .int .i64 (p : Nat)], .pointer (some ⟨w4.heap.size, 0, none⟩), .int .i64 (v : Nat), .int .i64 (n : Nat), .int .i64 (n : Nat), .bool false, .bool false, .pointer (some ⟨w4.heap.size, 5, none⟩), .int .i64 (p : Nat), .bool false, .bool false, undef, undef, undef, .bool false, .bool false, undef]) (fun _ => undef)) _
    generalize lit [.pointer (some ⟨b, 0, none⟩), undef, undef, .bool false, undef, undef, undef, .pointer (some ⟨b, 0, none⟩), .pointer (some ⟨b, 0, none⟩), .slice (some ⟨b, 0, none⟩) 38 38, .string s, .string s, .int .i64 (v : Nat), .string s, .int .i64 (p : Nat), .string s, .int .i64 (f : Nat), .string s, .int .i64 (t : Nat), .agg #[.int .i64 (v : Nat), .string ⟨#[]⟩, .string ⟨#[]⟩, .int .i64 (f : Nat), .int .i64 (t : Nat), .int .i64 (p : Nat)], .pointer (some ⟨w4.heap.size, 0, none⟩), .int .i64 (v : Nat), .int .i64 (n : Nat), .int .i64 (n : Nat), .bool false, .bool false, .pointer (some ⟨w4.heap.size, 5, none⟩), .int .i64 (p : Nat), .bool false, .bool false, undef, undef, undef, .bool false, .bool false, undef] = y
    clear k0 k1 k2 k3 k4 k5 c0 c1 c2 c3 c4 c5 fr AD e1
    have T0 := Lib.hid (show StK w.heap.size w4.heap.size v (s.extract 6 (6 + n)) (s.extract 22 (22 + n)) f t p w (fun _ => false) (w4.alloc (.cells (keyC v ⟨#[]⟩ ⟨#[]⟩ f t p) 24)).drew from ⟨M4.out, K4.out, B4.out.drew⟩)
    clear M4 K4 B4
    refine wp_region_inv (fun d a W => ∃ x : Nat → Value, a = frK w.heap.size w4.heap.size s n y x ∧ InvJ 12 (valK w4.heap.size s n) (StK w.heap.size w4.heap.size v (s.extract 6 (6 + n)) (s.extract 22 (22 + n)) f t p w) d x W) (by kernel_rfl) (by kernel_rfl) ?step ?done ?start
    case start => exact ⟨fun _ => undef, rfl, InvJ.start _ T0.out⟩
    case step =>
      rintro d a W i hi hd hall ⟨x, rfl, hI⟩
      replace hi : i < 12 := hi
      have hst := Lib.hid hI.st
      obtain rfl | rfl | rfl | rfl | rfl | rfl | rfl | rfl | rfl | rfl | rfl | rfl : i = 0 ∨ i = 1 ∨ i = 2 ∨ i = 3 ∨ i = 4 ∨ i = 5 ∨ i = 6 ∨ i = 7 ∨ i = 8 ∨ i = 9 ∨ i = 10 ∨ i = 11 := by omega
      · clear hall
        refine wpOp_step rfl (fun K hK => ?_)
        simp only [List.getElem_toArray, List.getElem_cons_zero]
        go_simp
        exact hK _ _ ⟨_, by simp [upv, valK], hI.yields 0 (hst.out.upd 0 (by omega) (by omega))⟩
      · clear hall
        refine wpOp_step rfl (fun K hK => ?_)
        simp only [List.getElem_toArray, List.getElem_cons_zero, List.getElem_cons_succ]
        go_simp
        exact hK _ _ ⟨_, by simp [upv, valK], hI.yields 1 (hst.out.upd 1 (by omega) (by omega))⟩
      · have h1 : x 1 = .int .i64 (n : Nat) := hI.pure 1 (by omega) (hall 1 (by kernel_rfl))
        clear hall
        refine wpOp_step rfl (fun K hK => ?_)
        simp only [List.getElem_toArray, List.getElem_cons_zero, List.getElem_cons_succ]
        go_simp
        exact hK _ _ ⟨_, by simp [upv, valK, h1], hI.yields 2 (hst.out.upd 2 (by omega) (by omega))⟩
      · have h0 : x 0 = .string s := hI.pure 0 (by omega) (hall 0 (by kernel_rfl))
        have h2 : x 2 = .int .i64 ((6 + n : Nat) : Int) := hI.pure 2 (by omega) (hall 2 (by kernel_rfl))
        have ES : (Instr.slice 9 (.string s) (some (.int .i64 6)) (some (.int .i64 (6 + (n : Int)))) none).run Try.prog W = .ok (.string (s.extract 6 (6 + n))) W := cut_text s 6 n (by omega) W
        clear hall
        refine wpOp_step rfl (fun K hK => ?_)
        simp only [List.getElem_toArray, List.getElem_cons_zero, List.getElem_cons_succ]
        go_simp
        exact hK _ _ ⟨_, by simp [upv, valK, h0, h2], hI.yields 3 (hst.out.upd 3 (by omega) (by omega))⟩
      · clear hall
        refine wpOp_step rfl (fun K hK => ?_)
        simp only [List.getElem_toArray, List.getElem_cons_zero, List.getElem_cons_succ]
        go_simp
        exact hK _ _ ⟨_, by simp [upv, valK], hI.yields 4 (hst.out.upd 4 (by omega) (by omega))⟩
      · clear hall
        refine wpOp_step rfl (fun K hK => ?_)
        simp only [List.getElem_toArray, List.getElem_cons_zero, List.getElem_cons_succ]
        go_simp
        exact hK _ _ ⟨_, by simp [upv, valK], hI.yields 5 (hst.out.upd 5 (by omega) (by omega))⟩
      · have h5 : x 5 = .int .i64 (n : Nat) := hI.pure 5 (by omega) (hall 5 (by kernel_rfl))
        clear hall
        refine wpOp_step rfl (fun K hK => ?_)
        simp only [List.getElem_toArray, List.getElem_cons_zero, List.getElem_cons_succ]
        go_simp
        exact hK _ _ ⟨_, by simp [upv, valK, h5], hI.yields 6 (hst.out.upd 6 (by omega) (by omega))⟩
      · have h4 : x 4 = .string s := hI.pure 4 (by omega) (hall 4 (by kernel_rfl))
        have h6 : x 6 = .int .i64 ((22 + n : Nat) : Int) := hI.pure 6 (by omega) (hall 6 (by kernel_rfl))
        have ES : (Instr.slice 9 (.string s) (some (.int .i64 22)) (some (.int .i64 (22 + (n : Int)))) none).run Try.prog W = .ok (.string (s.extract 22 (22 + n))) W := cut_text s 22 n (by omega) W
        clear hall
        refine wpOp_step rfl (fun K hK => ?_)
        simp only [List.getElem_toArray, List.getElem_cons_zero, List.getElem_cons_succ]
        go_simp
        exact hK _ _ ⟨_, by simp [upv, valK, h4, h6], hI.yields 7 (hst.out.upd 7 (by omega) (by omega))⟩
      · clear hall
        refine wpOp_step rfl (fun K hK => ?_)
        simp only [List.getElem_toArray, List.getElem_cons_zero, List.getElem_cons_succ]
        go_simp
        exact hK _ _ ⟨_, by simp [upv, valK], hI.yields 8 (hst.out.upd 8 (by omega) (by omega))⟩
      · have h8 : x 8 = .pointer (some ⟨w4.heap.size, 1, none⟩) := hI.pure 8 (by omega) (hall 8 (by kernel_rfl))
        have h3 : x 3 = .string (s.extract 6 (6 + n)) := hI.pure 3 (by omega) (hall 3 (by kernel_rfl))
        obtain ⟨_, m1, m2, _, _, _⟩ := hst.out.key.cells
        have fz := hst.out.key.free 1
        clear hall
        refine wpOp_step rfl (fun K hK => ?_)
        simp only [List.getElem_toArray, List.getElem_cons_zero, List.getElem_cons_succ]
        go_simp
        exact hK _ _ ⟨_, by simp [upv, h8, h3], hI.yields 9 (hst.out.set9 (by omega) (by omega))⟩
      · clear hall
        refine wpOp_step rfl (fun K hK => ?_)
        simp only [List.getElem_toArray, List.getElem_cons_zero, List.getElem_cons_succ]
        go_simp
        exact hK _ _ ⟨_, by simp [upv, valK], hI.yields 10 (hst.out.upd 10 (by omega) (by omega))⟩
      · have h10 : x 10 = .pointer (some ⟨w4.heap.size, 2, none⟩) := hI.pure 10 (by omega) (hall 10 (by kernel_rfl))
        have h7 : x 7 = .string (s.extract 22 (22 + n)) := hI.pure 7 (by omega) (hall 7 (by kernel_rfl))
        obtain ⟨_, m1, m2, _, _, _⟩ := hst.out.key.cells
        have fz := hst.out.key.free 2
        clear hall
        refine wpOp_step rfl (fun K hK => ?_)
        simp only [List.getElem_toArray, List.getElem_cons_zero, List.getElem_cons_succ]
        go_simp
        exact hK _ _ ⟨_, by simp [upv, h10, h7], hI.yields 11 (hst.out.set11 (by omega) (by omega))⟩
    case done =>
      rintro d a W hall ⟨x, rfl, hI⟩
      replace hall : ∀ i, i < 12 → d i = true := hall
      have hkey := hI.st.key
      rw [hall 9 (by omega), hall 11 (by omega), if_pos rfl, if_pos rfl] at hkey
      have hK := Lib.hid hkey
      have hR := Lib.hid hI.st.res
      have hB := Lib.hid hI.st.below
      clear hI hall T0 hkey
      obtain ⟨c0, c1, c2, c3, c4, c5⟩ := hK.out.cells
      obtain ⟨k0, k1, k2, k3, k4, k5⟩ := hR.out.cells
      have fr := hR.out.free
      go_wp2_with fail
      refine six_cells (C := fun W' => bodyPost _ _ _ _ _ W') hR.out ?_
      intro W6 hK6 hb6
      have B6 := Lib.hid (hB.out.trans hb6)
      clear hb6 k0 k1 k2 k3 k4 k5 c0 c1 c2 c3 c4 c5 fr hK hR hB
      obtain ⟨k0, k1, k2, k3, k4, k5⟩ := hK6.cells
      exact bodyPost_ret (v := .tuple #[keyV v (s.extract 6 (6 + n)) (s.extract 22 (22 + n)) f t p, .bool true]) (by simp [results, Try.results37, go_sem, k0, k1, k2, k3, k4, k5]) rfl ⟨rfl, B6.out⟩
  · skip
    generalize gv s 0 1 = v at *
    generalize gv s 1 1 = p at *
    generalize gv s 2 2 = f at *
    generalize gv s 4 2 = t at *
    go_enter Try.func37, Try.ntmps37
    go_wp2_with fail
    refine (C0 _).out.mono ?_
    rintro e w1 ⟨rfl, hb1⟩
    have K1 := Lib.hid ((keyed_new w 0 ⟨#[]⟩ ⟨#[]⟩ 0 0 0).kept hb1)
    have B1 := Lib.hid (below2 (below_alloc w _) hb1)
    clear hb1
    go_wp2_with fail
    refine (C1 _).out.mono ?_
    rintro e w2 ⟨rfl, hb2⟩
    have K2 := Lib.hid (K1.out.kept hb2)
    have B2 := Lib.hid (below2 B1.out hb2)
    clear hb2 K1 B1
    go_wp2_with fail
    refine (C2 _).out.mono ?_
    rintro e w3 ⟨rfl, hb3⟩
    have K3 := Lib.hid (K2.out.kept hb3)
    have B3 := Lib.hid (below2 B2.out hb3)
    clear hb3 K2 B2
    go_wp2_with fail
    refine (C3 _).out.mono ?_
    rintro e w4 ⟨rfl, hb4⟩
    have KL := Lib.hid (show w.heap.size < w4.heap.size from Nat.lt_of_lt_of_le (Array.getElem?_eq_some_iff.1 K3.out).1 hb4.size)
    have K4 := Lib.hid ((K3.out.kept hb4).alloc (.cells (keyC v ⟨#[]⟩ ⟨#[]⟩ f t p) 24))
    have M4 := Lib.hid (keyed_new w4 v ⟨#[]⟩ ⟨#[]⟩ f t p)
    have B4 := Lib.hid (below2 (below2 B3.out hb4) (below_alloc w4 (.cells (keyC v ⟨#[]⟩ ⟨#[]⟩ f t p) 24)))
    clear hb4 K3 B3 C0 C1 C2 C3
    obtain ⟨c0, c1, c2, c3, c4, c5⟩ := M4.out.cells
    have fr := K4.out.free
    obtain ⟨k0, k1, k2, k3, k4, k5⟩ := K4.out.cells
    go_wp2_with fail
    refine (AD _).out.mono ?_
    rintro e w5 ⟨rfl, rfl⟩
    go_wp2_with fail
    have hk := KL.out
    change Code.wp _ _ _ (frK w.heap.size w4.heap.size s n (lit [.pointer (some ⟨b, 0, none⟩), undef, undef, .bool false, undef, undef, undef, .pointer (some ⟨b, 0, none⟩), .pointer (some ⟨b, 0, none⟩), .slice (some ⟨b, 0, none⟩) 38 38, .string s, .string s, .int .i64 (v : Nat), .string s, .int .i64 (p : Nat), .string s, .int .i64 (f : Nat), .string s, .int .i64 (t : Nat), .agg #[.int .i64 (v : Nat), .string ⟨#[]⟩, .string ⟨#[]⟩, .int .i64 (f : Nat), .int .i64 (t : Nat), .int .i64 (p : Nat)], .pointer (some ⟨w4.heap.size, 0, none⟩), .int .i64 (v : Nat), .int .i64 (n : Nat), .int .i64 (n : Nat), .bool false, .bool false, .pointer (some ⟨w4.heap.size, 5, none⟩), .int .i64 (p : Nat), .bool true, .bool true, .pointer (some ⟨w4.heap.size, 5, none⟩), .int .i64 (p : Nat), .bool false, .bool false, .bool false, undef]) (fun _ => undef)) _
    generalize lit [.pointer (some ⟨b, 0, none⟩), undef, undef, .bool false, undef, undef, undef, .pointer (some ⟨b, 0, none⟩), .pointer (some ⟨b, 0, none⟩), .slice (some ⟨b, 0, none⟩) 38 38, .string s, .string s, .int .i64 (v : Nat), .string s, .int .i64 (p : Nat), .string s, .int .i64 (f : Nat), .string s, .int .i64 (t : Nat), .agg #[.int .i64 (v : Nat), .string ⟨#[]⟩, .string ⟨#[]⟩, .int .i64 (f : Nat), .int .i64 (t : Nat), .int .i64 (p : Nat)], .pointer (some ⟨w4.heap.size, 0, none⟩), .int .i64 (v : Nat), .int .i64 (n : Nat), .int .i64 (n : Nat), .bool false, .bool false, .pointer (some ⟨w4.heap.size, 5, none⟩), .int .i64 (p : Nat), .bool true, .bool true, .pointer (some ⟨w4.heap.size, 5, none⟩), .int .i64 (p : Nat), .bool false, .bool false, .bool false, undef] = y
    clear k0 k1 k2 k3 k4 k5 c0 c1 c2 c3 c4 c5 fr AD e1
    have T0 := Lib.hid (show StK w.heap.size w4.heap.size v (s.extract 6 (6 + n)) (s.extract 22 (22 + n)) f t p w (fun _ => false) (w4.alloc (.cells (keyC v ⟨#[]⟩ ⟨#[]⟩ f t p) 24)).drew from ⟨M4.out, K4.out, B4.out.drew⟩)
    clear M4 K4 B4
    refine wp_region_inv (fun d a W => ∃ x : Nat → Value, a = frK w.heap.size w4.heap.size s n y x ∧ InvJ 12 (valK w4.heap.size s n) (StK w.heap.size w4.heap.size v (s.extract 6 (6 + n)) (s.extract 22 (22 + n)) f t p w) d x W) (by kernel_rfl) (by kernel_rfl) ?step ?done ?start
    case start => exact ⟨fun _ => undef, rfl, InvJ.start _ T0.out⟩
    case step =>
      rintro d a W i hi hd hall ⟨x, rfl, hI⟩
      replace hi : i < 12 := hi
      have hst := Lib.hid hI.st
      obtain rfl | rfl | rfl | rfl | rfl | rfl | rfl | rfl | rfl | rfl | rfl | rfl : i = 0 ∨ i = 1 ∨ i = 2 ∨ i = 3 ∨ i = 4 ∨ i = 5 ∨ i = 6 ∨ i = 7 ∨ i = 8 ∨ i = 9 ∨ i = 10 ∨ i = 11 := by omega
      · clear hall
        refine wpOp_step rfl (fun K hK => ?_)
        simp only [List.getElem_toArray, List.getElem_cons_zero]
        go_simp
        exact hK _ _ ⟨_, by simp [upv, valK], hI.yields 0 (hst.out.upd 0 (by omega) (by omega))⟩
      · clear hall
        refine wpOp_step rfl (fun K hK => ?_)
        simp only [List.getElem_toArray, List.getElem_cons_zero, List.getElem_cons_succ]
        go_simp
        exact hK _ _ ⟨_, by simp [upv, valK], hI.yields 1 (hst.out.upd 1 (by omega) (by omega))⟩
      · have h1 : x 1 = .int .i64 (n : Nat) := hI.pure 1 (by omega) (hall 1 (by kernel_rfl))
        clear hall
        refine wpOp_step rfl (fun K hK => ?_)
        simp only [List.getElem_toArray, List.getElem_cons_zero, List.getElem_cons_succ]
        go_simp
        exact hK _ _ ⟨_, by simp [upv, valK, h1], hI.yields 2 (hst.out.upd 2 (by omega) (by omega))⟩
      · have h0 : x 0 = .string s := hI.pure 0 (by omega) (hall 0 (by kernel_rfl))
        have h2 : x 2 = .int .i64 ((6 + n : Nat) : Int) := hI.pure 2 (by omega) (hall 2 (by kernel_rfl))
        have ES : (Instr.slice 9 (.string s) (some (.int .i64 6)) (some (.int .i64 (6 + (n : Int)))) none).run Try.prog W = .ok (.string (s.extract 6 (6 + n))) W := cut_text s 6 n (by omega) W
        clear hall
        refine wpOp_step rfl (fun K hK => ?_)
        simp only [List.getElem_toArray, List.getElem_cons_zero, List.getElem_cons_succ]
        go_simp
        exact hK _ _ ⟨_, by simp [upv, valK, h0, h2], hI.yields 3 (hst.out.upd 3 (by omega) (by omega))⟩
      · clear hall
        refine wpOp_step rfl (fun K hK => ?_)
        simp only [List.getElem_toArray, List.getElem_cons_zero, List.getElem_cons_succ]
        go_simp
        exact hK _ _ ⟨_, by simp [upv, valK], hI.yields 4 (hst.out.upd 4 (by omega) (by omega))⟩
      · clear hall
        refine wpOp_step rfl (fun K hK => ?_)
        simp only [List.getElem_toArray, List.getElem_cons_zero, List.getElem_cons_succ]
        go_simp
        exact hK _ _ ⟨_, by simp [upv, valK], hI.yields 5 (hst.out.upd 5 (by omega) (by omega))⟩
      · have h5 : x 5 = .int .i64 (n : Nat) := hI.pure 5 (by omega) (hall 5 (by kernel_rfl))
        clear hall
        refine wpOp_step rfl (fun K hK => ?_)
        simp only [List.getElem_toArray, List.getElem_cons_zero, List.getElem_cons_succ]
        go_simp
        exact hK _ _ ⟨_, by simp [upv, valK, h5], hI.yields 6 (hst.out.upd 6 (by omega) (by omega))⟩
      · have h4 : x 4 = .string s := hI.pure 4 (by omega) (hall 4 (by kernel_rfl))
        have h6 : x 6 = .int .i64 ((22 + n : Nat) : Int) := hI.pure 6 (by omega) (hall 6 (by kernel_rfl))
        have ES : (Instr.slice 9 (.string s) (some (.int .i64 22)) (some (.int .i64 (22 + (n : Int)))) none).run Try.prog W = .ok (.string (s.extract 22 (22 + n))) W := cut_text s 22 n (by omega) W
        clear hall
        refine wpOp_step rfl (fun K hK => ?_)
        simp only [List.getElem_toArray, List.getElem_cons_zero, List.getElem_cons_succ]
        go_simp
        exact hK _ _ ⟨_, by simp [upv, valK, h4, h6], hI.yields 7 (hst.out.upd 7 (by omega) (by omega))⟩
      · clear hall
        refine wpOp_step rfl (fun K hK => ?_)
        simp only [List.getElem_toArray, List.getElem_cons_zero, List.getElem_cons_succ]
        go_simp
        exact hK _ _ ⟨_, by simp [upv, valK], hI.yields 8 (hst.out.upd 8 (by omega) (by omega))⟩
      · have h8 : x 8 = .pointer (some ⟨w4.heap.size, 1, none⟩) := hI.pure 8 (by omega) (hall 8 (by kernel_rfl))
        have h3 : x 3 = .string (s.extract 6 (6 + n)) := hI.pure 3 (by omega) (hall 3 (by kernel_rfl))
        obtain ⟨_, m1, m2, _, _, _⟩ := hst.out.key.cells
        have fz := hst.out.key.free 1
        clear hall
        refine wpOp_step rfl (fun K hK => ?_)
        simp only [List.getElem_toArray, List.getElem_cons_zero, List.getElem_cons_succ]
        go_simp
        exact hK _ _ ⟨_, by simp [upv, h8, h3], hI.yields 9 (hst.out.set9 (by omega) (by omega))⟩
      · clear hall
        refine wpOp_step rfl (fun K hK => ?_)
        simp only [List.getElem_toArray, List.getElem_cons_zero, List.getElem_cons_succ]
        go_simp
        exact hK _ _ ⟨_, by simp [upv, valK], hI.yields 10 (hst.out.upd 10 (by omega) (by omega))⟩
      · have h10 : x 10 = .pointer (some ⟨w4.heap.size, 2, none⟩) := hI.pure 10 (by omega) (hall 10 (by kernel_rfl))
        have h7 : x 7 = .string (s.extract 22 (22 + n)) := hI.pure 7 (by omega) (hall 7 (by kernel_rfl))
        obtain ⟨_, m1, m2, _, _, _⟩ := hst.out.key.cells
        have fz := hst.out.key.free 2
        clear hall
        refine wpOp_step rfl (fun K hK => ?_)
        simp only [List.getElem_toArray, List.getElem_cons_zero, List.getElem_cons_succ]
        go_simp
        exact hK _ _ ⟨_, by simp [upv, h10, h7], hI.yields 11 (hst.out.set11 (by omega) (by omega))⟩
    case done =>
      rintro d a W hall ⟨x, rfl, hI⟩
      replace hall : ∀ i, i < 12 → d i = true := hall
      have hkey := hI.st.key
      rw [hall 9 (by omega), hall 11 (by omega), if_pos rfl, if_pos rfl] at hkey
      have hK := Lib.hid hkey
      have hR := Lib.hid hI.st.res
      have hB := Lib.hid hI.st.below
      clear hI hall T0 hkey
      obtain ⟨c0, c1, c2, c3, c4, c5⟩ := hK.out.cells
      obtain ⟨k0, k1, k2, k3, k4, k5⟩ := hR.out.cells
      have fr := hR.out.free
      go_wp2_with fail
      refine six_cells (C := fun W' => bodyPost _ _ _ _ _ W') hR.out ?_
      intro W6 hK6 hb6
      have B6 := Lib.hid (hB.out.trans hb6)
      clear hb6 k0 k1 k2 k3 k4 k5 c0 c1 c2 c3 c4 c5 fr hK hR hB
      obtain ⟨k0, k1, k2, k3, k4, k5⟩ := hK6.cells
      exact bodyPost_ret (v := .tuple #[keyV v (s.extract 6 (6 + n)) (s.extract 22 (22 + n)) f t p, .bool true]) (by simp [results, Try.results37, go_sem, k0, k1, k2, k3, k4, k5]) rfl ⟨rfl, B6.out⟩
end Go.Proofs.Ytcdgcjpdlhknoaa.Pkt
