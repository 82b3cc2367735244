/-
  Points: how two points are held against one another (package points: compare, Less; package cmp: Compare, Or).
-/
import Derived.Test.YtfjpdoamalbpjaaPtsB
import Derived.Test.YtfjpdoamalbpjaaRgnJ
import Derived.Sort.Grow
import Derived.Deep.RegionHeld3
namespace Go.Proofs.Ytfjpdoamalbpjaa.Pts
open Go.RowKit Go.Shelf Rgn
open Pol (below2 below_alloc)

/-- What is told of two numbers. -/
def cmpZ (x y : Int) : Int := if x < y then -1 else if y < x then 1 else 0
theorem cmpZ_lt (x y : Int) : cmpZ x y < 0 ↔ x < y := by unfold cmpZ; split <;> (try split) <;> omega
theorem cmpZ_eq (x y : Int) : cmpZ x y = 0 ↔ x = y := by unfold cmpZ; split <;> (try split) <;> omega
/-- The first of two numbers that is not 0. -/
def orZ (a b : Int) : Int := if a = 0 then b else a
/-- What is told of two points. -/
def cmpP (x y : Pt) : Int := orZ (cmpZ x.1 y.1) (cmpZ x.2 y.2)
theorem cmpP_lt (x y : Pt) : cmpP x y < 0 ↔ less x y = true := by
  rw [less_iff]
  have h1 := cmpZ_lt x.1 y.1
  have h2 := cmpZ_eq x.1 y.1
  have h3 := cmpZ_lt x.2 y.2
  unfold cmpP orZ
  split <;> omega

set_option maxHeartbeats 400000 in
theorem CompareU_any (x y : Int) (W : World) : Calls Try.prog 48 #[.int .u64 x, .int .u64 y] W fun e W' => e = .returned (.int .i64 (cmpZ x y)) ∧ W' = W := by
  have e1 : (x != x) = false := by simp
  have e2 : (y != y) = false := by simp
  rcases Int.lt_trichotomy x y with h | h | h
  · have HV := Lib.hid (show cmpZ x y = -1 from if_pos h)
    go_enter Try.func48, Try.ntmps48
    go_wp2
    go_ret
    exact ⟨by rw [HV.out]; rfl, rfl⟩
  · have HV := Lib.hid (show cmpZ x y = 0 by unfold cmpZ; rw [if_neg (by omega), if_neg (by omega)])
    have d1 : decide (x < y) = false := decide_eq_false (by omega)
    have d2 : decide (y < x) = false := decide_eq_false (by omega)
    clear h
    go_enter Try.func48, Try.ntmps48
    go_wp2
    go_ret
    exact ⟨by rw [HV.out]; rfl, rfl⟩
  · have HV := Lib.hid (show cmpZ x y = 1 by unfold cmpZ; rw [if_neg (by omega), if_pos h])
    have d1 : decide (x < y) = false := decide_eq_false (by omega)
    go_enter Try.func48, Try.ntmps48
    go_wp2
    go_ret
    exact ⟨by rw [HV.out]; rfl, rfl⟩

set_option maxHeartbeats 400000 in
theorem CompareI_any (x y : Int) (W : World) : Calls Try.prog 36 #[.int .i64 x, .int .i64 y] W fun e W' => e = .returned (.int .i64 (cmpZ x y)) ∧ W' = W := by
  have e1 : (x != x) = false := by simp
  have e2 : (y != y) = false := by simp
  rcases Int.lt_trichotomy x y with h | h | h
  · have HV := Lib.hid (show cmpZ x y = -1 from if_pos h)
    go_enter Try.func36, Try.ntmps36
    go_wp2
    go_ret
    exact ⟨by rw [HV.out]; rfl, rfl⟩
  · have HV := Lib.hid (show cmpZ x y = 0 by unfold cmpZ; rw [if_neg (by omega), if_neg (by omega)])
    have d1 : decide (x < y) = false := decide_eq_false (by omega)
    have d2 : decide (y < x) = false := decide_eq_false (by omega)
    clear h
    go_enter Try.func36, Try.ntmps36
    go_wp2
    go_ret
    exact ⟨by rw [HV.out]; rfl, rfl⟩
  · have HV := Lib.hid (show cmpZ x y = 1 by unfold cmpZ; rw [if_neg (by omega), if_pos h])
    have d1 : decide (x < y) = false := decide_eq_false (by omega)
    go_enter Try.func36, Try.ntmps36
    go_wp2
    go_ret
    exact ⟨by rw [HV.out]; rfl, rfl⟩

set_option maxRecDepth 100000 in
set_option maxHeartbeats 400000 in
theorem Or_any (g : Nat) (a b : Int) (w : World) (c0 : w.cell? ⟨g, 0, none⟩ = some (.int .i64 a)) (c1 : w.cell? ⟨g, 1, none⟩ = some (.int .i64 b)) :
    Calls Try.prog 47 #[.slice (some ⟨g, 0, none⟩) 2 2] w fun e W' => e = .returned (.int .i64 (orZ a b)) ∧ W' = w := by
  go_enter Try.func47, Try.ntmps47
  go_wp2
  go_loopw [8] (fun i W => ∃ k : Nat, k ≤ 2 ∧ i = .int .i64 k ∧ (1 ≤ k → a = 0) ∧ (2 ≤ k → b = 0) ∧ W = w) (fun i _ => 2 - (intOf i).toNat)
  case atStart => exact ⟨0, by omega, rfl, fun h => absurd h (by omega), fun h => absurd h (by omega), rfl⟩
  case round =>
    obtain ⟨k, hk, rfl, ha, hb, rfl⟩ := hrel
    have HA := Lib.hid ha
    have HB := Lib.hid hb
    clear ha hb
    obtain rfl | rfl | rfl : k = 0 ∨ k = 1 ∨ k = 2 := by omega
    · by_cases h : a = 0
      · have d1 : (a != 0) = false := by simp [h]
        have HZ := Lib.hid h
        clear h
        go_wp2
        go_roundw
        case rel => exact ⟨1, by simp [HZ.out]⟩
        case measure => simp [intOf]
      · have d1 : (a != 0) = true := bne_iff_ne.2 h
        have HZ := Lib.hid h
        clear h
        go_wp2
        go_ret
        exact ⟨by rw [show orZ a b = a from if_neg HZ.out]; rfl, rfl⟩
    · by_cases h : b = 0
      · have d1 : (b != 0) = false := by simp [h]
        have HZ := Lib.hid h
        clear h
        go_wp2
        go_roundw
        case rel => exact ⟨2, by simp [HZ.out, HA.out (by omega)]⟩
        case measure => simp [intOf]
      · have d1 : (b != 0) = true := bne_iff_ne.2 h
        have HZ := Lib.hid h
        clear h
        go_wp2
        go_ret
        exact ⟨by rw [show orZ a b = b from if_pos (HA.out (by omega))]; rfl, rfl⟩
    · go_wp2
      go_ret
      exact ⟨by rw [show orZ a b = b from if_pos (HA.out (by omega)), HB.out (by omega)]; rfl, rfl⟩

/-- compare's frame. -/
abbrev frC (B : Nat) (x y : Pt) (z : Nat → Value) : Act := { tmps := #[ptV x, ptV y, .pointer (some ⟨B, 0, none⟩), .pointer (some ⟨B + 1, 0, none⟩), z 12, z 0, z 1, z 2, z 3, z 4, z 5, z 6, z 7, z 8, z 9, z 10, z 11], defers := [] }
/-- What its operations yield. -/
def valC (B : Nat) (x y : Pt) : Nat → Value
  | 0 => .pointer (some ⟨B, 0, none⟩)
  | 1 => .int .u64 x.1
  | 2 => .pointer (some ⟨B + 1, 0, none⟩)
  | 3 => .int .u64 y.1
  | 4 => .int .i64 (cmpZ x.1 y.1)
  | 5 => .pointer (some ⟨B, 1, none⟩)
  | 6 => .int .i64 x.2
  | 7 => .pointer (some ⟨B + 1, 1, none⟩)
  | 8 => .int .i64 y.2
  | 9 => .int .i64 (cmpZ x.2 y.2)
  | 10 => .slice (some ⟨B + 2, 0, none⟩) 2 2
  | 11 => .int .i64 (cmpP x y)
  | _ => .int .i64 (cmpP x y)
/-- The world, behind some of them. -/
def stC (W0 : World) (c d' : Int) (d : Nat → Bool) (W : World) : Prop := W = if d 10 = true then W0.alloc (.cells #[.int .i64 c, .int .i64 d'] 3) else W0
theorem stC_upd {W0 W : World} {c c' : Int} {d : Nat → Bool} (h : stC W0 c c' d W) (i : Nat) (hi : i ≠ 10) : stC W0 c c' (upd d i) W := by
  unfold stC; rw [upd_other d (Ne.symm hi)]; exact h

set_option maxRecDepth 100000 in
set_option maxHeartbeats 1000000 in
/-- Two points, held against one another: three blocks are laid, and nothing else is done. -/
theorem compare_any (x y : Pt) (w : World) : Calls Try.prog 26 #[ptV x, ptV y] w fun e W' => e = .returned (.int .i64 (cmpP x y)) ∧ ∃ q os', W' = Sort.grow (w.drewN q) os' := by
  go_enter Try.func26, Try.ntmps26
  go_wp2_with fail
  generalize hW0 : ((w.alloc (.cells #[.int .u64 x.1, .int .i64 x.2] 48)).alloc (.cells #[.int .u64 y.1, .int .i64 y.2] 48)) = W0
  have HW := Lib.hid hW0
  have k0 : W0.cell? ⟨w.heap.size, 0, none⟩ = some (.int .u64 x.1) := by rw [← hW0]; simp
  have k1 : W0.cell? ⟨w.heap.size, 1, none⟩ = some (.int .i64 x.2) := by rw [← hW0]; simp
  have k2 : W0.cell? ⟨w.heap.size + 1, 0, none⟩ = some (.int .u64 y.1) := by rw [← hW0]; simp
  have k3 : W0.cell? ⟨w.heap.size + 1, 1, none⟩ = some (.int .i64 y.2) := by rw [← hW0]; simp
  have hz : W0.heap.size = w.heap.size + 2 := by rw [← hW0]; simp
  have HZ : Hid (W0.drew.heap.size = w.heap.size + 2) := hz
  clear hW0 hz
  obtain ⟨D, hD⟩ : ∃ D, D = W0.drew := ⟨_, rfl⟩
  have HD := Lib.hid hD
  rw [← hD] at HZ
  have K : ∀ (d : Nat → Bool) (W : World), stC D (cmpZ x.1 y.1) (cmpZ x.2 y.2) d W → W.cell? ⟨w.heap.size, 0, none⟩ = some (.int .u64 x.1) ∧ W.cell? ⟨w.heap.size, 1, none⟩ = some (.int .i64 x.2) ∧ W.cell? ⟨w.heap.size + 1, 0, none⟩ = some (.int .u64 y.1) ∧ W.cell? ⟨w.heap.size + 1, 1, none⟩ = some (.int .i64 y.2) := by
    intro d W h
    unfold stC at h
    have hb : Below W0.heap.size W0 W := by
      rw [h, hD]; split
      · exact (Below.refl _ W0).drew.alloc (Nat.le_refl _) _
      · exact (Below.refl _ W0).drew
    exact ⟨(hb.cell (World.block_lt_of_cell? W0 _ k0)).trans k0, (hb.cell (World.block_lt_of_cell? W0 _ k1)).trans k1, (hb.cell (World.block_lt_of_cell? W0 _ k2)).trans k2, (hb.cell (World.block_lt_of_cell? W0 _ k3)).trans k3⟩
  have KK := Lib.hid K
  clear K k0 k1 k2 k3 hD
  refine wp_region_inv (fun d a W => ∃ z : Nat → Value, a = frC w.heap.size x y z ∧ InvJ 13 (valC w.heap.size x y) (stC D (cmpZ x.1 y.1) (cmpZ x.2 y.2)) d z W) (by kernel_rfl) (by kernel_rfl) ?step ?done ?start
  case start => exact ⟨fun i => if i = 12 then .int .i64 0 else undef, rfl, InvJ.start _ HD.out.symm⟩
  case step =>
    rintro d a W i hi hd hall ⟨z, rfl, hI⟩
    replace hi : i < 13 := hi
    have hst := Lib.hid hI.st
    obtain ⟨c0, c1, c2, c3⟩ := KK.out d W hst.out
    obtain rfl | rfl | rfl | rfl | rfl | rfl | rfl | rfl | rfl | rfl | rfl | rfl | rfl : i = 0 ∨ i = 1 ∨ i = 2 ∨ i = 3 ∨ i = 4 ∨ i = 5 ∨ i = 6 ∨ i = 7 ∨ i = 8 ∨ i = 9 ∨ i = 10 ∨ i = 11 ∨ i = 12 := by omega
    · clear hall
      refine wpOp_step rfl (fun K hK => ?_)
      simp only [List.getElem_toArray, List.getElem_cons_zero]
      go_simp
      exact hK _ _ ⟨_, by simp [upv, valC], hI.yields 0 (stC_upd hst.out 0 (by omega))⟩
    · have h0 : z 0 = .pointer (some ⟨w.heap.size, 0, none⟩) := hI.pure 0 (by omega) (hall 0 (by kernel_rfl))
      clear hall
      refine wpOp_step rfl (fun K hK => ?_)
      simp only [List.getElem_toArray, List.getElem_cons_zero, List.getElem_cons_succ]
      go_simp
      exact hK _ _ ⟨_, by simp [upv, valC, h0], hI.yields 1 (stC_upd hst.out 1 (by omega))⟩
    · clear hall
      refine wpOp_step rfl (fun K hK => ?_)
      simp only [List.getElem_toArray, List.getElem_cons_zero, List.getElem_cons_succ]
      go_simp
      exact hK _ _ ⟨_, by simp [upv, valC], hI.yields 2 (stC_upd hst.out 2 (by omega))⟩
    · have h2 : z 2 = .pointer (some ⟨w.heap.size + 1, 0, none⟩) := hI.pure 2 (by omega) (hall 2 (by kernel_rfl))
      clear hall
      refine wpOp_step rfl (fun K hK => ?_)
      simp only [List.getElem_toArray, List.getElem_cons_zero, List.getElem_cons_succ]
      go_simp
      exact hK _ _ ⟨_, by simp [upv, valC, h2], hI.yields 3 (stC_upd hst.out 3 (by omega))⟩
    · have h1 : z 1 = .int .u64 x.1 := hI.pure 1 (by omega) (hall 1 (by kernel_rfl))
      have h3 : z 3 = .int .u64 y.1 := hI.pure 3 (by omega) (hall 3 (by kernel_rfl))
      clear hall
      refine wpOp_step rfl (fun K hK => ?_)
      simp only [List.getElem_toArray, List.getElem_cons_zero, List.getElem_cons_succ]
      go_simp
      refine (CompareU_any _ _ W).mono ?_
      rintro e w3 ⟨rfl, rfl⟩
      exact hK _ _ ⟨_, by simp [upv, valC, h1, h3], hI.yields 4 (stC_upd hst.out 4 (by omega))⟩
    · clear hall
      refine wpOp_step rfl (fun K hK => ?_)
      simp only [List.getElem_toArray, List.getElem_cons_zero, List.getElem_cons_succ]
      go_simp
      exact hK _ _ ⟨_, by simp [upv, valC], hI.yields 5 (stC_upd hst.out 5 (by omega))⟩
    · have h5 : z 5 = .pointer (some ⟨w.heap.size, 1, none⟩) := hI.pure 5 (by omega) (hall 5 (by kernel_rfl))
      clear hall
      refine wpOp_step rfl (fun K hK => ?_)
      simp only [List.getElem_toArray, List.getElem_cons_zero, List.getElem_cons_succ]
      go_simp
      exact hK _ _ ⟨_, by simp [upv, valC, h5], hI.yields 6 (stC_upd hst.out 6 (by omega))⟩
    · clear hall
      refine wpOp_step rfl (fun K hK => ?_)
      simp only [List.getElem_toArray, List.getElem_cons_zero, List.getElem_cons_succ]
      go_simp
      exact hK _ _ ⟨_, by simp [upv, valC], hI.yields 7 (stC_upd hst.out 7 (by omega))⟩
    · have h7 : z 7 = .pointer (some ⟨w.heap.size + 1, 1, none⟩) := hI.pure 7 (by omega) (hall 7 (by kernel_rfl))
      clear hall
      refine wpOp_step rfl (fun K hK => ?_)
      simp only [List.getElem_toArray, List.getElem_cons_zero, List.getElem_cons_succ]
      go_simp
      exact hK _ _ ⟨_, by simp [upv, valC, h7], hI.yields 8 (stC_upd hst.out 8 (by omega))⟩
    · have h6 : z 6 = .int .i64 x.2 := hI.pure 6 (by omega) (hall 6 (by kernel_rfl))
      have h8 : z 8 = .int .i64 y.2 := hI.pure 8 (by omega) (hall 8 (by kernel_rfl))
      clear hall
      refine wpOp_step rfl (fun K hK => ?_)
      simp only [List.getElem_toArray, List.getElem_cons_zero, List.getElem_cons_succ]
      go_simp
      refine (CompareI_any _ _ W).mono ?_
      rintro e w3 ⟨rfl, rfl⟩
      exact hK _ _ ⟨_, by simp [upv, valC, h6, h8], hI.yields 9 (stC_upd hst.out 9 (by omega))⟩
    · have h4 : z 4 = .int .i64 (cmpZ x.1 y.1) := hI.pure 4 (by omega) (hall 4 (by kernel_rfl))
      have h9 : z 9 = .int .i64 (cmpZ x.2 y.2) := hI.pure 9 (by omega) (hall 9 (by kernel_rfl))
      have hsz : W = D := by have h := hst.out; unfold stC at h; rwa [if_neg (by rw [hd]; simp)] at h
      have hsz2 : W.heap.size = w.heap.size + 2 := by rw [hsz]; exact HZ.out
      have HX := Lib.hid hsz
      clear hsz
      clear hall
      refine wpOp_step rfl (fun K hK => ?_)
      simp only [List.getElem_toArray, List.getElem_cons_zero, List.getElem_cons_succ]
      go_simp
      exact hK _ _ ⟨_, by simp [upv, valC, h4, h9], hI.yields 10 (by unfold stC; rw [upd_same, if_pos rfl, HX.out])⟩
    · have h10 : z 10 = .slice (some ⟨w.heap.size + 2, 0, none⟩) 2 2 := hI.pure 10 (by omega) (hall 10 (by kernel_rfl))
      have hsz : W = D.alloc (.cells #[.int .i64 (cmpZ x.1 y.1), .int .i64 (cmpZ x.2 y.2)] 3) := by have h := hst.out; unfold stC at h; rwa [if_pos (hall 10 (by kernel_rfl))] at h
      have o0 : W.cell? ⟨w.heap.size + 2, 0, none⟩ = some (.int .i64 (cmpZ x.1 y.1)) := by rw [hsz, ← HZ.out]; simp
      have o1 : W.cell? ⟨w.heap.size + 2, 1, none⟩ = some (.int .i64 (cmpZ x.2 y.2)) := by rw [hsz, ← HZ.out]; simp
      clear hsz
      clear hall
      refine wpOp_step rfl (fun K hK => ?_)
      simp only [List.getElem_toArray, List.getElem_cons_zero, List.getElem_cons_succ]
      go_simp
      refine (Or_any _ _ _ W o0 o1).mono ?_
      rintro e w3 ⟨rfl, rfl⟩
      exact hK _ _ ⟨_, by simp [upv, valC, h10, cmpP], hI.yields 11 (stC_upd hst.out 11 (by omega))⟩
    · have h11 : z 11 = .int .i64 (cmpP x y) := hI.pure 11 (by omega) (hall 11 (by kernel_rfl))
      clear hall
      refine wpOp_step rfl (fun K hK => ?_)
      simp only [List.getElem_toArray, List.getElem_cons_zero, List.getElem_cons_succ]
      go_simp
      exact hK _ _ ⟨_, by simp [upv, valC, h11], hI.yields 12 (stC_upd hst.out 12 (by omega))⟩
  case done =>
    rintro d a W hall ⟨z, rfl, hI⟩
    have h12 : z 12 = .int .i64 (cmpP x y) := hI.pure 12 (by omega) (hall 12 (by decide))
    have hW := hI.st
    unfold stC at hW
    rw [if_pos (hall 10 (by decide))] at hW
    have HV := Lib.hid hW
    simp only [frC, h12]
    clear hI hall hW h12
    go_wp2_with fail
    go_ret
    refine ⟨rfl, 1, (#[.cells #[.int .u64 x.1, .int .i64 x.2] 48] ++ #[.cells #[.int .u64 y.1, .int .i64 y.2] 48]) ++ #[.cells #[.int .i64 (cmpZ x.1 y.1), .int .i64 (cmpZ x.2 y.2)] 3], ?_⟩
    rw [HV.out, HD.out, ← HW.out, Sort.alloc_eq_grow, Sort.alloc_eq_grow, Sort.alloc_eq_grow, Sort.grow_grow, Sort.drew_grow, Sort.grow_grow]; rfl
theorem below_grow (w : World) (q : Nat) (os : Array Obj) : Below w.heap.size w (Sort.grow (w.drewN q) os) :=
  ⟨rfl, rfl, rfl, by simp [World.drewN], fun k hk => by show (w.heap ++ os)[k]? = _; rw [Array.getElem?_append_left hk]⟩
theorem compare_told (x y : Pt) (w : World) : Calls Try.prog 26 #[ptV x, ptV y] w fun e W' => e = .returned (.int .i64 (cmpP x y)) ∧ Below w.heap.size w W' :=
  (compare_any x y w).mono fun e W' ⟨he, q, os, hw⟩ => ⟨he, by rw [hw]; exact below_grow w q os⟩

set_option maxHeartbeats 400000 in
theorem Less_told (x y : Pt) (w : World) : Calls Try.prog 16 #[ptV x, ptV y] w fun e W' => e = .returned (.bool (less x y)) ∧ Below w.heap.size w W' := by
  have al := Lib.hid (((Below.refl w.heap.size w).alloc (Nat.le_refl _) (.cells #[.int .u64 x.1, .int .i64 x.2] 30)).alloc (by simp) (.cells #[.int .u64 y.1, .int .i64 y.2] 30))
  have HL := Lib.hid (show decide (cmpP x y < 0) = less x y by
    cases h : less x y with
    | true => exact decide_eq_true ((cmpP_lt x y).2 h)
    | false => exact decide_eq_false (fun h' => by rw [(cmpP_lt x y).1 h'] at h; cases h))
  go_enter Try.func16, Try.ntmps16
  go_wp2_with fail
  refine (compare_told x y _).mono ?_
  rintro e w1 ⟨rfl, hb⟩
  have HB := Lib.hid hb
  clear hb
  go_wp2_with fail
  go_ret
  exact ⟨by rw [HL.out]; rfl, below2 al.out HB.out⟩
end Go.Proofs.Ytfjpdoamalbpjaa.Pts
