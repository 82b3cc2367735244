/-
  PointsWith: for every p and b the law PointsWith answers true: with a backend more all other points stay. No condition.
-/
import Derived.Test.YtfjpdoamalbpjaaRows
import Derived.Test.YtfjpdoamalbpjaaStp
import Derived.Test.YtfjpdoamalbpjaaStq
import Derived.Test.YtfjpdoamalbpjaaPtsW
import Derived.Test.YtfjpdoamalbpjaaPolO
import Derived.Test.YtfjpdoamalbpjaaPtsS
import Derived.BigQuiet
import Derived.WalkSmall
import Derived.ProofKit
import Derived.OpenShut
import Derived.ChangeMaps5
namespace Go.Proofs.Ytfjpdoamalbpjaa
open Go.ChangeShapes Go.WideShapes Go.ChangeAt Go.RowKit Go.Shelf
open Go.ChangeMaps (open_string shut_string)
open Pts Rgn
open Pol (below2 below_alloc Bk polV)

set_option maxRecDepth 100000 in
set_option maxHeartbeats 2000000 in
theorem walk_PointsWith (a0 : Option Addr) (c0 : Nat) (z0 : List Bk) (y : Bk) (w : World) (h0 : Pol.Lies w a0 c0 z0) (_g0 : ∀ x ∈ z0, Stp.BkOk x) (_h1 : Stp.BkOk y) :
    Calls Try.prog 9 #[polV a0 c0 z0, .agg #[.int .i64 y.1, .int .i64 y.2]] w fun e W' => e = .returned (.bool true) ∧ Below w.heap.size w W' := by
  have HA := Lib.hid (below_alloc w (.cells #[.int .i64 y.1, .int .i64 y.2] 35))
  have H := Lib.hid h0
  have hC0 := h0.len
  have hM0 := h0.max
  unfold maxLen at hM0
  clear h0 _g0
  by_cases h8 : 8 < z0.length
  · have d0 : decide ((8 : Int) < (z0.length : Int)) = true := decide_eq_true (by omega)
    have d1 : decide (8 < z0.length) = true := decide_eq_true h8
    go_enter Try.func9, Try.ntmps9
    go_wp2_with fail
    refine (works_any _).mono ?_
    rintro e w1 ⟨rfl, hb⟩
    have B1 := Lib.hid hb
    clear hb
    go_wp2_with fail
    go_ret
    exact ⟨rfl, below2 HA.out B1.out⟩
  have d0 : decide ((8 : Int) < (z0.length : Int)) = false := decide_eq_false (by omega)
  have d1 : decide (8 < z0.length) = false := decide_eq_false h8
  have hz : z0.length ≤ 8 := by omega
  have hWl := List.length_filter_le (fun x : Bk => x.1 != y.1) z0
  have hW2 : (Pol.with_ (Pol.without z0 y.1) y).length ≤ 9 := by
    have h1 := Pol.with_length y (Pol.without z0 y.1)
    have h2 : (Pol.without z0 y.1).length ≤ z0.length := hWl
    omega
  have F1 := Lib.hid (ofL_with hsh z0 y).1
  have F2 := Lib.hid (ofL_with hsh z0 y).2
  have hLl : (ofL hsh (Pol.with_ (Pol.without z0 y.1) y)).length ≤ 1152 := by
    have h1 := (ofL_with hsh z0 y).2
    have h2 := pts_short (Pol.without z0 y.1)
    have h3 : (Pol.without z0 y.1).length ≤ z0.length := hWl
    have h4 := cnt_le y.2
    have h5 : (ofL hsh (Pol.without z0 y.1)).length = (pts hsh (Pol.without z0 y.1)).length := psort_length _
    omega
  have X0 : ∀ W, Below (w.alloc (.cells #[.int .i64 y.1, .int .i64 y.2] 35)).heap.size (w.alloc (.cells #[.int .i64 y.1, .int .i64 y.2] 35)) W → W.cell? ⟨w.heap.size, 0, none⟩ = some (.int .i64 y.1) ∧ W.cell? ⟨w.heap.size, 1, none⟩ = some (.int .i64 y.2) := fun W hW => ⟨(hW.cell (by simp)).trans (by simp), (hW.cell (by simp)).trans (by simp)⟩
  have HX0 := Lib.hid X0
  have HA1 := Lib.hid (H.out.kept HA.out)
  clear X0 H
  go_enter Try.func9, Try.ntmps9
  go_wp2_with fail
  refine (works_any _).mono ?_
  rintro e w1 ⟨rfl, hb⟩
  have L1 := Lib.hid (HA1.out.kept hb)
  have X1 := Lib.hid (fun W (h : Below w1.heap.size w1 W) => HX0.out W (below2 hb h))
  have B1 := Lib.hid (below2 HA.out hb)
  clear hb HX0 HA1
  go_wp2_with fail
  refine wp_region_val (sqV [.is (polV a0 c0 z0), .is (.pointer (some ⟨w.heap.size, 0, none⟩)), .is (.int .i64 y.1), .bks (Pol.without z0 y.1), .is (.agg #[.int .i64 y.1, .int .i64 y.2]), .bks (Pol.with_ (Pol.without z0 y.1) y), .pts (ofL hsh (Pol.with_ (Pol.without z0 y.1) y)), .pts (ofL hsh (Pol.with_ (Pol.without z0 y.1) y))]) (sqV_kept _) (by kernel_rfl) (by kernel_rfl) (by kernel_rfl) ?step ?done
  case step =>
    intro d a W i hi hall hI
    replace hi : i < 8 := hi
    have b0 := hI.below
    obtain rfl | rfl | rfl | rfl | rfl | rfl | rfl | rfl : i = 0 ∨ i = 1 ∨ i = 2 ∨ i = 3 ∨ i = 4 ∨ i = 5 ∨ i = 6 ∨ i = 7 := by omega
    · have e0 : a.tmps[0]?.getD undef = polV a0 c0 z0 := hI.old 0 (unwritten_of (by kernel_rfl) d)
      refine StepV.done rfl (wanted_free rfl) fun K hK => ?_
      exact op_move rfl (hK _ _ (Below.refl _ _) e0)
    · have e3 : a.tmps[3]?.getD undef = .pointer (some ⟨w.heap.size, 0, none⟩) := hI.old 3 (unwritten_of (by kernel_rfl) d)
      refine StepV.done rfl (wanted_free rfl) fun K hK => ?_
      clear hall hI
      refine op_run (.pointer (some ⟨w.heap.size, 0, none⟩)) W ?_ (hK _ _ (Below.refl _ _) rfl)
      clear hK
      simp only [List.getElem_toArray, List.getElem_cons_zero, List.getElem_cons_succ, execOp, Act.eval]
      go_simp
    · have e18 : a.tmps[18]?.getD undef = .pointer (some ⟨w.heap.size, 0, none⟩) := hI.val 1 18 rfl (hall 1 (by kernel_rfl))
      obtain ⟨k0, k1⟩ := X1.out W b0
      refine StepV.done rfl (wanted_free rfl) fun K hK => ?_
      clear hall hI
      refine op_run (.int .i64 y.1) W ?_ (hK _ _ (Below.refl _ _) rfl)
      clear hK
      simp only [List.getElem_toArray, List.getElem_cons_zero, List.getElem_cons_succ, execOp, Act.eval]
      go_simp
    · have e17 : a.tmps[17]?.getD undef = polV a0 c0 z0 := hI.val 0 17 rfl (hall 0 (by kernel_rfl))
      have e19 : a.tmps[19]?.getD undef = .int .i64 y.1 := hI.val 2 19 rfl (hall 2 (by kernel_rfl))
      have C := (Pol.Without_told a0 c0 z0 y.1 W (L1.out.kept b0) (by omega))
      refine StepV.done rfl (wanted_free rfl) fun K hK => ?_
      refine op_call 22 #[polV a0 c0 z0, .int .i64 y.1] (fun v W2 => Pol.Gives W2 v (Pol.without z0 y.1) ∧ Below W.heap.size W W2) ?_ C (fun v W2 ⟨h1, h2⟩ => hK v W2 h2 h1)
      clear hall hI hK C
      simp only [List.getElem_toArray, List.getElem_cons_zero, List.getElem_cons_succ, execOp]
      go_simp
    · have e3 : a.tmps[3]?.getD undef = .pointer (some ⟨w.heap.size, 0, none⟩) := hI.old 3 (unwritten_of (by kernel_rfl) d)
      obtain ⟨k0, k1⟩ := X1.out W b0
      refine StepV.done rfl (wanted_free rfl) fun K hK => ?_
      clear hall hI
      refine op_run (.agg #[.int .i64 y.1, .int .i64 y.2]) W ?_ (hK _ _ (Below.refl _ _) rfl)
      clear hK
      simp only [List.getElem_toArray, List.getElem_cons_zero, List.getElem_cons_succ, execOp, Act.eval]
      go_simp
    · obtain ⟨p20, q20, e20, k20⟩ : Pol.Gives W (a.tmps[20]?.getD undef) (Pol.without z0 y.1) := hI.val 3 20 rfl (hall 3 (by kernel_rfl))
      have e21 : a.tmps[21]?.getD undef = .agg #[.int .i64 y.1, .int .i64 y.2] := hI.val 4 21 rfl (hall 4 (by kernel_rfl))
      have C := (Pol.With_told p20 q20 (Pol.without z0 y.1) y W k20 (by unfold Pol.without; omega))
      refine StepV.done rfl (wanted_free rfl) fun K hK => ?_
      refine op_call 23 #[polV p20 q20 (Pol.without z0 y.1), .agg #[.int .i64 y.1, .int .i64 y.2]] (fun v W2 => Pol.Gives W2 v (Pol.with_ (Pol.without z0 y.1) y) ∧ Below W.heap.size W W2) ?_ C (fun v W2 ⟨h1, h2⟩ => hK v W2 h2 h1)
      clear hall hI hK C
      simp only [List.getElem_toArray, List.getElem_cons_zero, List.getElem_cons_succ, execOp]
      go_simp
    · obtain ⟨p22, q22, e22, k22⟩ : Pol.Gives W (a.tmps[22]?.getD undef) (Pol.with_ (Pol.without z0 y.1) y) := hI.val 5 22 rfl (hall 5 (by kernel_rfl))
      have C := (Of_told p22 q22 (Pol.with_ (Pol.without z0 y.1) y) W k22 (by omega))
      refine StepV.done rfl (wanted_free rfl) fun K hK => ?_
      refine op_call 11 #[polV p22 q22 (Pol.with_ (Pol.without z0 y.1) y)] (fun v W2 => Gives W2 v (ofL hsh (Pol.with_ (Pol.without z0 y.1) y)) ∧ Below W.heap.size W W2) ?_ C (fun v W2 ⟨h1, h2⟩ => hK v W2 h2 h1)
      clear hall hI hK C
      simp only [List.getElem_toArray, List.getElem_cons_zero, List.getElem_cons_succ, execOp]
      go_simp
    · have f := hI.val 6 23 rfl (hall 6 (by kernel_rfl))
      refine StepV.done rfl (wanted_free rfl) fun K hK => ?_
      exact op_assign rfl (hK _ _ (Below.refl _ _) f)
  case done =>
    intro a w2 hv hI
    obtain ⟨t, df⟩ := a
    obtain rfl : df = [] := hI.defs
    have hz2 : t.size = 69 := hI.size
    have hb := hI.below
    obtain ⟨aP, cP, e6, hP⟩ : Gives w2 (t[6]?.getD undef) (ofL hsh (Pol.with_ (Pol.without z0 y.1) y)) := hv 7 6 rfl
    have e0 : t[0]?.getD undef = polV a0 c0 z0 := hI.old 0 (unwritten_of (by kernel_rfl) (fun _ => true))
    have e3 : t[3]?.getD undef = .pointer (some ⟨w.heap.size, 0, none⟩) := hI.old 3 (unwritten_of (by kernel_rfl) (fun _ => true))
    have e5 : t[5]?.getD undef = .bool true := hI.old 5 (unwritten_of (by kernel_rfl) (fun _ => true))
    generalize ofL hsh (Pol.with_ (Pol.without z0 y.1) y) = L at *
    have L2 := Lib.hid (L1.out.kept hb)
    have P2 := Lib.hid hP
    have B2 := Lib.hid (below2 B1.out hb)
    have X2 := Lib.hid (fun W (h : Below w2.heap.size w2 W) => X1.out W (below2 hb h))
    have hPl := hP.len
    have hPm := hP.max
    unfold maxLen at hPm
    clear hv hI hb hP L1 B1 X1
    obtain ⟨ys, hy, ht⟩ := arr_slots t 69 hz2
    have hls : (slotsFrom ys 0 69).toArray = #[ys 0, ys 1, ys 2, ys 3, ys 4, ys 5, ys 6, ys 7, ys 8, ys 9, ys 10, ys 11, ys 12, ys 13, ys 14, ys 15, ys 16, ys 17, ys 18, ys 19, ys 20, ys 21, ys 22, ys 23, ys 24, ys 25, ys 26, ys 27, ys 28, ys 29, ys 30, ys 31, ys 32, ys 33, ys 34, ys 35, ys 36, ys 37, ys 38, ys 39, ys 40, ys 41, ys 42, ys 43, ys 44, ys 45, ys 46, ys 47, ys 48, ys 49, ys 50, ys 51, ys 52, ys 53, ys 54, ys 55, ys 56, ys 57, ys 58, ys 59, ys 60, ys 61, ys 62, ys 63, ys 64, ys 65, ys 66, ys 67, ys 68] := rfl
    rw [hy] at e6 e0 e3 e5
    rw [ht, hls, e6, e0, e3, e5]
    clear ht hls hz2 hy e6 e0 e3 e5
    go_wp2_with fail
    go_loopw [7, 8] (fun v i W => ∃ k : Nat, k ≤ L.length ∧ i = .int .i64 k ∧ Pts.Own w2.heap.size W v ((L.take k).filter fun p => p.2 != y.1) ∧ Below w2.heap.size w2 W) (fun _ i _ => L.length - (intOf i).toNat)
    case atStart => exact ⟨0, Nat.zero_le _, rfl, by simpa using own_nil _ _, Below.refl _ _⟩
    case round =>
      obtain ⟨k, hk, rfl, hO, hBW⟩ := hrel
      have HO := Lib.hid hO
      have BW := Lib.hid hBW
      clear hO hBW
      by_cases hlt : k < L.length
      · have dlt : decide (k < L.length) = true := decide_eq_true hlt
        obtain ⟨b, off, rfl, x0, x1⟩ := (P2.out.kept BW.out).at hlt
        have hfl : ((L.take k).filter fun p => p.2 != y.1).length ≤ 1152 := by
          have h1 := List.length_filter_le (fun p : Pt => p.2 != y.1) (L.take k)
          have h2 : (L.take k).length ≤ L.length := by simp; omega
          omega
        have HX := Lib.hid (show (L.take (k + 1)).filter (fun p => p.2 != y.1) = ((L.take k).filter fun p => p.2 != y.1) ++ ([L[k]].filter fun p => p.2 != y.1) by rw [List.take_succ_eq_append_getElem hlt, List.filter_append])
        generalize L[k] = x at *
        generalize ((L.take k).filter fun p => p.2 != y.1) = out at *
        by_cases hx : x.2 = y.1
        · have dx : (x.2 != y.1) = false := by rw [hx]; simp
          have HY := Lib.hid (show (L.take (k + 1)).filter (fun p => p.2 != y.1) = out by rw [HX.out]; simp [hx])
          clear hx HX
          obtain ⟨k0, k1⟩ := X2.out wr BW.out
          go_wp2_with fail
          go_quiet (fail)
          have HO2 := Lib.hid (show Pts.Own w2.heap.size (wr.drewN nq) _ out from HO.out)
          have BW2 := Lib.hid (below_drewN BW.out nq)
          have t0 : (wr.drewN nq).cell? ⟨b, off + k * 2, none⟩ = some (.int .u64 x.1) := x0
          have t1 : (wr.drewN nq).cell? ⟨b, off + k * 2 + 1, none⟩ = some (.int .i64 x.2) := x1
          clear HO BW x0 x1 k0 k1
          go_wp2_with fail
          go_roundw
          case rel => exact ⟨k + 1, by omega, by go_num, by rw [HY.out]; exact HO2.out, BW2.out⟩
          case measure => simp [intOf]; omega
        · have dx : (x.2 != y.1) = true := bne_iff_ne.2 hx
          have HY := Lib.hid (show (L.take (k + 1)).filter (fun p => p.2 != y.1) = out ++ [x] by rw [HX.out]; simp [hx])
          clear hx HX
          obtain ⟨k0, k1⟩ := X2.out wr BW.out
          go_wp2_with fail
          go_quiet (fail)
          have HO2 := Lib.hid (show Pts.Own w2.heap.size (wr.drewN nq) _ out from HO.out)
          have BW2 := Lib.hid (below_drewN BW.out nq)
          have t0 : (wr.drewN nq).cell? ⟨b, off + k * 2, none⟩ = some (.int .u64 x.1) := x0
          have t1 : (wr.drewN nq).cell? ⟨b, off + k * 2 + 1, none⟩ = some (.int .i64 x.2) := x1
          clear HO BW x0 x1 k0 k1
          generalize wr.drewN nq = w3 at *
          go_wp2_with (at_builtin; refine wpList_more rfl _ _ rfl w2.heap.size w3.heap.size out x _ rfl rfl (HO2.out.kept (below_alloc w3 _)) ?c0 ?c1 ?c2 ?c3 ?_)
          case c0 => simp
          case c1 => simp
          case c2 => omega
          case c3 => have := BW2.out.size; simp; omega
          intro v' w4 ho4 hb4
          have HO4 := Lib.hid ho4.out
          have HB4 := Lib.hid ((BW2.out.alloc BW2.out.size _).trans hb4.out)
          clear hb4 ho4
          go_wp2_with fail
          go_roundw
          case rel => exact ⟨k + 1, by omega, by go_num, by rw [HY.out]; exact HO4.out, HB4.out⟩
          case measure => simp [intOf]; omega
      · obtain rfl : k = L.length := by omega
        have hO3 := HO.out
        rw [List.take_length, F1.out] at hO3
        obtain ⟨aQ, cQ, rfl, hQ⟩ := hO3.lies
        have Q3 := Lib.hid hQ
        have hQl := hQ.len
        have hQm := hQ.max
        unfold maxLen at hQm
        have L3 := Lib.hid (L2.out.kept BW.out)
        have B3 := Lib.hid (below2 B2.out BW.out)
        obtain ⟨k0, k1⟩ := X2.out wr BW.out
        have X3 := Lib.hid (fun W (h : Below wr.heap.size wr W) => X2.out W (below2 BW.out h))
        clear hO3 hQ HO BW L2 B2 P2 X2
        obtain ⟨mn, hmn⟩ : ∃ mn, (if 16 < y.2 then 16 else y.2) = mn := ⟨_, rfl⟩
        obtain ⟨mx, hmx⟩ : ∃ mx, (if 0 < mn then mn else 0) = mx := ⟨_, rfl⟩
        have hml : 8 * mx = (cnt y.2 : Nat) := by
          rw [← hmx, ← hmn]; unfold cnt; split <;> split <;> omega
        have hcn := cnt_le y.2
        have hmb : 0 ≤ mx ∧ mx ≤ 16 := by omega
        have hLn : L.length = (ofL hsh (Pol.without z0 y.1)).length + cnt y.2 := F2.out
        have HLN := Lib.hid hLn
        have HQ := Lib.hid (show (ofL hsh (Pol.without z0 y.1)).length ≤ 1152 by omega)
        clear hLn
        go_wp2_with fail
        refine (Pol.Without_told a0 c0 z0 y.1 wr L3.out (by omega)).mono ?_
        rintro e w4 ⟨v, rfl, ⟨aW, cW, rfl, hW⟩, hb⟩
        have Q4 := Lib.hid (Q3.out.kept hb)
        have W4 := Lib.hid hW
        have B4 := Lib.hid (below2 B3.out hb)
        clear hb hW Q3 L3 B3
        go_wp2_with fail
        refine (Of_told aW cW (Pol.without z0 y.1) w4 W4.out (by unfold Pol.without; omega)).mono ?_
        rintro e w5 ⟨v, rfl, ⟨aR, cR, rfl, hR⟩, hb⟩
        have Q5 := Lib.hid (Q4.out.kept hb)
        have R5 := Lib.hid hR
        have B5 := Lib.hid (below2 B4.out hb)
        clear hb hR Q4 W4 B4
        go_wp2_with fail
        refine (Same_told aR cR _ aQ cQ _ true (by simp) w5 R5.out Q5.out).mono ?_
        rintro e w6 ⟨rfl, hb⟩
        have B6 := Lib.hid (below2 B5.out hb)
        clear hb Q5 R5 B5
        have HV := Lib.hid (show ((L.length : Int) == wrap64 (((ofL hsh (Pol.without z0 y.1)).length : Int) + 8 * max 0 (min y.2 16))) = true by
          rw [beq_iff_eq, show 8 * max 0 (min y.2 16) = ((cnt y.2 : Nat) : Int) by unfold cnt; omega]
          have h1 := HLN.out
          have h2 := HQ.out
          unfold wrap64
          omega)
        go_wp2_with fail
        go_ret
        exact ⟨by rw [HV.out]; rfl, B6.out⟩

theorem own_PointsWith : ownKnob Try.prog.godebug = none := by kernel_rfl
set_option maxRecDepth 100000 in
set_option maxHeartbeats 800000 in
theorem lifted_PointsWith (os : Os) (started : os.Started) (H : Type) (enc : TypeId × Value → H) :
    ReturnsInHanded {} Try.checked os 9 .any (Rows.pointsWithSpec.pre6 enc Try.prog Try.f9 Rows.pointsWithRow.domain false) (Rows.pointsWithSpec.post enc Try.prog Try.f9 false true false false) := by
  refine returnsInHanded_of_change (C := Try.checked) own_PointsWith started (by kernel_rfl) Try.func9
    (ChangeSpec.witness6 (enc := enc) (C := Try.checked) false ⟨#[], #[.slice none 0 0, .agg #[.int .i64 0, .int .i64 0]], []⟩ 8 (by kernel_rfl) (by kernel_rfl) (by kernel_rfl) (by kernel_rfl)) ?_
  intro W base args ds gs before hval0 hW _ _
  have hval : ∀ (j : Nat) t v, Try.f9.params[j]? = some t → args[j]? = some v → Value.okWide Try.prog W .any base t v := hval0
  have hW' := hW
  obtain ⟨p, q, hA0, hV, rfl, _, _⟩ := hW
  have hA : DataW.TrodAll enc Try.prog W 0 (fun _ => true) true Try.f9.params.toList args.toList ds p := hA0
  rw [Try.params9] at hA hval
  obtain ⟨v0, vs0, d0, ds0, p0, q0, ha0, rfl, rfl, t0, r0⟩ := trodAll_cons hA
  obtain ⟨v1, vs1, d1, ds1, p1, q1, ha1, rfl, rfl, t1, r1⟩ := trodAll_cons r0
  obtain ⟨rfl, rfl, rfl⟩ := trodAll_nil r1
  subst ha1
  obtain rfl : args = #[v0, v1] := by cases args; simp_all
  obtain ⟨rfl, rfl⟩ := trodVars_none hV
  have k0 := t0
  have lt0 : ∀ x ∈ p0, x.block < W.heap.size := by obtain ⟨m, hm⟩ := k0; exact DataW.trod_lt m _ _ _ hm
  obtain ⟨a0, c0, z0, rfl, h0, g0⟩ := Stp.open_pool (hval 0 22 v0 rfl rfl) t0
  have k1 := t1
  have lt1 : ∀ x ∈ p1, x.block < W.heap.size := by obtain ⟨m, hm⟩ := k1; exact DataW.trod_lt m _ _ _ hm
  obtain ⟨a1, rfl, h1⟩ := Stp.open_backend (hval 1 35 v1 rfl rfl) t1
  clear hA0 hval0
  refine (walk_PointsWith a0 c0 z0 a1 W h0 g0 h1).mono fun e W' ⟨he, hnx⟩ => ?_
  subst he
  exact ⟨_, rfl, ⟨_, _, _, [], _, [], hW', trodAll_cons_mk (shut_bool Try.underlying4 _) trodAll_mk0, (trodAll_cons_mk (Below.trod Stp.laidOut (by kernel_rfl) (of_decide_eq_true (by kernel_rfl)) k0 hnx lt0) (trodAll_cons_mk (Below.trod Stp.laidOut (by kernel_rfl) (of_decide_eq_true (by kernel_rfl)) k1 hnx lt1) trodAll_mk0)), rfl, hnx.frame _, fun h => by cases h⟩⟩

theorem pointsWith_holds : Rows.PointsWithSaid :=
  OpenClaim.holds_of_wide 9 Try.f9 rfl rfl rfl rfl rfl rfl rfl ⟨rfl, rfl, rfl, rfl, rfl⟩ rfl rfl rfl rfl rfl (by kernel_rfl) Try.func9 (by kernel_rfl)
    (of_decide_eq_true (by kernel_rfl)) (by unfold Func.isWrapper; first | (rw [if_pos (by decide +kernel)]; kernel_rfl) | (rw [if_neg (by decide +kernel)]; exact ⟨rfl, rfl⟩))
    (fun os started H enc _ => lifted_PointsWith os started H enc)

#print axioms pointsWith_holds
end Go.Proofs.Ytfjpdoamalbpjaa
