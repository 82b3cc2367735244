/-
  PointsSorted: for every p the law PointsSorted answers true: points stand in order, as many as weights ask for; in whatever order backends stand. No condition.
-/
import Derived.Test.YtfjpdoamalbpjaaRows
import Derived.Test.YtfjpdoamalbpjaaStp
import Derived.Test.YtfjpdoamalbpjaaStq
import Derived.Test.YtfjpdoamalbpjaaPtsW
import Derived.Test.YtfjpdoamalbpjaaSrtB
import Derived.BigQuiet
import Derived.WalkSmall
import Derived.ProofKit
import Derived.OpenShut
import Derived.ChangeMaps5
namespace Go.Proofs.Ytfjpdoamalbpjaa
open Go.ChangeShapes Go.WideShapes Go.ChangeAt Go.RowKit Go.Shelf
open Go.ChangeMaps (open_string shut_string)
open Pts Rgn
open Pol (below2 below_alloc Bk polV)

set_option maxRecDepth 100000 in
set_option maxHeartbeats 2000000 in
theorem walk_PointsSorted (a0 : Option Addr) (c0 : Nat) (z0 : List Bk) (w : World) (h0 : Pol.Lies w a0 c0 z0) (_g0 : ∀ x ∈ z0, Stp.BkOk x) :
    Calls Try.prog 5 #[polV a0 c0 z0] w fun e W' => e = .returned (.bool true) ∧ Below w.heap.size w W' := by
  have H := Lib.hid h0
  have hC0 := h0.len
  have hM0 := h0.max
  unfold maxLen at hM0
  clear h0 _g0
  by_cases h8 : 8 < z0.length
  · have d0 : decide ((8 : Int) < (z0.length : Int)) = true := decide_eq_true (by omega)
    have d1 : decide (8 < z0.length) = true := decide_eq_true h8
    go_enter Try.func5, Try.ntmps5
    go_wp2_with fail
    refine (works_any _).mono ?_
    rintro e w1 ⟨rfl, hb⟩
    have B1 := Lib.hid hb
    clear hb
    go_wp2_with fail
    go_ret
    exact ⟨rfl, B1.out⟩
  have d0 : decide ((8 : Int) < (z0.length : Int)) = false := decide_eq_false (by omega)
  have d1 : decide (8 < z0.length) = false := decide_eq_false h8
  have hz : z0.length ≤ 8 := by omega
  have F1 := Lib.hid (ofL_sorted hsh z0)
  have F2 := Lib.hid (ofL_length hsh z0)
  have HR := Lib.hid (ofL_rise hsh z0)
  have hLl : (ofL hsh z0).length ≤ 1024 := by have := pts_short z0; unfold ofL; rw [psort_length]; omega
  have hSl := (Pol.sorted_perm z0).length_eq
  go_enter Try.func5, Try.ntmps5
  go_wp2_with fail
  refine (works_any _).mono ?_
  rintro e w1 ⟨rfl, hb⟩
  have L1 := Lib.hid (H.out.kept hb)
  have B1 := Lib.hid hb
  clear hb
  go_wp2_with fail
  refine (Of_told a0 c0 z0 w1 L1.out (by omega)).mono ?_
  rintro e w2 ⟨v, rfl, ⟨aP, cP, rfl, hP⟩, hb⟩
  generalize ofL hsh z0 = L at *
  have L2 := Lib.hid (L1.out.kept hb)
  have P2 := Lib.hid hP
  have B2 := Lib.hid (below2 B1.out hb)
  have hPl := hP.len
  have hPm := hP.max
  unfold maxLen at hPm
  clear hb hP L1 B1
  go_wp2_with fail
  go_loopw [5, 6] (fun s i W => ∃ k : Nat, k ≤ z0.length ∧ i = .int .i64 k ∧ s = .int .i64 (((z0.take k).map fun x => cnt x.2).sum : Nat) ∧ ((z0.take k).map fun x => cnt x.2).sum ≤ k * 128 ∧ Below w2.heap.size w2 W) (fun _ i _ => z0.length - (intOf i).toNat)
  case atStart => exact ⟨0, Nat.zero_le _, rfl, by simp, by simp, Below.refl _ _⟩
  case round =>
    obtain ⟨k, hk, rfl, rfl, hs, hBW⟩ := hrel
    have BW := Lib.hid hBW
    clear hBW
    by_cases hlt : k < z0.length
    · have dlt : decide (k < z0.length) = true := decide_eq_true hlt
      obtain ⟨b, off, rfl, x0, x1⟩ := (L2.out.kept BW.out).at hlt
      have HX := Lib.hid (show ((z0.take (k + 1)).map fun x => cnt x.2).sum = ((z0.take k).map fun x => cnt x.2).sum + cnt z0[k].2 by
        rw [List.take_succ_eq_append_getElem hlt, List.map_append, List.sum_append]
        simp only [List.map_cons, List.map_nil, List.sum_cons, List.sum_nil, Nat.add_zero])
      generalize z0[k] = x at *
      generalize ((z0.take k).map fun x => cnt x.2).sum = S at *
      have hcn := cnt_le x.2
      have HV := Lib.hid (show (S : Int) + 8 * max 0 (min x.2 16) = ((S + cnt x.2 : Nat) : Int) by
        rw [show 8 * max 0 (min x.2 16) = ((cnt x.2 : Nat) : Int) by unfold cnt; omega]
        omega)
      go_wp2_with fail
      go_roundw
      case rel => exact ⟨k + 1, by omega, by go_num, by rw [HX.out, ← HV.out], by rw [HX.out]; omega, BW.out⟩
      case measure => simp [intOf]; omega
    · obtain rfl : k = z0.length := by omega
      have eln : ((L.length : Int) == (((z0.take z0.length).map fun x => cnt x.2).sum : Nat)) = true := by rw [List.take_length, ← F2.out]; simp
      generalize ((z0.take z0.length).map fun x => cnt x.2).sum = S at *
      have B3 := Lib.hid (below2 B2.out BW.out)
      have L3 := Lib.hid (L2.out.kept BW.out)
      have P3 := Lib.hid (P2.out.kept BW.out)
      clear B2 BW L2 P2 F2 hlt hk
      generalize wr = w3 at *
      go_wp2_with fail
      go_loopw [7] (fun i W => ∃ k : Nat, 1 ≤ k ∧ k ≤ L.length + 1 ∧ i = .int .i64 k ∧ Below w3.heap.size w3 W) (fun i _ => L.length + 1 - (intOf i).toNat)
      case atStart => exact ⟨1, Nat.le_refl _, by omega, rfl, Below.refl _ _⟩
      case round =>
        obtain ⟨k, hk1, hk, rfl, hBW⟩ := hrel
        have BW := Lib.hid hBW
        clear hBW
        by_cases hlt : k < L.length
        · have dlt : decide (k < L.length) = true := decide_eq_true hlt
          obtain ⟨b, off, rfl, x0, x1⟩ := (P3.out.kept BW.out).at hlt
          obtain ⟨j, hj⟩ : ∃ j, k = j + 1 := ⟨k - 1, by omega⟩
          have hjl : j < L.length := by omega
          obtain ⟨b', off', e', y0, y1⟩ := (P3.out.kept BW.out).at hjl
          cases e'
          have hless : less L[k] L[j] = false := by subst hj; exact rise_at HR.out j hlt
          have s1 : IntKind.i64.wrap ((k : Int) - 1) = (j : Int) := by rw [IntKind.wrap_i64]; omega
          generalize L[k] = x at *
          generalize L[j] = y at *
          have C := fun W => Less_told x y W
          rw [hless] at C
          have HJ := Lib.hid hj
          clear hj hless
          go_wp2_with fail
          go_region_held3 (fun W => Below wr.heap.size wr W ∧ W.cell? ⟨b, off + k * 2, none⟩ = some (.int .u64 x.1) ∧ W.cell? ⟨b, off + k * 2 + 1, none⟩ = some (.int .i64 x.2) ∧ W.cell? ⟨b, off + j * 2, none⟩ = some (.int .u64 y.1) ∧ W.cell? ⟨b, off + j * 2 + 1, none⟩ = some (.int .i64 y.2)) (first | exact ⟨(Below.refl _ wr).drew, x0, x1, y0, y1⟩ | exact two_keep (by assumption) hb)
            (first | (go_at_call 16; (with_reducible refine (C _).mono ?_); rintro e w4 ⟨rfl, hb⟩))
          rename_i hHeld
          have HB2 := Lib.hid (BW.out.trans (hHeld.1.mono BW.out.size))
          clear hHeld
          go_wp2_with fail
          go_roundw
          case rel => exact ⟨k + 1, by omega, by omega, by go_num, HB2.out⟩
          case measure => simp [intOf]; omega
        · have dlt : decide (k < L.length) = false := decide_eq_false hlt
          have B4 := Lib.hid (below2 B3.out BW.out)
          have L4 := Lib.hid (L3.out.kept BW.out)
          have P4 := Lib.hid (P3.out.kept BW.out)
          clear B3 BW L3 P3
          go_wp2_with fail
          refine (Pol.Sorted_told a0 c0 z0 wr L4.out (by omega)).mono ?_
          rintro e w5 ⟨v, rfl, ⟨aS, cS, rfl, hS⟩, hb⟩
          have S5 := Lib.hid hS
          have P5 := Lib.hid (P4.out.kept hb)
          have B5 := Lib.hid (below2 B4.out hb)
          clear hb hS L4 P4 B4
          go_wp2_with fail
          refine (Of_told aS cS (Pol.sorted z0) w5 S5.out (by omega)).mono ?_
          rintro e w6 ⟨v, rfl, ⟨aR, cR, rfl, hR⟩, hb⟩
          rw [F1.out] at hR
          have R6 := Lib.hid hR
          have P6 := Lib.hid (P5.out.kept hb)
          have B6 := Lib.hid (below2 B5.out hb)
          clear hb hR S5 P5 B5
          rw [F1.out]
          go_wp2_with fail
          refine (Same_told aR cR L aP cP L true (by simp) w6 R6.out P6.out).mono ?_
          rintro e w7 ⟨rfl, hb⟩
          have B7 := Lib.hid (below2 B6.out hb)
          clear hb R6 P6 B6
          go_wp2_with fail
          go_ret
          exact ⟨rfl, B7.out⟩

theorem own_PointsSorted : ownKnob Try.prog.godebug = none := by kernel_rfl
set_option maxRecDepth 100000 in
set_option maxHeartbeats 800000 in
theorem lifted_PointsSorted (os : Os) (started : os.Started) (H : Type) (enc : TypeId × Value → H) :
    ReturnsInHanded {} Try.checked os 5 .any (Rows.pointsSortedSpec.pre6 enc Try.prog Try.f5 Rows.pointsSortedRow.domain false) (Rows.pointsSortedSpec.post enc Try.prog Try.f5 false true false false) := by
  refine returnsInHanded_of_change (C := Try.checked) own_PointsSorted started (by kernel_rfl) Try.func5
    (ChangeSpec.witness6 (enc := enc) (C := Try.checked) false ⟨#[], #[.slice none 0 0], []⟩ 8 (by kernel_rfl) (by kernel_rfl) (by kernel_rfl) (by kernel_rfl)) ?_
  intro W base args ds gs before hval0 hW _ _
  have hval : ∀ (j : Nat) t v, Try.f5.params[j]? = some t → args[j]? = some v → Value.okWide Try.prog W .any base t v := hval0
  have hW' := hW
  obtain ⟨p, q, hA0, hV, rfl, _, _⟩ := hW
  have hA : DataW.TrodAll enc Try.prog W 0 (fun _ => true) true Try.f5.params.toList args.toList ds p := hA0
  rw [Try.params5] at hA hval
  obtain ⟨v0, vs0, d0, ds0, p0, q0, ha0, rfl, rfl, t0, r0⟩ := trodAll_cons hA
  obtain ⟨rfl, rfl, rfl⟩ := trodAll_nil r0
  obtain rfl : args = #[v0] := by cases args; simp_all
  obtain ⟨rfl, rfl⟩ := trodVars_none hV
  have k0 := t0
  have lt0 : ∀ x ∈ p0, x.block < W.heap.size := by obtain ⟨m, hm⟩ := k0; exact DataW.trod_lt m _ _ _ hm
  obtain ⟨a0, c0, z0, rfl, h0, g0⟩ := Stp.open_pool (hval 0 22 v0 rfl rfl) t0
  clear hA0 hval0
  refine (walk_PointsSorted a0 c0 z0 W h0 g0).mono fun e W' ⟨he, hnx⟩ => ?_
  subst he
  exact ⟨_, rfl, ⟨_, _, _, [], _, [], hW', trodAll_cons_mk (shut_bool Try.underlying4 _) trodAll_mk0, (trodAll_cons_mk (Below.trod Stp.laidOut (by kernel_rfl) (of_decide_eq_true (by kernel_rfl)) k0 hnx lt0) trodAll_mk0), rfl, hnx.frame _, fun h => by cases h⟩⟩

theorem pointsSorted_holds : Rows.PointsSortedSaid :=
  OpenClaim.holds_of_wide 5 Try.f5 rfl rfl rfl rfl rfl rfl rfl ⟨rfl, rfl, rfl, rfl, rfl⟩ rfl rfl rfl rfl rfl (by kernel_rfl) Try.func5 (by kernel_rfl)
    (of_decide_eq_true (by kernel_rfl)) (by unfold Func.isWrapper; first | (rw [if_pos (by decide +kernel)]; kernel_rfl) | (rw [if_neg (by decide +kernel)]; exact ⟨rfl, rfl⟩))
    (fun os started H enc _ => lifted_PointsSorted os started H enc)

#print axioms pointsSorted_holds
end Go.Proofs.Ytfjpdoamalbpjaa
