/-
  PointsTell: for all id, n, a, b, l and m the law PointsTell answers true: where a point is, whether one stands ahead, and whether lists are alike, is just what the document says. No condition.
-/
import Derived.Test.YtfjpdoamalbpjaaRows
import Derived.Test.YtfjpdoamalbpjaaStp
import Derived.Test.YtfjpdoamalbpjaaStq
import Derived.Test.YtfjpdoamalbpjaaPtsW
import Derived.BigQuiet
import Derived.WalkSmall
import Derived.ProofKit
import Derived.OpenShut
import Derived.ChangeMaps5
namespace Go.Proofs.Ytfjpdoamalbpjaa
open Go.ChangeShapes Go.WideShapes Go.ChangeAt Go.RowKit Go.Shelf
open Go.ChangeMaps (open_string shut_string)
open Pts Rgn
open Pol (below2 below_alloc Bk polV)

set_option maxRecDepth 100000 in
set_option maxHeartbeats 2000000 in
theorem walk_PointsTell (id n : Int) (x y : Pt) (a4 : Option Addr) (c4 : Nat) (z4 : List Pt) (a5 : Option Addr) (c5 : Nat) (z5 : List Pt) (w : World) (_h0 : (Lit.int .i64 id).wf = true) (_h1 : (Lit.int .i64 n).wf = true) (_h2 : Stq.PtOk x) (_h3 : Stq.PtOk y) (h4 : Lies w a4 c4 z4) (_g4 : ∀ p ∈ z4, Stq.PtOk p) (h5 : Lies w a5 c5 z5) (_g5 : ∀ p ∈ z5, Stq.PtOk p) :
    Calls Try.prog 4 #[.int .i64 id, .int .i64 n, ptV x, ptV y, ptsV a4 c4 z4, ptsV a5 c5 z5] w fun e W' => e = .returned (.bool true) ∧ Below w.heap.size w W' := by
  have H4 := Lib.hid h4
  have H5 := Lib.hid h5
  have hC4 := h4.len
  have hM4 := h4.max
  have hC5 := h5.len
  have hM5 := h5.max
  unfold maxLen at hM4 hM5
  clear h4 _g4 h5 _g5
  have hA : Below w.heap.size w ((w.alloc (.cells #[.int .u64 x.1, .int .i64 x.2] 30)).alloc (.cells #[.int .u64 y.1, .int .i64 y.2] 30)) := ((Below.refl _ w).alloc (Nat.le_refl _) _).alloc (by simp) _
  have HA := Lib.hid hA
  have k0 : ((w.alloc (.cells #[.int .u64 x.1, .int .i64 x.2] 30)).alloc (.cells #[.int .u64 y.1, .int .i64 y.2] 30)).cell? ⟨w.heap.size, 0, none⟩ = some (.int .u64 x.1) := by simp
  have k1 : ((w.alloc (.cells #[.int .u64 x.1, .int .i64 x.2] 30)).alloc (.cells #[.int .u64 y.1, .int .i64 y.2] 30)).cell? ⟨w.heap.size, 0 + 1, none⟩ = some (.int .i64 x.2) := by simp
  have k2 : ((w.alloc (.cells #[.int .u64 x.1, .int .i64 x.2] 30)).alloc (.cells #[.int .u64 y.1, .int .i64 y.2] 30)).cell? ⟨w.heap.size + 1, 0, none⟩ = some (.int .u64 y.1) := by simp
  have k3 : ((w.alloc (.cells #[.int .u64 x.1, .int .i64 x.2] 30)).alloc (.cells #[.int .u64 y.1, .int .i64 y.2] 30)).cell? ⟨w.heap.size + 1, 0 + 1, none⟩ = some (.int .i64 y.2) := by simp
  have HK := Lib.hid (fun W hb => two_keep (W' := W) ⟨Below.refl _ _, k0, k1, k2, k3⟩ hb)
  clear hA k0 k1 k2 k3
  by_cases h4 : 200 < z4.length
  · have d0 : decide ((200 : Int) < (z4.length : Int)) = true := decide_eq_true (by omega)
    have d1 : decide (200 < z4.length) = true := decide_eq_true h4
    go_enter Try.func4, Try.ntmps4
    go_wp2_with fail
    refine (works_any _).mono ?_
    rintro e w1 ⟨rfl, hb⟩
    have B1 := Lib.hid hb
    clear hb
    go_wp2_with fail
    go_ret
    exact ⟨rfl, below2 HA.out B1.out⟩
  have d4 : decide ((200 : Int) < (z4.length : Int)) = false := decide_eq_false (by omega)
  have d4' : decide (200 < z4.length) = false := decide_eq_false h4
  by_cases h5 : 200 < z5.length
  · have d0 : decide ((200 : Int) < (z5.length : Int)) = true := decide_eq_true (by omega)
    have d1 : decide (200 < z5.length) = true := decide_eq_true h5
    go_enter Try.func4, Try.ntmps4
    go_wp2_with fail
    refine (works_any _).mono ?_
    rintro e w1 ⟨rfl, hb⟩
    have B1 := Lib.hid hb
    clear hb
    go_wp2_with fail
    go_ret
    exact ⟨rfl, below2 HA.out B1.out⟩
  have d5 : decide ((200 : Int) < (z5.length : Int)) = false := decide_eq_false (by omega)
  have d5' : decide (200 < z5.length) = false := decide_eq_false h5
  obtain ⟨c, hc⟩ : ∃ c : Bool, z4 = z5 ↔ c = true := by
    by_cases h : z4 = z5
    · exact ⟨true, by simp [h]⟩
    · exact ⟨false, by simp [h]⟩
  have HC := Lib.hid hc
  clear hc
  go_enter Try.func4, Try.ntmps4
  go_wp2_with fail
  refine (works_any _).mono ?_
  rintro e w1 ⟨rfl, hb⟩
  have B1 := Lib.hid (below2 HA.out hb)
  have K1 := Lib.hid (HK.out w1 hb)
  clear hb HA HK
  go_wp2_with fail
  refine (refSame_any a4 c4 z4 a5 c5 z5 c HC.out w1 (H4.out.kept B1.out) (H5.out.kept B1.out)).mono ?_
  rintro e wr ⟨rfl, hb⟩
  have B2 := Lib.hid (below2 B1.out hb)
  obtain ⟨_, k0, k1, k2, k3⟩ := two_keep K1.out hb
  have CS := fun W (hW : Below wr.heap.size wr W ∧ W.cell? ⟨w.heap.size, 0, none⟩ = some (.int .u64 x.1) ∧ W.cell? ⟨w.heap.size, 0 + 1, none⟩ = some (.int .i64 x.2) ∧ W.cell? ⟨w.heap.size + 1, 0, none⟩ = some (.int .u64 y.1) ∧ W.cell? ⟨w.heap.size + 1, 0 + 1, none⟩ = some (.int .i64 y.2)) => Same_told a4 c4 z4 a5 c5 z5 c HC.out W (H4.out.kept (below2 B2.out hW.1)) (H5.out.kept (below2 B2.out hW.1))
  clear hb K1 B1
  go_wp2_with fail
  go_region_held3 (fun W => Below wr.heap.size wr W ∧ W.cell? ⟨w.heap.size, 0, none⟩ = some (.int .u64 x.1) ∧ W.cell? ⟨w.heap.size, 0 + 1, none⟩ = some (.int .i64 x.2) ∧ W.cell? ⟨w.heap.size + 1, 0, none⟩ = some (.int .u64 y.1) ∧ W.cell? ⟨w.heap.size + 1, 0 + 1, none⟩ = some (.int .i64 y.2)) (first | exact ⟨(Below.refl _ wr).drew, k0, k1, k2, k3⟩ | exact two_keep (by assumption) hb)
    (first | (go_at_call 14; (with_reducible refine (Hash_told _ _ _).mono ?_); rintro e w3 ⟨rfl, hb⟩) | (go_at_call 15; (with_reducible refine (refHash_any _ _ _).mono ?_); rintro e w3 ⟨rfl, hb⟩) | (go_at_call 16; (with_reducible refine (Less_told _ _ _).mono ?_); rintro e w3 ⟨rfl, hb⟩) | (go_at_call 17; (with_reducible refine (refLess_any _ _ _).mono ?_); rintro e w3 ⟨rfl, hb⟩) | (go_at_call 18; (with_reducible refine (CS _ (by assumption)).mono ?_); rintro e w3 ⟨rfl, hb⟩))
  rename_i hHeld
  have B3 := Lib.hid (below2 B2.out hHeld.1)
  clear hHeld k0 k1 k2 k3 B2
  go_wp2_with fail
  go_ret
  exact ⟨rfl, B3.out⟩

theorem own_PointsTell : ownKnob Try.prog.godebug = none := by kernel_rfl
set_option maxRecDepth 100000 in
set_option maxHeartbeats 800000 in
theorem lifted_PointsTell (os : Os) (started : os.Started) (H : Type) (enc : TypeId × Value → H) :
    ReturnsInHanded {} Try.checked os 4 .any (Rows.pointsTellSpec.pre6 enc Try.prog Try.f4 Rows.pointsTellRow.domain false) (Rows.pointsTellSpec.post enc Try.prog Try.f4 false true false false) := by
  refine returnsInHanded_of_change (C := Try.checked) own_PointsTell started (by kernel_rfl) Try.func4
    (ChangeSpec.witness6 (enc := enc) (C := Try.checked) false ⟨#[], #[.int .i64 0, .int .i64 0, .agg #[.int .u64 0, .int .i64 0], .agg #[.int .u64 0, .int .i64 0], .slice none 0 0, .slice none 0 0], []⟩ 8 (by kernel_rfl) (by kernel_rfl) (by kernel_rfl) (by kernel_rfl)) ?_
  intro W base args ds gs before hval0 hW _ _
  have hval : ∀ (j : Nat) t v, Try.f4.params[j]? = some t → args[j]? = some v → Value.okWide Try.prog W .any base t v := hval0
  have hW' := hW
  obtain ⟨p, q, hA0, hV, rfl, _, _⟩ := hW
  have hA : DataW.TrodAll enc Try.prog W 0 (fun _ => true) true Try.f4.params.toList args.toList ds p := hA0
  rw [Try.params4] at hA hval
  obtain ⟨v0, vs0, d0, ds0, p0, q0, ha0, rfl, rfl, t0, r0⟩ := trodAll_cons hA
  obtain ⟨v1, vs1, d1, ds1, p1, q1, ha1, rfl, rfl, t1, r1⟩ := trodAll_cons r0
  obtain ⟨v2, vs2, d2, ds2, p2, q2, ha2, rfl, rfl, t2, r2⟩ := trodAll_cons r1
  obtain ⟨v3, vs3, d3, ds3, p3, q3, ha3, rfl, rfl, t3, r3⟩ := trodAll_cons r2
  obtain ⟨v4, vs4, d4, ds4, p4, q4, ha4, rfl, rfl, t4, r4⟩ := trodAll_cons r3
  obtain ⟨v5, vs5, d5, ds5, p5, q5, ha5, rfl, rfl, t5, r5⟩ := trodAll_cons r4
  obtain ⟨rfl, rfl, rfl⟩ := trodAll_nil r5
  subst ha5
  subst ha4
  subst ha3
  subst ha2
  subst ha1
  obtain rfl : args = #[v0, v1, v2, v3, v4, v5] := by cases args; simp_all
  obtain ⟨rfl, rfl⟩ := trodVars_none hV
  obtain ⟨a0, rfl, rfl, rfl, h0⟩ := open_int Try.underlying3 (hval 0 3 v0 rfl rfl) t0
  obtain ⟨a1, rfl, rfl, rfl, h1⟩ := open_int Try.underlying3 (hval 1 3 v1 rfl rfl) t1
  have k2 := t2
  have lt2 : ∀ x ∈ p2, x.block < W.heap.size := by obtain ⟨m, hm⟩ := k2; exact DataW.trod_lt m _ _ _ hm
  obtain ⟨a2, rfl, h2⟩ := Stq.open_point (hval 2 30 v2 rfl rfl) t2
  have k3 := t3
  have lt3 : ∀ x ∈ p3, x.block < W.heap.size := by obtain ⟨m, hm⟩ := k3; exact DataW.trod_lt m _ _ _ hm
  obtain ⟨a3, rfl, h3⟩ := Stq.open_point (hval 3 30 v3 rfl rfl) t3
  have k4 := t4
  have lt4 : ∀ x ∈ p4, x.block < W.heap.size := by obtain ⟨m, hm⟩ := k4; exact DataW.trod_lt m _ _ _ hm
  obtain ⟨a4, c4, z4, rfl, h4, g4⟩ := Stq.open_points (hval 4 24 v4 rfl rfl) t4
  have k5 := t5
  have lt5 : ∀ x ∈ p5, x.block < W.heap.size := by obtain ⟨m, hm⟩ := k5; exact DataW.trod_lt m _ _ _ hm
  obtain ⟨a5, c5, z5, rfl, h5, g5⟩ := Stq.open_points (hval 5 24 v5 rfl rfl) t5
  clear hA0 hval0
  refine (walk_PointsTell a0 a1 a2 a3 a4 c4 z4 a5 c5 z5 W h0 h1 h2 h3 h4 g4 h5 g5).mono fun e W' ⟨he, hnx⟩ => ?_
  subst he
  exact ⟨_, rfl, ⟨_, _, _, [], _, [], hW', trodAll_cons_mk (shut_bool Try.underlying4 _) trodAll_mk0, (trodAll_cons_mk (shut_int Try.underlying3 h0) (trodAll_cons_mk (shut_int Try.underlying3 h1) (trodAll_cons_mk (Below.trod Stq.laidOut (by kernel_rfl) (of_decide_eq_true (by kernel_rfl)) k2 hnx lt2) (trodAll_cons_mk (Below.trod Stq.laidOut (by kernel_rfl) (of_decide_eq_true (by kernel_rfl)) k3 hnx lt3) (trodAll_cons_mk (Below.trod Stq.laidOut (by kernel_rfl) (of_decide_eq_true (by kernel_rfl)) k4 hnx lt4) (trodAll_cons_mk (Below.trod Stq.laidOut (by kernel_rfl) (of_decide_eq_true (by kernel_rfl)) k5 hnx lt5) trodAll_mk0)))))), rfl, hnx.frame _, fun h => by cases h⟩⟩

theorem pointsTell_holds : Rows.PointsTellSaid :=
  OpenClaim.holds_of_wide 4 Try.f4 rfl rfl rfl rfl rfl rfl rfl ⟨rfl, rfl, rfl, rfl, rfl⟩ rfl rfl rfl rfl rfl (by kernel_rfl) Try.func4 (by kernel_rfl)
    (of_decide_eq_true (by kernel_rfl)) (by unfold Func.isWrapper; first | (rw [if_pos (by decide +kernel)]; kernel_rfl) | (rw [if_neg (by decide +kernel)]; exact ⟨rfl, rfl⟩))
    (fun os started H enc _ => lifted_PointsTell os started H enc)

#print axioms pointsTell_holds
end Go.Proofs.Ytfjpdoamalbpjaa
