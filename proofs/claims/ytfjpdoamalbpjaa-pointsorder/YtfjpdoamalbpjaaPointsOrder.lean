/-
  PointsOrder: for all points a, b and c the law PointsOrder answers true: points stand in one order: unlike ones one way or the other, and through a third one. No condition.
-/
import Derived.Test.YtfjpdoamalbpjaaRows
import Derived.Test.YtfjpdoamalbpjaaStp
import Derived.Test.YtfjpdoamalbpjaaStq
import Derived.Test.YtfjpdoamalbpjaaPtsW
import Derived.BigQuiet
import Derived.WalkSmall
import Derived.ProofKit
import Derived.OpenShut
import Derived.ChangeMaps5
namespace Go.Proofs.Ytfjpdoamalbpjaa
open Go.ChangeShapes Go.WideShapes Go.ChangeAt Go.RowKit Go.Shelf
open Go.ChangeMaps (open_string shut_string)
open Pts Rgn
open Pol (below2 below_alloc Bk polV)

theorem box3 (w : World) (o0 o1 o2 : Obj) : (((w.alloc o0).alloc o1).alloc o2).heap[w.heap.size]? = some o0 ∧ (((w.alloc o0).alloc o1).alloc o2).heap[w.heap.size + 1]? = some o1 ∧ (((w.alloc o0).alloc o1).alloc o2).heap[w.heap.size + 2]? = some o2 := by
  refine ⟨?_, ?_, ?_⟩
  · exact (Below.heap_alloc _ _ _ (by simp; omega)).trans ((Below.heap_alloc _ _ _ (by simp)).trans (World.alloc_heap_new w o0))
  · have := World.alloc_heap_new (w.alloc o0) o1
    rw [World.size_alloc] at this
    exact (Below.heap_alloc _ _ _ (by simp)).trans this
  · have := World.alloc_heap_new ((w.alloc o0).alloc o1) o2
    rw [World.size_alloc, World.size_alloc] at this
    exact this
/-- Three points in boxes, while they are held against one another. -/
theorem three_keep {W0 W W' : World} {p q r : Nat} {x y z : Pt} (s : Below W0.heap.size W0 W ∧ W.cell? ⟨p, 0, none⟩ = some (.int .u64 x.1) ∧ W.cell? ⟨p, 1, none⟩ = some (.int .i64 x.2) ∧ W.cell? ⟨q, 0, none⟩ = some (.int .u64 y.1) ∧ W.cell? ⟨q, 1, none⟩ = some (.int .i64 y.2) ∧ W.cell? ⟨r, 0, none⟩ = some (.int .u64 z.1) ∧ W.cell? ⟨r, 1, none⟩ = some (.int .i64 z.2)) (hb : Below W.heap.size W W') :
    Below W0.heap.size W0 W' ∧ W'.cell? ⟨p, 0, none⟩ = some (.int .u64 x.1) ∧ W'.cell? ⟨p, 1, none⟩ = some (.int .i64 x.2) ∧ W'.cell? ⟨q, 0, none⟩ = some (.int .u64 y.1) ∧ W'.cell? ⟨q, 1, none⟩ = some (.int .i64 y.2) ∧ W'.cell? ⟨r, 0, none⟩ = some (.int .u64 z.1) ∧ W'.cell? ⟨r, 1, none⟩ = some (.int .i64 z.2) := by
  obtain ⟨h0, h1, h2, h3, h4, h5, h6⟩ := s
  exact ⟨below2 h0 hb, (hb.cell (World.block_lt_of_cell? W _ h1)).trans h1, (hb.cell (World.block_lt_of_cell? W _ h2)).trans h2, (hb.cell (World.block_lt_of_cell? W _ h3)).trans h3, (hb.cell (World.block_lt_of_cell? W _ h4)).trans h4, (hb.cell (World.block_lt_of_cell? W _ h5)).trans h5, (hb.cell (World.block_lt_of_cell? W _ h6)).trans h6⟩

set_option maxRecDepth 100000 in
set_option maxHeartbeats 2000000 in
theorem walk_PointsOrder (x y z : Pt) (w : World) (_h0 : Stq.PtOk x) (_h1 : Stq.PtOk y) (_h2 : Stq.PtOk z) :
    Calls Try.prog 8 #[ptV x, ptV y, ptV z] w fun e W' => e = .returned (.bool true) ∧ Below w.heap.size w W' := by
  have hA : Below w.heap.size w (((w.alloc (.cells #[.int .u64 x.1, .int .i64 x.2] 30)).alloc (.cells #[.int .u64 y.1, .int .i64 y.2] 30)).alloc (.cells #[.int .u64 z.1, .int .i64 z.2] 30)) := (((Below.refl _ w).alloc (Nat.le_refl _) _).alloc (by simp) _).alloc (by simp; omega) _
  have HA := Lib.hid hA
  obtain ⟨m0, m1, m2⟩ := box3 w (.cells #[.int .u64 x.1, .int .i64 x.2] 30) (.cells #[.int .u64 y.1, .int .i64 y.2] 30) (.cells #[.int .u64 z.1, .int .i64 z.2] 30)
  have k0 : (((w.alloc (.cells #[.int .u64 x.1, .int .i64 x.2] 30)).alloc (.cells #[.int .u64 y.1, .int .i64 y.2] 30)).alloc (.cells #[.int .u64 z.1, .int .i64 z.2] 30)).cell? ⟨w.heap.size, 0, none⟩ = some (.int .u64 x.1) := by simp only [World.cell?, m0]; rfl
  have k1 : (((w.alloc (.cells #[.int .u64 x.1, .int .i64 x.2] 30)).alloc (.cells #[.int .u64 y.1, .int .i64 y.2] 30)).alloc (.cells #[.int .u64 z.1, .int .i64 z.2] 30)).cell? ⟨w.heap.size, 1, none⟩ = some (.int .i64 x.2) := by simp only [World.cell?, m0]; rfl
  have k2 : (((w.alloc (.cells #[.int .u64 x.1, .int .i64 x.2] 30)).alloc (.cells #[.int .u64 y.1, .int .i64 y.2] 30)).alloc (.cells #[.int .u64 z.1, .int .i64 z.2] 30)).cell? ⟨w.heap.size + 1, 0, none⟩ = some (.int .u64 y.1) := by simp only [World.cell?, m1]; rfl
  have k3 : (((w.alloc (.cells #[.int .u64 x.1, .int .i64 x.2] 30)).alloc (.cells #[.int .u64 y.1, .int .i64 y.2] 30)).alloc (.cells #[.int .u64 z.1, .int .i64 z.2] 30)).cell? ⟨w.heap.size + 1, 1, none⟩ = some (.int .i64 y.2) := by simp only [World.cell?, m1]; rfl
  have k4 : (((w.alloc (.cells #[.int .u64 x.1, .int .i64 x.2] 30)).alloc (.cells #[.int .u64 y.1, .int .i64 y.2] 30)).alloc (.cells #[.int .u64 z.1, .int .i64 z.2] 30)).cell? ⟨w.heap.size + 2, 0, none⟩ = some (.int .u64 z.1) := by simp only [World.cell?, m2]; rfl
  have k5 : (((w.alloc (.cells #[.int .u64 x.1, .int .i64 x.2] 30)).alloc (.cells #[.int .u64 y.1, .int .i64 y.2] 30)).alloc (.cells #[.int .u64 z.1, .int .i64 z.2] 30)).cell? ⟨w.heap.size + 2, 1, none⟩ = some (.int .i64 z.2) := by simp only [World.cell?, m2]; rfl
  have HK := Lib.hid (fun W hb => three_keep (W' := W) ⟨Below.refl _ _, k0, k1, k2, k3, k4, k5⟩ hb)
  clear hA k0 k1 k2 k3 k4 k5 m0 m1 m2
  have CC := Lib.hid (pt_cmp x y (!less x y && !less y x) (by
    constructor
    · rintro rfl; have : less x x = false := (less_not x x).2 (by omega); simp [this]
    · intro h
      simp only [Bool.and_eq_true, Bool.not_eq_true', less_not] at h
      exact Prod.ext (by omega) (by omega)))
  have F2 := Lib.hid (show less x y = true → less y x = false by intro h; rw [less_iff] at h; rw [less_not]; omega)
  have F3 := Lib.hid (show less x y = true → less y z = true → less x z = true by intro h1 h2; rw [less_iff] at h1 h2 ⊢; omega)
  go_enter Try.func8, Try.ntmps8
  go_wp2_with fail
  refine (works_any _).mono ?_
  rintro e wr ⟨rfl, hb⟩
  have B1 := Lib.hid (below2 HA.out hb)
  obtain ⟨_, k0, k1, k2, k3, k4, k5⟩ := HK.out wr hb
  clear hb HA HK
  go_wp2_with fail
  go_region_held3 (fun W => Below wr.heap.size wr W ∧ W.cell? ⟨w.heap.size, 0, none⟩ = some (.int .u64 x.1) ∧ W.cell? ⟨w.heap.size, 1, none⟩ = some (.int .i64 x.2) ∧ W.cell? ⟨w.heap.size + 1, 0, none⟩ = some (.int .u64 y.1) ∧ W.cell? ⟨w.heap.size + 1, 1, none⟩ = some (.int .i64 y.2) ∧ W.cell? ⟨w.heap.size + 2, 0, none⟩ = some (.int .u64 z.1) ∧ W.cell? ⟨w.heap.size + 2, 1, none⟩ = some (.int .i64 z.2)) (first | exact ⟨(Below.refl _ wr).drew, k0, k1, k2, k3, k4, k5⟩ | exact three_keep (by assumption) hb)
    (first | (go_at_call 16; (with_reducible refine (Less_told _ _ _).mono ?_); rintro e w3 ⟨rfl, hb⟩))
  rename_i hHeld
  have B2 := Lib.hid (below2 B1.out hHeld.1)
  have z0 := hHeld.2.1
  have z1 := hHeld.2.2.1
  have z2 := hHeld.2.2.2.1
  have z3 := hHeld.2.2.2.2.1
  clear hHeld k0 k1 k2 k3 k4 k5 B1
  generalize less x y = p at *
  generalize less y x = q at *
  generalize less y z = r at *
  generalize less x z = s at *
  have C2 := CC.out
  clear CC
  cases p <;> cases q <;> cases r <;> cases s <;> first | (exfalso; have := F2.out rfl; cases this; done) | (exfalso; have := F3.out rfl rfl; cases this; done) | (go_wp2_with fail; go_ret; exact ⟨rfl, B2.out⟩)

theorem own_PointsOrder : ownKnob Try.prog.godebug = none := by kernel_rfl
set_option maxRecDepth 100000 in
set_option maxHeartbeats 800000 in
theorem lifted_PointsOrder (os : Os) (started : os.Started) (H : Type) (enc : TypeId × Value → H) :
    ReturnsInHanded {} Try.checked os 8 .any (Rows.pointsOrderSpec.pre6 enc Try.prog Try.f8 Rows.pointsOrderRow.domain false) (Rows.pointsOrderSpec.post enc Try.prog Try.f8 false true false false) := by
  refine returnsInHanded_of_change (C := Try.checked) own_PointsOrder started (by kernel_rfl) Try.func8
    (ChangeSpec.witness6 (enc := enc) (C := Try.checked) false ⟨#[], #[.agg #[.int .u64 0, .int .i64 0], .agg #[.int .u64 0, .int .i64 0], .agg #[.int .u64 0, .int .i64 0]], []⟩ 8 (by kernel_rfl) (by kernel_rfl) (by kernel_rfl) (by kernel_rfl)) ?_
  intro W base args ds gs before hval0 hW _ _
  have hval : ∀ (j : Nat) t v, Try.f8.params[j]? = some t → args[j]? = some v → Value.okWide Try.prog W .any base t v := hval0
  have hW' := hW
  obtain ⟨p, q, hA0, hV, rfl, _, _⟩ := hW
  have hA : DataW.TrodAll enc Try.prog W 0 (fun _ => true) true Try.f8.params.toList args.toList ds p := hA0
  rw [Try.params8] at hA hval
  obtain ⟨v0, vs0, d0, ds0, p0, q0, ha0, rfl, rfl, t0, r0⟩ := trodAll_cons hA
  obtain ⟨v1, vs1, d1, ds1, p1, q1, ha1, rfl, rfl, t1, r1⟩ := trodAll_cons r0
  obtain ⟨v2, vs2, d2, ds2, p2, q2, ha2, rfl, rfl, t2, r2⟩ := trodAll_cons r1
  obtain ⟨rfl, rfl, rfl⟩ := trodAll_nil r2
  subst ha2
  subst ha1
  obtain rfl : args = #[v0, v1, v2] := by cases args; simp_all
  obtain ⟨rfl, rfl⟩ := trodVars_none hV
  have k0 := t0
  have lt0 : ∀ x ∈ p0, x.block < W.heap.size := by obtain ⟨m, hm⟩ := k0; exact DataW.trod_lt m _ _ _ hm
  obtain ⟨a0, rfl, h0⟩ := Stq.open_point (hval 0 30 v0 rfl rfl) t0
  have k1 := t1
  have lt1 : ∀ x ∈ p1, x.block < W.heap.size := by obtain ⟨m, hm⟩ := k1; exact DataW.trod_lt m _ _ _ hm
  obtain ⟨a1, rfl, h1⟩ := Stq.open_point (hval 1 30 v1 rfl rfl) t1
  have k2 := t2
  have lt2 : ∀ x ∈ p2, x.block < W.heap.size := by obtain ⟨m, hm⟩ := k2; exact DataW.trod_lt m _ _ _ hm
  obtain ⟨a2, rfl, h2⟩ := Stq.open_point (hval 2 30 v2 rfl rfl) t2
  clear hA0 hval0
  refine (walk_PointsOrder a0 a1 a2 W h0 h1 h2).mono fun e W' ⟨he, hnx⟩ => ?_
  subst he
  exact ⟨_, rfl, ⟨_, _, _, [], _, [], hW', trodAll_cons_mk (shut_bool Try.underlying4 _) trodAll_mk0, (trodAll_cons_mk (Below.trod Stq.laidOut (by kernel_rfl) (of_decide_eq_true (by kernel_rfl)) k0 hnx lt0) (trodAll_cons_mk (Below.trod Stq.laidOut (by kernel_rfl) (of_decide_eq_true (by kernel_rfl)) k1 hnx lt1) (trodAll_cons_mk (Below.trod Stq.laidOut (by kernel_rfl) (of_decide_eq_true (by kernel_rfl)) k2 hnx lt2) trodAll_mk0))), rfl, hnx.frame _, fun h => by cases h⟩⟩

theorem pointsOrder_holds : Rows.PointsOrderSaid :=
  OpenClaim.holds_of_wide 8 Try.f8 rfl rfl rfl rfl rfl rfl rfl ⟨rfl, rfl, rfl, rfl, rfl⟩ rfl rfl rfl rfl rfl (by kernel_rfl) Try.func8 (by kernel_rfl)
    (of_decide_eq_true (by kernel_rfl)) (by unfold Func.isWrapper; first | (rw [if_pos (by decide +kernel)]; kernel_rfl) | (rw [if_neg (by decide +kernel)]; exact ⟨rfl, rfl⟩))
    (fun os started H enc _ => lifted_PointsOrder os started H enc)

#print axioms pointsOrder_holds
end Go.Proofs.Ytfjpdoamalbpjaa
