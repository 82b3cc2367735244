/-
  SweepDue: for every x, now and later the law SweepDue answers true: whether a flow's time is over is just what the document says; what is due stays due. No condition.
-/
import Derived.Test.YticpjccfpmaikaaRows
import Derived.Test.YticpjccfpmaikaaBTab
import Derived.Test.YticpjccfpmaikaaSwpW
import Derived.Test.YticpjccfpmaikaaSwpP
import Derived.Test.YticpjccfpmaikaaSwpC
import Derived.Test.YticpjccfpmaikaaStex
import Derived.ProofKit
import Derived.OpenShut
import Derived.ChangeMaps5
import Derived.BigQuiet
import Derived.WalkSmall
namespace Go.Proofs.Yticpjccfpmaikaa
open Go.ChangeShapes Go.WideShapes Go.ChangeAt Go.RowKit Go.Shelf
open Go.ChangeMaps (open_string shut_string)
open Prb RowG Tab Flo Swp

set_option maxRecDepth 100000 in
set_option maxHeartbeats 2000000 in
theorem walk_SweepDue (a0 : Ent) (a1 : Int) (a2 : Int) (w : World) (_h0 : EntOk a0) (_h1 : (Lit.int .i64 a1).wf = true) (_h2 : (Lit.int .i64 a2).wf = true) :
    Calls Try.prog 4 #[entV a0, .int .i64 a1, .int .i64 a2] w fun e W' => e = .returned (.bool true) ∧ Below w.heap.size w W' := by
  have al : Below w.heap.size w (w.alloc (.cells #[.int .i64 a0.st, .string a0.key, .int .i64 a0.be, .int .i64 a0.dl] 32)) := (Below.refl _ w).alloc (Nat.le_refl _) _
  have x4 := four_cells w a0
  obtain ⟨c, hc⟩ : ∃ c : Bool, Due a0 a1 ↔ c = true := ⟨decide (Due a0 a1), by simp⟩
  have HX := Lib.hid x4
  have AL := Lib.hid al
  have HS := Lib.hid (World.size_alloc w (.cells #[.int .i64 a0.st, .string a0.key, .int .i64 a0.be, .int .i64 a0.dl] 32))
  clear x4 al
  go_enter Try.func4, Try.ntmps4
  go_wp2_with fail
  generalize w.alloc (.cells #[.int .i64 a0.st, .string a0.key, .int .i64 a0.be, .int .i64 a0.dl] 32) = w0 at *
  refine (works_any _).mono ?_
  rintro e w1 ⟨rfl, hb⟩
  have B1 := Lib.hid (below2 AL.out hb)
  have y0 := (hb.cell (p := ⟨w.heap.size, 0, none⟩) (by have := HS.out; simp; omega)).trans HX.out.1
  have y1 := (hb.cell (p := ⟨w.heap.size, 1, none⟩) (by have := HS.out; simp; omega)).trans HX.out.2.1
  have y2 := (hb.cell (p := ⟨w.heap.size, 2, none⟩) (by have := HS.out; simp; omega)).trans HX.out.2.2.1
  have y3 := (hb.cell (p := ⟨w.heap.size, 3, none⟩) (by have := HS.out; simp; omega)).trans HX.out.2.2.2
  have BW := Lib.hid hb
  clear hb
  go_wp2_with fail
  refine (Due_told a0 a1 c hc _).mono ?_
  rintro e w2 ⟨rfl, hb2⟩
  have hb := BW.out.trans (hb2.mono BW.out.size)
  have B1 := Lib.hid (below2 B1.out hb2)
  clear y0 y1 y2 y3
  have y0 := (hb.cell (p := ⟨w.heap.size, 0, none⟩) (by have := HS.out; simp; omega)).trans HX.out.1
  have y1 := (hb.cell (p := ⟨w.heap.size, 1, none⟩) (by have := HS.out; simp; omega)).trans HX.out.2.1
  have y2 := (hb.cell (p := ⟨w.heap.size, 2, none⟩) (by have := HS.out; simp; omega)).trans HX.out.2.2.1
  have y3 := (hb.cell (p := ⟨w.heap.size, 3, none⟩) (by have := HS.out; simp; omega)).trans HX.out.2.2.2
  have BW := Lib.hid hb
  clear hb hb2
  go_wp2_with fail
  refine (refDue_any a0 a1 c hc _).mono ?_
  rintro e w3 ⟨rfl, hb3⟩
  have hb := BW.out.trans (hb3.mono BW.out.size)
  have B1 := Lib.hid (below2 B1.out hb3)
  clear y0 y1 y2 y3
  have y0 := (hb.cell (p := ⟨w.heap.size, 0, none⟩) (by have := HS.out; simp; omega)).trans HX.out.1
  have y1 := (hb.cell (p := ⟨w.heap.size, 1, none⟩) (by have := HS.out; simp; omega)).trans HX.out.2.1
  have y2 := (hb.cell (p := ⟨w.heap.size, 2, none⟩) (by have := HS.out; simp; omega)).trans HX.out.2.2.1
  have y3 := (hb.cell (p := ⟨w.heap.size, 3, none⟩) (by have := HS.out; simp; omega)).trans HX.out.2.2.2
  clear hb hb3 BW HX
  cases c with
  | false => (go_wp2_with fail; go_ret; exact ⟨rfl, B1.out⟩)
  | true =>
    by_cases hl : a2 < a1
    · have d1 : decide (a2 < a1) = true := decide_eq_true hl
      go_wp2_with fail
      go_ret
      exact ⟨rfl, B1.out⟩
    · have d1 : decide (a2 < a1) = false := decide_eq_false hl
      have HD := Lib.hid (show Due a0 a2 from ⟨(hc.2 rfl).1, by have := (hc.2 rfl).2; omega⟩)
      clear hl
      go_wp2_with fail
      refine (Due_told a0 a2 true (by simp [HD.out]) _).mono ?_
      rintro e w4 ⟨rfl, hb4⟩
      have B1 := Lib.hid (below2 B1.out hb4)
      clear hb4
      go_wp2_with fail
      go_ret
      exact ⟨rfl, B1.out⟩

theorem own_SweepDue : ownKnob Try.prog.godebug = none := by kernel_rfl
set_option maxRecDepth 100000 in
set_option maxHeartbeats 800000 in
theorem lifted_SweepDue (os : Os) (started : os.Started) (H : Type) (enc : TypeId × Value → H) :
    ReturnsInHanded {} Try.checked os 4 .any (Rows.sweepDueSpec.pre6 enc Try.prog Try.f4 Rows.sweepDueRow.domain false) (Rows.sweepDueSpec.post enc Try.prog Try.f4 false true false false) := by
  refine returnsInHanded_of_change (C := Try.checked) own_SweepDue started (by kernel_rfl) Try.func4
    (ChangeSpec.witness6 (enc := enc) (C := Try.checked) false ⟨#[], #[.agg #[.int .i64 0, .string ⟨#[]⟩, .int .i64 0, .int .i64 0], .int .i64 0, .int .i64 0], []⟩ 8 (by kernel_rfl) (by kernel_rfl) (by kernel_rfl) (by kernel_rfl)) ?_
  intro W base args ds gs before hval0 hW _ _
  have hval : ∀ (j : Nat) t v, Try.f4.params[j]? = some t → args[j]? = some v → Value.okWide Try.prog W .any base t v := hval0
  have hW' := hW
  obtain ⟨p, q, hA0, hV, rfl, _, _⟩ := hW
  have hA : DataW.TrodAll enc Try.prog W 0 (fun _ => true) true Try.f4.params.toList args.toList ds p := hA0
  rw [Try.params4] at hA hval
  obtain ⟨v0, vs0, d0, ds0, p0, q0, ha0, rfl, rfl, t0, r0⟩ := trodAll_cons hA
  obtain ⟨v1, vs1, d1, ds1, p1, q1, ha1, rfl, rfl, t1, r1⟩ := trodAll_cons r0
  obtain ⟨v2, vs2, d2, ds2, p2, q2, ha2, rfl, rfl, t2, r2⟩ := trodAll_cons r1
  obtain ⟨rfl, rfl, rfl⟩ := trodAll_nil r2
  subst ha2
  subst ha1
  obtain rfl : args = #[v0, v1, v2] := by cases args; simp_all
  obtain ⟨rfl, rfl⟩ := trodVars_none hV
  have k0 := t0
  have lt0 : ∀ x ∈ p0, x.block < W.heap.size := by obtain ⟨m, hm⟩ := k0; exact DataW.trod_lt m _ _ _ hm
  obtain ⟨a0, rfl, h0⟩ := Ste.open_entry (hval 0 32 v0 rfl rfl) t0
  obtain ⟨a1, rfl, rfl, rfl, h1⟩ := open_int Try.underlying3 (hval 1 3 v1 rfl rfl) t1
  obtain ⟨a2, rfl, rfl, rfl, h2⟩ := open_int Try.underlying3 (hval 2 3 v2 rfl rfl) t2
  clear hA0 hval0
  refine (walk_SweepDue a0 a1 a2 W h0 h1 h2).mono fun e W' ⟨he, hnx⟩ => ?_
  subst he
  exact ⟨_, rfl, ⟨_, _, _, [], _, [], hW', trodAll_cons_mk (shut_bool Try.underlying4 _) trodAll_mk0, (trodAll_cons_mk (Below.trod Ste.laidOut (by kernel_rfl) (of_decide_eq_true (by kernel_rfl)) k0 hnx lt0) (trodAll_cons_mk (shut_int Try.underlying3 h1) (trodAll_cons_mk (shut_int Try.underlying3 h2) trodAll_mk0))), rfl, hnx.frame _, fun h => by cases h⟩⟩

theorem sweepDue_holds : Rows.SweepDueSaid :=
  OpenClaim.holds_of_wide 4 Try.f4 rfl rfl rfl rfl rfl rfl rfl ⟨rfl, rfl, rfl, rfl, rfl⟩ rfl rfl rfl rfl rfl (by kernel_rfl) Try.func4 (by kernel_rfl)
    (of_decide_eq_true (by kernel_rfl)) (by unfold Func.isWrapper; first | (rw [if_pos (by decide +kernel)]; kernel_rfl) | (rw [if_neg (by decide +kernel)]; exact ⟨rfl, rfl⟩))
    (fun os started H enc _ => lifted_SweepDue os started H enc)

#print axioms sweepDue_holds
end Go.Proofs.Yticpjccfpmaikaa
