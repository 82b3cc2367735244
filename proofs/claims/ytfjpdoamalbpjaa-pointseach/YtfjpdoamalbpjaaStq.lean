/-
  Statements whose parameters are points and rows of points: how such a value is opened.
-/
import Derived.Test.YtfjpdoamalbpjaaPtsA
import Derived.ProofKit
import Derived.OpenShut
import Derived.ChangeMaps5
import Derived.Deep.SlicePairs
import Derived.Carry
namespace Go.Proofs.Ytfjpdoamalbpjaa.Stq
open Go.ChangeShapes Go.WideShapes Go.RowKit Go.Deep Pts
variable {H : Type} {enc : TypeId × Value → H} {w : World} {base : Nat} {spare : Nat → Bool} {held : Bool}

theorem laidOut : laidOutB Try.prog = true := by kernel_rfl
/-- Each number of a point fits its kind. -/
def PtOk (x : Pt) : Prop := (Lit.int .u64 x.1).wf = true ∧ (Lit.int .i64 x.2).wf = true
set_option maxRecDepth 100000 in
theorem pt_under : ∃ f0 f1 : Field, Try.prog.underlying 30 = some (.struct #[f0, f1]) ∧ (f0.type = 28 ∧ f0.offset = 0) ∧ (f1.type = 3 ∧ f1.offset = 1) :=
  ⟨_, _, Try.underlying30, ⟨rfl, rfl⟩, ⟨rfl, rfl⟩⟩
theorem pt_size : Try.prog.cellsOf 30 = 2 := by kernel_rfl
theorem u64_size : Try.prog.cellsOf 28 = 1 := by kernel_rfl
theorem int_size : Try.prog.cellsOf 3 = 1 := by kernel_rfl

set_option maxRecDepth 100000 in
/-- A parameter that is a row of points. -/
theorem open_points {r : Reach} {b0 : Nat} {v : Value} {d : DataW H} {ps : List MemPlace} (hv : Value.okWide Try.prog w r b0 24 v) (h : DataW.Trod enc Try.prog w base spare held 24 v d ps) :
    ∃ (a : Option Addr) (cap : Nat) (bs : List Pt), v = ptsV a cap bs ∧ Lies w a cap bs ∧ ∀ x ∈ bs, PtOk x := by
  obtain ⟨f0, f1, hu, ⟨t0, o0⟩, ⟨t1, o1⟩⟩ := pt_under
  obtain ⟨a, len, cap, rfl⟩ := okWide_slice Try.underlying24 hv
  obtain ⟨fuel, hf⟩ := h
  rcases open_slice_pairs Try.underlying24 hu pt_size o0 o1 (by rw [t0]; exact u64_size) (by rw [t1]; exact int_size) hf with ⟨hc, _⟩ | ⟨ad, l, c, m, n, V0, V1, D0, D1, P0, P1, hc, _, hl, hm, hmm, _, hall⟩
  · simp [Value.cells] at hc
    obtain ⟨rfl, rfl, rfl⟩ := hc
    exact ⟨none, 0, [], rfl, lies_nil w, fun x hx => by cases hx⟩
  · simp [Value.cells] at hc
    obtain ⟨rfl, rfl, rfl⟩ := hc
    have hlm : len ≤ m := by rw [hmm]; split <;> omega
    have each : ∀ i, i < len → ∃ x : Pt, V0 i = .int .u64 x.1 ∧ V1 i = .int .i64 x.2 ∧ PtOk x := by
      intro i hi
      obtain ⟨_, _, h0, h1⟩ := hall i (by omega)
      rw [t0] at h0
      rw [t1] at h1
      obtain ⟨x, e0, _, w0⟩ := DataW.trod_int Try.underlying28 h0
      obtain ⟨y, e1, _, w1⟩ := DataW.trod_int Try.underlying3 h1
      simp only [List.cons.injEq, and_true] at e0 e1
      exact ⟨(x, y), e0, e1, w0, w1⟩
    obtain ⟨q, hq⟩ := choose_lt each
    refine ⟨some ad, cap, (List.range len).map q, by simp [ptsV], ⟨hm, by simpa using hl, fun hne => ?_⟩, ?_⟩
    · have hpos : 0 < len := by
        cases len with
        | zero => simp at hne
        | succ k => omega
      obtain ⟨b, off, spot⟩ := ad
      have hspot : spot = none := by simpa [Addr.add] using World.cell?_spot (hall 0 (by omega)).1
      subst hspot
      refine ⟨b, off, rfl, fun i x hi => ?_⟩
      rw [List.getElem?_map] at hi
      cases hr : (List.range len)[i]? with
      | none => rw [hr] at hi; cases hi
      | some k =>
        rw [hr] at hi
        obtain ⟨hlt, hk⟩ := List.getElem?_eq_some_iff.1 hr
        rw [List.getElem_range] at hk
        subst hk
        simp at hi
        subst hi
        have hlt' : i < len := by simpa using hlt
        obtain ⟨c0, c1, _, _⟩ := hall i (by omega)
        obtain ⟨e0, e1, _⟩ := hq i hlt'
        rw [add_plain] at c0 c1
        exact ⟨c0.trans (by rw [e0]), by rw [← e1]; simpa [Nat.add_assoc] using c1⟩
    · intro x hx
      obtain ⟨i, hi, rfl⟩ := List.mem_map.1 hx
      exact (hq i (List.mem_range.1 hi)).2.2

set_option maxRecDepth 100000 in
/-- A parameter that is a point. -/
theorem open_point {r : Reach} {b0 : Nat} {v : Value} {d : DataW H} {ps : List MemPlace} (hv : Value.okWide Try.prog w r b0 30 v) (h : DataW.Trod enc Try.prog w base spare held 30 v d ps) :
    ∃ x : Pt, v = .agg #[.int .u64 x.1, .int .i64 x.2] ∧ PtOk x := by
  obtain ⟨f0, f1, hu, ⟨t0, o0⟩, ⟨t1, o1⟩⟩ := pt_under
  obtain ⟨cs, rfl, hz⟩ := okWide_struct hu hv
  obtain ⟨fuel, hf⟩ := h
  obtain ⟨y0, y1, n, hx, hl, g0, g1⟩ := trod_struct2 hu hf
  rw [t0, o0, u64_size] at g0
  rw [t1, o1, int_size] at g1
  rw [pt_size] at hz
  obtain ⟨l⟩ := cs
  match l, hz with
  | [c0, c1], _ =>
    obtain ⟨x, e0, _, w0⟩ := DataW.trod_int Try.underlying28 g0
    obtain ⟨y, e1, _, w1⟩ := DataW.trod_int Try.underlying3 g1
    simp only [Value.cells, List.drop_zero, List.take_succ_cons, List.take_zero, List.cons.injEq, and_true] at e0
    simp only [Value.cells, List.drop_succ_cons, List.drop_zero, List.take_succ_cons, List.take_zero, List.cons.injEq, and_true] at e1
    subst e0 e1
    exact ⟨(x, y), rfl, w0, w1⟩
end Go.Proofs.Ytfjpdoamalbpjaa.Stq
