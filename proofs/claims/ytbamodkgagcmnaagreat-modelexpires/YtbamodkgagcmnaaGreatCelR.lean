/-
  Rows of acts and rows of numbers, as rows of things (over any program): their cells, how a parameter that is one is opened.
-/
import Derived.Test.YtbamodkgagcmnaaGreatCelP
import Derived.Test.YtbamodkgagcmnaaGreatBTab
set_option maxRecDepth 100000
namespace Go.Proofs.YtbamodkgagcmnaaGreat.RowG
open Go.ChangeShapes Go.WideShapes Go.RowKit

instance : Inhabited Cel.Act := ⟨⟨0, 0, 0, 0⟩⟩
/-- An act's cells. -/
def actK : Kind Cel.Act := ⟨4, fun x => [.int .i64 x.k, .int .i64 x.i, .int .i64 x.a, .int .i64 x.b], by decide, fun _ => rfl, fun x u hu => by
  simp at hu; rcases hu with rfl | rfl | rfl | rfl <;> rfl⟩
/-- A number's one cell. -/
def numK : Kind Int := ⟨1, fun x => [.int .i64 x], by decide, fun _ => rfl, fun x u hu => by
  simp at hu; rcases hu with rfl; rfl⟩
structure ActOk (x : Cel.Act) : Prop where
  k : (Lit.int .i64 x.k).wf = true
  i : (Lit.int .i64 x.i).wf = true
  a : (Lit.int .i64 x.a).wf = true
  b : (Lit.int .i64 x.b).wf = true
section
variable {P : Program} {H : Type} {enc : TypeId × Value → H} {w : World} {base : Nat} {spare : Nat → Bool} {held : Bool} {e ti : TypeId} {f0 f1 f2 f3 : Field}
/-- An act is opened. -/
theorem trod_act (hu : P.underlying e = some (.struct #[f0, f1, f2, f3])) (ce : P.cellsOf e = 4) (hi : P.underlying ti = some (.int .i64)) (ci : P.cellsOf ti = 1)
    (t0 : f0.type = ti ∧ f0.offset = 0) (t1 : f1.type = ti ∧ f1.offset = 1) (t2 : f2.type = ti ∧ f2.offset = 2) (t3 : f3.type = ti ∧ f3.offset = 3)
    (n : Nat) (cs : List Value) (x : DataW H × List MemPlace) (h : DataW.trod enc P w base spare held n e cs = some x) : ∃ y : Cel.Act, cs = actK.enc y ∧ ActOk y := by
  obtain ⟨ys, k, _, rfl, hl, hn, hf⟩ := DataW.trod_struct hu h
  rw [ce] at hl
  match cs, hl with
  | [c0, c1, c2, c3], _ =>
    match ys, hn with
    | [y0, y1, y2, y3], _ =>
      have g0 := hf 0 f0 rfl
      have g1 := hf 1 f1 rfl
      have g2 := hf 2 f2 rfl
      have g3 := hf 3 f3 rfl
      rw [t0.1, t0.2, ci] at g0
      rw [t1.1, t1.2, ci] at g1
      rw [t2.1, t2.2, ci] at g2
      rw [t3.1, t3.2, ci] at g3
      obtain ⟨A, e0, _, w0⟩ := DataW.trod_int hi (x := y0) g0
      obtain ⟨B, e1, _, w1⟩ := DataW.trod_int hi (x := y1) g1
      obtain ⟨C, e2, _, w2⟩ := DataW.trod_int hi (x := y2) g2
      obtain ⟨D, e3, _, w3⟩ := DataW.trod_int hi (x := y3) g3
      simp at e0 e1 e2 e3
      subst e0; subst e1; subst e2; subst e3
      exact ⟨⟨A, B, C, D⟩, rfl, w0, w1, w2, w3⟩
/-- A number is opened. -/
theorem trod_num (hi : P.underlying ti = some (.int .i64)) (n : Nat) (cs : List Value) (x : DataW H × List MemPlace) (h : DataW.trod enc P w base spare held n ti cs = some x) : ∃ y : Int, cs = numK.enc y ∧ (Lit.int .i64 y).wf = true := by
  obtain ⟨A, e0, _, w0⟩ := DataW.trod_int hi (x := x) h
  exact ⟨A, e0, w0⟩
/-- An act at a place, cell by cell. -/
theorem Lies.act {W : World} {a : Option Addr} {cap : Nat} {T : List Cel.Act} (h : Lies actK W a cap T) {k : Nat} (hk : k < T.length) :
    ∃ b off, a = some ⟨b, off, none⟩ ∧ W.cell? ⟨b, off + k * 4, none⟩ = some (.int .i64 T[k].k) ∧ W.cell? ⟨b, off + k * 4 + 1, none⟩ = some (.int .i64 T[k].i) ∧ W.cell? ⟨b, off + k * 4 + 2, none⟩ = some (.int .i64 T[k].a) ∧ W.cell? ⟨b, off + k * 4 + 3, none⟩ = some (.int .i64 T[k].b) := by
  obtain ⟨b, off, e, hc⟩ := h.at hk
  exact ⟨b, off, e, hc 0 _ rfl, hc 1 _ rfl, hc 2 _ rfl, hc 3 _ rfl⟩
/-- A number at a place. -/
theorem Lies.num {W : World} {a : Option Addr} {cap : Nat} {T : List Int} (h : Lies numK W a cap T) {k : Nat} (hk : k < T.length) : ∃ b off, a = some ⟨b, off, none⟩ ∧ W.cell? ⟨b, off + k, none⟩ = some (.int .i64 T[k]) := by
  obtain ⟨b, off, e, hc⟩ := h.at hk
  refine ⟨b, off, e, ?_⟩
  have := hc 0 _ rfl
  simpa [numK] using this
theorem Row.num {Ty : TypeId} {W : World} {g cap : Nat} {T : List Int} (h : Row numK Ty W g cap T) {k : Nat} (hk : k < T.length) : W.cell? ⟨g, k, none⟩ = some (.int .i64 T[k]) := by
  have := h.cell hk (j := 0) rfl
  simpa [numK] using this
theorem Row.put1 {Ty : TypeId} {W : World} {g cap : Nat} {T : List Int} (h : Row numK Ty W g cap T) {k : Nat} (hk : k < T.length) (x : Int) : Row numK Ty (W.setCell ⟨g, k, none⟩ (.int .i64 x)) g cap (T.set k x) := by
  have := h.put hk x
  simpa [numK, putC] using this
end
end Go.Proofs.YtbamodkgagcmnaaGreat.RowG
