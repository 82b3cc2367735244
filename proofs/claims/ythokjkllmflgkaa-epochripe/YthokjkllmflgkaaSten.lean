/-
  Statements whose parameters are rows of acts with pins: how such a value is opened. (UNTRIED: no seat holds the types as yet.)
-/
import Derived.Test.YthokjkllmflgkaaRowN
namespace Go.Proofs.Ythokjkllmflgkaa.Sten
open Go.ChangeShapes Go.WideShapes Go.RowKit RowG Epo
variable {H : Type} {enc : TypeId × Value → H} {w : World} {base : Nat} {spare : Nat → Bool} {held : Bool}

theorem laidOut : laidOutB Try.prog = true := by kernel_rfl
set_option maxRecDepth 100000 in
theorem act_under : ∃ f0 f1 f2 f3 : Field, Try.prog.underlying 32 = some (.struct #[f0, f1, f2, f3]) ∧ (f0.type = 3 ∧ f0.offset = 0) ∧ (f1.type = 3 ∧ f1.offset = 1) ∧ (f2.type = 3 ∧ f2.offset = 2) ∧ (f3.type = 30 ∧ f3.offset = 3) :=
  ⟨_, _, _, _, Try.underlying32, ⟨rfl, rfl⟩, ⟨rfl, rfl⟩, ⟨rfl, rfl⟩, ⟨rfl, rfl⟩⟩
theorem act_size : Try.prog.cellsOf 32 = 4 := by kernel_rfl
theorem int_size : Try.prog.cellsOf 3 = 1 := by kernel_rfl
theorem row_size : Try.prog.cellsOf 30 = 1 := by kernel_rfl
theorem open_eacts {r : Reach} {b0 : Nat} {v : Value} {d : DataW H} {ps : List MemPlace} (hv : Value.okWide Try.prog w r b0 22 v) (h : DataW.Trod enc Try.prog w base spare held 22 v d ps) :
    ∃ (a : Option Addr) (cap : Nat) (T : List ActM), v = rowV a cap T ∧ Lies actM w a cap T ∧ ∀ x ∈ T, ActOk w x := by
  obtain ⟨f0, f1, f2, f3, hu, t0, t1, t2, t3⟩ := act_under
  exact open_rows Try.underlying22 act_size (trod_actM hu act_size Try.underlying3 int_size Try.underlying30 row_size t0 t1 t2 t3) hv h
end Go.Proofs.Ythokjkllmflgkaa.Sten
