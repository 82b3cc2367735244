/-
  Statements whose parameters are rows of acts with pools: how such a value is opened.
-/
import Derived.Test.YtefdnnmgmdaapaaSloI
namespace Go.Proofs.Ytefdnnmgmdaapaa.Sts
open Go.ChangeShapes Go.WideShapes Go.RowKit RowG Slo
variable {H : Type} {enc : TypeId × Value → H} {w : World} {base : Nat} {spare : Nat → Bool} {held : Bool}

theorem laidOut : laidOutB Try.prog = true := by kernel_rfl
set_option maxRecDepth 100000 in
theorem act_size : Try.prog.cellsOf 31 = 3 := by kernel_rfl
set_option maxRecDepth 100000 in
theorem open_sacts {r : Reach} {b0 : Nat} {v : Value} {d : DataW H} {ps : List MemPlace} (hv : Value.okWide Try.prog w r b0 22 v) (h : DataW.Trod enc Try.prog w base spare held 22 v d ps) :
    ∃ (a : Option Addr) (cap : Nat) (T : List ActM), v = rowV a cap T ∧ Lies actM w a cap T ∧ ∀ x ∈ T, ActOk w x :=
  open_rows Try.underlying22 act_size trod_act16 hv h
end Go.Proofs.Ytefdnnmgmdaapaa.Sts
