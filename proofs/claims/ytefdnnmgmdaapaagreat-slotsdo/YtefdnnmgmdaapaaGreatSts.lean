/-
  Statements whose parameters are rows of acts with pools: how such a value is opened.
-/
import Derived.Test.YtefdnnmgmdaapaaGreatSloI
namespace Go.Proofs.YtefdnnmgmdaapaaGreat.Sts
open Go.ChangeShapes Go.WideShapes Go.RowKit RowG Slo
variable {H : Type} {enc : TypeId × Value → H} {w : World} {base : Nat} {spare : Nat → Bool} {held : Bool}

theorem laidOut : laidOutB Tryz.prog = true := by kernel_rfl
set_option maxRecDepth 100000 in
theorem act_size : Tryz.prog.cellsOf 33 = 3 := by kernel_rfl
set_option maxRecDepth 100000 in
theorem open_sacts {r : Reach} {b0 : Nat} {v : Value} {d : DataW H} {ps : List MemPlace} (hv : Value.okWide Tryz.prog w r b0 22 v) (h : DataW.Trod enc Tryz.prog w base spare held 22 v d ps) :
    ∃ (a : Option Addr) (cap : Nat) (T : List ActM), v = rowV a cap T ∧ Lies actM w a cap T ∧ ∀ x ∈ T, ActOk w x :=
  open_rows Tryz.underlying22 act_size trod_act16 hv h
end Go.Proofs.YtefdnnmgmdaapaaGreat.Sts
