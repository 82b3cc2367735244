/-
  Statements whose parameters are rows of numbers: how such a value is opened.
-/
import Derived.Test.YthokjkllmflgkaaCelR
namespace Go.Proofs.Ythokjkllmflgkaa.Stn
open Go.ChangeShapes Go.WideShapes Go.RowKit RowG
variable {H : Type} {enc : TypeId × Value → H} {w : World} {base : Nat} {spare : Nat → Bool} {held : Bool}

theorem laidOut : laidOutB Try.prog = true := by kernel_rfl
theorem int_size : Try.prog.cellsOf 3 = 1 := by kernel_rfl
theorem open_nums {r : Reach} {b0 : Nat} {v : Value} {d : DataW H} {ps : List MemPlace} (hv : Value.okWide Try.prog w r b0 30 v) (h : DataW.Trod enc Try.prog w base spare held 30 v d ps) :
    ∃ (a : Option Addr) (cap : Nat) (T : List Int), v = rowV a cap T ∧ Lies numK w a cap T ∧ ∀ x ∈ T, (Lit.int .i64 x).wf = true :=
  open_rows Try.underlying30 int_size (trod_num Try.underlying3) hv h
end Go.Proofs.Ythokjkllmflgkaa.Stn
