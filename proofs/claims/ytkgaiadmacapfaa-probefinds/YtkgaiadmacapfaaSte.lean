/-
  Statements whose parameters are tables: how such a value is opened.
-/
import Derived.Test.YtkgaiadmacapfaaRowO
namespace Go.Proofs.Ytkgaiadmacapfaa.Ste
open Go.ChangeShapes Go.WideShapes Go.RowKit RowG
variable {H : Type} {enc : TypeId × Value → H} {w : World} {base : Nat} {spare : Nat → Bool} {held : Bool}

theorem laidOut : laidOutB Try.prog = true := by kernel_rfl
set_option maxRecDepth 100000 in
theorem ent_under : ∃ f0 f1 f2 f3 : Field, Try.prog.underlying 31 = some (.struct #[f0, f1, f2, f3]) ∧ (f0.type = 3 ∧ f0.offset = 0) ∧ (f1.type = 9 ∧ f1.offset = 1) ∧ (f2.type = 3 ∧ f2.offset = 2) ∧ (f3.type = 3 ∧ f3.offset = 3) :=
  ⟨_, _, _, _, Try.underlying31, ⟨rfl, rfl⟩, ⟨rfl, rfl⟩, ⟨rfl, rfl⟩, ⟨rfl, rfl⟩⟩
theorem ent_size : Try.prog.cellsOf 31 = 4 := by kernel_rfl
theorem int_size : Try.prog.cellsOf 3 = 1 := by kernel_rfl
theorem str_size : Try.prog.cellsOf 9 = 1 := by kernel_rfl
theorem info_ent : (Try.prog.info? 31).map (fun i => (i.zero, i.size, i.bytes)) = some (some (.agg #[.int .i64 0, .string ⟨#[]⟩, .int .i64 0, .int .i64 0]), entK.c, 40) := by kernel_rfl
theorem open_table {r : Reach} {b0 : Nat} {v : Value} {d : DataW H} {ps : List MemPlace} (hv : Value.okWide Try.prog w r b0 22 v) (h : DataW.Trod enc Try.prog w base spare held 22 v d ps) :
    ∃ (a : Option Addr) (cap : Nat) (T : List Tab.Ent), v = rowV a cap T ∧ Lies entK w a cap T ∧ ∀ x ∈ T, EntOk x := by
  obtain ⟨f0, f1, f2, f3, hu, t0, t1, t2, t3⟩ := ent_under
  exact open_rows Try.underlying22 ent_size (trod_ent hu ent_size Try.underlying3 Try.underlying9 int_size str_size t0 t1 t2 t3) hv h
end Go.Proofs.Ytkgaiadmacapfaa.Ste
