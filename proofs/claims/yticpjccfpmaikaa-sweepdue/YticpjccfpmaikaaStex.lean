/-
  Statements whose parameters are entries: how such a value is opened.
-/
import Derived.Test.YticpjccfpmaikaaBTab
import Derived.Test.YticpjccfpmaikaaBPrb
namespace Go.Proofs.Yticpjccfpmaikaa.Ste
open Go.ChangeShapes Go.WideShapes Go.RowKit RowG
variable {H : Type} {enc : TypeId × Value → H} {w : World} {base : Nat} {spare : Nat → Bool} {held : Bool}
set_option maxRecDepth 100000 in
/-- A parameter that is an entry. -/
theorem open_entry {r : Reach} {b0 : Nat} {v : Value} {d : DataW H} {ps : List MemPlace} (hv : Value.okWide Try.prog w r b0 32 v) (h : DataW.Trod enc Try.prog w base spare held 32 v d ps) :
    ∃ x : Tab.Ent, v = Prb.entV x ∧ EntOk x := by
  obtain ⟨f0, f1, f2, f3, hu, t0, t1, t2, t3⟩ := ent_under
  obtain ⟨cs, rfl, hz⟩ := okWide_struct hu hv
  obtain ⟨fuel, hf⟩ := h
  obtain ⟨y, e, ho⟩ := trod_ent hu ent_size Try.underlying3 Try.underlying9 int_size str_size t0 t1 t2 t3 fuel _ _ hf
  obtain ⟨l⟩ := cs
  simp only [Value.cells] at e
  refine ⟨y, ?_, ho⟩
  have e' : l = entK.enc y := e
  rw [e']
  rfl
end Go.Proofs.Yticpjccfpmaikaa.Ste
