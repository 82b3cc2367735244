/-
  A parameter that is a pool takes no more bytes than any parameter may.
-/
import Derived.Test.YtppbbhijlkfioaaBPol
import Derived.SizedLaws
namespace Go.Proofs.Ytppbbhijlkfioaa.Stp
open Go.ChangeShapes Go.WideShapes Go.RowKit Go.Deep
open Pol (Bk polV)

theorem bk_bytes : Try.prog.bytesOf 38 = 16 := by kernel_rfl
set_option maxRecDepth 100000 in
/-- How many backends a pool may hold that came in. -/
theorem pool_len {H : Type} {enc : TypeId × Value → H} {w : World} {base : Nat} {spare : Nat → Bool} {held : Bool} {a : Option Addr} {cap : Nat} {bs : List Bk} {d : DataW H} {ps : List MemPlace} (h : DataW.Trod enc Try.prog w base spare held 30 (polV a cap bs) d ps)
    {ts : List TypeId} {ds : List (DataW H)} (hz : (DataW.weightsEach Try.prog ts ds).all (· ≤ reachBytes) = true) {j : Nat} (ht : ts[j]? = some 30) (hd : ds[j]? = some d) : bs.length ≤ 8796093022000 := by
  obtain ⟨f0, f1, hu, ⟨t0, o0⟩, ⟨t1, o1⟩⟩ := bk_under
  obtain ⟨fuel, hf⟩ := h
  rcases open_slice_pairs Try.underlying30 hu bk_size o0 o1 (by rw [t0]; exact int_size) (by rw [t1]; exact int_size) hf with ⟨hc, _⟩ | ⟨ad, l, c, m, n, V0, V1, D0, D1, P0, P1, hc, _, _, _, _, hx, _⟩
  · simp [Value.cells] at hc
    obtain ⟨_, rfl, _⟩ := hc
    simp
  · simp [Value.cells] at hc
    obtain ⟨_, rfl, _⟩ := hc
    simp only [Prod.mk.injEq] at hx
    obtain ⟨rfl, _⟩ := hx
    have := sized_slice hz ht hd Try.underlying30
    rw [bk_bytes] at this
    simp only [List.length_map, List.length_range, reachBytes] at this
    omega
end Go.Proofs.Ytppbbhijlkfioaa.Stp
