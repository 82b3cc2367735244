/-
  Rows of numbers of one kind; how a parameter that is one is opened.
-/
import Derived.Test.YtppbbhijlkfioaaBPol
import Derived.ProofKit
import Derived.OpenShut
import Derived.ChangeMaps5
import Derived.ChangeSlices
import Derived.Carry
namespace Go.Proofs.Ytppbbhijlkfioaa.Num
open Go.ChangeShapes Go.WideShapes Go.RowKit

/-- The value of a slice of so many numbers. -/
abbrev numsV (a : Option Addr) (cap : Nat) (zs : List Int) : Value := .slice a zs.length cap
/-- These numbers lie there. -/
structure LiesN (k : IntKind) (W : World) (a : Option Addr) (cap : Nat) (zs : List Int) : Prop where
  max : cap ≤ maxLen
  len : zs.length ≤ cap
  cell : zs ≠ [] → ∃ b off, a = some ⟨b, off, none⟩ ∧ ∀ i x, zs[i]? = some x → W.cell? ⟨b, off + i, none⟩ = some (.int k x)
theorem LiesN.kept {k : IntKind} {W W' : World} {a : Option Addr} {cap : Nat} {zs : List Int} (h : LiesN k W a cap zs) (hb : Below W.heap.size W W') : LiesN k W' a cap zs :=
  ⟨h.max, h.len, fun hn => by
    obtain ⟨b, off, e, hc⟩ := h.cell hn
    refine ⟨b, off, e, fun i x hi => ?_⟩
    have c0 := hc i x hi
    exact (hb.cell (p := ⟨b, off + i, none⟩) (World.block_lt_of_cell? W _ c0)).trans c0⟩
theorem LiesN.at {k : IntKind} {W : World} {a : Option Addr} {cap : Nat} {zs : List Int} (h : LiesN k W a cap zs) {i : Nat} (hi : i < zs.length) : ∃ b off, a = some ⟨b, off, none⟩ ∧ W.cell? ⟨b, off + i, none⟩ = some (.int k zs[i]) := by
  obtain ⟨b, off, e, hc⟩ := h.cell (fun e => by rw [e] at hi; exact absurd hi (by simp))
  exact ⟨b, off, e, hc i _ (List.getElem?_eq_getElem hi)⟩
theorem lies_nil (k : IntKind) (W : World) : LiesN k W none 0 [] := ⟨by unfold maxLen; omega, Nat.le_refl _, fun h => absurd rfl h⟩
/-- One number in a slice of its own. -/
theorem lies_one (k : IntKind) (W : World) (t : TypeId) (x : Int) : LiesN k (W.alloc (.cells #[.int k x] t)) (some ⟨W.heap.size, 0, none⟩) 1 [x] :=
  ⟨by unfold maxLen; omega, by simp, fun _ => ⟨_, _, rfl, fun i y hi => by
    match i, hi with
    | 0, hi => simp at hi; subst hi; simp⟩⟩
theorem laidOut : laidOutB Try.prog = true := by kernel_rfl

set_option maxRecDepth 100000 in
/-- A parameter that is a row of numbers. -/
theorem open_nums {H : Type} {enc : TypeId × Value → H} {w : World} {base : Nat} {spare : Nat → Bool} {held : Bool} {t e : TypeId} {k : IntKind} (ht : Try.prog.underlying t = some (.slice e)) (he : Try.prog.underlying e = some (.int k)) (hc : Try.prog.cellsOf e = 1)
    {r : Reach} {b0 : Nat} {v : Value} {d : DataW H} {ps : List MemPlace} (hv : Value.okWide Try.prog w r b0 t v) (h : DataW.Trod enc Try.prog w base spare held t v d ps) :
    ∃ (a : Option Addr) (cap : Nat) (zs : List Int), v = numsV a cap zs ∧ LiesN k w a cap zs ∧ ∀ n ∈ zs, (Lit.int k n).wf = true := by
  obtain ⟨a, len, cap, rfl⟩ := okWide_slice ht hv
  obtain ⟨fuel, hf⟩ := h
  rcases open_ints ht he hc hf with ⟨hcs, _⟩ | ⟨ad, l, c, zs, hcs, _, hl, hm, hz, _, hcell, hwf⟩
  · simp [Value.cells] at hcs
    obtain ⟨rfl, rfl, rfl⟩ := hcs
    exact ⟨none, 0, [], rfl, lies_nil k w, fun x hx => by cases hx⟩
  · simp [Value.cells] at hcs
    obtain ⟨rfl, rfl, rfl⟩ := hcs
    have hlz : len ≤ zs.length := by rw [hz]; split <;> omega
    refine ⟨some ad, cap, zs.take len, by simp [numsV, hlz], ⟨hm, by simp; omega, fun hne => ?_⟩, fun n hn => hwf n (List.mem_of_mem_take hn)⟩
    have hpos : 0 < zs.length := by
      cases zs with
      | nil => simp at hne
      | cons _ _ => simp
    obtain ⟨b, off, spot⟩ := ad
    have hspot : spot = none := by simpa [Addr.add] using World.cell?_spot (hcell 0 hpos)
    subst hspot
    refine ⟨b, off, rfl, fun i x hi => ?_⟩
    rw [List.getElem?_take] at hi
    split at hi
    · obtain ⟨hlt, hx⟩ := List.getElem?_eq_some_iff.1 hi
      have := hcell i hlt
      rw [add_plain, List.getD_eq_getElem?_getD, hi] at this
      exact this
    · cases hi
end Go.Proofs.Ytppbbhijlkfioaa.Num
