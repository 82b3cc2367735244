/-
  Rows of numbers, and the document's Ints and Gone (package gangplankref08).
-/
import Derived.Test.YtfjpdoamalbpjaaPolF
namespace Go.Proofs.Ytfjpdoamalbpjaa.Pol
open Go.RowKit Go.Shelf Rgn

/-- The value of a slice of so many numbers. -/
abbrev intsV (a : Option Addr) (cap : Nat) (zs : List Int) : Value := .slice a zs.length cap
/-- These numbers lie there. -/
structure LiesI (W : World) (a : Option Addr) (cap : Nat) (zs : List Int) : Prop where
  max : cap ≤ maxLen
  len : zs.length ≤ cap
  cell : zs ≠ [] → ∃ b off, a = some ⟨b, off, none⟩ ∧ ∀ i x, zs[i]? = some x → W.cell? ⟨b, off + i, none⟩ = some (.int .i64 x)
theorem LiesI.kept {W W' : World} {a : Option Addr} {cap : Nat} {zs : List Int} (h : LiesI W a cap zs) (hb : Below W.heap.size W W') : LiesI W' a cap zs :=
  ⟨h.max, h.len, fun hn => by
    obtain ⟨b, off, e, hc⟩ := h.cell hn
    refine ⟨b, off, e, fun i x hi => ?_⟩
    have c0 := hc i x hi
    exact (hb.cell (p := ⟨b, off + i, none⟩) (World.block_lt_of_cell? W _ c0)).trans c0⟩
theorem LiesI.at {W : World} {a : Option Addr} {cap : Nat} {zs : List Int} (h : LiesI W a cap zs) {k : Nat} (hk : k < zs.length) : ∃ b off, a = some ⟨b, off, none⟩ ∧ W.cell? ⟨b, off + k, none⟩ = some (.int .i64 zs[k]) := by
  obtain ⟨b, off, e, hc⟩ := h.cell (fun e => by rw [e] at hk; exact absurd hk (by simp))
  exact ⟨b, off, e, hc k _ (List.getElem?_eq_getElem hk)⟩
/-- Numbers that the call has laid. -/
def OwnI (B : Nat) (W : World) (v : Value) (zs : List Int) : Prop := W.ownsRow B 3 1 v zs.length (zs.map fun z => .int .i64 z)
theorem ownI_nil (B : Nat) (W : World) : OwnI B W (.slice none 0 0) [] := World.ownsRow_nil W B _ 1
theorem OwnI.kept {B : Nat} {W W' : World} {v : Value} {zs : List Int} (h : OwnI B W v zs) (hb : Below W.heap.size W W') : OwnI B W' v zs :=
  World.ownsRow.kept h (grown_none hb) (by cases v.ownBlock <;> simp)
theorem ownI_less {B B' : Nat} {W : World} {v : Value} {zs : List Int} (hB : B ≤ B') (h : OwnI B' W v zs) : OwnI B W v zs := by
  refine ⟨h.1, ?_⟩
  rcases h.2 with h0 | ⟨g, cap, cur, hv, hb, r⟩
  · exact .inl h0
  · exact .inr ⟨g, cap, cur, hv, Nat.le_trans hB hb, r⟩
theorem OwnI.lies {B : Nat} {W : World} {v : Value} {zs : List Int} (h : OwnI B W v zs) : ∃ a cap, v = intsV a cap zs ∧ LiesI W a cap zs := by
  rcases h.2 with ⟨rfl, h0⟩ | ⟨g, cap, cur, rfl, hb, hg, hn, hm, hs, htake⟩
  · have : zs = [] := List.eq_nil_of_length_eq_zero h0
    subst this
    exact ⟨none, 0, rfl, by unfold maxLen; omega, Nat.le_refl _, fun h => absurd rfl h⟩
  · refine ⟨some ⟨g, 0, none⟩, cap, rfl, hm, hn, fun _ => ⟨g, 0, rfl, fun i x hi => ?_⟩⟩
    have c0 := World.ownsRow.cells h (g := g) rfl i (.int .i64 x) (by rw [List.getElem?_map, hi]; rfl)
    rw [add_at] at c0
    exact c0
theorem info_int : (Try.prog.info? 3).map (fun i => (i.zero, i.size, i.bytes)) = some (some (.int .i64 0), 1, 8) := by kernel_rfl
end Go.Proofs.Ytfjpdoamalbpjaa.Pol
