/-
  Pools: a slice of backends, as a list of pairs; the document's Find (package gangplankref08).
-/
import Derived.WalkKit
import Derived.WalkMore
import Derived.OwnWalkIn
import Derived.LoopNIn
import Derived.Shelf.Abstract
import Derived.Below
import Derived.Lib.Hide
import Derived.Laws.AppendOwn
import Derived.Laws.StructEq
import Derived.Test.YtfjpdoamalbpjaaProg
import Derived.Test.YtfjpdoamalbpjaaRgnJ
namespace Go.Proofs.Ytfjpdoamalbpjaa.Pol
open Go.RowKit Go.Shelf Rgn

/-- A backend: its Id, its Weight. -/
abbrev Bk := Int × Int
/-- The value of a slice of so many backends. -/
abbrev polV (a : Option Addr) (cap : Nat) (bs : List Bk) : Value := .slice a bs.length cap
/-- These backends lie there. -/
structure Lies (W : World) (a : Option Addr) (cap : Nat) (bs : List Bk) : Prop where
  max : cap ≤ maxLen
  len : bs.length ≤ cap
  cell : bs ≠ [] → ∃ b off, a = some ⟨b, off, none⟩ ∧ ∀ i x, bs[i]? = some x → W.cell? ⟨b, off + i * 2, none⟩ = some (.int .i64 x.1) ∧ W.cell? ⟨b, off + i * 2 + 1, none⟩ = some (.int .i64 x.2)
theorem Lies.kept {W W' : World} {a : Option Addr} {cap : Nat} {bs : List Bk} (h : Lies W a cap bs) (hb : Below W.heap.size W W') : Lies W' a cap bs :=
  ⟨h.max, h.len, fun hn => by
    obtain ⟨b, off, e, hc⟩ := h.cell hn
    refine ⟨b, off, e, fun i x hi => ?_⟩
    obtain ⟨c0, c1⟩ := hc i x hi
    exact ⟨(hb.cell (p := ⟨b, off + i * 2, none⟩) (World.block_lt_of_cell? W _ c0)).trans c0, (hb.cell (p := ⟨b, off + i * 2 + 1, none⟩) (World.block_lt_of_cell? W _ c1)).trans c1⟩⟩
theorem lies_nil (W : World) : Lies W none 0 [] := ⟨by unfold maxLen; omega, Nat.le_refl _, fun h => absurd rfl h⟩
/-- A backend that stands at a place. -/
theorem Lies.at {W : World} {a : Option Addr} {cap : Nat} {bs : List Bk} (h : Lies W a cap bs) {k : Nat} (hk : k < bs.length) : ∃ b off, a = some ⟨b, off, none⟩ ∧ W.cell? ⟨b, off + k * 2, none⟩ = some (.int .i64 bs[k].1) ∧ W.cell? ⟨b, off + k * 2 + 1, none⟩ = some (.int .i64 bs[k].2) := by
  obtain ⟨b, off, e, hc⟩ := h.cell (fun e => by rw [e] at hk; exact absurd hk (by simp))
  exact ⟨b, off, e, hc k _ (List.getElem?_eq_getElem hk)⟩

/-- Where the first one of an Id stands; -1, if there is none. -/
def find : List Bk → Int → Nat → Int
  | [], _, _ => -1
  | x :: bs, id, k => if x.1 = id then k else find bs id (k + 1)
theorem find_drop (bs : List Bk) (id : Int) : ∀ (k m : Nat), k ≤ bs.length → (∀ j x, j < k → bs[j]? = some x → x.1 ≠ id) → find bs id m = find (bs.drop k) id (m + k) := by
  induction bs with
  | nil => intro k m hk _; simp at hk; subst hk; rfl
  | cons x bs ih =>
    intro k m hk hno
    cases k with
    | zero => rfl
    | succ k =>
      rw [List.drop_succ_cons]
      have h0 := hno 0 x (by omega) rfl
      rw [show find (x :: bs) id m = find bs id (m + 1) from if_neg h0, ih k (m + 1) (by simpa using hk) (fun j y hj hy => hno (j + 1) y (by omega) (by simpa using hy))]
      congr 1; omega
theorem find_hit (bs : List Bk) (id : Int) (k : Nat) (hk : k < bs.length) (hno : ∀ j x, j < k → bs[j]? = some x → x.1 ≠ id) (h : bs[k].1 = id) : find bs id 0 = k := by
  rw [find_drop bs id k 0 (by omega) hno, List.drop_eq_getElem_cons hk, Nat.zero_add]
  exact if_pos h
theorem find_none (bs : List Bk) (id : Int) (hno : ∀ j x, j < bs.length → bs[j]? = some x → x.1 ≠ id) : find bs id 0 = -1 := by
  rw [find_drop bs id bs.length 0 (Nat.le_refl _) hno, List.drop_length]; rfl
end Go.Proofs.Ytfjpdoamalbpjaa.Pol
