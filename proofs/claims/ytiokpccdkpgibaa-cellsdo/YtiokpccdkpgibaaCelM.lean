/-
  What the operations of the law's drawing statement yield ('t, b := Do(s, l[i])').
-/
import Derived.Test.YtiokpccdkpgibaaCelL
import Derived.Test.YtiokpccdkpgibaaRgnY
namespace Go.Proofs.Ytiokpccdkpgibaa.Cel
open Go.RowKit Go.Shelf Go.WideShapes RowG Rgn

theorem lies_lt {α : Type} {K : Kind α} {W : World} {a : Option Addr} {cap : Nat} {xs : List α} (hl : Lies K W a cap xs) (hn : xs ≠ []) {b off : Nat} (e : a = some ⟨b, off, none⟩) : b < W.heap.size := by
  obtain ⟨b', off', e', hc⟩ := hl.cell hn
  rw [e] at e'; cases e'
  obtain ⟨x, hx⟩ : ∃ x, xs[0]? = some x := by
    cases xs with
    | nil => exact absurd rfl hn
    | cons x _ => exact ⟨x, rfl⟩
  have h0 : 0 < (K.enc x).length := by rw [K.len]; exact K.pos
  exact World.block_lt_of_cell? W _ (hc 0 x hx 0 _ (List.getElem?_eq_getElem h0))
theorem box2_cells {W : World} {a : Nat} {x y : Value} {S : TypeId} (h : W.heap[a]? = some (.cells #[x, y] S (0, 0))) :
    W.cell? ⟨a, 0, none⟩ = some x ∧ W.cell? ⟨a, 1, none⟩ = some y ∧ W.frozen? ⟨a, 0, none⟩ = false ∧ W.frozen? ⟨a, 1, none⟩ = false := by
  refine ⟨?_, ?_, ?_, ?_⟩ <;> simp [World.cell?, World.frozen?, h]
/-- What is yielded. -/
def doV (Bo : Nat) (p q : Option Addr) (c d : Nat) (s : St) (u : Act) (bz oz cz : Nat) (l : List Act) (j : Nat) : Nat → Nat → Nat → World → Value → Prop
  | 0, _, _, _, v => v = stV p q c d s
  | 1, _, _, _, v => v = rowV (some ⟨bz, oz, none⟩) cz l
  | 2, _, _, _, v => v = .int .i64 (j : Nat)
  | 3, _, _, _, v => v = .pointer (some ⟨bz, oz + j * 4, none⟩)
  | 4, _, _, _, v => v = actV u
  | 5, _, _, w, v => ∃ x y, v = .tuple #[.agg #[x, y, .int .i64 ((act s u).1.shared : Nat)], toldV (act s u).2] ∧ RowG.Own numK 3 Bo w x (act s u).1.cells ∧ RowG.Own numK 3 Bo w y (act s u).1.locks
  | 6, _, _, w, v => ∃ x y, v = .tuple #[.agg #[x, y, .int .i64 ((act s u).1.shared : Nat)], toldV (act s u).2] ∧ RowG.Own numK 3 Bo w x (act s u).1.cells ∧ RowG.Own numK 3 Bo w y (act s u).1.locks
  | 7, _, _, w, v => ∃ x y, v = .agg #[x, y, .int .i64 ((act s u).1.shared : Nat)] ∧ RowG.Own numK 3 Bo w x (act s u).1.cells ∧ RowG.Own numK 3 Bo w y (act s u).1.locks
  | 8, _, _, _, v => v = toldV (act s u).2
  | 9, lo, hi, w, v => v = .pointer (some ⟨lo, 0, none⟩) ∧ w.heap[lo]? = some (.cells #[.slice none 0 0, .slice none 0 0, .int .i64 0] 28 (0, 0)) ∧ lo < hi
  | _, lo, hi, w, v => v = .pointer (some ⟨lo, 0, none⟩) ∧ w.heap[lo]? = some (.cells #[.int .i64 0, .bool false] 31 (0, 0)) ∧ lo < hi
theorem doV_kept (Bo : Nat) (p q : Option Addr) (c d : Nat) (s : St) (u : Act) (bz oz cz : Nat) (l : List Act) (j : Nat) : ∀ i lo hi w w' v, doV Bo p q c d s u bz oz cz l j i lo hi w v → Below w.heap.size w w' → doV Bo p q c d s u bz oz cz l j i lo hi w' v := by
  intro i lo hi w w' v h hb
  match i with
  | 0 => exact h
  | 1 => exact h
  | 2 => exact h
  | 3 => exact h
  | 4 => exact h
  | 5 => obtain ⟨x, y, e, h1, h2⟩ := h; exact ⟨x, y, e, h1.kept hb, h2.kept hb⟩
  | 6 => obtain ⟨x, y, e, h1, h2⟩ := h; exact ⟨x, y, e, h1.kept hb, h2.kept hb⟩
  | 7 => obtain ⟨x, y, e, h1, h2⟩ := h; exact ⟨x, y, e, h1.kept hb, h2.kept hb⟩
  | 8 => exact h
  | 9 => exact ⟨h.1, (hb.block _ (heap_lt h.2.1)).trans h.2.1, h.2.2⟩
  | i + 10 => exact ⟨h.1, (hb.block _ (heap_lt h.2.1)).trans h.2.1, h.2.2⟩
end Go.Proofs.Ytiokpccdkpgibaa.Cel
