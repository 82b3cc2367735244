/-
  The invariant of a region that makes a variable of any number of cells and lays a struct into it.
-/
import Derived.Test.YtcdgcjpdlhknoaaRgn
namespace Go.Proofs.Ytcdgcjpdlhknoaa.Rgn
open Go Go.RowKit

/-- The invariant of 'h := T{..}': operation number al makes the variable, number st lays the struct; all others only yield. -/
structure InvB (al st : Nat) (W : World) (T : TypeId) (z v : Array Value) (vals : Nat → Value) (d : Nat → Bool) (x : Nat → Value) (b : Nat) (w : World) : Prop where
  below : Below W.heap.size W w
  pure : ∀ i, i ≠ al → i ≠ st → d i = true → x i = vals i
  order : d st = true → d al = true
  cell : d al = true → x al = .pointer (some ⟨b, 0, none⟩) ∧ W.heap.size ≤ b ∧ (d st = false → w.heap[b]? = some (.cells z T (0, 0))) ∧ (d st = true → w.heap[b]? = some (.cells v T (0, 0)))

section
variable {al st : Nat} {W w : World} {T : TypeId} {z v : Array Value} {vals : Nat → Value} {d : Nat → Bool} {x : Nat → Value} {b : Nat}
theorem InvB.start (w : World) (x : Nat → Value) (b : Nat) (h : Below W.heap.size W w) : InvB al st W T z v vals (fun _ => false) x b w :=
  ⟨h, fun _ _ _ h => (by cases h), fun h => (by cases h), fun h => (by cases h)⟩
theorem block_kept {w w' : World} {b : Nat} {o : Obj} (h : w.heap[b]? = some o) (hb : Below w.heap.size w w') : w'.heap[b]? = some o := (hb.block b (Array.getElem?_eq_some_iff.1 h).1).trans h
theorem InvB.yields (h : InvB al st W T z v vals d x b w) {i : Nat} (h1 : i ≠ al) (h2 : i ≠ st) {w' : World} (hb : Below w.heap.size w w') : InvB al st W T z v vals (upd d i) (upv x i (vals i)) b w' where
  below := h.below.trans (hb.mono h.below.size)
  pure j ha hs hd := by
    by_cases e : j = i
    · subst e; rw [upv_same]
    · rw [upv_other x _ e]; rw [upd_other d e] at hd; exact h.pure j ha hs hd
  order hd := by
    rw [upd_other d (Ne.symm h2)] at hd; rw [upd_other d (Ne.symm h1)]; exact h.order hd
  cell hd := by
    rw [upd_other d (Ne.symm h1)] at hd
    rw [upv_other x _ (Ne.symm h1), upd_other d (Ne.symm h2)]
    obtain ⟨a1, a2, a3, a4⟩ := h.cell hd
    exact ⟨a1, a2, fun e => block_kept (a3 e) hb, fun e => block_kept (a4 e) hb⟩
theorem InvB.makes (h : InvB al st W T z v vals d x b w) (hne : al ≠ st) (hd : d al = false) : InvB al st W T z v vals (upd d al) (upv x al (.pointer (some ⟨w.heap.size, 0, none⟩))) w.heap.size (w.alloc (.cells z T)) where
  below := h.below.alloc h.below.size _
  pure j ha hs hd := by
    rw [upd_other d ha] at hd; rw [upv_other x _ ha]; exact h.pure j ha hs hd
  order _ := upd_same _ _
  cell _ := by
    rw [upv_same, upd_other d (Ne.symm hne)]
    refine ⟨rfl, h.below.size, fun _ => World.alloc_heap_new w _, fun e => ?_⟩
    rw [h.order e] at hd; cases hd
theorem InvB.lays (h : InvB al st W T z v vals d x b w) (hne : al ≠ st) (hd : d al = true) {w' : World} (hw : w'.heap[b]? = some (.cells v T (0, 0))) (hb : Below b w w') : InvB al st W T z v vals (upd d st) x b w' where
  below := h.below.trans (hb.mono (h.cell hd).2.1)
  pure j ha hs hdj := by
    rw [upd_other d hs] at hdj; exact h.pure j ha hs hdj
  order _ := by rw [upd_other d hne]; exact hd
  cell hdj := by
    rw [upd_other d hne] at hdj
    rw [upd_same]
    obtain ⟨a1, a2, _, _⟩ := h.cell hdj
    exact ⟨a1, a2, fun e => (by cases e), fun _ => hw⟩
end
end Go.Proofs.Ytcdgcjpdlhknoaa.Rgn
