/-
  Tables: made anew; an entry is put at a place.
-/
import Derived.Test.YtkgaiadmacapfaaSte
import Derived.Laws.MakeOwn
namespace Go.Proofs.Ytkgaiadmacapfaa.Ste
open Go.RowKit Go.Shelf Go.WideShapes RowG Tab

abbrev zeroC : Array Value := #[.int .i64 0, .string ⟨#[]⟩, .int .i64 0, .int .i64 0]
/-- A new table. -/
theorem run_new (n : Nat) (hn : n ≤ 1000000000) (W : World) : (Instr.makeSlice 22 (.int .i64 (n : Int)) (.int .i64 (n : Int))).run Try.prog W = .ok (.slice (some ⟨W.heap.size, 0, none⟩) n n) (W.alloc (.cells (madeCells zeroC (n * 4)) 31)) := by
  obtain ⟨i0, hi, hz0, hz1, hz2⟩ := info_parts info_ent
  have := run_make (P := Try.prog) W 22 31 i0 (.agg zeroC) Try.underlying22 hi hz0 .i64 .i64 n n (by omega) (Int.le_refl _) (by rw [hz2]; omega) (by omega)
  rw [hz1, show entK.c = 4 from rfl, show (Value.agg zeroC).cells = zeroC from rfl] at this
  simpa using this
theorem row_new (w : World) (n : Nat) (h : n ≤ maxLen) : Row entK 31 (w.alloc (.cells (madeCells zeroC (n * 4)) 31)) w.heap.size n (List.replicate n ent0) :=
  ⟨_, World.alloc_heap_new w _, by simp, h, by simp [madeCells]; rfl, by
    rw [show n * 4 = n * entK.c from rfl, made_flat (K := entK) zeroC ent0 rfl, List.take_of_length_le (by rw [flat_length]; simp)]⟩
end Go.Proofs.Ytkgaiadmacapfaa.Ste
