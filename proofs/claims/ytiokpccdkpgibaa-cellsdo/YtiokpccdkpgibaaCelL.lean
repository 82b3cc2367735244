/-
  The document's New (package gangplankref14); Shared, that turns nothing.
-/
import Derived.Test.YtiokpccdkpgibaaCelK
import Derived.Test.YtiokpccdkpgibaaCelH
namespace Go.Proofs.Ytiokpccdkpgibaa.Cel
open Go.RowKit Go.Shelf Go.WideShapes RowG

attribute [local go_sem] Oper.semAt_some

set_option maxHeartbeats 400000 in
theorem Shared_quiet {w : World} {f : Foot} {s : St} (h : Held w f s) : Calls Try.prog 13 #[.pointer (some ⟨f.p, 0, none⟩)] w fun e W' => e = .returned (.int .i64 (s.shared : Nat)) ∧ W' = w := by
  have C := Lib.hid (counted_told f.p _ w h.c0)
  have c0 := h.c0
  clear h
  go_enter Try.func13, Try.ntmps13
  go_wp2_with fail
  refine C.out.mono ?_
  rintro e w1 ⟨rfl, rfl⟩
  go_wp2_with fail
  go_ret
  exact ⟨rfl, rfl⟩
theorem box3_laid {W : World} {a : Nat} {x0 y0 z0 : Value} {S : TypeId} (ha : W.heap[a]? = some (.cells #[x0, y0, z0] S (0, 0))) (x y z : Value) :
    (((W.setCell ⟨a, 0, none⟩ x).setCell ⟨a, 1, none⟩ y).setCell ⟨a, 2, none⟩ z).heap[a]? = some (.cells #[x, y, z] S (0, 0)) := by
  have a1 := heap_setCell_same W a 0 _ _ x ha
  have a2 := heap_setCell_same _ a 1 _ _ y a1
  have a3 := heap_setCell_same _ a 2 _ _ z a2
  exact a3
theorem own_box3 {Bo : Nat} {W : World} {a : Nat} {v : Value} {xs : List Int} {x0 y0 z0 : Value} {S : TypeId} (h : RowG.Own numK 3 Bo W v xs) (ha : W.heap[a]? = some (.cells #[x0, y0, z0] S (0, 0))) (hS : S ≠ 3) (x y z : Value) :
    RowG.Own numK 3 Bo (((W.setCell ⟨a, 0, none⟩ x).setCell ⟨a, 1, none⟩ y).setCell ⟨a, 2, none⟩ z) v xs := by
  refine own_same h fun g hg => ?_
  have h1 : g ≠ a := fun e => by
    rcases RowG.own_ne h ha (fun cur e' => by cases e'; exact hS rfl) with h' | h'
    · rw [hg] at h'; cases h'
    · exact h' (by rw [hg, e])
  rw [heap_setCell_other _ ⟨a, 2, none⟩ g _ (by exact h1), heap_setCell_other _ ⟨a, 1, none⟩ g _ (by exact h1), heap_setCell_other _ ⟨a, 0, none⟩ g _ (by exact h1)]
theorem box3_cells {W : World} {a : Nat} {x y z : Value} {S : TypeId} (h : W.heap[a]? = some (.cells #[x, y, z] S (0, 0))) :
    (W.cell? ⟨a, 0, none⟩ = some x ∧ W.cell? ⟨a, 1, none⟩ = some y ∧ W.cell? ⟨a, 2, none⟩ = some z) ∧ (W.frozen? ⟨a, 0, none⟩ = false ∧ W.frozen? ⟨a, 1, none⟩ = false ∧ W.frozen? ⟨a, 2, none⟩ = false) := by
  refine ⟨⟨?_, ?_, ?_⟩, ?_, ?_, ?_⟩ <;> simp [World.cell?, World.frozen?, h]

set_option maxHeartbeats 400000 in
theorem refNew_any (n m : Int) (w : World) (Bo : Nat) (hB : Bo ≤ w.heap.size) : Calls Try.prog 10 #[.int .i64 n, .int .i64 m] w fun e W' => ∃ v, e = .returned v ∧ GivesS Bo W' v (new n m) ∧ Below w.heap.size w W' := by
  have al := Lib.hid (show Below w.heap.size w (w.alloc (.cells #[.slice none 0 0, .slice none 0 0, .int .i64 0] 28)) from (Below.refl _ _).alloc (Nat.le_refl _) _)
  have hb0 : (w.alloc (.cells #[.slice none 0 0, .slice none 0 0, .int .i64 0] 28)).heap[w.heap.size]? = _ := World.alloc_heap_new w _
  have B0 := Lib.hid hb0
  clear hb0
  have C1 := Lib.hid (fill_any n 0)
  have C2 := Lib.hid (fill_any m (-1))
  go_enter Try.func10, Try.ntmps10
  go_wp2_with fail
  refine (C1.out _).mono ?_
  rintro e w1 ⟨x, rfl, h1, hb1⟩
  have H1 := Lib.hid (own_less (B := Bo) (Nat.le_trans hB (by simp)) h1)
  have D1 := Lib.hid ((hb1.block _ (heap_lt B0.out)).trans B0.out)
  have B1 := Lib.hid (below2 al.out hb1)
  clear h1 hb1 al B0
  go_wp2_with fail
  refine (C2.out _).mono ?_
  rintro e w2 ⟨y, rfl, h2, hb2⟩
  have H2 := Lib.hid (own_less (B := Bo) (Nat.le_trans hB B1.out.size) h2)
  have H1 := Lib.hid (H1.out.kept hb2)
  have D2 := Lib.hid ((hb2.block _ (heap_lt D1.out)).trans D1.out)
  have B2 := Lib.hid (below2 B1.out hb2)
  clear h2 hb2 B1 D1
  obtain ⟨⟨q0, q1, q2⟩, f0, f1, f2⟩ := box3_cells D2.out
  obtain ⟨ax, cx, rfl, -⟩ := H1.out.lies
  obtain ⟨ay, cy, rfl, -⟩ := H2.out.lies
  have O1 := Lib.hid (own_box3 H1.out D2.out (by decide) (.slice ax (size n) cx) (.slice ay (size m) cy) (.int .i64 0))
  have O2 := Lib.hid (own_box3 H2.out D2.out (by decide) (.slice ax (size n) cx) (.slice ay (size m) cy) (.int .i64 0))
  have BL := Lib.hid (((B2.out.setCell (p := ⟨w.heap.size, 0, none⟩) (Nat.le_refl _) (.slice ax (size n) cx)).setCell (p := ⟨w.heap.size, 1, none⟩) (Nat.le_refl _) (.slice ay (size m) cy)).setCell (p := ⟨w.heap.size, 2, none⟩) (Nat.le_refl _) (.int .i64 0))
  obtain ⟨⟨z0, z1, z2⟩, -⟩ := box3_cells (box3_laid D2.out (.slice ax (size n) cx) (.slice ay (size m) cy) (.int .i64 0))
  have Z := Lib.hid (And.intro z0 (And.intro z1 z2))
  clear z0 z1 z2
  go_wp2_with fail
  clear q0 q1 q2 f0 f1 f2 D2 H1 H2 B2
  generalize (((w2.setCell ⟨w.heap.size, 0, none⟩ (.slice ax (size n) cx)).setCell ⟨w.heap.size, 1, none⟩ (.slice ay (size m) cy)).setCell ⟨w.heap.size, 2, none⟩ (.int .i64 0)) = W5 at *
  obtain ⟨z0, z1, z2⟩ := Z.out
  refine bodyPost_ret (v := .agg #[.slice ax (size n) cx, .slice ay (size m) cy, .int .i64 0]) (by simp [results, Try.results10, go_sem, z0, z1, z2]) rfl ?_
  refine ⟨_, rfl, gives_of rfl ?_ ?_, BL.out⟩
  · have := O1.out; simpa [new, rowV] using this
  · have := O2.out; simpa [new, rowV] using this
end Go.Proofs.Ytiokpccdkpgibaa.Cel
