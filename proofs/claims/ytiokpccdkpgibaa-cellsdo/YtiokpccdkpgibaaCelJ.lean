/-
  The document's cells (package gangplankref14): New, cell, lock, Do.
-/
import Derived.Test.YtiokpccdkpgibaaCelI
import Derived.Test.YtiokpccdkpgibaaCelG
import Derived.BigRegion
namespace Go.Proofs.Ytiokpccdkpgibaa.Cel
open Go.RowKit Go.Shelf Go.WideShapes RowG

attribute [local go_sem] Oper.semAt_some

abbrev stC (p q : Option Addr) (c d : Nat) (s : St) : Array Value := #[rowV p c s.cells, rowV q d s.locks, .int .i64 (s.shared : Nat)]
abbrev stV (p q : Option Addr) (c d : Nat) (s : St) : Value := .agg (stC p q c d s)
/-- What stands in a box of three cells and in one of two behind five stores. -/
def lay5 (W : World) (a b : Nat) (x y z u v : Value) : World := ((((W.setCell ⟨a, 0, none⟩ x).setCell ⟨a, 1, none⟩ y).setCell ⟨a, 2, none⟩ z).setCell ⟨b, 0, none⟩ u).setCell ⟨b, 1, none⟩ v
structure Laid5 (W : World) (a b : Nat) (x y z u v : Value) : Prop where
  r0 : W.cell? ⟨a, 0, none⟩ = some x
  r1 : W.cell? ⟨a, 1, none⟩ = some y
  r2 : W.cell? ⟨a, 2, none⟩ = some z
  r3 : W.cell? ⟨b, 0, none⟩ = some u
  r4 : W.cell? ⟨b, 1, none⟩ = some v
theorem lay5_laid {W : World} {a b : Nat} {x0 y0 z0 u0 v0 : Value} {S T : TypeId} (ha : W.heap[a]? = some (.cells #[x0, y0, z0] S (0, 0))) (hb : W.heap[b]? = some (.cells #[u0, v0] T (0, 0))) (hab : a ≠ b) (x y z u v : Value) :
    Laid5 (lay5 W a b x y z u v) a b x y z u v := by
  have a1 := heap_setCell_same W a 0 _ _ x ha
  have a2 := heap_setCell_same _ a 1 _ _ y a1
  have a3 := heap_setCell_same _ a 2 _ _ z a2
  have a4 := (heap_setCell_other _ ⟨b, 0, none⟩ a u (by exact hab)).trans a3
  have a5 := (heap_setCell_other _ ⟨b, 1, none⟩ a v (by exact hab)).trans a4
  have b1 := (heap_setCell_other W ⟨a, 0, none⟩ b x (by exact hab.symm)).trans hb
  have b2 := (heap_setCell_other _ ⟨a, 1, none⟩ b y (by exact hab.symm)).trans b1
  have b3 := (heap_setCell_other _ ⟨a, 2, none⟩ b z (by exact hab.symm)).trans b2
  have b4 := heap_setCell_same _ b 0 _ _ u b3
  have b5 := heap_setCell_same _ b 1 _ _ v b4
  refine ⟨?_, ?_, ?_, ?_, ?_⟩
  · simp [lay5, World.cell?, a5]
  · simp [lay5, World.cell?, a5]
  · simp [lay5, World.cell?, a5]
  · simp [lay5, World.cell?, b5]
  · simp [lay5, World.cell?, b5]
theorem lay5_below {B : Nat} {w W : World} {a b : Nat} (h : Below B w W) (ha : B ≤ a) (hb : B ≤ b) (x y z u v : Value) : Below B w (lay5 W a b x y z u v) :=
  ((((h.setCell (p := ⟨a, 0, none⟩) ha x).setCell (p := ⟨a, 1, none⟩) ha y).setCell (p := ⟨a, 2, none⟩) ha z).setCell (p := ⟨b, 0, none⟩) hb u).setCell (p := ⟨b, 1, none⟩) hb v

/-- The world in which cell, lock and Do begin: the boxes of their parameters and of their results. -/
abbrev boxW (w : World) (L M : Value) (n : Int) (x : Act) : World := (((w.alloc (.cells #[L, M, .int .i64 n] 28)).alloc (.cells #[.int .i64 x.k, .int .i64 x.i, .int .i64 x.a, .int .i64 x.b] 34)).alloc (.cells #[.slice none 0 0, .slice none 0 0, .int .i64 0] 28)).alloc (.cells #[.int .i64 0, .bool false] 31)
theorem boxW_below (w : World) (L M : Value) (n : Int) (x : Act) : Below w.heap.size w (boxW w L M n x) :=
  by
  refine ((((Below.refl _ w).alloc (Nat.le_refl _) _).alloc ?_ _).alloc ?_ _).alloc ?_ _ <;> simp <;> omega
structure Boxes (W : World) (B : Nat) (L M : Value) (n : Int) (x : Act) : Prop where
  h0 : W.heap[B]? = some (.cells #[L, M, .int .i64 n] 28 (0, 0))
  h1 : W.heap[B + 1]? = some (.cells #[.int .i64 x.k, .int .i64 x.i, .int .i64 x.a, .int .i64 x.b] 34 (0, 0))
  h2 : W.heap[B + 1 + 1]? = some (.cells #[.slice none 0 0, .slice none 0 0, .int .i64 0] 28 (0, 0))
  h3 : W.heap[B + 1 + 1 + 1]? = some (.cells #[.int .i64 0, .bool false] 31 (0, 0))
theorem boxW_boxes (w : World) (L M : Value) (n : Int) (x : Act) : Boxes (boxW w L M n x) w.heap.size L M n x := by
  refine ⟨?_, ?_, ?_, ?_⟩
  · rw [Below.heap_alloc _ _ _ (by simp; omega), Below.heap_alloc _ _ _ (by simp; omega), Below.heap_alloc _ _ _ (by simp)]
    exact World.alloc_heap_new w _
  · rw [Below.heap_alloc _ _ _ (by simp), Below.heap_alloc _ _ _ (by simp)]
    have := World.alloc_heap_new (w.alloc (.cells #[L, M, .int .i64 n] 28)) (.cells #[.int .i64 x.k, .int .i64 x.i, .int .i64 x.a, .int .i64 x.b] 34)
    simpa using this
  · rw [Below.heap_alloc _ _ _ (by simp)]
    have := World.alloc_heap_new ((w.alloc (.cells #[L, M, .int .i64 n] 28)).alloc (.cells #[.int .i64 x.k, .int .i64 x.i, .int .i64 x.a, .int .i64 x.b] 34)) (.cells #[.slice none 0 0, .slice none 0 0, .int .i64 0] 28)
    simpa using this
  · have := World.alloc_heap_new (((w.alloc (.cells #[L, M, .int .i64 n] 28)).alloc (.cells #[.int .i64 x.k, .int .i64 x.i, .int .i64 x.a, .int .i64 x.b] 34)).alloc (.cells #[.slice none 0 0, .slice none 0 0, .int .i64 0] 28)) (.cells #[.int .i64 0, .bool false] 31)
    simpa using this
theorem Boxes.kept {W W' : World} {B : Nat} {L M : Value} {n : Int} {x : Act} (h : Boxes W B L M n x) (hb : Below W.heap.size W W') : Boxes W' B L M n x :=
  ⟨(hb.block _ (heap_lt h.h0)).trans h.h0, (hb.block _ (heap_lt h.h1)).trans h.h1, (hb.block _ (heap_lt h.h2)).trans h.h2, (hb.block _ (heap_lt h.h3)).trans h.h3⟩

theorem Boxes.all {W : World} {B : Nat} {L M : Value} {n : Int} {x : Act} (h : Boxes W B L M n x) :
    ((W.cell? ⟨B, 0, none⟩ = some L ∧ W.cell? ⟨B, 1, none⟩ = some M ∧ W.cell? ⟨B, 2, none⟩ = some (.int .i64 n)) ∧ (W.cell? ⟨B + 1, 0, none⟩ = some (.int .i64 x.k) ∧ W.cell? ⟨B + 1, 1, none⟩ = some (.int .i64 x.i) ∧ W.cell? ⟨B + 1, 2, none⟩ = some (.int .i64 x.a) ∧ W.cell? ⟨B + 1, 3, none⟩ = some (.int .i64 x.b))) ∧
    ((W.cell? ⟨B + 1 + 1, 0, none⟩ = some (.slice none 0 0) ∧ W.cell? ⟨B + 1 + 1, 1, none⟩ = some (.slice none 0 0) ∧ W.cell? ⟨B + 1 + 1, 2, none⟩ = some (.int .i64 0)) ∧ (W.cell? ⟨B + 1 + 1 + 1, 0, none⟩ = some (.int .i64 0) ∧ W.cell? ⟨B + 1 + 1 + 1, 1, none⟩ = some (.bool false))) ∧
    ((∀ o, W.frozen? ⟨B, o, none⟩ = false) ∧ (∀ o, W.frozen? ⟨B + 1 + 1, o, none⟩ = false) ∧ (∀ o, W.frozen? ⟨B + 1 + 1 + 1, o, none⟩ = false)) := by
  refine ⟨⟨⟨?_, ?_, ?_⟩, ?_, ?_, ?_, ?_⟩, ⟨⟨?_, ?_, ?_⟩, ?_, ?_⟩, ?_, ?_, ?_⟩
  · simp [World.cell?, h.h0]
  · simp [World.cell?, h.h0]
  · simp [World.cell?, h.h0]
  · simp [World.cell?, h.h1]
  · simp [World.cell?, h.h1]
  · simp [World.cell?, h.h1]
  · simp [World.cell?, h.h1]
  · simp [World.cell?, h.h2]
  · simp [World.cell?, h.h2]
  · simp [World.cell?, h.h2]
  · simp [World.cell?, h.h3]
  · simp [World.cell?, h.h3]
  · intro o; simp [World.frozen?, h.h0]
  · intro o; simp [World.frozen?, h.h2]
  · intro o; simp [World.frozen?, h.h3]
theorem al4 (w : World) (o1 o2 o3 o4 : Obj) : Below w.heap.size w ((((w.alloc o1).alloc o2).alloc o3).alloc o4) := by
  refine ((((Below.refl _ w).alloc (Nat.le_refl _) _).alloc ?_ _).alloc ?_ _).alloc ?_ _ <;> simp <;> omega
theorem gives_of {Bo : Nat} {W : World} {x y : Value} {s : St} {n : Int} (hn : n = (s.shared : Nat)) (h1 : RowG.Own numK 3 Bo W x s.cells) (h2 : RowG.Own numK 3 Bo W y s.locks) : GivesS Bo W (.agg #[x, y, .int .i64 n]) s := by
  subst hn
  exact ⟨x, y, rfl, h1, h2⟩
theorem own_lies {α : Type} {K : Kind α} {T : TypeId} {B : Nat} {W : World} {a : Option Addr} {cap : Nat} {xs : List α} (h : RowG.Own K T B W (rowV a cap xs) xs) : Lies K W a cap xs := by
  obtain ⟨a', cap', e, hl⟩ := h.lies
  cases e; exact hl
theorem row_own {T : TypeId} {Bo : Nat} {W : World} {g cap n : Nat} {xs : List Int} (hB : Bo ≤ g) (h : Row numK T W g cap xs) (hn : n = xs.length) : RowG.Own numK T Bo W (.slice (some ⟨g, 0, none⟩) n cap) xs := by
  subst hn; exact h.own hB
theorem lay5_row {α : Type} {K : Kind α} {T : TypeId} {W : World} {g cap : Nat} {xs : List α} (h : Row K T W g cap xs) {a b : Nat} (ha : g ≠ a) (hb : g ≠ b) (x y z u v : Value) : Row K T (lay5 W a b x y z u v) g cap xs :=
  ((((h.put_other (a := ⟨a, 0, none⟩) ha x).put_other (a := ⟨a, 1, none⟩) ha y).put_other (a := ⟨a, 2, none⟩) ha z).put_other (a := ⟨b, 0, none⟩) hb u).put_other (a := ⟨b, 1, none⟩) hb v
theorem at_lay {C : World → Prop} {W : World} {a b : Nat} {x y z u v : Value} (h : ∀ W5, lay5 W a b x y z u v = W5 → C W5) : C (lay5 W a b x y z u v) := h _ rfl
/-- What an act hands back, in the document's answer. -/
def RefDoes (Bo : Nat) (s : St) (x : Act) (w : World) (e : Ending) (W' : World) : Prop := ∃ v, e = .returned (.tuple #[v, toldV (act s x).2]) ∧ GivesS Bo W' v (act s x).1 ∧ Below w.heap.size w W'

set_option maxHeartbeats 1000000 in
theorem cell_0 (p q : Option Addr) (c d : Nat) (s : St) (i a b : Int) (w : World) (Bo : Nat) (_hB : Bo ≤ w.heap.size) (o1 : RowG.Own numK 3 Bo w (rowV p c s.cells) s.cells) (o2 : RowG.Own numK 3 Bo w (rowV q d s.locks) s.locks) (hs : s.shared < 4611686018427387904) (hi : Has s.cells i) :
    Calls Try.prog 24 #[stV p q c d s, actV ⟨0, i, a, b⟩] w (RefDoes Bo s ⟨0, i, a, b⟩ w) := by
  have h1 := own_lies o1
  obtain ⟨j, rfl, hj, ha⟩ := has_nat hi
  obtain ⟨bz, oz, rfl, c0⟩ := h1.num hj
  have hj0 : (j : Int) < (s.cells.length : Int) := by omega
  have hw : IntKind.i64.wrap ((s.shared : Int) + 1) = ((s.shared + 1 : Nat) : Int) := wr_nat hs
  have c1 := (boxW_below w (rowV (some ⟨bz, oz, none⟩) c s.cells) (rowV q d s.locks) ((s.shared : Int) + 1) ⟨0, (j : Nat), a, b⟩).cell (p := ⟨bz, oz + j, none⟩) (World.block_lt_of_cell? w _ c0)
  rw [c0] at c1
  have HE := Lib.hid (show act s ⟨0, (j : Nat), a, b⟩ = (⟨s.cells, s.locks, s.shared + 1⟩, ⟨s.cells[j], false⟩) by show ((load s (j : Nat)).1, (⟨(load s (j : Nat)).2, false⟩ : Told)) = _; unfold load; rw [if_pos hi, ha])
  clear hi ha hs
  go_enter Try.func24, Try.ntmps24
  go_wp2_with fail
  refine bodyPost_ret (v := .tuple #[.agg #[rowV (some ⟨bz, oz, none⟩) c s.cells, rowV q d s.locks, .int .i64 ((s.shared : Int) + 1)], .agg #[.int .i64 s.cells[j], .bool false]]) (by simp [results, Try.results24, go_sem]) rfl ?_
  unfold RefDoes
  rw [HE.out]
  exact ⟨_, rfl, gives_of (by simp) (o1.kept (al4 ..)) (o2.kept (al4 ..)), al4 ..⟩
set_option maxHeartbeats 1000000 in
theorem cell_1 (p q : Option Addr) (c d : Nat) (s : St) (i a b : Int) (w : World) (Bo : Nat) (hB : Bo ≤ w.heap.size) (o1 : RowG.Own numK 3 Bo w (rowV p c s.cells) s.cells) (o2 : RowG.Own numK 3 Bo w (rowV q d s.locks) s.locks) (hs : s.shared < 4611686018427387904) (hi : Has s.cells i) (hl : s.cells.length ≤ 1000000000) :
    Calls Try.prog 24 #[stV p q c d s, actV ⟨1, i, a, b⟩] w (RefDoes Bo s ⟨1, i, a, b⟩ w) := by
  have h1 := own_lies o1
  obtain ⟨j, rfl, hj, ha⟩ := has_nat hi
  obtain ⟨bz, oz, rfl, c0⟩ := h1.num hj
  have hj0 : (j : Int) < (s.cells.length : Int) := by omega
  have hw : IntKind.i64.wrap ((s.shared : Int) + 1) = ((s.shared + 1 : Nat) : Int) := wr_nat hs
  have c1 := (boxW_below w (rowV (some ⟨bz, oz, none⟩) c s.cells) (rowV q d s.locks) ((s.shared : Int) + 1) ⟨1, (j : Nat), a, b⟩).cell (p := ⟨bz, oz + j, none⟩) (World.block_lt_of_cell? w _ c0)
  rw [c0] at c1
  have HE := Lib.hid (show act s ⟨1, (j : Nat), a, b⟩ = (⟨s.cells.set j a, s.locks, s.shared + 1⟩, ⟨0, false⟩) by show (store s (j : Nat) a, (⟨0, false⟩ : Told)) = _; unfold store; rw [if_pos hi]; rfl)
  clear hi ha hs
  have BX := Lib.hid (boxW_boxes w (rowV (some ⟨bz, oz, none⟩) c s.cells) (rowV q d s.locks) ((s.shared : Int) + 1) ⟨1, (j : Nat), a, b⟩)
  have BB := Lib.hid (boxW_below w (rowV (some ⟨bz, oz, none⟩) c s.cells) (rowV q d s.locks) ((s.shared : Int) + 1) ⟨1, (j : Nat), a, b⟩)
  have C := Lib.hid (with_any _ c s.cells j (a) _ (h1.kept BB.out) hj hl)
  have H1 := Lib.hid o1
  have H2 := Lib.hid o2
  clear h1 o1 o2
  go_enter Try.func24, Try.ntmps24
  go_wp2_with fail
  refine C.out.mono ?_
  rintro e w1 ⟨g, c', rfl, hg, hl', hb⟩
  obtain ⟨⟨⟨x0, x1, x2⟩, y0, y1, y2, y3⟩, ⟨⟨r0, r1, r2⟩, r3, r4⟩, f0, f2, f3⟩ := (BX.out.kept hb).all
  have D := Lib.hid (BX.out.kept hb)
  have HL := Lib.hid hl'
  have HB := Lib.hid (below2 BB.out hb)
  have HBW := Lib.hid hb
  clear hl' hb BX C
  have hB4 : g ≠ w.heap.size ∧ g ≠ w.heap.size + 1 + 1 ∧ g ≠ w.heap.size + 1 + 1 + 1 := by simp [boxW] at hg; omega
  have GB := Lib.hid (show Bo ≤ g from by simp [boxW] at hg; omega)
  have G4 := Lib.hid hB4
  clear hg hB4 hB
  generalize hW : w.heap.size = B at *
  go_wp2_with fail
  have h22 : (w1.setCell ⟨B, 0, none⟩ (.slice (some ⟨g, 0, none⟩) s.cells.length c')).heap[B + 1 + 1]? = _ := (heap_setCell_other w1 ⟨B, 0, none⟩ (B + 1 + 1) _ (by show B + 1 + 1 ≠ B; omega)).trans D.out.h2
  have h33 : (w1.setCell ⟨B, 0, none⟩ (.slice (some ⟨g, 0, none⟩) s.cells.length c')).heap[B + 1 + 1 + 1]? = _ := (heap_setCell_other w1 ⟨B, 0, none⟩ (B + 1 + 1 + 1) _ (by show B + 1 + 1 + 1 ≠ B; omega)).trans D.out.h3
  have LD := lay5_laid h22 h33 (by omega) (.slice (some ⟨g, 0, none⟩) s.cells.length c') (rowV q d s.locks) (.int .i64 ((s.shared : Int) + 1)) (.int .i64 0) (.bool false)
  have BL := Lib.hid (lay5_below (HB.out.setCell (p := ⟨B, 0, none⟩) (Nat.le_refl _) (.slice (some ⟨g, 0, none⟩) s.cells.length c')) (a := B + 1 + 1) (b := B + 1 + 1 + 1) (by omega) (by omega) (.slice (some ⟨g, 0, none⟩) s.cells.length c') (rowV q d s.locks) (.int .i64 ((s.shared : Int) + 1)) (.int .i64 0) (.bool false))
  have RL := Lib.hid (lay5_row (HL.out.put_other (a := ⟨B, 0, none⟩) G4.out.1 (.slice (some ⟨g, 0, none⟩) s.cells.length c')) (a := B + 1 + 1) (b := B + 1 + 1 + 1) G4.out.2.1 G4.out.2.2 (.slice (some ⟨g, 0, none⟩) s.cells.length c') (rowV q d s.locks) (.int .i64 ((s.shared : Int) + 1)) (.int .i64 0) (.bool false))
  subst hW
  have K := Lib.hid (H2.out.kept BL.out)
  clear D x0 x1 x2 y0 y1 y2 y3 r0 r1 r2 r3 r4 f0 f2 f3 h22 h33 BB HB HBW
  simp only [lay5] at LD BL RL K
  generalize ((((((w1.setCell ⟨w.heap.size, 0, none⟩ (.slice (some ⟨g, 0, none⟩) s.cells.length c')).setCell ⟨w.heap.size + 1 + 1, 0, none⟩ (.slice (some ⟨g, 0, none⟩) s.cells.length c')).setCell ⟨w.heap.size + 1 + 1, 1, none⟩ (rowV q d s.locks)).setCell ⟨w.heap.size + 1 + 1, 2, none⟩ (.int .i64 ((s.shared : Int) + 1))).setCell ⟨w.heap.size + 1 + 1 + 1, 0, none⟩ (.int .i64 0)).setCell ⟨w.heap.size + 1 + 1 + 1, 1, none⟩ (.bool false)) = W5 at *
  refine bodyPost_ret (v := .tuple #[.agg #[.slice (some ⟨g, 0, none⟩) s.cells.length c', rowV q d s.locks, .int .i64 ((s.shared : Int) + 1)], .agg #[.int .i64 0, .bool false]]) (by simp [results, Try.results24, go_sem, LD.r0, LD.r1, LD.r2, LD.r3, LD.r4]) rfl ?_
  unfold RefDoes
  rw [HE.out]
  exact ⟨_, rfl, gives_of (by simp) (row_own GB.out RL.out (by simp)) K.out, BL.out⟩
set_option maxHeartbeats 1000000 in
theorem cell_2 (p q : Option Addr) (c d : Nat) (s : St) (i a b : Int) (w : World) (Bo : Nat) (hB : Bo ≤ w.heap.size) (o1 : RowG.Own numK 3 Bo w (rowV p c s.cells) s.cells) (o2 : RowG.Own numK 3 Bo w (rowV q d s.locks) s.locks) (hs : s.shared < 4611686018427387904) (hi : Has s.cells i) (hl : s.cells.length ≤ 1000000000) :
    Calls Try.prog 24 #[stV p q c d s, actV ⟨2, i, a, b⟩] w (RefDoes Bo s ⟨2, i, a, b⟩ w) := by
  have h1 := own_lies o1
  obtain ⟨j, rfl, hj, ha⟩ := has_nat hi
  obtain ⟨bz, oz, rfl, c0⟩ := h1.num hj
  have hj0 : (j : Int) < (s.cells.length : Int) := by omega
  have hw : IntKind.i64.wrap ((s.shared : Int) + 1) = ((s.shared + 1 : Nat) : Int) := wr_nat hs
  have c1 := (boxW_below w (rowV (some ⟨bz, oz, none⟩) c s.cells) (rowV q d s.locks) ((s.shared : Int) + 1) ⟨2, (j : Nat), a, b⟩).cell (p := ⟨bz, oz + j, none⟩) (World.block_lt_of_cell? w _ c0)
  rw [c0] at c1
  have HE := Lib.hid (show act s ⟨2, (j : Nat), a, b⟩ = (⟨s.cells.set j (wr (s.cells[j] + a)), s.locks, s.shared + 1⟩, ⟨wr (s.cells[j] + a), false⟩) by show ((add s (j : Nat) a).1, (⟨(add s (j : Nat) a).2, false⟩ : Told)) = _; unfold add; rw [if_pos hi, ha]; rfl)
  obtain ⟨z, hz⟩ : ∃ z, IntKind.i64.wrap (s.cells[j] + a) = z := ⟨_, rfl⟩
  rw [show wr (s.cells[j] + a) = z from hz] at HE
  clear hi ha hs
  have BX := Lib.hid (boxW_boxes w (rowV (some ⟨bz, oz, none⟩) c s.cells) (rowV q d s.locks) ((s.shared : Int) + 1) ⟨2, (j : Nat), a, b⟩)
  have BB := Lib.hid (boxW_below w (rowV (some ⟨bz, oz, none⟩) c s.cells) (rowV q d s.locks) ((s.shared : Int) + 1) ⟨2, (j : Nat), a, b⟩)
  have C := Lib.hid (with_any _ c s.cells j (z) _ (h1.kept BB.out) hj hl)
  have H1 := Lib.hid o1
  have H2 := Lib.hid o2
  clear h1 o1 o2
  go_enter Try.func24, Try.ntmps24
  go_wp2_with fail
  refine C.out.mono ?_
  rintro e w1 ⟨g, c', rfl, hg, hl', hb⟩
  obtain ⟨⟨⟨x0, x1, x2⟩, y0, y1, y2, y3⟩, ⟨⟨r0, r1, r2⟩, r3, r4⟩, f0, f2, f3⟩ := (BX.out.kept hb).all
  have D := Lib.hid (BX.out.kept hb)
  have HL := Lib.hid hl'
  have HB := Lib.hid (below2 BB.out hb)
  have HBW := Lib.hid hb
  clear hl' hb BX C
  have hB4 : g ≠ w.heap.size ∧ g ≠ w.heap.size + 1 + 1 ∧ g ≠ w.heap.size + 1 + 1 + 1 := by simp [boxW] at hg; omega
  have GB := Lib.hid (show Bo ≤ g from by simp [boxW] at hg; omega)
  have G4 := Lib.hid hB4
  clear hg hB4 hB
  generalize hW : w.heap.size = B at *
  go_wp2_with fail
  go_region
  go_wp2_with fail
  have h22 : (w1.setCell ⟨B, 0, none⟩ (.slice (some ⟨g, 0, none⟩) s.cells.length c')).heap[B + 1 + 1]? = _ := (heap_setCell_other w1 ⟨B, 0, none⟩ (B + 1 + 1) _ (by show B + 1 + 1 ≠ B; omega)).trans D.out.h2
  have h33 : (w1.setCell ⟨B, 0, none⟩ (.slice (some ⟨g, 0, none⟩) s.cells.length c')).heap[B + 1 + 1 + 1]? = _ := (heap_setCell_other w1 ⟨B, 0, none⟩ (B + 1 + 1 + 1) _ (by show B + 1 + 1 + 1 ≠ B; omega)).trans D.out.h3
  have LD := lay5_laid h22 h33 (by omega) (.slice (some ⟨g, 0, none⟩) s.cells.length c') (rowV q d s.locks) (.int .i64 ((s.shared : Int) + 1)) (.int .i64 z) (.bool false)
  have BL := Lib.hid (lay5_below (HB.out.setCell (p := ⟨B, 0, none⟩) (Nat.le_refl _) (.slice (some ⟨g, 0, none⟩) s.cells.length c')) (a := B + 1 + 1) (b := B + 1 + 1 + 1) (by omega) (by omega) (.slice (some ⟨g, 0, none⟩) s.cells.length c') (rowV q d s.locks) (.int .i64 ((s.shared : Int) + 1)) (.int .i64 z) (.bool false))
  have RL := Lib.hid (lay5_row (HL.out.put_other (a := ⟨B, 0, none⟩) G4.out.1 (.slice (some ⟨g, 0, none⟩) s.cells.length c')) (a := B + 1 + 1) (b := B + 1 + 1 + 1) G4.out.2.1 G4.out.2.2 (.slice (some ⟨g, 0, none⟩) s.cells.length c') (rowV q d s.locks) (.int .i64 ((s.shared : Int) + 1)) (.int .i64 z) (.bool false))
  subst hW
  have K := Lib.hid (H2.out.kept BL.out)
  clear D x0 x1 x2 y0 y1 y2 y3 r0 r1 r2 r3 r4 f0 f2 f3 h22 h33 BB HB HBW
  simp only [lay5] at LD BL RL K
  generalize ((((((w1.setCell ⟨w.heap.size, 0, none⟩ (.slice (some ⟨g, 0, none⟩) s.cells.length c')).setCell ⟨w.heap.size + 1 + 1, 0, none⟩ (.slice (some ⟨g, 0, none⟩) s.cells.length c')).setCell ⟨w.heap.size + 1 + 1, 1, none⟩ (rowV q d s.locks)).setCell ⟨w.heap.size + 1 + 1, 2, none⟩ (.int .i64 ((s.shared : Int) + 1))).setCell ⟨w.heap.size + 1 + 1 + 1, 0, none⟩ (.int .i64 z)).setCell ⟨w.heap.size + 1 + 1 + 1, 1, none⟩ (.bool false)) = W5 at *
  refine bodyPost_ret (v := .tuple #[.agg #[.slice (some ⟨g, 0, none⟩) s.cells.length c', rowV q d s.locks, .int .i64 ((s.shared : Int) + 1)], .agg #[.int .i64 z, .bool false]]) (by simp [results, Try.results24, go_sem, LD.r0, LD.r1, LD.r2, LD.r3, LD.r4]) rfl ?_
  unfold RefDoes
  rw [HE.out]
  exact ⟨_, rfl, gives_of (by simp) (row_own GB.out (RL.out.kept (Below.refl _ W5).drew) (by simp)) (K.out.kept (Below.refl _ W5).drew), BL.out.drew⟩
set_option maxHeartbeats 1000000 in
theorem cell_3y (p q : Option Addr) (c d : Nat) (s : St) (i a b : Int) (w : World) (Bo : Nat) (hB : Bo ≤ w.heap.size) (o1 : RowG.Own numK 3 Bo w (rowV p c s.cells) s.cells) (o2 : RowG.Own numK 3 Bo w (rowV q d s.locks) s.locks) (hs : s.shared < 4611686018427387904) (hi : Has s.cells i) (hl : s.cells.length ≤ 1000000000) (hv : at' s.cells i = a) :
    Calls Try.prog 24 #[stV p q c d s, actV ⟨3, i, a, b⟩] w (RefDoes Bo s ⟨3, i, a, b⟩ w) := by
  have h1 := own_lies o1
  obtain ⟨j, rfl, hj, ha⟩ := has_nat hi
  obtain ⟨bz, oz, rfl, c0⟩ := h1.num hj
  have hj0 : (j : Int) < (s.cells.length : Int) := by omega
  have hw : IntKind.i64.wrap ((s.shared : Int) + 1) = ((s.shared + 1 : Nat) : Int) := wr_nat hs
  have c1 := (boxW_below w (rowV (some ⟨bz, oz, none⟩) c s.cells) (rowV q d s.locks) ((s.shared : Int) + 1) ⟨3, (j : Nat), a, b⟩).cell (p := ⟨bz, oz + j, none⟩) (World.block_lt_of_cell? w _ c0)
  rw [c0] at c1
  have HE := Lib.hid (show act s ⟨3, (j : Nat), a, b⟩ = (⟨s.cells.set j b, s.locks, s.shared + 1⟩, ⟨0, true⟩) by show ((swap s (j : Nat) a b).1, (⟨0, (swap s (j : Nat) a b).2⟩ : Told)) = _; unfold swap; rw [if_pos hi, if_pos hv]; rfl)
  have d0 : (s.cells[j] == a) = true := by rw [← ha, hv]; simp
  clear hi ha hs hv
  have BX := Lib.hid (boxW_boxes w (rowV (some ⟨bz, oz, none⟩) c s.cells) (rowV q d s.locks) ((s.shared : Int) + 1) ⟨3, (j : Nat), a, b⟩)
  have BB := Lib.hid (boxW_below w (rowV (some ⟨bz, oz, none⟩) c s.cells) (rowV q d s.locks) ((s.shared : Int) + 1) ⟨3, (j : Nat), a, b⟩)
  have C := Lib.hid (with_any _ c s.cells j (b) _ (h1.kept BB.out) hj hl)
  have H1 := Lib.hid o1
  have H2 := Lib.hid o2
  clear h1 o1 o2
  go_enter Try.func24, Try.ntmps24
  go_wp2_with fail
  refine C.out.mono ?_
  rintro e w1 ⟨g, c', rfl, hg, hl', hb⟩
  obtain ⟨⟨⟨x0, x1, x2⟩, y0, y1, y2, y3⟩, ⟨⟨r0, r1, r2⟩, r3, r4⟩, f0, f2, f3⟩ := (BX.out.kept hb).all
  have D := Lib.hid (BX.out.kept hb)
  have HL := Lib.hid hl'
  have HB := Lib.hid (below2 BB.out hb)
  have HBW := Lib.hid hb
  clear hl' hb BX C
  have hB4 : g ≠ w.heap.size ∧ g ≠ w.heap.size + 1 + 1 ∧ g ≠ w.heap.size + 1 + 1 + 1 := by simp [boxW] at hg; omega
  have GB := Lib.hid (show Bo ≤ g from by simp [boxW] at hg; omega)
  have G4 := Lib.hid hB4
  clear hg hB4 hB
  generalize hW : w.heap.size = B at *
  go_wp2_with fail
  have h22 : (w1.setCell ⟨B, 0, none⟩ (.slice (some ⟨g, 0, none⟩) s.cells.length c')).heap[B + 1 + 1]? = _ := (heap_setCell_other w1 ⟨B, 0, none⟩ (B + 1 + 1) _ (by show B + 1 + 1 ≠ B; omega)).trans D.out.h2
  have h33 : (w1.setCell ⟨B, 0, none⟩ (.slice (some ⟨g, 0, none⟩) s.cells.length c')).heap[B + 1 + 1 + 1]? = _ := (heap_setCell_other w1 ⟨B, 0, none⟩ (B + 1 + 1 + 1) _ (by show B + 1 + 1 + 1 ≠ B; omega)).trans D.out.h3
  have LD := lay5_laid h22 h33 (by omega) (.slice (some ⟨g, 0, none⟩) s.cells.length c') (rowV q d s.locks) (.int .i64 ((s.shared : Int) + 1)) (.int .i64 0) (.bool true)
  have BL := Lib.hid (lay5_below (HB.out.setCell (p := ⟨B, 0, none⟩) (Nat.le_refl _) (.slice (some ⟨g, 0, none⟩) s.cells.length c')) (a := B + 1 + 1) (b := B + 1 + 1 + 1) (by omega) (by omega) (.slice (some ⟨g, 0, none⟩) s.cells.length c') (rowV q d s.locks) (.int .i64 ((s.shared : Int) + 1)) (.int .i64 0) (.bool true))
  have RL := Lib.hid (lay5_row (HL.out.put_other (a := ⟨B, 0, none⟩) G4.out.1 (.slice (some ⟨g, 0, none⟩) s.cells.length c')) (a := B + 1 + 1) (b := B + 1 + 1 + 1) G4.out.2.1 G4.out.2.2 (.slice (some ⟨g, 0, none⟩) s.cells.length c') (rowV q d s.locks) (.int .i64 ((s.shared : Int) + 1)) (.int .i64 0) (.bool true))
  subst hW
  have K := Lib.hid (H2.out.kept BL.out)
  clear D x0 x1 x2 y0 y1 y2 y3 r0 r1 r2 r3 r4 f0 f2 f3 h22 h33 BB HB HBW
  simp only [lay5] at LD BL RL K
  generalize ((((((w1.setCell ⟨w.heap.size, 0, none⟩ (.slice (some ⟨g, 0, none⟩) s.cells.length c')).setCell ⟨w.heap.size + 1 + 1, 0, none⟩ (.slice (some ⟨g, 0, none⟩) s.cells.length c')).setCell ⟨w.heap.size + 1 + 1, 1, none⟩ (rowV q d s.locks)).setCell ⟨w.heap.size + 1 + 1, 2, none⟩ (.int .i64 ((s.shared : Int) + 1))).setCell ⟨w.heap.size + 1 + 1 + 1, 0, none⟩ (.int .i64 0)).setCell ⟨w.heap.size + 1 + 1 + 1, 1, none⟩ (.bool true)) = W5 at *
  refine bodyPost_ret (v := .tuple #[.agg #[.slice (some ⟨g, 0, none⟩) s.cells.length c', rowV q d s.locks, .int .i64 ((s.shared : Int) + 1)], .agg #[.int .i64 0, .bool true]]) (by simp [results, Try.results24, go_sem, LD.r0, LD.r1, LD.r2, LD.r3, LD.r4]) rfl ?_
  unfold RefDoes
  rw [HE.out]
  exact ⟨_, rfl, gives_of (by simp) (row_own GB.out RL.out (by simp)) K.out, BL.out⟩
set_option maxHeartbeats 1000000 in
theorem cell_3n (p q : Option Addr) (c d : Nat) (s : St) (i a b : Int) (w : World) (Bo : Nat) (_hB : Bo ≤ w.heap.size) (o1 : RowG.Own numK 3 Bo w (rowV p c s.cells) s.cells) (o2 : RowG.Own numK 3 Bo w (rowV q d s.locks) s.locks) (hs : s.shared < 4611686018427387904) (hi : Has s.cells i) (hv : at' s.cells i ≠ a) :
    Calls Try.prog 24 #[stV p q c d s, actV ⟨3, i, a, b⟩] w (RefDoes Bo s ⟨3, i, a, b⟩ w) := by
  have h1 := own_lies o1
  obtain ⟨j, rfl, hj, ha⟩ := has_nat hi
  obtain ⟨bz, oz, rfl, c0⟩ := h1.num hj
  have hj0 : (j : Int) < (s.cells.length : Int) := by omega
  have hw : IntKind.i64.wrap ((s.shared : Int) + 1) = ((s.shared + 1 : Nat) : Int) := wr_nat hs
  have c1 := (boxW_below w (rowV (some ⟨bz, oz, none⟩) c s.cells) (rowV q d s.locks) ((s.shared : Int) + 1) ⟨3, (j : Nat), a, b⟩).cell (p := ⟨bz, oz + j, none⟩) (World.block_lt_of_cell? w _ c0)
  rw [c0] at c1
  have HE := Lib.hid (show act s ⟨3, (j : Nat), a, b⟩ = (⟨s.cells, s.locks, s.shared + 1⟩, ⟨0, false⟩) by show ((swap s (j : Nat) a b).1, (⟨0, (swap s (j : Nat) a b).2⟩ : Told)) = _; unfold swap; rw [if_pos hi, if_neg hv])
  have d0 : (s.cells[j] == a) = false := by rw [← ha]; simpa using hv
  clear hi ha hs hv
  go_enter Try.func24, Try.ntmps24
  go_wp2_with fail
  refine bodyPost_ret (v := .tuple #[.agg #[rowV (some ⟨bz, oz, none⟩) c s.cells, rowV q d s.locks, .int .i64 ((s.shared : Int) + 1)], .agg #[.int .i64 0, .bool false]]) (by simp [results, Try.results24, go_sem]) rfl ?_
  unfold RefDoes
  rw [HE.out]
  exact ⟨_, rfl, gives_of (by simp) (o1.kept (al4 ..)) (o2.kept (al4 ..)), al4 ..⟩
set_option maxHeartbeats 1000000 in
theorem lock_4y (p q : Option Addr) (c d : Nat) (s : St) (i a b : Int) (w : World) (Bo : Nat) (hB : Bo ≤ w.heap.size) (o1 : RowG.Own numK 3 Bo w (rowV p c s.cells) s.cells) (o2 : RowG.Own numK 3 Bo w (rowV q d s.locks) s.locks) (hs : s.shared < 4611686018427387904) (hi : Has s.locks i) (hl : s.locks.length ≤ 1000000000) (hv : at' s.locks i < 0) (hw0 : 0 ≤ a) :
    Calls Try.prog 25 #[stV p q c d s, actV ⟨4, i, a, b⟩] w (RefDoes Bo s ⟨4, i, a, b⟩ w) := by
  have h2 := own_lies o2
  obtain ⟨j, rfl, hj, ha⟩ := has_nat hi
  obtain ⟨bz, oz, rfl, c0⟩ := h2.num hj
  have hj0 : (j : Int) < (s.locks.length : Int) := by omega
  have hw : IntKind.i64.wrap ((s.shared : Int) + 1) = ((s.shared + 1 : Nat) : Int) := wr_nat hs
  have c1 := (boxW_below w (rowV p c s.cells) (rowV (some ⟨bz, oz, none⟩) d s.locks) ((s.shared : Int) + 1) ⟨4, (j : Nat), a, b⟩).cell (p := ⟨bz, oz + j, none⟩) (World.block_lt_of_cell? w _ c0)
  rw [c0] at c1
  have HE := Lib.hid (show act s ⟨4, (j : Nat), a, b⟩ = (⟨s.cells, s.locks.set j a, s.shared + 1⟩, ⟨0, true⟩) by show ((lock s (j : Nat) a).1, (⟨0, (lock s (j : Nat) a).2⟩ : Told)) = _; unfold Cel.lock; rw [if_pos hi, if_pos ⟨hv, hw0⟩]; rfl)
  have d0 : decide (s.locks[j] < 0) = true := decide_eq_true (by rw [← ha]; exact hv)
  have d1 : decide (0 ≤ a) = true := decide_eq_true hw0
  clear hi ha hs hv hw0
  have BX := Lib.hid (boxW_boxes w (rowV p c s.cells) (rowV (some ⟨bz, oz, none⟩) d s.locks) ((s.shared : Int) + 1) ⟨4, (j : Nat), a, b⟩)
  have BB := Lib.hid (boxW_below w (rowV p c s.cells) (rowV (some ⟨bz, oz, none⟩) d s.locks) ((s.shared : Int) + 1) ⟨4, (j : Nat), a, b⟩)
  have C := Lib.hid (with_any _ d s.locks j (a) _ (h2.kept BB.out) hj hl)
  have H1 := Lib.hid o1
  have H2 := Lib.hid o2
  clear h2 o1 o2
  go_enter Try.func25, Try.ntmps25
  go_wp2_with fail
  refine C.out.mono ?_
  rintro e w1 ⟨g, c', rfl, hg, hl', hb⟩
  obtain ⟨⟨⟨x0, x1, x2⟩, y0, y1, y2, y3⟩, ⟨⟨r0, r1, r2⟩, r3, r4⟩, f0, f2, f3⟩ := (BX.out.kept hb).all
  have D := Lib.hid (BX.out.kept hb)
  have HL := Lib.hid hl'
  have HB := Lib.hid (below2 BB.out hb)
  have HBW := Lib.hid hb
  clear hl' hb BX C
  have hB4 : g ≠ w.heap.size ∧ g ≠ w.heap.size + 1 + 1 ∧ g ≠ w.heap.size + 1 + 1 + 1 := by simp [boxW] at hg; omega
  have GB := Lib.hid (show Bo ≤ g from by simp [boxW] at hg; omega)
  have G4 := Lib.hid hB4
  clear hg hB4 hB
  generalize hW : w.heap.size = B at *
  go_wp2_with fail
  have h22 : (w1.setCell ⟨B, 1, none⟩ (.slice (some ⟨g, 0, none⟩) s.locks.length c')).heap[B + 1 + 1]? = _ := (heap_setCell_other w1 ⟨B, 1, none⟩ (B + 1 + 1) _ (by show B + 1 + 1 ≠ B; omega)).trans D.out.h2
  have h33 : (w1.setCell ⟨B, 1, none⟩ (.slice (some ⟨g, 0, none⟩) s.locks.length c')).heap[B + 1 + 1 + 1]? = _ := (heap_setCell_other w1 ⟨B, 1, none⟩ (B + 1 + 1 + 1) _ (by show B + 1 + 1 + 1 ≠ B; omega)).trans D.out.h3
  have LD := lay5_laid h22 h33 (by omega) (rowV p c s.cells) (.slice (some ⟨g, 0, none⟩) s.locks.length c') (.int .i64 ((s.shared : Int) + 1)) (.int .i64 0) (.bool true)
  have BL := Lib.hid (lay5_below (HB.out.setCell (p := ⟨B, 1, none⟩) (Nat.le_refl _) (.slice (some ⟨g, 0, none⟩) s.locks.length c')) (a := B + 1 + 1) (b := B + 1 + 1 + 1) (by omega) (by omega) (rowV p c s.cells) (.slice (some ⟨g, 0, none⟩) s.locks.length c') (.int .i64 ((s.shared : Int) + 1)) (.int .i64 0) (.bool true))
  have RL := Lib.hid (lay5_row (HL.out.put_other (a := ⟨B, 1, none⟩) G4.out.1 (.slice (some ⟨g, 0, none⟩) s.locks.length c')) (a := B + 1 + 1) (b := B + 1 + 1 + 1) G4.out.2.1 G4.out.2.2 (rowV p c s.cells) (.slice (some ⟨g, 0, none⟩) s.locks.length c') (.int .i64 ((s.shared : Int) + 1)) (.int .i64 0) (.bool true))
  subst hW
  have K := Lib.hid (H1.out.kept BL.out)
  clear D x0 x1 x2 y0 y1 y2 y3 r0 r1 r2 r3 r4 f0 f2 f3 h22 h33 BB HB HBW
  simp only [lay5] at LD BL RL K
  generalize ((((((w1.setCell ⟨w.heap.size, 1, none⟩ (.slice (some ⟨g, 0, none⟩) s.locks.length c')).setCell ⟨w.heap.size + 1 + 1, 0, none⟩ (rowV p c s.cells)).setCell ⟨w.heap.size + 1 + 1, 1, none⟩ (.slice (some ⟨g, 0, none⟩) s.locks.length c')).setCell ⟨w.heap.size + 1 + 1, 2, none⟩ (.int .i64 ((s.shared : Int) + 1))).setCell ⟨w.heap.size + 1 + 1 + 1, 0, none⟩ (.int .i64 0)).setCell ⟨w.heap.size + 1 + 1 + 1, 1, none⟩ (.bool true)) = W5 at *
  refine bodyPost_ret (v := .tuple #[.agg #[rowV p c s.cells, .slice (some ⟨g, 0, none⟩) s.locks.length c', .int .i64 ((s.shared : Int) + 1)], .agg #[.int .i64 0, .bool true]]) (by simp [results, Try.results25, go_sem, LD.r0, LD.r1, LD.r2, LD.r3, LD.r4]) rfl ?_
  unfold RefDoes
  rw [HE.out]
  exact ⟨_, rfl, gives_of (by simp) K.out (row_own GB.out RL.out (by simp)), BL.out⟩
set_option maxHeartbeats 1000000 in
theorem lock_4n1 (p q : Option Addr) (c d : Nat) (s : St) (i a b : Int) (w : World) (Bo : Nat) (_hB : Bo ≤ w.heap.size) (o1 : RowG.Own numK 3 Bo w (rowV p c s.cells) s.cells) (o2 : RowG.Own numK 3 Bo w (rowV q d s.locks) s.locks) (hs : s.shared < 4611686018427387904) (hi : Has s.locks i) (hv : ¬ at' s.locks i < 0) :
    Calls Try.prog 25 #[stV p q c d s, actV ⟨4, i, a, b⟩] w (RefDoes Bo s ⟨4, i, a, b⟩ w) := by
  have h2 := own_lies o2
  obtain ⟨j, rfl, hj, ha⟩ := has_nat hi
  obtain ⟨bz, oz, rfl, c0⟩ := h2.num hj
  have hj0 : (j : Int) < (s.locks.length : Int) := by omega
  have hw : IntKind.i64.wrap ((s.shared : Int) + 1) = ((s.shared + 1 : Nat) : Int) := wr_nat hs
  have c1 := (boxW_below w (rowV p c s.cells) (rowV (some ⟨bz, oz, none⟩) d s.locks) ((s.shared : Int) + 1) ⟨4, (j : Nat), a, b⟩).cell (p := ⟨bz, oz + j, none⟩) (World.block_lt_of_cell? w _ c0)
  rw [c0] at c1
  have HE := Lib.hid (show act s ⟨4, (j : Nat), a, b⟩ = (⟨s.cells, s.locks, s.shared + 1⟩, ⟨0, false⟩) by show ((lock s (j : Nat) a).1, (⟨0, (lock s (j : Nat) a).2⟩ : Told)) = _; unfold Cel.lock; rw [if_pos hi, if_neg (fun h => hv h.1)])
  have d0 : decide (s.locks[j] < 0) = false := decide_eq_false (by rw [← ha]; exact hv)
  clear hi ha hs hv
  go_enter Try.func25, Try.ntmps25
  go_wp2_with fail
  refine bodyPost_ret (v := .tuple #[.agg #[rowV p c s.cells, rowV (some ⟨bz, oz, none⟩) d s.locks, .int .i64 ((s.shared : Int) + 1)], .agg #[.int .i64 0, .bool false]]) (by simp [results, Try.results25, go_sem]) rfl ?_
  unfold RefDoes
  rw [HE.out]
  exact ⟨_, rfl, gives_of (by simp) (o1.kept (al4 ..)) (o2.kept (al4 ..)), al4 ..⟩
set_option maxHeartbeats 1000000 in
theorem lock_4n2 (p q : Option Addr) (c d : Nat) (s : St) (i a b : Int) (w : World) (Bo : Nat) (_hB : Bo ≤ w.heap.size) (o1 : RowG.Own numK 3 Bo w (rowV p c s.cells) s.cells) (o2 : RowG.Own numK 3 Bo w (rowV q d s.locks) s.locks) (hs : s.shared < 4611686018427387904) (hi : Has s.locks i) (hv : at' s.locks i < 0) (hw0 : ¬ 0 ≤ a) :
    Calls Try.prog 25 #[stV p q c d s, actV ⟨4, i, a, b⟩] w (RefDoes Bo s ⟨4, i, a, b⟩ w) := by
  have h2 := own_lies o2
  obtain ⟨j, rfl, hj, ha⟩ := has_nat hi
  obtain ⟨bz, oz, rfl, c0⟩ := h2.num hj
  have hj0 : (j : Int) < (s.locks.length : Int) := by omega
  have hw : IntKind.i64.wrap ((s.shared : Int) + 1) = ((s.shared + 1 : Nat) : Int) := wr_nat hs
  have c1 := (boxW_below w (rowV p c s.cells) (rowV (some ⟨bz, oz, none⟩) d s.locks) ((s.shared : Int) + 1) ⟨4, (j : Nat), a, b⟩).cell (p := ⟨bz, oz + j, none⟩) (World.block_lt_of_cell? w _ c0)
  rw [c0] at c1
  have HE := Lib.hid (show act s ⟨4, (j : Nat), a, b⟩ = (⟨s.cells, s.locks, s.shared + 1⟩, ⟨0, false⟩) by show ((lock s (j : Nat) a).1, (⟨0, (lock s (j : Nat) a).2⟩ : Told)) = _; unfold Cel.lock; rw [if_pos hi, if_neg (fun h => hw0 h.2)])
  have d0 : decide (s.locks[j] < 0) = true := decide_eq_true (by rw [← ha]; exact hv)
  have d1 : decide (0 ≤ a) = false := decide_eq_false hw0
  clear hi ha hs hv hw0
  go_enter Try.func25, Try.ntmps25
  go_wp2_with fail
  refine bodyPost_ret (v := .tuple #[.agg #[rowV p c s.cells, rowV (some ⟨bz, oz, none⟩) d s.locks, .int .i64 ((s.shared : Int) + 1)], .agg #[.int .i64 0, .bool false]]) (by simp [results, Try.results25, go_sem]) rfl ?_
  unfold RefDoes
  rw [HE.out]
  exact ⟨_, rfl, gives_of (by simp) (o1.kept (al4 ..)) (o2.kept (al4 ..)), al4 ..⟩
set_option maxHeartbeats 1000000 in
theorem lock_5y (p q : Option Addr) (c d : Nat) (s : St) (i a b : Int) (w : World) (Bo : Nat) (hB : Bo ≤ w.heap.size) (o1 : RowG.Own numK 3 Bo w (rowV p c s.cells) s.cells) (o2 : RowG.Own numK 3 Bo w (rowV q d s.locks) s.locks) (hs : s.shared < 4611686018427387904) (hi : Has s.locks i) (hl : s.locks.length ≤ 1000000000) (hv : 0 ≤ at' s.locks i) (hw0 : at' s.locks i = a) :
    Calls Try.prog 25 #[stV p q c d s, actV ⟨5, i, a, b⟩] w (RefDoes Bo s ⟨5, i, a, b⟩ w) := by
  have h2 := own_lies o2
  obtain ⟨j, rfl, hj, ha⟩ := has_nat hi
  obtain ⟨bz, oz, rfl, c0⟩ := h2.num hj
  have hj0 : (j : Int) < (s.locks.length : Int) := by omega
  have hw : IntKind.i64.wrap ((s.shared : Int) + 1) = ((s.shared + 1 : Nat) : Int) := wr_nat hs
  have c1 := (boxW_below w (rowV p c s.cells) (rowV (some ⟨bz, oz, none⟩) d s.locks) ((s.shared : Int) + 1) ⟨5, (j : Nat), a, b⟩).cell (p := ⟨bz, oz + j, none⟩) (World.block_lt_of_cell? w _ c0)
  rw [c0] at c1
  have HE := Lib.hid (show act s ⟨5, (j : Nat), a, b⟩ = (⟨s.cells, s.locks.set j (-1), s.shared + 1⟩, ⟨0, true⟩) by show ((unlock s (j : Nat) a).1, (⟨0, (unlock s (j : Nat) a).2⟩ : Told)) = _; unfold Cel.unlock; rw [if_pos hi, if_pos ⟨hv, hw0⟩]; rfl)
  have d0 : decide (0 ≤ s.locks[j]) = true := decide_eq_true (by rw [← ha]; exact hv)
  have d1 : (s.locks[j] == a) = true := by rw [← ha, hw0]; simp
  clear hi ha hs hv hw0
  have BX := Lib.hid (boxW_boxes w (rowV p c s.cells) (rowV (some ⟨bz, oz, none⟩) d s.locks) ((s.shared : Int) + 1) ⟨5, (j : Nat), a, b⟩)
  have BB := Lib.hid (boxW_below w (rowV p c s.cells) (rowV (some ⟨bz, oz, none⟩) d s.locks) ((s.shared : Int) + 1) ⟨5, (j : Nat), a, b⟩)
  have C := Lib.hid (with_any _ d s.locks j (-1) _ (h2.kept BB.out) hj hl)
  have H1 := Lib.hid o1
  have H2 := Lib.hid o2
  clear h2 o1 o2
  go_enter Try.func25, Try.ntmps25
  go_wp2_with fail
  refine C.out.mono ?_
  rintro e w1 ⟨g, c', rfl, hg, hl', hb⟩
  obtain ⟨⟨⟨x0, x1, x2⟩, y0, y1, y2, y3⟩, ⟨⟨r0, r1, r2⟩, r3, r4⟩, f0, f2, f3⟩ := (BX.out.kept hb).all
  have D := Lib.hid (BX.out.kept hb)
  have HL := Lib.hid hl'
  have HB := Lib.hid (below2 BB.out hb)
  have HBW := Lib.hid hb
  clear hl' hb BX C
  have hB4 : g ≠ w.heap.size ∧ g ≠ w.heap.size + 1 + 1 ∧ g ≠ w.heap.size + 1 + 1 + 1 := by simp [boxW] at hg; omega
  have GB := Lib.hid (show Bo ≤ g from by simp [boxW] at hg; omega)
  have G4 := Lib.hid hB4
  clear hg hB4 hB
  generalize hW : w.heap.size = B at *
  go_wp2_with fail
  have h22 : (w1.setCell ⟨B, 1, none⟩ (.slice (some ⟨g, 0, none⟩) s.locks.length c')).heap[B + 1 + 1]? = _ := (heap_setCell_other w1 ⟨B, 1, none⟩ (B + 1 + 1) _ (by show B + 1 + 1 ≠ B; omega)).trans D.out.h2
  have h33 : (w1.setCell ⟨B, 1, none⟩ (.slice (some ⟨g, 0, none⟩) s.locks.length c')).heap[B + 1 + 1 + 1]? = _ := (heap_setCell_other w1 ⟨B, 1, none⟩ (B + 1 + 1 + 1) _ (by show B + 1 + 1 + 1 ≠ B; omega)).trans D.out.h3
  have LD := lay5_laid h22 h33 (by omega) (rowV p c s.cells) (.slice (some ⟨g, 0, none⟩) s.locks.length c') (.int .i64 ((s.shared : Int) + 1)) (.int .i64 0) (.bool true)
  have BL := Lib.hid (lay5_below (HB.out.setCell (p := ⟨B, 1, none⟩) (Nat.le_refl _) (.slice (some ⟨g, 0, none⟩) s.locks.length c')) (a := B + 1 + 1) (b := B + 1 + 1 + 1) (by omega) (by omega) (rowV p c s.cells) (.slice (some ⟨g, 0, none⟩) s.locks.length c') (.int .i64 ((s.shared : Int) + 1)) (.int .i64 0) (.bool true))
  have RL := Lib.hid (lay5_row (HL.out.put_other (a := ⟨B, 1, none⟩) G4.out.1 (.slice (some ⟨g, 0, none⟩) s.locks.length c')) (a := B + 1 + 1) (b := B + 1 + 1 + 1) G4.out.2.1 G4.out.2.2 (rowV p c s.cells) (.slice (some ⟨g, 0, none⟩) s.locks.length c') (.int .i64 ((s.shared : Int) + 1)) (.int .i64 0) (.bool true))
  subst hW
  have K := Lib.hid (H1.out.kept BL.out)
  clear D x0 x1 x2 y0 y1 y2 y3 r0 r1 r2 r3 r4 f0 f2 f3 h22 h33 BB HB HBW
  simp only [lay5] at LD BL RL K
  generalize ((((((w1.setCell ⟨w.heap.size, 1, none⟩ (.slice (some ⟨g, 0, none⟩) s.locks.length c')).setCell ⟨w.heap.size + 1 + 1, 0, none⟩ (rowV p c s.cells)).setCell ⟨w.heap.size + 1 + 1, 1, none⟩ (.slice (some ⟨g, 0, none⟩) s.locks.length c')).setCell ⟨w.heap.size + 1 + 1, 2, none⟩ (.int .i64 ((s.shared : Int) + 1))).setCell ⟨w.heap.size + 1 + 1 + 1, 0, none⟩ (.int .i64 0)).setCell ⟨w.heap.size + 1 + 1 + 1, 1, none⟩ (.bool true)) = W5 at *
  refine bodyPost_ret (v := .tuple #[.agg #[rowV p c s.cells, .slice (some ⟨g, 0, none⟩) s.locks.length c', .int .i64 ((s.shared : Int) + 1)], .agg #[.int .i64 0, .bool true]]) (by simp [results, Try.results25, go_sem, LD.r0, LD.r1, LD.r2, LD.r3, LD.r4]) rfl ?_
  unfold RefDoes
  rw [HE.out]
  exact ⟨_, rfl, gives_of (by simp) K.out (row_own GB.out RL.out (by simp)), BL.out⟩
set_option maxHeartbeats 1000000 in
theorem lock_5n1 (p q : Option Addr) (c d : Nat) (s : St) (i a b : Int) (w : World) (Bo : Nat) (_hB : Bo ≤ w.heap.size) (o1 : RowG.Own numK 3 Bo w (rowV p c s.cells) s.cells) (o2 : RowG.Own numK 3 Bo w (rowV q d s.locks) s.locks) (hs : s.shared < 4611686018427387904) (hi : Has s.locks i) (hv : ¬ 0 ≤ at' s.locks i) :
    Calls Try.prog 25 #[stV p q c d s, actV ⟨5, i, a, b⟩] w (RefDoes Bo s ⟨5, i, a, b⟩ w) := by
  have h2 := own_lies o2
  obtain ⟨j, rfl, hj, ha⟩ := has_nat hi
  obtain ⟨bz, oz, rfl, c0⟩ := h2.num hj
  have hj0 : (j : Int) < (s.locks.length : Int) := by omega
  have hw : IntKind.i64.wrap ((s.shared : Int) + 1) = ((s.shared + 1 : Nat) : Int) := wr_nat hs
  have c1 := (boxW_below w (rowV p c s.cells) (rowV (some ⟨bz, oz, none⟩) d s.locks) ((s.shared : Int) + 1) ⟨5, (j : Nat), a, b⟩).cell (p := ⟨bz, oz + j, none⟩) (World.block_lt_of_cell? w _ c0)
  rw [c0] at c1
  have HE := Lib.hid (show act s ⟨5, (j : Nat), a, b⟩ = (⟨s.cells, s.locks, s.shared + 1⟩, ⟨0, false⟩) by show ((unlock s (j : Nat) a).1, (⟨0, (unlock s (j : Nat) a).2⟩ : Told)) = _; unfold Cel.unlock; rw [if_pos hi, if_neg (fun h => hv h.1)])
  have d0 : decide (0 ≤ s.locks[j]) = false := decide_eq_false (by rw [← ha]; exact hv)
  clear hi ha hs hv
  go_enter Try.func25, Try.ntmps25
  go_wp2_with fail
  refine bodyPost_ret (v := .tuple #[.agg #[rowV p c s.cells, rowV (some ⟨bz, oz, none⟩) d s.locks, .int .i64 ((s.shared : Int) + 1)], .agg #[.int .i64 0, .bool false]]) (by simp [results, Try.results25, go_sem]) rfl ?_
  unfold RefDoes
  rw [HE.out]
  exact ⟨_, rfl, gives_of (by simp) (o1.kept (al4 ..)) (o2.kept (al4 ..)), al4 ..⟩
set_option maxHeartbeats 1000000 in
theorem lock_5n2 (p q : Option Addr) (c d : Nat) (s : St) (i a b : Int) (w : World) (Bo : Nat) (_hB : Bo ≤ w.heap.size) (o1 : RowG.Own numK 3 Bo w (rowV p c s.cells) s.cells) (o2 : RowG.Own numK 3 Bo w (rowV q d s.locks) s.locks) (hs : s.shared < 4611686018427387904) (hi : Has s.locks i) (hv : 0 ≤ at' s.locks i) (hw0 : at' s.locks i ≠ a) :
    Calls Try.prog 25 #[stV p q c d s, actV ⟨5, i, a, b⟩] w (RefDoes Bo s ⟨5, i, a, b⟩ w) := by
  have h2 := own_lies o2
  obtain ⟨j, rfl, hj, ha⟩ := has_nat hi
  obtain ⟨bz, oz, rfl, c0⟩ := h2.num hj
  have hj0 : (j : Int) < (s.locks.length : Int) := by omega
  have hw : IntKind.i64.wrap ((s.shared : Int) + 1) = ((s.shared + 1 : Nat) : Int) := wr_nat hs
  have c1 := (boxW_below w (rowV p c s.cells) (rowV (some ⟨bz, oz, none⟩) d s.locks) ((s.shared : Int) + 1) ⟨5, (j : Nat), a, b⟩).cell (p := ⟨bz, oz + j, none⟩) (World.block_lt_of_cell? w _ c0)
  rw [c0] at c1
  have HE := Lib.hid (show act s ⟨5, (j : Nat), a, b⟩ = (⟨s.cells, s.locks, s.shared + 1⟩, ⟨0, false⟩) by show ((unlock s (j : Nat) a).1, (⟨0, (unlock s (j : Nat) a).2⟩ : Told)) = _; unfold Cel.unlock; rw [if_pos hi, if_neg (fun h => hw0 h.2)])
  have d0 : decide (0 ≤ s.locks[j]) = true := decide_eq_true (by rw [← ha]; exact hv)
  have d1 : (s.locks[j] == a) = false := by rw [← ha]; simpa using hw0
  clear hi ha hs hv hw0
  go_enter Try.func25, Try.ntmps25
  go_wp2_with fail
  refine bodyPost_ret (v := .tuple #[.agg #[rowV p c s.cells, rowV (some ⟨bz, oz, none⟩) d s.locks, .int .i64 ((s.shared : Int) + 1)], .agg #[.int .i64 0, .bool false]]) (by simp [results, Try.results25, go_sem]) rfl ?_
  unfold RefDoes
  rw [HE.out]
  exact ⟨_, rfl, gives_of (by simp) (o1.kept (al4 ..)) (o2.kept (al4 ..)), al4 ..⟩
end Go.Proofs.Ytiokpccdkpgibaa.Cel
