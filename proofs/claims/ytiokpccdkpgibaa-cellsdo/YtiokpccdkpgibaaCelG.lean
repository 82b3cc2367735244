/-
  The law's own 'do': an act is done.
-/
import Derived.Test.YtiokpccdkpgibaaCelF
namespace Go.Proofs.Ytiokpccdkpgibaa.Cel
open Go.RowKit Go.Shelf Go.WideShapes RowG

attribute [local go_sem] Oper.semAt_some

abbrev actV (x : Act) : Value := .agg #[.int .i64 x.k, .int .i64 x.i, .int .i64 x.a, .int .i64 x.b]
abbrev toldV (t : Told) : Value := .agg #[.int .i64 t.n, .bool t.ok]
/-- The world in which do begins: its parameter's box, and its result's. -/
abbrev doW (w : World) (x : Act) : World := (w.alloc (.cells #[.int .i64 x.k, .int .i64 x.i, .int .i64 x.a, .int .i64 x.b] 34)).alloc (.cells #[.int .i64 0, .bool false] 31)
structure DoB (w : World) (x : Act) (W : World) : Prop where
  size : W.heap.size = w.heap.size + 2
  below : Below w.heap.size w W
  c0 : W.cell? ⟨w.heap.size, 0, none⟩ = some (.int .i64 x.k)
  c1 : W.cell? ⟨w.heap.size, 1, none⟩ = some (.int .i64 x.i)
  c2 : W.cell? ⟨w.heap.size, 2, none⟩ = some (.int .i64 x.a)
  c3 : W.cell? ⟨w.heap.size, 3, none⟩ = some (.int .i64 x.b)
  r : W.heap[w.heap.size + 1]? = some (.cells #[.int .i64 0, .bool false] 31 (0, 0))
theorem doB (w : World) (x : Act) : DoB w x (doW w x) := by
  refine ⟨by simp, ((Below.refl _ w).alloc (Nat.le_refl _) _).alloc (by simp) _, by simp, by simp, by simp, by simp, ?_⟩
  have := World.alloc_heap_new (w.alloc (.cells #[.int .i64 x.k, .int .i64 x.i, .int .i64 x.a, .int .i64 x.b] 34)) (.cells #[.int .i64 0, .bool false] 31)
  simpa using this
/-- What was told is laid into the result's box. -/
theorem told_cells {W : World} {b : Nat} {u v : Value} {T : TypeId} (h : W.heap[b]? = some (.cells #[u, v] T (0, 0))) (x y : Value) :
    ((W.setCell ⟨b, 0, none⟩ x).setCell ⟨b, 1, none⟩ y).cell? ⟨b, 0, none⟩ = some x ∧ ((W.setCell ⟨b, 0, none⟩ x).setCell ⟨b, 1, none⟩ y).cell? ⟨b, 1, none⟩ = some y := by
  have h1 := heap_setCell_same W b 0 _ _ x h
  have h2 := heap_setCell_same _ b 1 _ _ y h1
  constructor
  · simp [World.cell?, h2]
  · simp [World.cell?, h2]
/-- What an act does, in a world that it may lay blocks in. -/
def Acts (f : Foot) (s : St) (x : Act) (w : World) (e : Ending) (W' : World) : Prop := e = .returned (toldV (act s x).2) ∧ Held W' f (act s x).1 ∧ Turned f.has w W'
theorem acts_of {f : Foot} {s s' : St} {x : Act} {w w0 W : World} {b : Nat} {u v : Value} (hb : w.heap.size ≤ b) (h0 : Below w.heap.size w w0) (hs : Held W f s') (ht : Turned f.has w0 W) (he : (act s x).1 = s') (hl : ∀ k, f.has k → k < w.heap.size) :
    Held ((W.setCell ⟨b, 0, none⟩ u).setCell ⟨b, 1, none⟩ v) f (act s x).1 ∧ Turned f.has w ((W.setCell ⟨b, 0, none⟩ u).setCell ⟨b, 1, none⟩ v) := by
  have hS : Turned (fun k => w.heap.size ≤ k) W ((W.setCell ⟨b, 0, none⟩ u).setCell ⟨b, 1, none⟩ v) := ((Turned.refl _ _).setCell (a := ⟨b, 0, none⟩) hb _).setCell (a := ⟨b, 1, none⟩) hb _
  rw [he]
  refine ⟨hs.turned hS fun k hk => by have := hl k hk; omega, ?_⟩
  refine ⟨hS.os.trans (ht.os.trans h0.os), hS.tape.trans (ht.tape.trans h0.tape), hS.output.trans (ht.output.trans h0.output), Nat.le_trans h0.size (Nat.le_trans ht.size hS.size), fun k hk hn => ?_⟩
  have h1 := h0.size
  have h2 := ht.size
  exact (hS.rest k (by omega) (by omega)).trans ((ht.rest k (by omega) hn).trans (h0.block k hk))

section
variable {w : World} {f : Foot} {s : St}
set_option maxHeartbeats 400000 in
theorem do_0 (h : Held w f s) (hs : s.shared < 4611686018427387904) (i a b : Int) : Calls Try.prog 11 #[.pointer (some ⟨f.p, 0, none⟩), actV ⟨0, i, a, b⟩] w (Acts f s ⟨0, i, a, b⟩ w) := by
  have hl := Lib.hid h.lt
  have D := doB w ⟨0, i, a, b⟩
  have hk := h.kept D.below
  have HE := Lib.hid (show act s ⟨0, i, a, b⟩ = ((load s i).1, ⟨(load s i).2, false⟩) from rfl)
  have C := Lib.hid (Load1_told hk hs i)
  have DB := Lib.hid D
  clear D h hk hs
  go_enter Try.func11, Try.ntmps11
  go_wp2_with fail
  refine C.out.mono ?_
  rintro e w1 ⟨rfl, h1, ht⟩
  have r1 : w1.heap[w.heap.size + 1]? = some (.cells #[.int .i64 0, .bool false] 31 (0, 0)) :=
    (ht.rest _ (by rw [DB.out.size]; omega) (fun hk => by have := hl.out _ hk; omega)).trans DB.out.r
  have q0 : w1.cell? ⟨w.heap.size + 1, 0, none⟩ = some (.int .i64 0) := by simp [World.cell?, r1]
  have q1 : w1.cell? ⟨w.heap.size + 1, 1, none⟩ = some (.bool false) := by simp [World.cell?, r1]
  have f0 : w1.frozen? ⟨w.heap.size + 1, 0, none⟩ = false := by simp [World.frozen?, r1]
  have f1 : w1.frozen? ⟨w.heap.size + 1, 1, none⟩ = false := by simp [World.frozen?, r1]
  have R1 := Lib.hid r1
  have H1 := Lib.hid h1
  have T1 := Lib.hid ht
  clear r1 h1 ht
  go_wp2_with fail
  obtain ⟨z0, z1⟩ := told_cells R1.out (.int .i64 (load s i).2) (.bool false)
  obtain ⟨g1, g2⟩ := acts_of (f := f) (s := s) (x := ⟨0, i, a, b⟩) (u := .int .i64 (load s i).2) (v := .bool false) (b := w.heap.size + 1) (by omega) DB.out.below H1.out T1.out (by rw [HE.out]) hl.out
  refine bodyPost_ret (v := .agg #[.int .i64 (load s i).2, .bool false]) (by simp [results, Try.results11, go_sem, z0, z1]) rfl ⟨?_, g1, g2⟩
  rw [HE.out]
set_option maxHeartbeats 400000 in
theorem do_1 (h : Held w f s) (hs : s.shared < 4611686018427387904) (i a b : Int) : Calls Try.prog 11 #[.pointer (some ⟨f.p, 0, none⟩), actV ⟨1, i, a, b⟩] w (Acts f s ⟨1, i, a, b⟩ w) := by
  have hl := Lib.hid h.lt
  have D := doB w ⟨1, i, a, b⟩
  have hk := h.kept D.below
  have HE := Lib.hid (show act s ⟨1, i, a, b⟩ = (store s i a, ⟨0, false⟩) from rfl)
  have C := Lib.hid (Store_told hk hs i a)
  have DB := Lib.hid D
  clear D h hk hs
  go_enter Try.func11, Try.ntmps11
  go_wp2_with fail
  refine C.out.mono ?_
  rintro e w1 ⟨x, rfl, h1, ht⟩
  have r1 : w1.heap[w.heap.size + 1]? = some (.cells #[.int .i64 0, .bool false] 31 (0, 0)) :=
    (ht.rest _ (by rw [DB.out.size]; omega) (fun hk => by have := hl.out _ hk; omega)).trans DB.out.r
  have q0 : w1.cell? ⟨w.heap.size + 1, 0, none⟩ = some (.int .i64 0) := by simp [World.cell?, r1]
  have q1 : w1.cell? ⟨w.heap.size + 1, 1, none⟩ = some (.bool false) := by simp [World.cell?, r1]
  have f0 : w1.frozen? ⟨w.heap.size + 1, 0, none⟩ = false := by simp [World.frozen?, r1]
  have f1 : w1.frozen? ⟨w.heap.size + 1, 1, none⟩ = false := by simp [World.frozen?, r1]
  have R1 := Lib.hid r1
  have H1 := Lib.hid h1
  have T1 := Lib.hid ht
  clear r1 h1 ht
  go_wp2_with fail
  obtain ⟨z0, z1⟩ := told_cells R1.out (.int .i64 0) (.bool false)
  obtain ⟨g1, g2⟩ := acts_of (f := f) (s := s) (x := ⟨1, i, a, b⟩) (u := .int .i64 0) (v := .bool false) (b := w.heap.size + 1) (by omega) DB.out.below H1.out T1.out (by rw [HE.out]) hl.out
  refine bodyPost_ret (v := .agg #[.int .i64 0, .bool false]) (by simp [results, Try.results11, go_sem, z0, z1]) rfl ⟨?_, g1, g2⟩
  rw [HE.out]
set_option maxHeartbeats 400000 in
theorem do_2 (h : Held w f s) (hs : s.shared < 4611686018427387904) (i a b : Int) : Calls Try.prog 11 #[.pointer (some ⟨f.p, 0, none⟩), actV ⟨2, i, a, b⟩] w (Acts f s ⟨2, i, a, b⟩ w) := by
  have hl := Lib.hid h.lt
  have D := doB w ⟨2, i, a, b⟩
  have hk := h.kept D.below
  have HE := Lib.hid (show act s ⟨2, i, a, b⟩ = ((add s i a).1, ⟨(add s i a).2, false⟩) from rfl)
  have C := Lib.hid (Add1_told hk hs i a)
  have DB := Lib.hid D
  clear D h hk hs
  go_enter Try.func11, Try.ntmps11
  go_wp2_with fail
  refine C.out.mono ?_
  rintro e w1 ⟨rfl, h1, ht⟩
  have r1 : w1.heap[w.heap.size + 1]? = some (.cells #[.int .i64 0, .bool false] 31 (0, 0)) :=
    (ht.rest _ (by rw [DB.out.size]; omega) (fun hk => by have := hl.out _ hk; omega)).trans DB.out.r
  have q0 : w1.cell? ⟨w.heap.size + 1, 0, none⟩ = some (.int .i64 0) := by simp [World.cell?, r1]
  have q1 : w1.cell? ⟨w.heap.size + 1, 1, none⟩ = some (.bool false) := by simp [World.cell?, r1]
  have f0 : w1.frozen? ⟨w.heap.size + 1, 0, none⟩ = false := by simp [World.frozen?, r1]
  have f1 : w1.frozen? ⟨w.heap.size + 1, 1, none⟩ = false := by simp [World.frozen?, r1]
  have R1 := Lib.hid r1
  have H1 := Lib.hid h1
  have T1 := Lib.hid ht
  clear r1 h1 ht
  go_wp2_with fail
  obtain ⟨z0, z1⟩ := told_cells R1.out (.int .i64 (add s i a).2) (.bool false)
  obtain ⟨g1, g2⟩ := acts_of (f := f) (s := s) (x := ⟨2, i, a, b⟩) (u := .int .i64 (add s i a).2) (v := .bool false) (b := w.heap.size + 1) (by omega) DB.out.below H1.out T1.out (by rw [HE.out]) hl.out
  refine bodyPost_ret (v := .agg #[.int .i64 (add s i a).2, .bool false]) (by simp [results, Try.results11, go_sem, z0, z1]) rfl ⟨?_, g1, g2⟩
  rw [HE.out]
set_option maxHeartbeats 400000 in
theorem do_3 (h : Held w f s) (hs : s.shared < 4611686018427387904) (i a b : Int) : Calls Try.prog 11 #[.pointer (some ⟨f.p, 0, none⟩), actV ⟨3, i, a, b⟩] w (Acts f s ⟨3, i, a, b⟩ w) := by
  have hl := Lib.hid h.lt
  have D := doB w ⟨3, i, a, b⟩
  have hk := h.kept D.below
  have HE := Lib.hid (show act s ⟨3, i, a, b⟩ = ((swap s i a b).1, ⟨0, (swap s i a b).2⟩) from rfl)
  have C := Lib.hid (Swap_told hk hs i a b)
  have DB := Lib.hid D
  clear D h hk hs
  go_enter Try.func11, Try.ntmps11
  go_wp2_with fail
  refine C.out.mono ?_
  rintro e w1 ⟨rfl, h1, ht⟩
  have r1 : w1.heap[w.heap.size + 1]? = some (.cells #[.int .i64 0, .bool false] 31 (0, 0)) :=
    (ht.rest _ (by rw [DB.out.size]; omega) (fun hk => by have := hl.out _ hk; omega)).trans DB.out.r
  have q0 : w1.cell? ⟨w.heap.size + 1, 0, none⟩ = some (.int .i64 0) := by simp [World.cell?, r1]
  have q1 : w1.cell? ⟨w.heap.size + 1, 1, none⟩ = some (.bool false) := by simp [World.cell?, r1]
  have f0 : w1.frozen? ⟨w.heap.size + 1, 0, none⟩ = false := by simp [World.frozen?, r1]
  have f1 : w1.frozen? ⟨w.heap.size + 1, 1, none⟩ = false := by simp [World.frozen?, r1]
  have R1 := Lib.hid r1
  have H1 := Lib.hid h1
  have T1 := Lib.hid ht
  clear r1 h1 ht
  go_wp2_with fail
  obtain ⟨z0, z1⟩ := told_cells R1.out (.int .i64 0) (.bool (swap s i a b).2)
  obtain ⟨g1, g2⟩ := acts_of (f := f) (s := s) (x := ⟨3, i, a, b⟩) (u := .int .i64 0) (v := .bool (swap s i a b).2) (b := w.heap.size + 1) (by omega) DB.out.below H1.out T1.out (by rw [HE.out]) hl.out
  refine bodyPost_ret (v := .agg #[.int .i64 0, .bool (swap s i a b).2]) (by simp [results, Try.results11, go_sem, z0, z1]) rfl ⟨?_, g1, g2⟩
  rw [HE.out]
set_option maxHeartbeats 400000 in
theorem do_4 (h : Held w f s) (hs : s.shared < 4611686018427387904) (hown : ∀ x ∈ s.locks, -1 ≤ x) (i a b : Int) : Calls Try.prog 11 #[.pointer (some ⟨f.p, 0, none⟩), actV ⟨4, i, a, b⟩] w (Acts f s ⟨4, i, a, b⟩ w) := by
  have hl := Lib.hid h.lt
  have D := doB w ⟨4, i, a, b⟩
  have hk := h.kept D.below
  have HE := Lib.hid (show act s ⟨4, i, a, b⟩ = ((lock s i a).1, ⟨0, (lock s i a).2⟩) from rfl)
  have C := Lib.hid (Lock_told hk hs hown i a)
  have DB := Lib.hid D
  clear D h hk hs hown
  go_enter Try.func11, Try.ntmps11
  go_wp2_with fail
  refine C.out.mono ?_
  rintro e w1 ⟨rfl, h1, ht⟩
  have r1 : w1.heap[w.heap.size + 1]? = some (.cells #[.int .i64 0, .bool false] 31 (0, 0)) :=
    (ht.rest _ (by rw [DB.out.size]; omega) (fun hk => by have := hl.out _ hk; omega)).trans DB.out.r
  have q0 : w1.cell? ⟨w.heap.size + 1, 0, none⟩ = some (.int .i64 0) := by simp [World.cell?, r1]
  have q1 : w1.cell? ⟨w.heap.size + 1, 1, none⟩ = some (.bool false) := by simp [World.cell?, r1]
  have f0 : w1.frozen? ⟨w.heap.size + 1, 0, none⟩ = false := by simp [World.frozen?, r1]
  have f1 : w1.frozen? ⟨w.heap.size + 1, 1, none⟩ = false := by simp [World.frozen?, r1]
  have R1 := Lib.hid r1
  have H1 := Lib.hid h1
  have T1 := Lib.hid ht
  clear r1 h1 ht
  go_wp2_with fail
  obtain ⟨z0, z1⟩ := told_cells R1.out (.int .i64 0) (.bool (lock s i a).2)
  obtain ⟨g1, g2⟩ := acts_of (f := f) (s := s) (x := ⟨4, i, a, b⟩) (u := .int .i64 0) (v := .bool (lock s i a).2) (b := w.heap.size + 1) (by omega) DB.out.below H1.out T1.out (by rw [HE.out]) hl.out
  refine bodyPost_ret (v := .agg #[.int .i64 0, .bool (lock s i a).2]) (by simp [results, Try.results11, go_sem, z0, z1]) rfl ⟨?_, g1, g2⟩
  rw [HE.out]
set_option maxHeartbeats 400000 in
theorem do_5 (h : Held w f s) (hs : s.shared < 4611686018427387904) (i a b : Int) : Calls Try.prog 11 #[.pointer (some ⟨f.p, 0, none⟩), actV ⟨5, i, a, b⟩] w (Acts f s ⟨5, i, a, b⟩ w) := by
  have hl := Lib.hid h.lt
  have D := doB w ⟨5, i, a, b⟩
  have hk := h.kept D.below
  have HE := Lib.hid (show act s ⟨5, i, a, b⟩ = ((unlock s i a).1, ⟨0, (unlock s i a).2⟩) from rfl)
  have C := Lib.hid (Unlock_told hk hs i a)
  have DB := Lib.hid D
  clear D h hk hs
  go_enter Try.func11, Try.ntmps11
  go_wp2_with fail
  refine C.out.mono ?_
  rintro e w1 ⟨rfl, h1, ht⟩
  have r1 : w1.heap[w.heap.size + 1]? = some (.cells #[.int .i64 0, .bool false] 31 (0, 0)) :=
    (ht.rest _ (by rw [DB.out.size]; omega) (fun hk => by have := hl.out _ hk; omega)).trans DB.out.r
  have q0 : w1.cell? ⟨w.heap.size + 1, 0, none⟩ = some (.int .i64 0) := by simp [World.cell?, r1]
  have q1 : w1.cell? ⟨w.heap.size + 1, 1, none⟩ = some (.bool false) := by simp [World.cell?, r1]
  have f0 : w1.frozen? ⟨w.heap.size + 1, 0, none⟩ = false := by simp [World.frozen?, r1]
  have f1 : w1.frozen? ⟨w.heap.size + 1, 1, none⟩ = false := by simp [World.frozen?, r1]
  have R1 := Lib.hid r1
  have H1 := Lib.hid h1
  have T1 := Lib.hid ht
  clear r1 h1 ht
  go_wp2_with fail
  obtain ⟨z0, z1⟩ := told_cells R1.out (.int .i64 0) (.bool (unlock s i a).2)
  obtain ⟨g1, g2⟩ := acts_of (f := f) (s := s) (x := ⟨5, i, a, b⟩) (u := .int .i64 0) (v := .bool (unlock s i a).2) (b := w.heap.size + 1) (by omega) DB.out.below H1.out T1.out (by rw [HE.out]) hl.out
  refine bodyPost_ret (v := .agg #[.int .i64 0, .bool (unlock s i a).2]) (by simp [results, Try.results11, go_sem, z0, z1]) rfl ⟨?_, g1, g2⟩
  rw [HE.out]
set_option maxHeartbeats 400000 in
theorem do_other (h : Held w f s) {k : Int} (h0 : k ≠ 0) (h1 : k ≠ 1) (h2 : k ≠ 2) (h3 : k ≠ 3) (h4 : k ≠ 4) (h5 : k ≠ 5) (i a b : Int) : Calls Try.prog 11 #[.pointer (some ⟨f.p, 0, none⟩), actV ⟨k, i, a, b⟩] w (Acts f s ⟨k, i, a, b⟩ w) := by
  have hl := Lib.hid h.lt
  have D := doB w ⟨k, i, a, b⟩
  have hk := h.kept D.below
  have HE := Lib.hid (show act s ⟨k, i, a, b⟩ = (s, ⟨owner s i, false⟩) by
    unfold act; rw [if_neg h0, if_neg h1, if_neg h2, if_neg h3, if_neg h4, if_neg h5])
  have d0 : (k == 0) = false := beq_false_of_ne h0
  have d1 : (k == 1) = false := beq_false_of_ne h1
  have d2 : (k == 2) = false := beq_false_of_ne h2
  have d3 : (k == 3) = false := beq_false_of_ne h3
  have d4 : (k == 4) = false := beq_false_of_ne h4
  have d5 : (k == 5) = false := beq_false_of_ne h5
  clear h0 h1 h2 h3 h4 h5
  have C := Lib.hid (Owner_told hk i)
  have DB := Lib.hid D
  clear D h hk
  go_enter Try.func11, Try.ntmps11
  go_wp2_with fail
  refine C.out.mono ?_
  rintro e w1 ⟨rfl, h1, ht⟩
  have r1 : w1.heap[w.heap.size + 1]? = some (.cells #[.int .i64 0, .bool false] 31 (0, 0)) :=
    (ht.rest _ (by rw [DB.out.size]; omega) (fun hk => by have := hl.out _ hk; omega)).trans DB.out.r
  have q0 : w1.cell? ⟨w.heap.size + 1, 0, none⟩ = some (.int .i64 0) := by simp [World.cell?, r1]
  have q1 : w1.cell? ⟨w.heap.size + 1, 1, none⟩ = some (.bool false) := by simp [World.cell?, r1]
  have f0 : w1.frozen? ⟨w.heap.size + 1, 0, none⟩ = false := by simp [World.frozen?, r1]
  have f1 : w1.frozen? ⟨w.heap.size + 1, 1, none⟩ = false := by simp [World.frozen?, r1]
  have R1 := Lib.hid r1
  have H1 := Lib.hid h1
  have T1 := Lib.hid ht
  clear r1 h1 ht
  go_wp2_with fail
  obtain ⟨z0, z1⟩ := told_cells R1.out (.int .i64 (owner s i)) (.bool false)
  obtain ⟨g1, g2⟩ := acts_of (f := f) (s := s) (x := ⟨k, i, a, b⟩) (u := .int .i64 (owner s i)) (v := .bool false) (b := w.heap.size + 1) (by omega) DB.out.below H1.out T1.out (by rw [HE.out]) hl.out
  refine bodyPost_ret (v := .agg #[.int .i64 (owner s i), .bool false]) (by simp [results, Try.results11, go_sem, z0, z1]) rfl ⟨?_, g1, g2⟩
  rw [HE.out]
end
end Go.Proofs.Ytiokpccdkpgibaa.Cel
