/-
  The document's cells (package gangplankref14): New and Do, for any act.
-/
import Derived.Test.YtiokpccdkpgibaaCelJ
namespace Go.Proofs.Ytiokpccdkpgibaa.Cel
open Go.RowKit Go.Shelf Go.WideShapes RowG

attribute [local go_sem] Oper.semAt_some

theorem act_other (s : St) {k : Int} (i a b : Int) (h0 : k ≠ 0) (h1 : k ≠ 1) (h2 : k ≠ 2) (h3 : k ≠ 3) (h4 : k ≠ 4) (h5 : k ≠ 5) : act s ⟨k, i, a, b⟩ = (s, ⟨owner s i, false⟩) := by
  unfold act; rw [if_neg h0, if_neg h1, if_neg h2, if_neg h3, if_neg h4, if_neg h5]
theorem own_same {α : Type} {K : Kind α} {T : TypeId} {B : Nat} {W W' : World} {v : Value} {xs : List α} (h : RowG.Own K T B W v xs) (hs : ∀ g, v.ownBlock = some g → W'.heap[g]? = W.heap[g]?) : RowG.Own K T B W' v xs := by
  refine ⟨h.1, ?_⟩
  rcases h.2 with h0 | ⟨g, cap, cur, hv, hb, hg, r⟩
  · exact .inl h0
  · exact .inr ⟨g, cap, cur, hv, hb, (hs g (by rw [hv]; rfl)).trans hg, r⟩
theorem own_lay5 {Bo : Nat} {W : World} {a b : Nat} {v : Value} {xs : List Int} {x0 y0 z0 u0 v0 : Value} {S T : TypeId} (h : RowG.Own numK 3 Bo W v xs) (ha : W.heap[a]? = some (.cells #[x0, y0, z0] S (0, 0))) (hb : W.heap[b]? = some (.cells #[u0, v0] T (0, 0))) (hS : S ≠ 3) (hT : T ≠ 3) (x y z u u' : Value) :
    RowG.Own numK 3 Bo (lay5 W a b x y z u u') v xs := by
  refine own_same h fun g hg => ?_
  have h1 : g ≠ a := fun e => by
    rcases RowG.own_ne h ha (fun cur e' => by cases e'; exact hS rfl) with h' | h'
    · rw [hg] at h'; cases h'
    · exact h' (by rw [hg, e])
  have h2 : g ≠ b := fun e => by
    rcases RowG.own_ne h hb (fun cur e' => by cases e'; exact hT rfl) with h' | h'
    · rw [hg] at h'; cases h'
    · exact h' (by rw [hg, e])
  unfold lay5
  rw [heap_setCell_other _ ⟨b, 1, none⟩ g _ (by exact h2), heap_setCell_other _ ⟨b, 0, none⟩ g _ (by exact h2), heap_setCell_other _ ⟨a, 2, none⟩ g _ (by exact h1), heap_setCell_other _ ⟨a, 1, none⟩ g _ (by exact h1), heap_setCell_other _ ⟨a, 0, none⟩ g _ (by exact h1)]
section
variable (p q : Option Addr) (c d : Nat) (s : St)
theorem cell_any (x : Act) (w : World) (Bo : Nat) (hB : Bo ≤ w.heap.size) (o1 : RowG.Own numK 3 Bo w (rowV p c s.cells) s.cells) (o2 : RowG.Own numK 3 Bo w (rowV q d s.locks) s.locks) (hs : s.shared < 4611686018427387904) (hl : s.cells.length ≤ 1000000000) (hi : Has s.cells x.i) (h0 : 0 ≤ x.k) (h3 : x.k ≤ 3) :
    Calls Try.prog 24 #[stV p q c d s, actV x] w (RefDoes Bo s x w) := by
  obtain ⟨k, i, a, b⟩ := x
  obtain h | h | h | h : k = 0 ∨ k = 1 ∨ k = 2 ∨ k = 3 := by have : 0 ≤ k := h0; have : k ≤ 3 := h3; omega
  · subst h; exact cell_0 p q c d s i a b w Bo hB o1 o2 hs hi
  · subst h; exact cell_1 p q c d s i a b w Bo hB o1 o2 hs hi hl
  · subst h; exact cell_2 p q c d s i a b w Bo hB o1 o2 hs hi hl
  · subst h
    by_cases hv : at' s.cells i = a
    · exact cell_3y p q c d s i a b w Bo hB o1 o2 hs hi hl hv
    · exact cell_3n p q c d s i a b w Bo hB o1 o2 hs hi hv
theorem lock_any (x : Act) (w : World) (Bo : Nat) (hB : Bo ≤ w.heap.size) (o1 : RowG.Own numK 3 Bo w (rowV p c s.cells) s.cells) (o2 : RowG.Own numK 3 Bo w (rowV q d s.locks) s.locks) (hs : s.shared < 4611686018427387904) (hl : s.locks.length ≤ 1000000000) (hi : Has s.locks x.i) (h4 : x.k = 4 ∨ x.k = 5) :
    Calls Try.prog 25 #[stV p q c d s, actV x] w (RefDoes Bo s x w) := by
  obtain ⟨k, i, a, b⟩ := x
  rcases h4 with h | h
  · have h' : k = 4 := h
    subst h'
    by_cases hv : at' s.locks i < 0
    · by_cases hw : 0 ≤ a
      · exact lock_4y p q c d s i a b w Bo hB o1 o2 hs hi hl hv hw
      · exact lock_4n2 p q c d s i a b w Bo hB o1 o2 hs hi hv hw
    · exact lock_4n1 p q c d s i a b w Bo hB o1 o2 hs hi hv
  · have h' : k = 5 := h
    subst h'
    by_cases hv : 0 ≤ at' s.locks i
    · by_cases hw : at' s.locks i = a
      · exact lock_5y p q c d s i a b w Bo hB o1 o2 hs hi hl hv hw
      · exact lock_5n2 p q c d s i a b w Bo hB o1 o2 hs hi hv hw
    · exact lock_5n1 p q c d s i a b w Bo hB o1 o2 hs hi hv
set_option maxHeartbeats 1000000 in
theorem Do_c1 (k i a b : Int) (w : World) (Bo : Nat) (_hB : Bo ≤ w.heap.size) (o1 : RowG.Own numK 3 Bo w (rowV p c s.cells) s.cells) (o2 : RowG.Own numK 3 Bo w (rowV q d s.locks) s.locks) (h0 : 0 ≤ k) (h3 : k ≤ 3) (hi : ¬ Has s.cells i) (hn : i < 0) :
    Calls Try.prog 12 #[stV p q c d s, actV ⟨k, i, a, b⟩] w (RefDoes Bo s ⟨k, i, a, b⟩ w) := by
  have HE := Lib.hid (show act s ⟨k, i, a, b⟩ = (s, ⟨0, false⟩) by
    obtain h | h | h | h : k = 0 ∨ k = 1 ∨ k = 2 ∨ k = 3 := by omega
    · subst h; show ((load s i).1, (⟨(load s i).2, false⟩ : Told)) = _; unfold load; rw [if_neg hi]
    · subst h; show (store s i a, (⟨0, false⟩ : Told)) = _; unfold store; rw [if_neg hi]
    · subst h; show ((add s i a).1, (⟨(add s i a).2, false⟩ : Told)) = _; unfold add; rw [if_neg hi]
    · subst h; show ((swap s i a b).1, (⟨0, (swap s i a b).2⟩ : Told)) = _; unfold swap; rw [if_neg hi])
  have k0 : decide (0 ≤ k) = true := decide_eq_true h0
  have k3 : decide (k ≤ 3) = true := decide_eq_true h3
  have d0 : decide (i < 0) = true := decide_eq_true hn
  clear h0 h3 hi hn
  go_enter Try.func12, Try.ntmps12
  go_wp2_with fail
  refine bodyPost_ret (v := .tuple #[stV p q c d s, .agg #[.int .i64 0, .bool false]]) (by simp [results, Try.results12, go_sem]) rfl ?_
  unfold RefDoes
  rw [HE.out]
  exact ⟨_, rfl, gives_of rfl (o1.kept (al4 ..)) (o2.kept (al4 ..)), al4 ..⟩
set_option maxHeartbeats 1000000 in
theorem Do_c2 (k i a b : Int) (w : World) (Bo : Nat) (_hB : Bo ≤ w.heap.size) (o1 : RowG.Own numK 3 Bo w (rowV p c s.cells) s.cells) (o2 : RowG.Own numK 3 Bo w (rowV q d s.locks) s.locks) (h0 : 0 ≤ k) (h3 : k ≤ 3) (hi : ¬ Has s.cells i) (hn : ¬ i < 0) :
    Calls Try.prog 12 #[stV p q c d s, actV ⟨k, i, a, b⟩] w (RefDoes Bo s ⟨k, i, a, b⟩ w) := by
  have HE := Lib.hid (show act s ⟨k, i, a, b⟩ = (s, ⟨0, false⟩) by
    obtain h | h | h | h : k = 0 ∨ k = 1 ∨ k = 2 ∨ k = 3 := by omega
    · subst h; show ((load s i).1, (⟨(load s i).2, false⟩ : Told)) = _; unfold load; rw [if_neg hi]
    · subst h; show (store s i a, (⟨0, false⟩ : Told)) = _; unfold store; rw [if_neg hi]
    · subst h; show ((add s i a).1, (⟨(add s i a).2, false⟩ : Told)) = _; unfold add; rw [if_neg hi]
    · subst h; show ((swap s i a b).1, (⟨0, (swap s i a b).2⟩ : Told)) = _; unfold swap; rw [if_neg hi])
  obtain ⟨j, rfl⟩ := Int.eq_ofNat_of_zero_le (show 0 ≤ i by omega)
  have k0 : decide (0 ≤ k) = true := decide_eq_true h0
  have k3 : decide (k ≤ 3) = true := decide_eq_true h3
  have d0 : decide ((j : Int) < 0) = false := decide_eq_false hn
  have hj : s.cells.length ≤ j := by unfold Has at hi; omega
  have d1 : decide ((s.cells.length : Int) ≤ (j : Int)) = true := decide_eq_true (by omega)
  have d2 : decide (s.cells.length ≤ j) = true := decide_eq_true hj
  clear h0 h3 hi hn hj
  go_enter Try.func12, Try.ntmps12
  go_wp2_with fail
  refine bodyPost_ret (v := .tuple #[stV p q c d s, .agg #[.int .i64 0, .bool false]]) (by simp [results, Try.results12, go_sem]) rfl ?_
  unfold RefDoes
  rw [HE.out]
  exact ⟨_, rfl, gives_of rfl (o1.kept (al4 ..)) (o2.kept (al4 ..)), al4 ..⟩
set_option maxHeartbeats 1000000 in
theorem Do_c3 (k i a b : Int) (w : World) (Bo : Nat) (hB : Bo ≤ w.heap.size) (o1 : RowG.Own numK 3 Bo w (rowV p c s.cells) s.cells) (o2 : RowG.Own numK 3 Bo w (rowV q d s.locks) s.locks) (hs : s.shared < 4611686018427387904) (hl : s.cells.length ≤ 1000000000) (h0 : 0 ≤ k) (h3 : k ≤ 3) (hi : Has s.cells i) :
    Calls Try.prog 12 #[stV p q c d s, actV ⟨k, i, a, b⟩] w (RefDoes Bo s ⟨k, i, a, b⟩ w) := by
  obtain ⟨j, rfl⟩ := Int.eq_ofNat_of_zero_le hi.1
  have hj : j < s.cells.length := hi.lt
  have d0 : decide ((j : Int) < 0) = false := decide_eq_false (by omega)
  have d1 : decide ((s.cells.length : Int) ≤ (j : Int)) = false := decide_eq_false (by omega)
  have d2 : decide (s.cells.length ≤ j) = false := decide_eq_false (by omega)
  have BX := Lib.hid (boxW_boxes w (rowV p c s.cells) (rowV q d s.locks) (s.shared : Nat) ⟨k, (j : Nat), a, b⟩)
  have BB := Lib.hid (boxW_below w (rowV p c s.cells) (rowV q d s.locks) (s.shared : Nat) ⟨k, (j : Nat), a, b⟩)
  have C := Lib.hid (cell_any p q c d s ⟨k, (j : Nat), a, b⟩ _ Bo (Nat.le_trans hB BB.out.size) (o1.kept BB.out) (o2.kept BB.out) hs hl hi h0 h3)
  have k0 : decide (0 ≤ k) = true := decide_eq_true h0
  have k3 : decide (k ≤ 3) = true := decide_eq_true h3
  clear h0 h3 hi hj hs hl o1 o2 hB
  go_enter Try.func12, Try.ntmps12
  go_wp2_with fail
  refine C.out.mono ?_
  rintro e w1 ⟨v, rfl, ⟨x, y, rfl, h1, h2⟩, hb⟩
  obtain ⟨⟨⟨x0, x1, x2⟩, y0, y1, y2, y3⟩, ⟨⟨r0, r1, r2⟩, r3, r4⟩, f0, f2, f3⟩ := (BX.out.kept hb).all
  have D := Lib.hid (BX.out.kept hb)
  have H1 := Lib.hid h1
  have H2 := Lib.hid h2
  have HB := Lib.hid (below2 BB.out hb)
  clear h1 h2 hb BX C BB
  generalize hact : act s ⟨k, (j : Nat), a, b⟩ = r at *
  have HR := Lib.hid hact
  clear hact
  obtain ⟨n, m⟩ := r
  obtain ⟨tn, to⟩ := m
  obtain ⟨ax, cx, rfl, -⟩ := H1.out.lies
  obtain ⟨ay, cy, rfl, -⟩ := H2.out.lies
  go_wp2_with fail
  have LD := lay5_laid D.out.h2 D.out.h3 (by omega) (.slice ax n.cells.length cx) (.slice ay n.locks.length cy) (.int .i64 (n.shared : Nat)) (.int .i64 tn) (.bool to)
  have BL := Lib.hid (lay5_below HB.out (a := w.heap.size + 1 + 1) (b := w.heap.size + 1 + 1 + 1) (by omega) (by omega) (.slice ax n.cells.length cx) (.slice ay n.locks.length cy) (.int .i64 (n.shared : Nat)) (.int .i64 tn) (.bool to))
  have O1 := Lib.hid (own_lay5 H1.out D.out.h2 D.out.h3 (by decide) (by decide) (.slice ax n.cells.length cx) (.slice ay n.locks.length cy) (.int .i64 (n.shared : Nat)) (.int .i64 tn) (.bool to))
  have O2 := Lib.hid (own_lay5 H2.out D.out.h2 D.out.h3 (by decide) (by decide) (.slice ax n.cells.length cx) (.slice ay n.locks.length cy) (.int .i64 (n.shared : Nat)) (.int .i64 tn) (.bool to))
  clear D x0 x1 x2 y0 y1 y2 y3 r0 r1 r2 r3 r4 f0 f2 f3 HB H1 H2
  simp only [lay5] at LD BL O1 O2
  generalize (((((w1.setCell ⟨w.heap.size + 1 + 1, 0, none⟩ (.slice ax n.cells.length cx)).setCell ⟨w.heap.size + 1 + 1, 1, none⟩ (.slice ay n.locks.length cy)).setCell ⟨w.heap.size + 1 + 1, 2, none⟩ (.int .i64 (n.shared : Nat))).setCell ⟨w.heap.size + 1 + 1 + 1, 0, none⟩ (.int .i64 tn)).setCell ⟨w.heap.size + 1 + 1 + 1, 1, none⟩ (.bool to)) = W5 at *
  refine bodyPost_ret (v := .tuple #[.agg #[.slice ax n.cells.length cx, .slice ay n.locks.length cy, .int .i64 (n.shared : Nat)], .agg #[.int .i64 tn, .bool to]]) (by simp [results, Try.results12, go_sem, LD.r0, LD.r1, LD.r2, LD.r3, LD.r4]) rfl ?_
  unfold RefDoes
  rw [HR.out]
  exact ⟨_, rfl, gives_of rfl O1.out O2.out, BL.out⟩
set_option maxHeartbeats 1000000 in
theorem Do_l41 (k i a b : Int) (w : World) (Bo : Nat) (_hB : Bo ≤ w.heap.size) (o1 : RowG.Own numK 3 Bo w (rowV p c s.cells) s.cells) (o2 : RowG.Own numK 3 Bo w (rowV q d s.locks) s.locks) (h0 : 0 ≤ k) (h3 : ¬ k ≤ 3) (h4 : k = 4) (hi : ¬ Has s.locks i) (hn : i < 0) :
    Calls Try.prog 12 #[stV p q c d s, actV ⟨k, i, a, b⟩] w (RefDoes Bo s ⟨k, i, a, b⟩ w) := by
  have HE := Lib.hid (show act s ⟨k, i, a, b⟩ = (s, ⟨0, false⟩) by
    subst h4
    show ((lock s i a).1, (⟨0, (lock s i a).2⟩ : Told)) = _; unfold Cel.lock; rw [if_neg hi])
  have k0 : decide (0 ≤ k) = true := decide_eq_true h0
  have k3 : decide (k ≤ 3) = false := decide_eq_false h3
  have e4 : (k == 4) = true := by simpa using h4
  have d0 : decide (i < 0) = true := decide_eq_true hn
  clear h0 h3 hi hn h4
  go_enter Try.func12, Try.ntmps12
  go_wp2_with fail
  refine bodyPost_ret (v := .tuple #[stV p q c d s, .agg #[.int .i64 0, .bool false]]) (by simp [results, Try.results12, go_sem]) rfl ?_
  unfold RefDoes
  rw [HE.out]
  exact ⟨_, rfl, gives_of rfl (o1.kept (al4 ..)) (o2.kept (al4 ..)), al4 ..⟩
set_option maxHeartbeats 1000000 in
theorem Do_l42 (k i a b : Int) (w : World) (Bo : Nat) (_hB : Bo ≤ w.heap.size) (o1 : RowG.Own numK 3 Bo w (rowV p c s.cells) s.cells) (o2 : RowG.Own numK 3 Bo w (rowV q d s.locks) s.locks) (h0 : 0 ≤ k) (h3 : ¬ k ≤ 3) (h4 : k = 4) (hi : ¬ Has s.locks i) (hn : ¬ i < 0) :
    Calls Try.prog 12 #[stV p q c d s, actV ⟨k, i, a, b⟩] w (RefDoes Bo s ⟨k, i, a, b⟩ w) := by
  have HE := Lib.hid (show act s ⟨k, i, a, b⟩ = (s, ⟨0, false⟩) by
    subst h4
    show ((lock s i a).1, (⟨0, (lock s i a).2⟩ : Told)) = _; unfold Cel.lock; rw [if_neg hi])
  obtain ⟨j, rfl⟩ := Int.eq_ofNat_of_zero_le (show 0 ≤ i by omega)
  have k0 : decide (0 ≤ k) = true := decide_eq_true h0
  have k3 : decide (k ≤ 3) = false := decide_eq_false h3
  have e4 : (k == 4) = true := by simpa using h4
  have d0 : decide ((j : Int) < 0) = false := decide_eq_false hn
  have hj : s.locks.length ≤ j := by unfold Has at hi; omega
  have d1 : decide ((s.locks.length : Int) ≤ (j : Int)) = true := decide_eq_true (by omega)
  have d2 : decide (s.locks.length ≤ j) = true := decide_eq_true hj
  clear h0 h3 hi hn hj h4
  go_enter Try.func12, Try.ntmps12
  go_wp2_with fail
  refine bodyPost_ret (v := .tuple #[stV p q c d s, .agg #[.int .i64 0, .bool false]]) (by simp [results, Try.results12, go_sem]) rfl ?_
  unfold RefDoes
  rw [HE.out]
  exact ⟨_, rfl, gives_of rfl (o1.kept (al4 ..)) (o2.kept (al4 ..)), al4 ..⟩
set_option maxHeartbeats 1000000 in
theorem Do_l43 (k i a b : Int) (w : World) (Bo : Nat) (hB : Bo ≤ w.heap.size) (o1 : RowG.Own numK 3 Bo w (rowV p c s.cells) s.cells) (o2 : RowG.Own numK 3 Bo w (rowV q d s.locks) s.locks) (hs : s.shared < 4611686018427387904) (hl : s.locks.length ≤ 1000000000) (h0 : 0 ≤ k) (h3 : ¬ k ≤ 3) (h4 : k = 4) (hi : Has s.locks i) :
    Calls Try.prog 12 #[stV p q c d s, actV ⟨k, i, a, b⟩] w (RefDoes Bo s ⟨k, i, a, b⟩ w) := by
  obtain ⟨j, rfl⟩ := Int.eq_ofNat_of_zero_le hi.1
  have hj : j < s.locks.length := hi.lt
  have d0 : decide ((j : Int) < 0) = false := decide_eq_false (by omega)
  have d1 : decide ((s.locks.length : Int) ≤ (j : Int)) = false := decide_eq_false (by omega)
  have d2 : decide (s.locks.length ≤ j) = false := decide_eq_false (by omega)
  have BX := Lib.hid (boxW_boxes w (rowV p c s.cells) (rowV q d s.locks) (s.shared : Nat) ⟨k, (j : Nat), a, b⟩)
  have BB := Lib.hid (boxW_below w (rowV p c s.cells) (rowV q d s.locks) (s.shared : Nat) ⟨k, (j : Nat), a, b⟩)
  have C := Lib.hid (lock_any p q c d s ⟨k, (j : Nat), a, b⟩ _ Bo (Nat.le_trans hB BB.out.size) (o1.kept BB.out) (o2.kept BB.out) hs hl hi (by exact .inl h4))
  have k0 : decide (0 ≤ k) = true := decide_eq_true h0
  have k3 : decide (k ≤ 3) = false := decide_eq_false h3
  have e4 : (k == 4) = true := by simpa using h4
  clear h0 h3 hi hj hs hl h4 o1 o2 hB
  go_enter Try.func12, Try.ntmps12
  go_wp2_with fail
  refine C.out.mono ?_
  rintro e w1 ⟨v, rfl, ⟨x, y, rfl, h1, h2⟩, hb⟩
  obtain ⟨⟨⟨x0, x1, x2⟩, y0, y1, y2, y3⟩, ⟨⟨r0, r1, r2⟩, r3, r4⟩, f0, f2, f3⟩ := (BX.out.kept hb).all
  have D := Lib.hid (BX.out.kept hb)
  have H1 := Lib.hid h1
  have H2 := Lib.hid h2
  have HB := Lib.hid (below2 BB.out hb)
  clear h1 h2 hb BX C BB
  generalize hact : act s ⟨k, (j : Nat), a, b⟩ = r at *
  have HR := Lib.hid hact
  clear hact
  obtain ⟨n, m⟩ := r
  obtain ⟨tn, to⟩ := m
  obtain ⟨ax, cx, rfl, -⟩ := H1.out.lies
  obtain ⟨ay, cy, rfl, -⟩ := H2.out.lies
  go_wp2_with fail
  have LD := lay5_laid D.out.h2 D.out.h3 (by omega) (.slice ax n.cells.length cx) (.slice ay n.locks.length cy) (.int .i64 (n.shared : Nat)) (.int .i64 tn) (.bool to)
  have BL := Lib.hid (lay5_below HB.out (a := w.heap.size + 1 + 1) (b := w.heap.size + 1 + 1 + 1) (by omega) (by omega) (.slice ax n.cells.length cx) (.slice ay n.locks.length cy) (.int .i64 (n.shared : Nat)) (.int .i64 tn) (.bool to))
  have O1 := Lib.hid (own_lay5 H1.out D.out.h2 D.out.h3 (by decide) (by decide) (.slice ax n.cells.length cx) (.slice ay n.locks.length cy) (.int .i64 (n.shared : Nat)) (.int .i64 tn) (.bool to))
  have O2 := Lib.hid (own_lay5 H2.out D.out.h2 D.out.h3 (by decide) (by decide) (.slice ax n.cells.length cx) (.slice ay n.locks.length cy) (.int .i64 (n.shared : Nat)) (.int .i64 tn) (.bool to))
  clear D x0 x1 x2 y0 y1 y2 y3 r0 r1 r2 r3 r4 f0 f2 f3 HB H1 H2
  simp only [lay5] at LD BL O1 O2
  generalize (((((w1.setCell ⟨w.heap.size + 1 + 1, 0, none⟩ (.slice ax n.cells.length cx)).setCell ⟨w.heap.size + 1 + 1, 1, none⟩ (.slice ay n.locks.length cy)).setCell ⟨w.heap.size + 1 + 1, 2, none⟩ (.int .i64 (n.shared : Nat))).setCell ⟨w.heap.size + 1 + 1 + 1, 0, none⟩ (.int .i64 tn)).setCell ⟨w.heap.size + 1 + 1 + 1, 1, none⟩ (.bool to)) = W5 at *
  refine bodyPost_ret (v := .tuple #[.agg #[.slice ax n.cells.length cx, .slice ay n.locks.length cy, .int .i64 (n.shared : Nat)], .agg #[.int .i64 tn, .bool to]]) (by simp [results, Try.results12, go_sem, LD.r0, LD.r1, LD.r2, LD.r3, LD.r4]) rfl ?_
  unfold RefDoes
  rw [HR.out]
  exact ⟨_, rfl, gives_of rfl O1.out O2.out, BL.out⟩
set_option maxHeartbeats 1000000 in
theorem Do_l51 (k i a b : Int) (w : World) (Bo : Nat) (_hB : Bo ≤ w.heap.size) (o1 : RowG.Own numK 3 Bo w (rowV p c s.cells) s.cells) (o2 : RowG.Own numK 3 Bo w (rowV q d s.locks) s.locks) (h0 : 0 ≤ k) (h3 : ¬ k ≤ 3) (h5 : k = 5) (hi : ¬ Has s.locks i) (hn : i < 0) :
    Calls Try.prog 12 #[stV p q c d s, actV ⟨k, i, a, b⟩] w (RefDoes Bo s ⟨k, i, a, b⟩ w) := by
  have HE := Lib.hid (show act s ⟨k, i, a, b⟩ = (s, ⟨0, false⟩) by
    subst h5
    show ((unlock s i a).1, (⟨0, (unlock s i a).2⟩ : Told)) = _; unfold Cel.unlock; rw [if_neg hi])
  have k0 : decide (0 ≤ k) = true := decide_eq_true h0
  have k3 : decide (k ≤ 3) = false := decide_eq_false h3
  have e4 : (k == 4) = false := by simp [h5]
  have e5 : (k == 5) = true := by simpa using h5
  have d0 : decide (i < 0) = true := decide_eq_true hn
  clear h0 h3 hi hn h5
  go_enter Try.func12, Try.ntmps12
  go_wp2_with fail
  refine bodyPost_ret (v := .tuple #[stV p q c d s, .agg #[.int .i64 0, .bool false]]) (by simp [results, Try.results12, go_sem]) rfl ?_
  unfold RefDoes
  rw [HE.out]
  exact ⟨_, rfl, gives_of rfl (o1.kept (al4 ..)) (o2.kept (al4 ..)), al4 ..⟩
set_option maxHeartbeats 1000000 in
theorem Do_l52 (k i a b : Int) (w : World) (Bo : Nat) (_hB : Bo ≤ w.heap.size) (o1 : RowG.Own numK 3 Bo w (rowV p c s.cells) s.cells) (o2 : RowG.Own numK 3 Bo w (rowV q d s.locks) s.locks) (h0 : 0 ≤ k) (h3 : ¬ k ≤ 3) (h5 : k = 5) (hi : ¬ Has s.locks i) (hn : ¬ i < 0) :
    Calls Try.prog 12 #[stV p q c d s, actV ⟨k, i, a, b⟩] w (RefDoes Bo s ⟨k, i, a, b⟩ w) := by
  have HE := Lib.hid (show act s ⟨k, i, a, b⟩ = (s, ⟨0, false⟩) by
    subst h5
    show ((unlock s i a).1, (⟨0, (unlock s i a).2⟩ : Told)) = _; unfold Cel.unlock; rw [if_neg hi])
  obtain ⟨j, rfl⟩ := Int.eq_ofNat_of_zero_le (show 0 ≤ i by omega)
  have k0 : decide (0 ≤ k) = true := decide_eq_true h0
  have k3 : decide (k ≤ 3) = false := decide_eq_false h3
  have e4 : (k == 4) = false := by simp [h5]
  have e5 : (k == 5) = true := by simpa using h5
  have d0 : decide ((j : Int) < 0) = false := decide_eq_false hn
  have hj : s.locks.length ≤ j := by unfold Has at hi; omega
  have d1 : decide ((s.locks.length : Int) ≤ (j : Int)) = true := decide_eq_true (by omega)
  have d2 : decide (s.locks.length ≤ j) = true := decide_eq_true hj
  clear h0 h3 hi hn hj h5
  go_enter Try.func12, Try.ntmps12
  go_wp2_with fail
  refine bodyPost_ret (v := .tuple #[stV p q c d s, .agg #[.int .i64 0, .bool false]]) (by simp [results, Try.results12, go_sem]) rfl ?_
  unfold RefDoes
  rw [HE.out]
  exact ⟨_, rfl, gives_of rfl (o1.kept (al4 ..)) (o2.kept (al4 ..)), al4 ..⟩
set_option maxHeartbeats 1000000 in
theorem Do_l53 (k i a b : Int) (w : World) (Bo : Nat) (hB : Bo ≤ w.heap.size) (o1 : RowG.Own numK 3 Bo w (rowV p c s.cells) s.cells) (o2 : RowG.Own numK 3 Bo w (rowV q d s.locks) s.locks) (hs : s.shared < 4611686018427387904) (hl : s.locks.length ≤ 1000000000) (h0 : 0 ≤ k) (h3 : ¬ k ≤ 3) (h5 : k = 5) (hi : Has s.locks i) :
    Calls Try.prog 12 #[stV p q c d s, actV ⟨k, i, a, b⟩] w (RefDoes Bo s ⟨k, i, a, b⟩ w) := by
  obtain ⟨j, rfl⟩ := Int.eq_ofNat_of_zero_le hi.1
  have hj : j < s.locks.length := hi.lt
  have d0 : decide ((j : Int) < 0) = false := decide_eq_false (by omega)
  have d1 : decide ((s.locks.length : Int) ≤ (j : Int)) = false := decide_eq_false (by omega)
  have d2 : decide (s.locks.length ≤ j) = false := decide_eq_false (by omega)
  have BX := Lib.hid (boxW_boxes w (rowV p c s.cells) (rowV q d s.locks) (s.shared : Nat) ⟨k, (j : Nat), a, b⟩)
  have BB := Lib.hid (boxW_below w (rowV p c s.cells) (rowV q d s.locks) (s.shared : Nat) ⟨k, (j : Nat), a, b⟩)
  have C := Lib.hid (lock_any p q c d s ⟨k, (j : Nat), a, b⟩ _ Bo (Nat.le_trans hB BB.out.size) (o1.kept BB.out) (o2.kept BB.out) hs hl hi (by exact .inr h5))
  have k0 : decide (0 ≤ k) = true := decide_eq_true h0
  have k3 : decide (k ≤ 3) = false := decide_eq_false h3
  have e4 : (k == 4) = false := by simp [h5]
  have e5 : (k == 5) = true := by simpa using h5
  clear h0 h3 hi hj hs hl h5 o1 o2 hB
  go_enter Try.func12, Try.ntmps12
  go_wp2_with fail
  refine C.out.mono ?_
  rintro e w1 ⟨v, rfl, ⟨x, y, rfl, h1, h2⟩, hb⟩
  obtain ⟨⟨⟨x0, x1, x2⟩, y0, y1, y2, y3⟩, ⟨⟨r0, r1, r2⟩, r3, r4⟩, f0, f2, f3⟩ := (BX.out.kept hb).all
  have D := Lib.hid (BX.out.kept hb)
  have H1 := Lib.hid h1
  have H2 := Lib.hid h2
  have HB := Lib.hid (below2 BB.out hb)
  clear h1 h2 hb BX C BB
  generalize hact : act s ⟨k, (j : Nat), a, b⟩ = r at *
  have HR := Lib.hid hact
  clear hact
  obtain ⟨n, m⟩ := r
  obtain ⟨tn, to⟩ := m
  obtain ⟨ax, cx, rfl, -⟩ := H1.out.lies
  obtain ⟨ay, cy, rfl, -⟩ := H2.out.lies
  go_wp2_with fail
  have LD := lay5_laid D.out.h2 D.out.h3 (by omega) (.slice ax n.cells.length cx) (.slice ay n.locks.length cy) (.int .i64 (n.shared : Nat)) (.int .i64 tn) (.bool to)
  have BL := Lib.hid (lay5_below HB.out (a := w.heap.size + 1 + 1) (b := w.heap.size + 1 + 1 + 1) (by omega) (by omega) (.slice ax n.cells.length cx) (.slice ay n.locks.length cy) (.int .i64 (n.shared : Nat)) (.int .i64 tn) (.bool to))
  have O1 := Lib.hid (own_lay5 H1.out D.out.h2 D.out.h3 (by decide) (by decide) (.slice ax n.cells.length cx) (.slice ay n.locks.length cy) (.int .i64 (n.shared : Nat)) (.int .i64 tn) (.bool to))
  have O2 := Lib.hid (own_lay5 H2.out D.out.h2 D.out.h3 (by decide) (by decide) (.slice ax n.cells.length cx) (.slice ay n.locks.length cy) (.int .i64 (n.shared : Nat)) (.int .i64 tn) (.bool to))
  clear D x0 x1 x2 y0 y1 y2 y3 r0 r1 r2 r3 r4 f0 f2 f3 HB H1 H2
  simp only [lay5] at LD BL O1 O2
  generalize (((((w1.setCell ⟨w.heap.size + 1 + 1, 0, none⟩ (.slice ax n.cells.length cx)).setCell ⟨w.heap.size + 1 + 1, 1, none⟩ (.slice ay n.locks.length cy)).setCell ⟨w.heap.size + 1 + 1, 2, none⟩ (.int .i64 (n.shared : Nat))).setCell ⟨w.heap.size + 1 + 1 + 1, 0, none⟩ (.int .i64 tn)).setCell ⟨w.heap.size + 1 + 1 + 1, 1, none⟩ (.bool to)) = W5 at *
  refine bodyPost_ret (v := .tuple #[.agg #[.slice ax n.cells.length cx, .slice ay n.locks.length cy, .int .i64 (n.shared : Nat)], .agg #[.int .i64 tn, .bool to]]) (by simp [results, Try.results12, go_sem, LD.r0, LD.r1, LD.r2, LD.r3, LD.r4]) rfl ?_
  unfold RefDoes
  rw [HR.out]
  exact ⟨_, rfl, gives_of rfl O1.out O2.out, BL.out⟩
set_option maxHeartbeats 1000000 in
theorem Do_o1a (k i a b : Int) (w : World) (Bo : Nat) (_hB : Bo ≤ w.heap.size) (o1 : RowG.Own numK 3 Bo w (rowV p c s.cells) s.cells) (o2 : RowG.Own numK 3 Bo w (rowV q d s.locks) s.locks) (h0 : ¬ 0 ≤ k) (h4 : k ≠ 4) (h5 : k ≠ 5) (hi : ¬ Has s.locks i) (hn : i < 0) :
    Calls Try.prog 12 #[stV p q c d s, actV ⟨k, i, a, b⟩] w (RefDoes Bo s ⟨k, i, a, b⟩ w) := by
  have HE := Lib.hid (show act s ⟨k, i, a, b⟩ = (s, ⟨-1, false⟩) by
    rw [act_other s i a b (by omega) (by omega) (by omega) (by omega) h4 h5]; unfold owner; rw [if_neg hi])
  have k0 : decide (0 ≤ k) = false := decide_eq_false h0
  have e4 : (k == 4) = false := by simpa using h4
  have e5 : (k == 5) = false := by simpa using h5
  have d0 : decide (i < 0) = true := decide_eq_true hn
  clear h0 hi hn h4 h5
  go_enter Try.func12, Try.ntmps12
  go_wp2_with fail
  refine bodyPost_ret (v := .tuple #[stV p q c d s, .agg #[.int .i64 (-1), .bool false]]) (by simp [results, Try.results12, go_sem]) rfl ?_
  unfold RefDoes
  rw [HE.out]
  exact ⟨_, rfl, gives_of rfl (o1.kept (al4 ..)) (o2.kept (al4 ..)), al4 ..⟩
set_option maxHeartbeats 1000000 in
theorem Do_o2a (k i a b : Int) (w : World) (Bo : Nat) (_hB : Bo ≤ w.heap.size) (o1 : RowG.Own numK 3 Bo w (rowV p c s.cells) s.cells) (o2 : RowG.Own numK 3 Bo w (rowV q d s.locks) s.locks) (h0 : ¬ 0 ≤ k) (h4 : k ≠ 4) (h5 : k ≠ 5) (hi : ¬ Has s.locks i) (hn : ¬ i < 0) :
    Calls Try.prog 12 #[stV p q c d s, actV ⟨k, i, a, b⟩] w (RefDoes Bo s ⟨k, i, a, b⟩ w) := by
  have HE := Lib.hid (show act s ⟨k, i, a, b⟩ = (s, ⟨-1, false⟩) by
    rw [act_other s i a b (by omega) (by omega) (by omega) (by omega) h4 h5]; unfold owner; rw [if_neg hi])
  obtain ⟨j, rfl⟩ := Int.eq_ofNat_of_zero_le (show 0 ≤ i by omega)
  have k0 : decide (0 ≤ k) = false := decide_eq_false h0
  have e4 : (k == 4) = false := by simpa using h4
  have e5 : (k == 5) = false := by simpa using h5
  have d0 : decide ((j : Int) < 0) = false := decide_eq_false hn
  have hj : s.locks.length ≤ j := by unfold Has at hi; omega
  have d1 : decide ((s.locks.length : Int) ≤ (j : Int)) = true := decide_eq_true (by omega)
  have d2 : decide (s.locks.length ≤ j) = true := decide_eq_true hj
  clear h0 hi hn h4 h5 hj
  go_enter Try.func12, Try.ntmps12
  go_wp2_with fail
  refine bodyPost_ret (v := .tuple #[stV p q c d s, .agg #[.int .i64 (-1), .bool false]]) (by simp [results, Try.results12, go_sem]) rfl ?_
  unfold RefDoes
  rw [HE.out]
  exact ⟨_, rfl, gives_of rfl (o1.kept (al4 ..)) (o2.kept (al4 ..)), al4 ..⟩
set_option maxHeartbeats 1000000 in
theorem Do_o3a (k i a b : Int) (w : World) (Bo : Nat) (_hB : Bo ≤ w.heap.size) (o1 : RowG.Own numK 3 Bo w (rowV p c s.cells) s.cells) (o2 : RowG.Own numK 3 Bo w (rowV q d s.locks) s.locks) (h0 : ¬ 0 ≤ k) (h4 : k ≠ 4) (h5 : k ≠ 5) (hi : Has s.locks i) :
    Calls Try.prog 12 #[stV p q c d s, actV ⟨k, i, a, b⟩] w (RefDoes Bo s ⟨k, i, a, b⟩ w) := by
  have HE := Lib.hid (show act s ⟨k, i, a, b⟩ = (s, ⟨at' s.locks i, false⟩) by
    rw [act_other s i a b (by omega) (by omega) (by omega) (by omega) h4 h5]; unfold owner; rw [if_pos hi])
  have h2 := own_lies o2
  obtain ⟨j, rfl, hj, ha⟩ := has_nat hi
  obtain ⟨bz, oz, rfl, c0⟩ := h2.num hj
  have c1 := (boxW_below w (rowV p c s.cells) (rowV (some ⟨bz, oz, none⟩) d s.locks) (s.shared : Nat) ⟨k, (j : Nat), a, b⟩).cell (p := ⟨bz, oz + j, none⟩) (World.block_lt_of_cell? w _ c0)
  rw [c0] at c1
  have hj0 : (j : Int) < (s.locks.length : Int) := by omega
  have d0 : decide ((j : Int) < 0) = false := decide_eq_false (by omega)
  have d1 : decide ((s.locks.length : Int) ≤ (j : Int)) = false := decide_eq_false (by omega)
  have d2 : decide (s.locks.length ≤ j) = false := decide_eq_false (by omega)
  rw [ha] at HE
  have k0 : decide (0 ≤ k) = false := decide_eq_false h0
  have e4 : (k == 4) = false := by simpa using h4
  have e5 : (k == 5) = false := by simpa using h5
  clear hi ha h0 h4 h5
  go_enter Try.func12, Try.ntmps12
  go_wp2_with fail
  have c2 : ∀ o1 o2 o3 o4 : Obj, ((((w.alloc o1).alloc o2).alloc o3).alloc o4).cell? ⟨bz, oz + j, none⟩ = some (.int .i64 s.locks[j]) := fun o1 o2 o3 o4 => ((al4 w o1 o2 o3 o4).cell (p := ⟨bz, oz + j, none⟩) (World.block_lt_of_cell? w _ c0)).trans c0
  go_region
  go_wp2_with fail
  refine bodyPost_ret (v := .tuple #[stV p (some ⟨bz, oz, none⟩) c d s, .agg #[.int .i64 s.locks[j], .bool false]]) (by simp [results, Try.results12, go_sem]) rfl ?_
  unfold RefDoes
  rw [HE.out]
  exact ⟨_, rfl, gives_of rfl (o1.kept (al4 ..).drew) (o2.kept (al4 ..).drew), (al4 ..).drew⟩
set_option maxHeartbeats 1000000 in
theorem Do_o1b (k i a b : Int) (w : World) (Bo : Nat) (_hB : Bo ≤ w.heap.size) (o1 : RowG.Own numK 3 Bo w (rowV p c s.cells) s.cells) (o2 : RowG.Own numK 3 Bo w (rowV q d s.locks) s.locks) (h0 : 0 ≤ k) (h3 : ¬ k ≤ 3) (h4 : k ≠ 4) (h5 : k ≠ 5) (hi : ¬ Has s.locks i) (hn : i < 0) :
    Calls Try.prog 12 #[stV p q c d s, actV ⟨k, i, a, b⟩] w (RefDoes Bo s ⟨k, i, a, b⟩ w) := by
  have HE := Lib.hid (show act s ⟨k, i, a, b⟩ = (s, ⟨-1, false⟩) by
    rw [act_other s i a b (by omega) (by omega) (by omega) (by omega) h4 h5]; unfold owner; rw [if_neg hi])
  have k0 : decide (0 ≤ k) = true := decide_eq_true h0
  have k3 : decide (k ≤ 3) = false := decide_eq_false h3
  have e4 : (k == 4) = false := by simpa using h4
  have e5 : (k == 5) = false := by simpa using h5
  have d0 : decide (i < 0) = true := decide_eq_true hn
  clear h0 h3 hi hn h4 h5
  go_enter Try.func12, Try.ntmps12
  go_wp2_with fail
  refine bodyPost_ret (v := .tuple #[stV p q c d s, .agg #[.int .i64 (-1), .bool false]]) (by simp [results, Try.results12, go_sem]) rfl ?_
  unfold RefDoes
  rw [HE.out]
  exact ⟨_, rfl, gives_of rfl (o1.kept (al4 ..)) (o2.kept (al4 ..)), al4 ..⟩
set_option maxHeartbeats 1000000 in
theorem Do_o2b (k i a b : Int) (w : World) (Bo : Nat) (_hB : Bo ≤ w.heap.size) (o1 : RowG.Own numK 3 Bo w (rowV p c s.cells) s.cells) (o2 : RowG.Own numK 3 Bo w (rowV q d s.locks) s.locks) (h0 : 0 ≤ k) (h3 : ¬ k ≤ 3) (h4 : k ≠ 4) (h5 : k ≠ 5) (hi : ¬ Has s.locks i) (hn : ¬ i < 0) :
    Calls Try.prog 12 #[stV p q c d s, actV ⟨k, i, a, b⟩] w (RefDoes Bo s ⟨k, i, a, b⟩ w) := by
  have HE := Lib.hid (show act s ⟨k, i, a, b⟩ = (s, ⟨-1, false⟩) by
    rw [act_other s i a b (by omega) (by omega) (by omega) (by omega) h4 h5]; unfold owner; rw [if_neg hi])
  obtain ⟨j, rfl⟩ := Int.eq_ofNat_of_zero_le (show 0 ≤ i by omega)
  have k0 : decide (0 ≤ k) = true := decide_eq_true h0
  have k3 : decide (k ≤ 3) = false := decide_eq_false h3
  have e4 : (k == 4) = false := by simpa using h4
  have e5 : (k == 5) = false := by simpa using h5
  have d0 : decide ((j : Int) < 0) = false := decide_eq_false hn
  have hj : s.locks.length ≤ j := by unfold Has at hi; omega
  have d1 : decide ((s.locks.length : Int) ≤ (j : Int)) = true := decide_eq_true (by omega)
  have d2 : decide (s.locks.length ≤ j) = true := decide_eq_true hj
  clear h0 h3 hi hn h4 h5 hj
  go_enter Try.func12, Try.ntmps12
  go_wp2_with fail
  refine bodyPost_ret (v := .tuple #[stV p q c d s, .agg #[.int .i64 (-1), .bool false]]) (by simp [results, Try.results12, go_sem]) rfl ?_
  unfold RefDoes
  rw [HE.out]
  exact ⟨_, rfl, gives_of rfl (o1.kept (al4 ..)) (o2.kept (al4 ..)), al4 ..⟩
set_option maxHeartbeats 1000000 in
theorem Do_o3b (k i a b : Int) (w : World) (Bo : Nat) (_hB : Bo ≤ w.heap.size) (o1 : RowG.Own numK 3 Bo w (rowV p c s.cells) s.cells) (o2 : RowG.Own numK 3 Bo w (rowV q d s.locks) s.locks) (h0 : 0 ≤ k) (h3 : ¬ k ≤ 3) (h4 : k ≠ 4) (h5 : k ≠ 5) (hi : Has s.locks i) :
    Calls Try.prog 12 #[stV p q c d s, actV ⟨k, i, a, b⟩] w (RefDoes Bo s ⟨k, i, a, b⟩ w) := by
  have HE := Lib.hid (show act s ⟨k, i, a, b⟩ = (s, ⟨at' s.locks i, false⟩) by
    rw [act_other s i a b (by omega) (by omega) (by omega) (by omega) h4 h5]; unfold owner; rw [if_pos hi])
  have h2 := own_lies o2
  obtain ⟨j, rfl, hj, ha⟩ := has_nat hi
  obtain ⟨bz, oz, rfl, c0⟩ := h2.num hj
  have c1 := (boxW_below w (rowV p c s.cells) (rowV (some ⟨bz, oz, none⟩) d s.locks) (s.shared : Nat) ⟨k, (j : Nat), a, b⟩).cell (p := ⟨bz, oz + j, none⟩) (World.block_lt_of_cell? w _ c0)
  rw [c0] at c1
  have hj0 : (j : Int) < (s.locks.length : Int) := by omega
  have d0 : decide ((j : Int) < 0) = false := decide_eq_false (by omega)
  have d1 : decide ((s.locks.length : Int) ≤ (j : Int)) = false := decide_eq_false (by omega)
  have d2 : decide (s.locks.length ≤ j) = false := decide_eq_false (by omega)
  rw [ha] at HE
  have k0 : decide (0 ≤ k) = true := decide_eq_true h0
  have k3 : decide (k ≤ 3) = false := decide_eq_false h3
  have e4 : (k == 4) = false := by simpa using h4
  have e5 : (k == 5) = false := by simpa using h5
  clear hi ha h0 h3 h4 h5
  go_enter Try.func12, Try.ntmps12
  go_wp2_with fail
  have c2 : ∀ o1 o2 o3 o4 : Obj, ((((w.alloc o1).alloc o2).alloc o3).alloc o4).cell? ⟨bz, oz + j, none⟩ = some (.int .i64 s.locks[j]) := fun o1 o2 o3 o4 => ((al4 w o1 o2 o3 o4).cell (p := ⟨bz, oz + j, none⟩) (World.block_lt_of_cell? w _ c0)).trans c0
  go_region
  go_wp2_with fail
  refine bodyPost_ret (v := .tuple #[stV p (some ⟨bz, oz, none⟩) c d s, .agg #[.int .i64 s.locks[j], .bool false]]) (by simp [results, Try.results12, go_sem]) rfl ?_
  unfold RefDoes
  rw [HE.out]
  exact ⟨_, rfl, gives_of rfl (o1.kept (al4 ..).drew) (o2.kept (al4 ..).drew), (al4 ..).drew⟩
theorem Do_any (x : Act) (w : World) (Bo : Nat) (hB : Bo ≤ w.heap.size) (o1 : RowG.Own numK 3 Bo w (rowV p c s.cells) s.cells) (o2 : RowG.Own numK 3 Bo w (rowV q d s.locks) s.locks) (hs : s.shared < 4611686018427387904) (hl1 : s.cells.length ≤ 1000000000) (hl2 : s.locks.length ≤ 1000000000) :
    Calls Try.prog 12 #[stV p q c d s, actV x] w (RefDoes Bo s x w) := by
  obtain ⟨k, i, a, b⟩ := x
  by_cases h0 : 0 ≤ k
  · by_cases h3 : k ≤ 3
    · by_cases hi : Has s.cells i
      · exact Do_c3 p q c d s k i a b w Bo hB o1 o2 hs hl1 h0 h3 hi
      · by_cases hn : i < 0
        · exact Do_c1 p q c d s k i a b w Bo hB o1 o2 h0 h3 hi hn
        · exact Do_c2 p q c d s k i a b w Bo hB o1 o2 h0 h3 hi hn
    · by_cases h4 : k = 4
      · by_cases hi : Has s.locks i
        · exact Do_l43 p q c d s k i a b w Bo hB o1 o2 hs hl2 h0 h3 h4 hi
        · by_cases hn : i < 0
          · exact Do_l41 p q c d s k i a b w Bo hB o1 o2 h0 h3 h4 hi hn
          · exact Do_l42 p q c d s k i a b w Bo hB o1 o2 h0 h3 h4 hi hn
      · by_cases h5 : k = 5
        · by_cases hi : Has s.locks i
          · exact Do_l53 p q c d s k i a b w Bo hB o1 o2 hs hl2 h0 h3 h5 hi
          · by_cases hn : i < 0
            · exact Do_l51 p q c d s k i a b w Bo hB o1 o2 h0 h3 h5 hi hn
            · exact Do_l52 p q c d s k i a b w Bo hB o1 o2 h0 h3 h5 hi hn
        · by_cases hi : Has s.locks i
          · exact Do_o3b p q c d s k i a b w Bo hB o1 o2 h0 h3 h4 h5 hi
          · by_cases hn : i < 0
            · exact Do_o1b p q c d s k i a b w Bo hB o1 o2 h0 h3 h4 h5 hi hn
            · exact Do_o2b p q c d s k i a b w Bo hB o1 o2 h0 h3 h4 h5 hi hn
  · have h4 : k ≠ 4 := by omega
    have h5 : k ≠ 5 := by omega
    by_cases hi : Has s.locks i
    · exact Do_o3a p q c d s k i a b w Bo hB o1 o2 h0 h4 h5 hi
    · by_cases hn : i < 0
      · exact Do_o1a p q c d s k i a b w Bo hB o1 o2 h0 h4 h5 hi hn
      · exact Do_o2a p q c d s k i a b w Bo hB o1 o2 h0 h4 h5 hi hn
end
end Go.Proofs.Ytiokpccdkpgibaa.Cel
