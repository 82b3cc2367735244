/-
  Package cells: the counter's methods; has, swap, shares; its own methods as contracts.
-/
import Derived.Test.YtiokpccdkpgibaaCelA
namespace Go.Proofs.Ytiokpccdkpgibaa.Cel
open Go.RowKit Go.Shelf RowG

attribute [local go_sem] Oper.semAt_some

theorem run_load {a : Addr} {x : Int} {w : World} (hc : w.cell? a = some (.int .i64 x)) : (callFunc 36 #[.pointer (some a)]).run Try.prog w = .ok (.value (.int .i64 x)) w :=
  run_call_load (P := Try.prog) Try.func36 (by kernel_rfl) (by kernel_rfl) (by kernel_rfl) .i64 (by kernel_rfl) hc
theorem run_add {a : Addr} {x y : Int} {w : World} (hc : w.cell? a = some (.int .i64 x)) (hz : w.frozen? a = false) : (callFunc 38 #[.pointer (some a), .int .i64 y]).run Try.prog w = .ok (.value (.int .i64 (wr (x + y)))) (w.setCell a (.int .i64 (wr (x + y)))) :=
  run_call_add (P := Try.prog) Try.func38 (by kernel_rfl) (by kernel_rfl) (by kernel_rfl) .i64 (by kernel_rfl) hc hz rfl

set_option maxHeartbeats 400000 in
theorem Load_told (p : Nat) (x : Int) (w : World) (hc : w.cell? ⟨p, 0, none⟩ = some (.int .i64 x)) :
    Calls Try.prog 32 #[.pointer (some ⟨p, 0, none⟩)] w fun e W' => e = .returned (.int .i64 x) ∧ W' = w := by
  have q := run_load hc
  go_enter Try.func32, Try.ntmps32
  go_wp2
  go_ret
  exact ⟨rfl, rfl⟩
set_option maxHeartbeats 400000 in
theorem Add_told (p : Nat) (x y : Int) (w : World) (hc : w.cell? ⟨p, 0, none⟩ = some (.int .i64 x)) (hz : w.frozen? ⟨p, 0, none⟩ = false) :
    Calls Try.prog 37 #[.pointer (some ⟨p, 0, none⟩), .int .i64 y] w fun e W' => e = .returned (.int .i64 (wr (x + y))) ∧ W' = w.setCell ⟨p, 0, none⟩ (.int .i64 (wr (x + y))) := by
  have q := run_add (y := y) hc hz
  generalize wr (x + y) = z at *
  go_enter Try.func37, Try.ntmps37
  go_wp2
  go_ret
  exact ⟨rfl, rfl⟩
set_option maxHeartbeats 400000 in
theorem counted_told (p : Nat) (x : Int) (w : World) (hc : w.cell? ⟨p, 0, none⟩ = some (.int .i64 x)) :
    Calls Try.prog 26 #[.pointer (some ⟨p, 0, none⟩)] w fun e W' => e = .returned (.int .i64 x) ∧ W' = w := by
  have C := Lib.hid (Load_told p x w hc)
  go_enter Try.func26, Try.ntmps26
  go_wp2_with fail
  refine C.out.mono ?_
  rintro e w1 ⟨rfl, rfl⟩
  go_wp2_with fail
  go_ret
  exact ⟨rfl, rfl⟩
set_option maxHeartbeats 400000 in
theorem count_told (p : Nat) (x : Int) (w : World) (hc : w.cell? ⟨p, 0, none⟩ = some (.int .i64 x)) (hz : w.frozen? ⟨p, 0, none⟩ = false) :
    Calls Try.prog 33 #[.pointer (some ⟨p, 0, none⟩)] w fun e W' => (∃ v, e = .returned v) ∧ W' = w.setCell ⟨p, 0, none⟩ (.int .i64 (wr (x + 1))) := by
  have C := Lib.hid (Add_told p x 1 w hc hz)
  generalize wr (x + 1) = z at *
  go_enter Try.func33, Try.ntmps33
  go_wp2_with fail
  refine C.out.mono ?_
  rintro e w1 ⟨rfl, rfl⟩
  go_wp2_with fail
  go_end0
  exact ⟨⟨_, rfl⟩, rfl⟩
set_option maxHeartbeats 400000 in
theorem has_told (a : Option Addr) (cap : Nat) (l : List Int) (i : Int) (b : Bool) (hb : decide (Has l i) = b) (w : World) :
    Calls Try.prog 29 #[rowV a cap l, .int .i64 i] w fun e W' => e = .returned (.bool b) ∧ W' = w := by
  by_cases h0 : 0 ≤ i
  · have d0 : decide (0 ≤ i) = true := decide_eq_true h0
    have d1 : decide (i < (l.length : Int)) = b := by
      rw [← hb]; exact decide_eq_decide.2 ⟨fun h => ⟨h0, h⟩, fun h => h.2⟩
    clear hb
    go_enter Try.func29, Try.ntmps29
    go_wp2_with fail
    go_ret
    exact ⟨rfl, rfl⟩
  · have d0 : decide (0 ≤ i) = false := decide_eq_false h0
    have d1 : b = false := by rw [← hb]; exact decide_eq_false fun h => h0 h.1
    subst d1
    clear hb
    go_enter Try.func29, Try.ntmps29
    go_wp2_with fail
    go_ret
    exact ⟨rfl, rfl⟩
set_option maxHeartbeats 400000 in
theorem shares_told (p : Nat) (x : Int) (a : Option Addr) (cap : Nat) (l : List Int) (i : Int) (w : World) (hc : w.cell? ⟨p, 0, none⟩ = some (.int .i64 x)) (hz : w.frozen? ⟨p, 0, none⟩ = false) (b : Bool) (hb : decide (Has l i) = b) :
    Calls Try.prog 27 #[.pointer (some ⟨p, 0, none⟩), rowV a cap l, .int .i64 i] w fun e W' => e = .returned (.bool b) ∧ W' = if b then w.setCell ⟨p, 0, none⟩ (.int .i64 (wr (x + 1))) else w := by
  have C := Lib.hid (count_told p x w hc hz)
  have D := Lib.hid (has_told a cap l i b hb w)
  generalize wr (x + 1) = z at *
  clear hb
  cases b with
  | true =>
    go_enter Try.func27, Try.ntmps27
    go_wp2_with fail
    refine D.out.mono ?_
    rintro e w1 ⟨rfl, rfl⟩
    go_wp2_with fail
    refine C.out.mono ?_
    rintro e w2 ⟨⟨v, rfl⟩, rfl⟩
    go_wp2_with fail
    go_ret
    exact ⟨rfl, rfl⟩
  | false =>
    go_enter Try.func27, Try.ntmps27
    go_wp2_with fail
    refine D.out.mono ?_
    rintro e w1 ⟨rfl, rfl⟩
    go_wp2_with fail
    go_ret
    exact ⟨rfl, rfl⟩
set_option maxHeartbeats 400000 in
theorem swap_told (g cap : Nat) (l : List Int) (k : Nat) (hk : k < l.length) (o v : Int) (w : World) (h : Row numK 3 w g cap l) :
    Calls Try.prog 28 #[rowV (some ⟨g, 0, none⟩) cap l, .int .i64 (k : Nat), .int .i64 o, .int .i64 v] w fun e W' => e = .returned (.bool (decide (l[k] = o))) ∧ W' = if l[k] = o then w.setCell ⟨g, k, none⟩ (.int .i64 v) else w := by
  have c0 : w.cell? ⟨g, k, none⟩ = some (.int .i64 l[k]) := by
    have := h.cell hk (j := 0) (u := .int .i64 l[k]) rfl
    rwa [show k * numK.c + 0 = k from Nat.mul_one _] at this
  have f0 : w.frozen? ⟨g, k, none⟩ = false := h.free _
  have b0 : (k : Int) < (l.length : Int) := by omega
  have hm := h.len
  clear h
  generalize l[k] = x at *
  by_cases he : x = o
  · subst he
    go_enter Try.func28, Try.ntmps28
    go_wp2_with fail
    go_ret
    exact ⟨rfl, rfl⟩
  · have d0 : (x == o) = false := by simpa using he
    have E1 := Lib.hid he
    clear he
    go_enter Try.func28, Try.ntmps28
    go_wp2_with fail
    go_ret
    exact ⟨rfl, rfl⟩

/-- What a method of cells does: they are now these, and all else lies as it lay. -/
def Does (f : Foot) (s' : St) (v : Value) (w : World) (e : Ending) (W' : World) : Prop := e = .returned v ∧ Held W' f s' ∧ Turned f.has w W'
theorem wr_nat {n : Nat} (h : n < 4611686018427387904) : wr ((n : Int) + 1) = ((n + 1 : Nat) : Int) := by rw [wr_in (by omega)]; omega
section
variable {w : World} {f : Foot} {s : St}
theorem shares_yes (h : Held w f s) (hs : s.shared < 4611686018427387904) (a : Option Addr) (cap : Nat) (l : List Int) (i : Int) (hi : Has l i) :
    Calls Try.prog 27 #[.pointer (some ⟨f.p, 0, none⟩), rowV a cap l, .int .i64 i] w (Does f ⟨s.cells, s.locks, s.shared + 1⟩ (.bool true) w) := by
  refine (shares_told f.p _ a cap l i w h.c0 (h.free 0) true (decide_eq_true hi)).mono ?_
  rintro e W' ⟨rfl, rfl⟩
  exact ⟨rfl, h.count (wr_nat hs), (Turned.refl _ _).setCell (.inl rfl) _⟩
theorem shares_no (h : Held w f s) (a : Option Addr) (cap : Nat) (l : List Int) (i : Int) (hi : ¬ Has l i) :
    Calls Try.prog 27 #[.pointer (some ⟨f.p, 0, none⟩), rowV a cap l, .int .i64 i] w (Does f s (.bool false) w) := by
  refine (shares_told f.p _ a cap l i w h.c0 (h.free 0) false (decide_eq_false hi)).mono ?_
  rintro e W' ⟨rfl, rfl⟩
  exact ⟨rfl, h, Turned.refl _ _⟩
theorem has_nat {l : List Int} {i : Int} (h : Has l i) : ∃ k : Nat, i = (k : Nat) ∧ ∃ hk : k < l.length, at' l (k : Nat) = l[k] := by
  obtain ⟨k, rfl⟩ := Int.eq_ofNat_of_zero_le h.1
  exact ⟨k, rfl, h.lt, at_get h⟩
theorem row_num {T : TypeId} {W : World} {g cap : Nat} {l : List Int} (h : Row numK T W g cap l) {k : Nat} (hk : k < l.length) : W.cell? ⟨g, k, none⟩ = some (.int .i64 l[k]) := by
  have := h.cell hk (j := 0) (u := .int .i64 l[k]) rfl
  rwa [show k * numK.c + 0 = k from Nat.mul_one _] at this
set_option maxHeartbeats 400000 in
theorem Shared_told (h : Held w f s) : Calls Try.prog 13 #[.pointer (some ⟨f.p, 0, none⟩)] w (Does f s (.int .i64 (s.shared : Nat)) w) := by
  have C := Lib.hid (counted_told f.p _ w h.c0)
  have c0 := h.c0
  have H := Lib.hid h
  clear h
  go_enter Try.func13, Try.ntmps13
  go_wp2_with fail
  refine C.out.mono ?_
  rintro e w1 ⟨rfl, rfl⟩
  go_wp2_with fail
  go_ret
  exact ⟨rfl, H.out, Turned.refl _ _⟩
set_option maxHeartbeats 400000 in
theorem Load1_told (h : Held w f s) (hs : s.shared < 4611686018427387904) (i : Int) : Calls Try.prog 15 #[.pointer (some ⟨f.p, 0, none⟩), .int .i64 i] w (Does f (load s i).1 (.int .i64 (load s i).2) w) := by
  have c1 := h.c1
  by_cases hi : Has s.cells i
  · have C := Lib.hid (shares_yes h hs (some ⟨f.c, 0, none⟩) s.cells.length s.cells i hi)
    have HE := Lib.hid (show load s i = (⟨s.cells, s.locks, s.shared + 1⟩, at' s.cells i) from if_pos hi)
    obtain ⟨k, rfl, hk, ha⟩ := has_nat hi
    have HA := Lib.hid ha
    have hk0 : (k : Int) < (s.cells.length : Int) := by omega
    clear h hs hi ha
    go_enter Try.func15, Try.ntmps15
    go_wp2_with fail
    refine C.out.mono ?_
    rintro e w1 ⟨rfl, h1, ht⟩
    have T := Lib.hid ht
    have H1 := Lib.hid h1
    have d1 := h1.c1
    have c0 := row_num h1.cells hk
    clear ht h1
    go_wp2_with fail
    go_ret
    exact ⟨by rw [HE.out, HA.out]; rfl, by rw [HE.out]; exact H1.out, T.out⟩
  · have C := Lib.hid (shares_no h (some ⟨f.c, 0, none⟩) s.cells.length s.cells i hi)
    have HE := Lib.hid (show load s i = (s, 0) from if_neg hi)
    clear h hs hi
    go_enter Try.func15, Try.ntmps15
    go_wp2_with fail
    refine C.out.mono ?_
    rintro e w1 ⟨rfl, h1, ht⟩
    have T := Lib.hid ht
    have H1 := Lib.hid h1
    clear h1 ht
    go_wp2_with fail
    go_ret
    exact ⟨by rw [HE.out]; rfl, by rw [HE.out]; exact H1.out, T.out⟩
set_option maxHeartbeats 400000 in
theorem Owner_told (h : Held w f s) (i : Int) : Calls Try.prog 18 #[.pointer (some ⟨f.p, 0, none⟩), .int .i64 i] w (Does f s (.int .i64 (owner s i)) w) := by
  have c2 := h.c2
  have H := Lib.hid h
  by_cases hi : Has s.locks i
  · have C := Lib.hid (has_told (some ⟨f.o, 0, none⟩) s.locks.length s.locks i true (decide_eq_true hi) w)
    have HE := Lib.hid (show owner s i = at' s.locks i from if_pos hi)
    obtain ⟨k, rfl, hk, ha⟩ := has_nat hi
    have HA := Lib.hid ha
    have hk0 : (k : Int) < (s.locks.length : Int) := by omega
    have c0 := row_num h.locks hk
    clear h hi ha
    go_enter Try.func18, Try.ntmps18
    go_wp2_with fail
    refine C.out.mono ?_
    rintro e w1 ⟨rfl, rfl⟩
    go_wp2_with fail
    go_ret
    exact ⟨by rw [HE.out, HA.out]; rfl, H.out, Turned.refl _ _⟩
  · have C := Lib.hid (has_told (some ⟨f.o, 0, none⟩) s.locks.length s.locks i false (decide_eq_false hi) w)
    have HE := Lib.hid (show owner s i = -1 from if_neg hi)
    clear h hi
    go_enter Try.func18, Try.ntmps18
    go_wp2_with fail
    refine C.out.mono ?_
    rintro e w1 ⟨rfl, rfl⟩
    go_wp2_with fail
    go_ret
    exact ⟨by rw [HE.out]; rfl, H.out, Turned.refl _ _⟩
set_option maxHeartbeats 400000 in
theorem Store_told (h : Held w f s) (hs : s.shared < 4611686018427387904) (i v : Int) : Calls Try.prog 14 #[.pointer (some ⟨f.p, 0, none⟩), .int .i64 i, .int .i64 v] w (fun e W' => ∃ x, Does f (store s i v) x w e W') := by
  have c1 := h.c1
  by_cases hi : Has s.cells i
  · have C := Lib.hid (shares_yes h hs (some ⟨f.c, 0, none⟩) s.cells.length s.cells i hi)
    have HE := Lib.hid (show store s i v = ⟨s.cells.set i.toNat v, s.locks, s.shared + 1⟩ from if_pos hi)
    have HI := Lib.hid hi
    obtain ⟨k, rfl, hk, ha⟩ := has_nat hi
    have hk0 : (k : Int) < (s.cells.length : Int) := by omega
    clear h hs hi ha
    go_enter Try.func14, Try.ntmps14
    go_wp2_with fail
    refine C.out.mono ?_
    rintro e w1 ⟨rfl, h1, ht⟩
    have T := Lib.hid ht
    have H1 := Lib.hid h1
    have d1 := h1.c1
    have c0 := row_num h1.cells hk
    have f0 : w1.frozen? ⟨f.c, k, none⟩ = false := h1.cells.free _
    clear ht h1
    go_wp2_with fail
    go_end0
    exact ⟨_, rfl, by rw [HE.out]; exact H1.out.cell HI.out, T.out.setCell (.inr (.inl rfl)) _⟩
  · have C := Lib.hid (shares_no h (some ⟨f.c, 0, none⟩) s.cells.length s.cells i hi)
    have HE := Lib.hid (show store s i v = s from if_neg hi)
    clear h hs hi
    go_enter Try.func14, Try.ntmps14
    go_wp2_with fail
    refine C.out.mono ?_
    rintro e w1 ⟨rfl, h1, ht⟩
    have T := Lib.hid ht
    have H1 := Lib.hid h1
    clear h1 ht
    go_wp2_with fail
    go_end0
    exact ⟨_, rfl, by rw [HE.out]; exact H1.out, T.out⟩
set_option maxHeartbeats 400000 in
theorem Add1_told (h : Held w f s) (hs : s.shared < 4611686018427387904) (i d : Int) : Calls Try.prog 16 #[.pointer (some ⟨f.p, 0, none⟩), .int .i64 i, .int .i64 d] w (Does f (add s i d).1 (.int .i64 (add s i d).2) w) := by
  have c1 := h.c1
  by_cases hi : Has s.cells i
  · have C := Lib.hid (shares_yes h hs (some ⟨f.c, 0, none⟩) s.cells.length s.cells i hi)
    have HE := Lib.hid (show add s i d = (⟨s.cells.set i.toNat (wr (at' s.cells i + d)), s.locks, s.shared + 1⟩, wr (at' s.cells i + d)) from if_pos hi)
    have HI := Lib.hid hi
    obtain ⟨k, rfl, hk, ha⟩ := has_nat hi
    have HA := Lib.hid ha
    have hk0 : (k : Int) < (s.cells.length : Int) := by omega
    clear h hs hi ha
    go_enter Try.func16, Try.ntmps16
    go_wp2_with fail
    refine C.out.mono ?_
    rintro e w1 ⟨rfl, h1, ht⟩
    have T := Lib.hid ht
    have H1 := Lib.hid h1
    have d1 := h1.c1
    have c0 := row_num h1.cells hk
    have f0 : w1.frozen? ⟨f.c, k, none⟩ = false := h1.cells.free _
    have hz : IntKind.i64.wrap (s.cells[k] + d) = wr (at' s.cells (k : Nat) + d) := by rw [HA.out]
    generalize wr (at' s.cells (k : Nat) + d) = z at *
    have h2 := (H1.out.cell (v := z) HI.out).c1
    have c3 : (w1.setCell ⟨f.c, k, none⟩ (.int .i64 z)).cell? ⟨f.c, k, none⟩ = some (.int .i64 z) := by
      have := row_num (H1.out.cell (v := z) HI.out).cells (k := k) (by simpa using hk)
      simpa using this
    simp at h2
    clear ht h1
    go_wp2_with fail
    go_ret
    exact ⟨by rw [HE.out]; rfl, by rw [HE.out]; exact H1.out.cell HI.out, T.out.setCell (.inr (.inl rfl)) _⟩
  · have C := Lib.hid (shares_no h (some ⟨f.c, 0, none⟩) s.cells.length s.cells i hi)
    have HE := Lib.hid (show add s i d = (s, 0) from if_neg hi)
    clear h hs hi
    go_enter Try.func16, Try.ntmps16
    go_wp2_with fail
    refine C.out.mono ?_
    rintro e w1 ⟨rfl, h1, ht⟩
    have T := Lib.hid ht
    have H1 := Lib.hid h1
    clear h1 ht
    go_wp2_with fail
    go_ret
    exact ⟨by rw [HE.out]; rfl, by rw [HE.out]; exact H1.out, T.out⟩
end
end Go.Proofs.Ytiokpccdkpgibaa.Cel
