/-
  Points: the document's Less, merge and sort (package gangplankref09).
-/
import Derived.Test.YtbamodkgagcmnaaGreatBPtqD
import Derived.Deep.RegionHeld3
import Derived.Shelf.RegionOpen
set_option maxRecDepth 100000
namespace Go.Proofs.YtbamodkgagcmnaaGreat.Pts
open Go.RowKit Go.Shelf Rgn
open Pol (below2 below_alloc)

theorem Lies.take {W : World} {a : Option Addr} {cap : Nat} {bs : List Pt} (h : Lies W a cap bs) (n : Nat) : Lies W a cap (bs.take n) :=
  ⟨h.max, Nat.le_trans (by simp; omega) h.len, fun hn => by
    obtain ⟨b, off, e, hc⟩ := h.cell (fun e => hn (by rw [e]; simp))
    refine ⟨b, off, e, fun i x hi => hc i x ?_⟩
    rw [List.getElem?_take] at hi
    split at hi
    · exact hi
    · cases hi⟩
theorem Lies.drop {W : World} {b off cap : Nat} {bs : List Pt} (h : Lies W (some ⟨b, off, none⟩) cap bs) (n : Nat) : Lies W (some ⟨b, off + n * 2, none⟩) (cap - n) (bs.drop n) :=
  ⟨Nat.le_trans (Nat.sub_le _ _) h.max, by have := h.len; simp; omega, fun hn => by
    obtain ⟨b', off', e, hc⟩ := h.cell (fun e => hn (by rw [e]; simp))
    cases e
    refine ⟨b, off + n * 2, rfl, fun i x hi => ?_⟩
    rw [List.getElem?_drop] at hi
    have := hc (n + i) x hi
    rwa [show off + (n + i) * 2 = off + n * 2 + i * 2 by omega] at this⟩

set_option maxHeartbeats 1000000 in
theorem refLess_any (x y : Pt) (w : World) : Calls Tryz.prog 201 #[ptV x, ptV y] w fun e W' => e = .returned (.bool (less x y)) ∧ Below w.heap.size w W' := by
  have al := Lib.hid (((Below.refl w.heap.size w).alloc (Nat.le_refl _) (.cells #[.int .u64 x.1, .int .i64 x.2] 211)).alloc (by simp) (.cells #[.int .u64 y.1, .int .i64 y.2] 211))
  by_cases h1 : x.1 < y.1
  · have d1 : decide (x.1 < y.1) = true := decide_eq_true h1
    have HV := Lib.hid ((less_iff x y).2 (Or.inl h1))
    clear h1
    go_enter Tryz.func201, Tryz.ntmps201
    go_wp2_with fail
    go_ret
    exact ⟨by rw [HV.out]; rfl, al.out⟩
  · have d1 : decide (x.1 < y.1) = false := decide_eq_false h1
    by_cases h2 : x.1 = y.1
    · have d2 : (x.1 == y.1) = true := beq_iff_eq.2 h2
      by_cases h3 : x.2 < y.2
      · have d3 : decide (x.2 < y.2) = true := decide_eq_true h3
        have HV := Lib.hid ((less_iff x y).2 (Or.inr ⟨h2, h3⟩))
        clear h1 h2 h3
        go_enter Tryz.func201, Tryz.ntmps201
        go_wp2_with fail
        go_ret
        exact ⟨by rw [HV.out]; rfl, al.out⟩
      · have d3 : decide (x.2 < y.2) = false := decide_eq_false h3
        have HV := Lib.hid ((less_not x y).2 (by omega))
        clear h1 h2 h3
        go_enter Tryz.func201, Tryz.ntmps201
        go_wp2_with fail
        go_ret
        exact ⟨by rw [HV.out]; rfl, al.out⟩
    · have d2 : (x.1 == y.1) = false := beq_false_of_ne h2
      have HV := Lib.hid ((less_not x y).2 (by omega))
      clear h1 h2
      go_enter Tryz.func201, Tryz.ntmps201
      go_wp2_with fail
      go_ret
      exact ⟨by rw [HV.out]; rfl, al.out⟩

/-- Two points of two rows, while they are held against one another. -/
theorem two_keep {W0 W W' : World} {g h p q : Nat} {x y : Pt} (s : Below W0.heap.size W0 W ∧ W.cell? ⟨g, p, none⟩ = some (.int .u64 x.1) ∧ W.cell? ⟨g, p + 1, none⟩ = some (.int .i64 x.2) ∧ W.cell? ⟨h, q, none⟩ = some (.int .u64 y.1) ∧ W.cell? ⟨h, q + 1, none⟩ = some (.int .i64 y.2)) (hb : Below W.heap.size W W') :
    Below W0.heap.size W0 W' ∧ W'.cell? ⟨g, p, none⟩ = some (.int .u64 x.1) ∧ W'.cell? ⟨g, p + 1, none⟩ = some (.int .i64 x.2) ∧ W'.cell? ⟨h, q, none⟩ = some (.int .u64 y.1) ∧ W'.cell? ⟨h, q + 1, none⟩ = some (.int .i64 y.2) := by
  obtain ⟨h0, h1, h2, h3, h4⟩ := s
  exact ⟨below2 h0 hb, (hb.cell (World.block_lt_of_cell? W _ h1)).trans h1, (hb.cell (World.block_lt_of_cell? W _ h2)).trans h2, (hb.cell (World.block_lt_of_cell? W _ h3)).trans h3, (hb.cell (World.block_lt_of_cell? W _ h4)).trans h4⟩
theorem drop_cons (l : List Pt) (i : Nat) (h : i < l.length) : l.drop i = l[i] :: l.drop (i + 1) := List.drop_eq_getElem_cons h

set_option maxRecDepth 100000 in
set_option maxHeartbeats 1500000 in
theorem refMerge_any (a : Option Addr) (cap : Nat) (A : List Pt) (a' : Option Addr) (cap' : Nat) (B : List Pt) (w : World) (h : Lies w a cap A) (h' : Lies w a' cap' B) (hA : A.length ≤ 100000000000) (hB : B.length ≤ 100000000000) :
    Calls Tryz.prog 173 #[ptsV a cap A, ptsV a' cap' B] w fun e W' => ∃ v, e = .returned v ∧ Own w.heap.size W' v (mrg A B) ∧ Below w.heap.size w W' := by
  have H := Lib.hid h
  have H' := Lib.hid h'
  have hl := h.len
  have hm := h.max
  have hl' := h'.len
  have hm' := h'.max
  unfold maxLen at hm hm'
  clear h h'
  go_enter Tryz.func173, Tryz.ntmps173
  go_wp2_with fail
  go_loopw [5, 6, 7] (fun v vi vk W => ∃ (i k : Nat) (out : List Pt), i ≤ A.length ∧ k ≤ B.length ∧ vi = .int .i64 i ∧ vk = .int .i64 k ∧ out.length ≤ 300000000000 ∧ out ++ mrg (A.drop i) (B.drop k) = mrg A B ∧ Own w.heap.size W v out ∧ Below w.heap.size w W) (fun _ vi vk _ => (A.length - (intOf vi).toNat) + (B.length - (intOf vk).toNat))
  case atStart => exact ⟨0, 0, [], Nat.zero_le _, Nat.zero_le _, rfl, rfl, by simp, by simp, own_nil _ _, Below.refl _ _⟩
  case round =>
    obtain ⟨i, k, out, hi, hk, rfl, rfl, hol, hout, hO, hBel⟩ := hrel
    have hml := congrArg List.length hout
    rw [List.length_append, mrg_length, mrg_length] at hml
    have hol2 : out.length ≤ 200000000000 := by omega
    have HT := Lib.hid hout
    have HO := Lib.hid hO
    have HB := Lib.hid hBel
    clear hout hO hBel hml hol
    by_cases hiA : i < A.length
    · have d1 : decide ((i : Int) < (A.length : Int)) = true := decide_eq_true (by omega)
      have d1' : decide (i < A.length) = true := decide_eq_true hiA
      obtain ⟨b1, o1, rfl, x0, x1⟩ := (H.out.kept HB.out).at hiA
      by_cases hkB : k < B.length
      · have d2 : decide ((B.length : Int) ≤ (k : Int)) = false := decide_eq_false (by omega)
        have d2' : decide (B.length ≤ k) = false := decide_eq_false (by omega)
        obtain ⟨b2, o2, rfl, y0, y1⟩ := (H'.out.kept HB.out).at hkB
        have eA := drop_cons A i hiA
        have eB := drop_cons B k hkB
        have HT2 := Lib.hid (show (le A[i] B[k] = true → out ++ [A[i]] ++ mrg (A.drop (i + 1)) (B.drop k) = mrg A B) ∧ (¬ le A[i] B[k] = true → out ++ [B[k]] ++ mrg (A.drop i) (B.drop (k + 1)) = mrg A B) by
          have h0 := HT.out
          constructor
          · intro hle
            rw [eA, eB, mrg_left _ _ _ _ hle, ← eB] at h0
            rw [List.append_assoc]; exact h0
          · intro hle
            rw [eA, eB, mrg_right _ _ _ _ hle, ← eA] at h0
            rw [List.append_assoc]; exact h0)
        clear eA eB HT
        generalize A[i] = x at *
        generalize B[k] = y at *
        go_wp2_with fail
        go_region_held3 (fun W => Below wr.heap.size wr W ∧ W.cell? ⟨b1, o1 + i * 2, none⟩ = some (.int .u64 x.1) ∧ W.cell? ⟨b1, o1 + i * 2 + 1, none⟩ = some (.int .i64 x.2) ∧ W.cell? ⟨b2, o2 + k * 2, none⟩ = some (.int .u64 y.1) ∧ W.cell? ⟨b2, o2 + k * 2 + 1, none⟩ = some (.int .i64 y.2)) (first | exact ⟨(Below.refl _ wr).drew, x0, x1, y0, y1⟩ | exact two_keep (by assumption) hb)
          (first | (go_at_call 201; (with_reducible refine (refLess_any _ _ _).mono ?_); rintro e w3 ⟨rfl, hb⟩))
        rename_i hHeld
        have HO3 := Lib.hid (HO.out.kept hHeld.1)
        have HB3 := Lib.hid (HB.out.trans (hHeld.1.mono HB.out.size))
        have z0 := hHeld.2.1
        have z1 := hHeld.2.2.1
        have t0 := hHeld.2.2.2.1
        have t1 := hHeld.2.2.2.2
        clear hHeld hb x0 x1 y0 y1 HO HB
        cases hless : less y x with
        | false =>
          have HT3 := Lib.hid (HT2.out.1 (by unfold le; rw [hless]; rfl))
          clear HT2 hless
          go_wp2_with (at_builtin; refine wpList_more rfl _ _ rfl w.heap.size w3.heap.size out x _ rfl rfl (HO3.out.kept (below_alloc w3 _)) ?c0 ?c1 ?c2 ?c3 ?_)
          case c0 => simp
          case c1 => simp
          case c2 => omega
          case c3 => have := HB3.out.size; simp; omega
          intro v' w4 ho4 hb4
          have HB4 := Lib.hid ((HB3.out.alloc HB3.out.size _).trans hb4.out)
          clear hb4
          go_wp2_with fail
          go_roundw
          case rel => exact ⟨i + 1, k, _, by omega, hk, by go_num, rfl, by simp; omega, HT3.out, ho4.out, HB4.out⟩
          case measure => simp [intOf]; omega
        | true =>
          have HT3 := Lib.hid (HT2.out.2 (by unfold le; rw [hless]; simp))
          clear HT2 hless
          go_wp2_with (at_builtin; refine wpList_more rfl _ _ rfl w.heap.size w3.heap.size out y _ rfl rfl (HO3.out.kept (below_alloc w3 _)) ?c0 ?c1 ?c2 ?c3 ?_)
          case c0 => simp
          case c1 => simp
          case c2 => omega
          case c3 => have := HB3.out.size; simp; omega
          intro v' w4 ho4 hb4
          have HB4 := Lib.hid ((HB3.out.alloc HB3.out.size _).trans hb4.out)
          clear hb4
          go_wp2_with fail
          go_roundw
          case rel => exact ⟨i, k + 1, _, hi, by omega, rfl, by go_num, by simp; omega, HT3.out, ho4.out, HB4.out⟩
          case measure => simp [intOf]; omega
      · have d2 : decide ((B.length : Int) ≤ (k : Int)) = true := decide_eq_true (by omega)
        have d2' : decide (B.length ≤ k) = true := decide_eq_true (by omega)
        have HT3 := Lib.hid (show out ++ [A[i]] ++ mrg (A.drop (i + 1)) (B.drop k) = mrg A B by
          have h0 := HT.out
          rw [drop_cons A i hiA, List.drop_eq_nil_of_le (show B.length ≤ k by omega), mrg_nil_right] at h0
          rw [List.append_assoc, List.drop_eq_nil_of_le (show B.length ≤ k by omega), mrg_nil_right]; exact h0)
        clear HT
        generalize A[i] = x at *
        go_wp2_with fail
        go_quiet (fail)
        have HO3 := Lib.hid (show Own w.heap.size (wr.drewN nq) _ out from HO.out)
        have HB3 := Lib.hid (below_drewN HB.out nq)
        have z0 : (wr.drewN nq).cell? ⟨b1, o1 + i * 2, none⟩ = some (.int .u64 x.1) := x0
        have z1 : (wr.drewN nq).cell? ⟨b1, o1 + i * 2 + 1, none⟩ = some (.int .i64 x.2) := x1
        clear x0 x1 HO HB
        generalize wr.drewN nq = w3 at *
        go_wp2_with (at_builtin; refine wpList_more rfl _ _ rfl w.heap.size w3.heap.size out x _ rfl rfl (HO3.out.kept (below_alloc w3 _)) ?c0 ?c1 ?c2 ?c3 ?_)
        case c0 => simp
        case c1 => simp
        case c2 => omega
        case c3 => have := HB3.out.size; simp; omega
        intro v' w4 ho4 hb4
        have HB4 := Lib.hid ((HB3.out.alloc HB3.out.size _).trans hb4.out)
        clear hb4
        go_wp2_with fail
        go_roundw
        case rel => exact ⟨i + 1, k, _, by omega, hk, by go_num, rfl, by simp; omega, HT3.out, ho4.out, HB4.out⟩
        case measure => simp [intOf]; omega
    · have d1 : decide ((i : Int) < (A.length : Int)) = false := decide_eq_false (by omega)
      have d1' : decide (i < A.length) = false := decide_eq_false hiA
      by_cases hkB : k < B.length
      · have d2 : decide ((B.length : Int) ≤ (k : Int)) = false := decide_eq_false (by omega)
        have d2' : decide (B.length ≤ k) = false := decide_eq_false (by omega)
        have d3 : decide ((k : Int) < (B.length : Int)) = true := decide_eq_true (by omega)
        have d3' : decide (k < B.length) = true := decide_eq_true hkB
        obtain ⟨b2, o2, rfl, y0, y1⟩ := (H'.out.kept HB.out).at hkB
        have HT3 := Lib.hid (show out ++ [B[k]] ++ mrg (A.drop i) (B.drop (k + 1)) = mrg A B by
          have h0 := HT.out
          rw [drop_cons B k hkB, List.drop_eq_nil_of_le (show A.length ≤ i by omega), mrg_nil_left] at h0
          rw [List.append_assoc, List.drop_eq_nil_of_le (show A.length ≤ i by omega), mrg_nil_left]; exact h0)
        clear HT
        generalize B[k] = y at *
        go_wp2_with fail
        go_quiet (fail)
        have HO3 := Lib.hid (show Own w.heap.size (wr.drewN nq) _ out from HO.out)
        have HB3 := Lib.hid (below_drewN HB.out nq)
        have z0 : (wr.drewN nq).cell? ⟨b2, o2 + k * 2, none⟩ = some (.int .u64 y.1) := y0
        have z1 : (wr.drewN nq).cell? ⟨b2, o2 + k * 2 + 1, none⟩ = some (.int .i64 y.2) := y1
        clear y0 y1 HO HB
        generalize wr.drewN nq = w3 at *
        go_wp2_with (at_builtin; refine wpList_more rfl _ _ rfl w.heap.size w3.heap.size out y _ rfl rfl (HO3.out.kept (below_alloc w3 _)) ?c0 ?c1 ?c2 ?c3 ?_)
        case c0 => simp
        case c1 => simp
        case c2 => omega
        case c3 => have := HB3.out.size; simp; omega
        intro v' w4 ho4 hb4
        have HB4 := Lib.hid ((HB3.out.alloc HB3.out.size _).trans hb4.out)
        clear hb4
        go_wp2_with fail
        go_roundw
        case rel => exact ⟨i, k + 1, _, hi, by omega, rfl, by go_num, by simp; omega, HT3.out, ho4.out, HB4.out⟩
        case measure => simp [intOf]; omega
      · have d3 : decide ((k : Int) < (B.length : Int)) = false := decide_eq_false (by omega)
        have d3' : decide (k < B.length) = false := decide_eq_false hkB
        have HF := Lib.hid (show out = mrg A B by
          have h0 := HT.out
          rw [List.drop_eq_nil_of_le (show A.length ≤ i by omega), List.drop_eq_nil_of_le (show B.length ≤ k by omega), mrg_nil_left, List.append_nil] at h0
          exact h0)
        go_wp2_with fail
        go_ret
        exact ⟨_, rfl, by rw [← HF.out]; exact HO.out, HB.out⟩
end Go.Proofs.YtbamodkgagcmnaaGreat.Pts
