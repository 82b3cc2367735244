/-
  Pools in order: two parts of a row that stand beside one another change places (package slices: rotateCmpFunc).
-/
import Derived.Test.YtfjpdoamalbpjaaPolU
namespace Go.Proofs.Ytfjpdoamalbpjaa.Pol
open Go.RowKit Go.Shelf Rgn

/-- What rotate has done: P and Q are still to change places. -/
structure Rotd (A U V C es : List Bk) (m i j : Nat) : Prop where
  pi : 0 < i
  pj : 0 < j
  le : i ≤ m
  ex : ∃ L P Q R, es = A ++ (L ++ (P ++ (Q ++ (R ++ C)))) ∧ A.length + L.length + P.length = m ∧ P.length = i ∧ Q.length = j ∧ L ++ (Q ++ (P ++ R)) = V ++ U
theorem Rotd.len {A U V C es : List Bk} {m i j : Nat} (h : Rotd A U V C es m i j) : es.length = A.length + U.length + V.length + C.length ∧ m + j ≤ es.length := by
  obtain ⟨L, P, Q, R, rfl, h1, h2, h3, h4⟩ := h.ex
  have := congrArg List.length h4
  simp at this ⊢
  omega

set_option maxRecDepth 100000 in
set_option maxHeartbeats 2000000 in
theorem rotate_any (g cap N : Nat) (A U V C : List Bk) (a m b : Nat) (f : Value) (B : Nat) (w : World) (h : Row w g cap (A ++ (U ++ (V ++ C)))) (hB : B ≤ g)
    (hN : N = A.length + U.length + V.length + C.length) (ha : a = A.length) (hm : m = A.length + U.length) (hb : b = A.length + U.length + V.length) (hU : 0 < U.length) (hV : 0 < V.length) :
    Calls Try.prog 82 #[.slice (some ⟨g, 0, none⟩) N cap, .int .i64 a, .int .i64 m, .int .i64 b, f] w
      fun e W' => e = .returned (.tuple #[]) ∧ Row W' g cap (A ++ (V ++ (U ++ C))) ∧ Below B w W' := by
  have hM := h.len
  have hlN : (A ++ (U ++ (V ++ C))).length = N := by simp; omega
  rw [hlN] at hM
  unfold maxLen at hM
  have H := Lib.hid h
  have HS := Lib.hid (show Rotd A U V C (A ++ (U ++ (V ++ C))) m (m - a) (b - m) from ⟨by omega, by omega, by omega, [], U, V, [], by simp, by simp; omega, by omega, by omega, by simp⟩)
  have HN := Lib.hid hN
  have s1 : IntKind.i64.wrap ((m : Int) - (a : Int)) = ((m - a : Nat) : Int) := by rw [IntKind.wrap_i64]; omega
  have s2 : IntKind.i64.wrap ((b : Int) - (m : Int)) = ((b - m : Nat) : Int) := by rw [IntKind.wrap_i64]; omega
  have hmN : m < N := by omega
  have hpi : 0 < m - a := by omega
  have hpj : 0 < b - m := by omega
  clear h hlN ha hm hb hN hU hV
  go_enter Try.func82, Try.ntmps82
  go_wp2_with fail
  generalize m - a = i0 at *
  generalize b - m = j0 at *
  go_loopw [10, 11] (fun vi vj W => ∃ (i j : Nat) (es : List Bk), vi = .int .i64 i ∧ vj = .int .i64 j ∧ Rotd A U V C es m i j ∧ Row W g cap es ∧ Below B w W) (fun vi vj _ => (intOf vi).toNat + (intOf vj).toNat)
  case atStart => exact ⟨i0, j0, _, rfl, rfl, HS.out, H.out, Below.refl _ _⟩
  case round =>
    obtain ⟨i, j, es, rfl, rfl, hS, hR, hBel⟩ := hrel
    have hl := hS.len
    rw [← HN.out] at hl
    have hpi' := hS.pi
    have hpj' := hS.pj
    have hle := hS.le
    have HR := Lib.hid hR
    have HBel := Lib.hid hBel
    have HX := Lib.hid hS.ex
    have hjN : m + j ≤ N := by omega
    clear hR hBel hS hl
    rcases Nat.lt_trichotomy i j with hlt | heq | hgt
    · -- the shorter part stands first
      obtain ⟨L, P, Q, R, he, h1, h2, h3, h4⟩ := HX.out
      have hb1 : ((i : Int) != (j : Int)) = true := bne_iff_ne.2 (by omega)
      have hd1 : decide ((j : Int) < (i : Int)) = false := decide_eq_false (by omega)
      have t1 : IntKind.i64.wrap ((m : Int) - (i : Int)) = ((m - i : Nat) : Int) := by rw [IntKind.wrap_i64]; omega
      have t4 : IntKind.i64.wrap ((j : Int) - (i : Int)) = ((j - i : Nat) : Int) := by rw [IntKind.wrap_i64]; omega
      have eQ : Q = Q.take (j - i) ++ Q.drop (j - i) := (List.take_append_drop _ _).symm
      have l1 : (Q.take (j - i)).length = j - i := by simp; omega
      have l2 : (Q.drop (j - i)).length = i := by simp; omega
      generalize Q.take (j - i) = Q1 at *
      generalize Q.drop (j - i) = Q2 at *
      subst eQ
      have hRow := HR.out
      rw [he] at hRow
      have e1 : A ++ (L ++ (P ++ ((Q1 ++ Q2) ++ (R ++ C)))) = (A ++ L) ++ (P ++ (Q1 ++ (Q2 ++ (R ++ C)))) := by simp
      rw [e1] at hRow
      have hln := congrArg List.length h4
      simp only [List.length_append] at hln h1 h3
      have SW0 := swapRange_any g cap N (A ++ L) P Q1 Q2 (R ++ C) (m - i) (m + j - i) i f B wr hRow hB (by have := HN.out; simp; omega) (by simp; omega) (by omega) (by omega) (by simp; omega)
      rw [show ((m + j - i : Nat) : Int) = (m : Int) + (j : Int) - (i : Int) by omega] at SW0
      have SW := Lib.hid SW0
      have HS' := Lib.hid (show Rotd A U V C ((A ++ L) ++ (Q2 ++ (Q1 ++ (P ++ (R ++ C))))) m i (j - i) from ⟨by omega, by omega, by omega, L, Q2, Q1, P ++ R, by simp, by omega, by omega, by omega, by rw [← h4]; simp⟩)
      clear he h1 h2 h3 h4 e1 hRow hln l1 l2 HX SW0
      go_wp2_with fail
      refine SW.out.mono ?_
      rintro e w2 ⟨rfl, hr2, hb2⟩
      have HR2 := Lib.hid hr2
      have HB2 := Lib.hid (HBel.out.trans hb2)
      clear hr2 hb2 SW
      go_wp2_with fail
      go_roundw
      case rel => exact ⟨i, j - i, _, rfl, rfl, HS'.out, HR2.out, HB2.out⟩
      case measure => simp [intOf]; omega
    · subst heq
      obtain ⟨L, P, Q, R, he, h1, h2, h3, h4⟩ := HX.out
      have hb1 : ((i : Int) != (i : Int)) = false := by simp
      have t1 : IntKind.i64.wrap ((m : Int) - (i : Int)) = ((m - i : Nat) : Int) := by rw [IntKind.wrap_i64]; omega
      have hRow := HR.out
      rw [he] at hRow
      have e1 : A ++ (L ++ (P ++ (Q ++ (R ++ C)))) = (A ++ L) ++ (P ++ ([] ++ (Q ++ (R ++ C)))) := by simp
      rw [e1] at hRow
      have hln := congrArg List.length h4
      simp only [List.length_append] at hln
      have SW := Lib.hid (swapRange_any g cap N (A ++ L) P [] Q (R ++ C) (m - i) m i f B wr hRow hB (by have := HN.out; simp; omega) (by simp; omega) (by omega) (by omega) (by simp; omega))
      have HE := Lib.hid (show (A ++ L) ++ (Q ++ ([] ++ (P ++ (R ++ C)))) = A ++ (V ++ (U ++ C)) by
        have : A ++ (V ++ (U ++ C)) = A ++ ((V ++ U) ++ C) := by simp
        rw [this, ← h4]; simp)
      clear he h1 h2 h3 h4 e1 hRow hln HX
      go_wp2_with fail
      refine SW.out.mono ?_
      rintro e w2 ⟨rfl, hr2, hb2⟩
      have HR2 := Lib.hid hr2
      have HB2 := Lib.hid (HBel.out.trans hb2)
      clear hr2 hb2 SW
      go_wp2_with fail
      go_end0
      exact ⟨rfl, by rw [← HE.out]; exact HR2.out, HB2.out⟩
    · obtain ⟨L, P, Q, R, he, h1, h2, h3, h4⟩ := HX.out
      have hb1 : ((i : Int) != (j : Int)) = true := bne_iff_ne.2 (by omega)
      have hd1 : decide ((j : Int) < (i : Int)) = true := decide_eq_true (by omega)
      have t1 : IntKind.i64.wrap ((m : Int) - (i : Int)) = ((m - i : Nat) : Int) := by rw [IntKind.wrap_i64]; omega
      have t4 : IntKind.i64.wrap ((i : Int) - (j : Int)) = ((i - j : Nat) : Int) := by rw [IntKind.wrap_i64]; omega
      have eP : P = P.take j ++ P.drop j := (List.take_append_drop _ _).symm
      have l1 : (P.take j).length = j := by simp; omega
      have l2 : (P.drop j).length = i - j := by simp; omega
      generalize P.take j = P1 at *
      generalize P.drop j = P2 at *
      subst eP
      have hRow := HR.out
      rw [he] at hRow
      have e1 : A ++ (L ++ ((P1 ++ P2) ++ (Q ++ (R ++ C)))) = (A ++ L) ++ (P1 ++ (P2 ++ (Q ++ (R ++ C)))) := by simp
      rw [e1] at hRow
      have hln := congrArg List.length h4
      simp only [List.length_append] at hln h1 h2
      have SW := Lib.hid (swapRange_any g cap N (A ++ L) P1 P2 Q (R ++ C) (m - i) m j f B wr hRow hB (by have := HN.out; simp; omega) (by simp; omega) (by omega) (by omega) (by simp; omega))
      have HS' := Lib.hid (show Rotd A U V C ((A ++ L) ++ (Q ++ (P2 ++ (P1 ++ (R ++ C))))) m (i - j) j from ⟨by omega, by omega, by omega, L ++ Q, P2, P1, R, by simp, by simp; omega, by omega, by omega, by rw [← h4]; simp⟩)
      clear he h1 h2 h3 h4 e1 hRow hln l1 l2 HX
      go_wp2_with fail
      refine SW.out.mono ?_
      rintro e w2 ⟨rfl, hr2, hb2⟩
      have HR2 := Lib.hid hr2
      have HB2 := Lib.hid (HBel.out.trans hb2)
      clear hr2 hb2 SW
      go_wp2_with fail
      go_roundw
      case rel => exact ⟨i - j, j, _, rfl, rfl, HS'.out, HR2.out, HB2.out⟩
      case measure => simp [intOf]; omega
end Go.Proofs.Ytfjpdoamalbpjaa.Pol
