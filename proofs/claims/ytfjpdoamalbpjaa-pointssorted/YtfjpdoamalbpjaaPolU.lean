/-
  Pools in order: two parts of a row change places (package slices: swapRangeCmpFunc, rotateCmpFunc).
-/
import Derived.Test.YtfjpdoamalbpjaaPolO
import Derived.Test.YtfjpdoamalbpjaaPolV
import Derived.BigRegion
namespace Go.Proofs.Ytfjpdoamalbpjaa.Pol
open Go.RowKit Go.Shelf Rgn

theorem set_mid (L R : List Bk) (x y : Bk) (p : Nat) (hp : p = L.length) : (L ++ x :: R).set p y = L ++ y :: R := by subst hp; simp
theorem get_mid (L R : List Bk) (x : Bk) (p : Nat) (hp : p = L.length) (h : p < (L ++ x :: R).length) : (L ++ x :: R)[p] = x := by subst hp; simp
/-- Two backends of a row change places. -/
theorem swap_mid (A M C : List Bk) (x y : Bk) (p q : Nat) (hp : p = A.length) (hq : q = A.length + 1 + M.length) :
    ((A ++ x :: (M ++ y :: C)).set p y).set q x = A ++ y :: (M ++ x :: C) := by
  rw [set_mid A _ x y p hp]
  have e : A ++ y :: (M ++ y :: C) = (A ++ y :: M) ++ y :: C := by simp
  rw [e, set_mid _ _ y x q (by simp; omega)]
  simp
theorem Row.swap {W : World} {g cap : Nat} {es : List Bk} (h : Row W g cap es) (p q : Nat) (x y : Bk) : Row (put2 (put2 W g p y) g q x).drew g cap ((es.set p y).set q x) := ((h.put p y).put q x).drew
theorem below_swap {B : Nat} {w W : World} (h : Below B w W) {g : Nat} (hg : B ≤ g) (p q : Nat) (x y : Bk) : Below B w (put2 (put2 W g p y) g q x).drew := (below_put (below_put h hg p y) hg q x).drew
/-- What swapRange has done behind i rounds. -/
structure Swapd (A P M Q C es : List Bk) (i : Nat) : Prop where
  ex : ∃ P1 P2 Q1 Q2, P = P1 ++ P2 ∧ Q = Q1 ++ Q2 ∧ P1.length = i ∧ Q1.length = i ∧ es = A ++ (Q1 ++ (P2 ++ (M ++ (P1 ++ (Q2 ++ C)))))
theorem Swapd.next {A P M Q C es : List Bk} {i : Nat} (h : Swapd A P M Q C es i) (hi : i < P.length) (hl : P.length = Q.length) (p q : Nat) (hp : p = A.length + i) (hq : q = A.length + P.length + M.length + i) :
    ∃ x y, es[p]? = some x ∧ es[q]? = some y ∧ Swapd A P M Q C ((es.set p y).set q x) (i + 1) := by
  obtain ⟨P1, P2, Q1, Q2, rfl, rfl, h1, h2, rfl⟩ := h.ex
  rw [List.length_append] at hi hl hq
  rw [List.length_append] at hl
  cases P2 with
  | nil => simp at hi; omega
  | cons x P2 =>
    cases Q2 with
    | nil => simp at hl; omega
    | cons y Q2 =>
      simp at hl hq
      refine ⟨x, y, ?_, ?_, ⟨P1 ++ [x], P2, Q1 ++ [y], Q2, by simp, by simp, by simp [h1], by simp [h2], ?_⟩⟩
      · have e : A ++ (Q1 ++ (x :: P2 ++ (M ++ (P1 ++ (y :: Q2 ++ C))))) = (A ++ Q1) ++ x :: (P2 ++ (M ++ (P1 ++ (y :: Q2 ++ C)))) := by simp
        rw [e, List.getElem?_append_right (by simp; omega)]
        simp [hp, h2]
      · have e : A ++ (Q1 ++ (x :: P2 ++ (M ++ (P1 ++ (y :: Q2 ++ C))))) = (A ++ Q1 ++ x :: P2 ++ M ++ P1) ++ y :: (Q2 ++ C) := by simp
        have e2 : q = (A ++ Q1 ++ x :: P2 ++ M ++ P1).length := by simp; omega
        rw [e, e2, List.getElem?_append_right (Nat.le_refl _)]
        simp
      · have e : A ++ (Q1 ++ (x :: P2 ++ (M ++ (P1 ++ (y :: Q2 ++ C))))) = (A ++ Q1) ++ x :: ((P2 ++ M ++ P1) ++ y :: (Q2 ++ C)) := by simp
        rw [e, swap_mid _ _ _ x y p q (by simp; omega) (by simp; omega)]
        simp
theorem Swapd.start (A P M Q C : List Bk) : Swapd A P M Q C (A ++ (P ++ (M ++ (Q ++ C)))) 0 := ⟨[], P, [], Q, rfl, rfl, rfl, rfl, rfl⟩
theorem Swapd.done {A P M Q C es : List Bk} {i : Nat} (h : Swapd A P M Q C es i) (hi : i = P.length) (hl : P.length = Q.length) : es = A ++ (Q ++ (M ++ (P ++ C))) := by
  obtain ⟨P1, P2, Q1, Q2, rfl, rfl, h1, h2, rfl⟩ := h.ex
  simp at hi hl
  have e1 : P2 = [] := List.eq_nil_of_length_eq_zero (by omega)
  have e2 : Q2 = [] := List.eq_nil_of_length_eq_zero (by omega)
  subst e1 e2; simp

set_option maxRecDepth 100000 in
set_option maxHeartbeats 4000000 in
theorem swapRange_any (g cap N : Nat) (A P M Q C : List Bk) (a b n : Nat) (f : Value) (B : Nat) (w : World) (h : Row w g cap (A ++ (P ++ (M ++ (Q ++ C))))) (hB : B ≤ g)
    (hN : N = A.length + P.length + M.length + Q.length + C.length) (ha : a = A.length) (hn : n = P.length) (hQ : P.length = Q.length) (hb : b = A.length + P.length + M.length) :
    Calls Try.prog 88 #[.slice (some ⟨g, 0, none⟩) N cap, .int .i64 a, .int .i64 b, .int .i64 n, f] w
      fun e W' => e = .returned (.tuple #[]) ∧ Row W' g cap (A ++ (Q ++ (M ++ (P ++ C)))) ∧ Below B w W' := by
  have hM := h.len
  have hlN : (A ++ (P ++ (M ++ (Q ++ C)))).length = N := by simp; omega
  rw [hlN] at hM
  unfold maxLen at hM
  have H := Lib.hid h
  have hbN : b + n ≤ N := by omega
  have hab : a + n ≤ b := by omega
  have HA := Lib.hid ha
  have HN := Lib.hid hn
  have HQ := Lib.hid hQ
  have HBb := Lib.hid hb
  have HL := Lib.hid hlN
  clear h hlN ha hn hQ hb hN
  go_enter Try.func88, Try.ntmps88
  go_wp2
  go_loopw [10] (fun vi W => ∃ (i : Nat) (es : List Bk), vi = .int .i64 i ∧ i ≤ n ∧ es.length = N ∧ Swapd A P M Q C es i ∧ Row W g cap es ∧ Below B w W) (fun vi _ => n - (intOf vi).toNat)
  case atStart => exact ⟨0, _, rfl, Nat.zero_le _, HL.out, Swapd.start A P M Q C, H.out, Below.refl _ _⟩
  case round =>
    obtain ⟨i, es, rfl, hi, hes, hS, hR, hBel⟩ := hrel
    have HR := Lib.hid hR
    have HS := Lib.hid hS
    have HE := Lib.hid hes
    have HBel := Lib.hid hBel
    clear hR hBel hS hes
    by_cases hlt : i < n
    · obtain ⟨x, y, hx, hy, hS'⟩ := HS.out.next (by rw [← HN.out]; exact hlt) HQ.out (a + i) (b + i) (by rw [HA.out]) (by rw [HBb.out])
      obtain ⟨hxl, ex⟩ := List.getElem?_eq_some_iff.1 hx
      obtain ⟨hyl, ey⟩ := List.getElem?_eq_some_iff.1 hy
      obtain ⟨c0, c1, f0, f1⟩ := HR.out.cell hxl
      obtain ⟨d0, d1, g0, g1⟩ := HR.out.cell hyl
      rw [ex] at c0 c1
      rw [ey] at d0 d1
      have HS2 := Lib.hid hS'
      have HR2 := Lib.hid (HR.out.swap (a + i) (b + i) x y)
      have HB2 := Lib.hid (below_swap HBel.out hB (a + i) (b + i) x y)
      have s1 : IntKind.i64.wrap ((a : Int) + (i : Int)) = ((a + i : Nat) : Int) := by rw [IntKind.wrap_i64]; omega
      have s2 : IntKind.i64.wrap ((b : Int) + (i : Int)) = ((b + i : Nat) : Int) := by rw [IntKind.wrap_i64]; omega
      have e1 : a + i < N := by omega
      have e2 : b + i < N := by omega
      have ne : a + i ≠ b + i := by omega
      clear ex ey hx hy hS' hxl hyl
      generalize a + i = p at *
      generalize b + i = q at *
      go_wp2_with fail
      go_region
      go_wp2
      go_roundw
      case rel => exact ⟨i + 1, _, by go_num, by omega, by simp; exact HE.out, HS2.out, HR2.out, HB2.out⟩
      case measure => simp [intOf]; omega
    · have HD := Lib.hid (HS.out.done (by rw [← HN.out]; omega) HQ.out)
      go_wp2
      go_end0
      exact ⟨rfl, by rw [← HD.out]; exact HR.out, HBel.out⟩
end Go.Proofs.Ytfjpdoamalbpjaa.Pol
