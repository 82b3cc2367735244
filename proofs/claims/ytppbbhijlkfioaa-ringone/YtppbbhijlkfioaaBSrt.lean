/-
  Pools in order, plain facts: what is sorted so that those of one Id stay as they stand.
-/
import Derived.Test.YtppbbhijlkfioaaBPol
import Derived.Test.YtppbbhijlkfioaaBPoo
import Derived.BigRegion
import Derived.Deep.RegionHeld3
import Derived.Shelf.RegionOpen
import Derived.BigQuiet
import Derived.WalkSmall
import Derived.Deep.CutRange
namespace Go.Proofs.Ytppbbhijlkfioaa.Pol

/-- Those of one Id stand as they stood. -/
def Stab (D L : List Bk) : Prop := ∀ v, L.filter (fun x => x.1 == v) = D.filter (fun x => x.1 == v)
theorem Stab.refl (D : List Bk) : Stab D D := fun _ => rfl
theorem Stab.trans {D E F : List Bk} (h : Stab D E) (k : Stab E F) : Stab D F := fun v => (k v).trans (h v)
theorem Stab.symm {D E : List Bk} (h : Stab D E) : Stab E D := fun v => (h v).symm
theorem Stab.app {D E D' E' : List Bk} (h : Stab D E) (h' : Stab D' E') : Stab (D ++ D') (E ++ E') := fun v => by rw [List.filter_append, List.filter_append, h v, h' v]
theorem filter_none {L : List Bk} {v : Int} (h : ∀ x ∈ L, x.1 ≠ v) : L.filter (fun x => x.1 == v) = [] := by
  rw [List.filter_eq_nil_iff]
  intro x hx; simpa using h x hx
/-- Two parts that have no Id in common change places. -/
theorem stab_swap (U V : List Bk) (h : ∀ u ∈ U, ∀ v ∈ V, u.1 ≠ v.1) : Stab (U ++ V) (V ++ U) := by
  intro z
  rw [List.filter_append, List.filter_append]
  by_cases e : ∃ u ∈ U, u.1 = z
  · obtain ⟨u, hu, rfl⟩ := e
    rw [filter_none (L := V) (fun v hv => (h u hu v hv).symm)]; simp
  · rw [filter_none (L := U) (fun u hu e' => e ⟨u, hu, e'⟩)]; simp
theorem rises_unique (L1 : List Bk) : ∀ L2, Rises L1 → Rises L2 → Stab L1 L2 → L1 = L2 := by
  induction L1 with
  | nil =>
    intro L2 _ _ h
    cases L2 with
    | nil => rfl
    | cons y l => have := h y.1; simp at this
  | cons x l1 ih =>
    intro L2 h1 h2 h
    cases L2 with
    | nil => have := h x.1; simp at this
    | cons y l2 =>
      have hx := h x.1
      have hy := h y.1
      unfold Rises at h1 h2
      rw [List.pairwise_cons] at h1 h2
      have e : x.1 = y.1 := by
        rcases Int.lt_trichotomy x.1 y.1 with hlt | e | hlt
        · rw [filter_none (L := y :: l2) (fun z hz => by
            rcases List.mem_cons.1 hz with rfl | hz
            · omega
            · have := h2.1 z hz; omega)] at hx
          simp at hx
        · exact e
        · rw [filter_none (L := x :: l1) (fun z hz => by
            rcases List.mem_cons.1 hz with rfl | hz
            · omega
            · have := h1.1 z hz; omega)] at hy
          simp at hy
      have e2 : y = x := by
        have := h x.1
        simp only [List.filter_cons, e, beq_self_eq_true, if_true] at this
        exact (List.cons.inj this).1
      subst e2
      congr 1
      refine ih l2 h1.2 h2.2 fun v => ?_
      have := h v
      simp only [List.filter_cons] at this
      split at this
      · exact (List.cons.inj this).2
      · exact this
theorem ins_split (L : List Bk) (R : List Bk) (y : Bk) (hL : ∀ l ∈ L, l.1 ≤ y.1) (hR : ∀ r ∈ R, y.1 < r.1) : ins (L ++ R) y = L ++ y :: R := by
  induction L with
  | nil =>
    cases R with
    | nil => rfl
    | cons r R => exact ins_lt _ _ _ (hR r (by simp))
  | cons l L ih =>
    rw [List.cons_append, ins_ge _ _ _ (by have := hL l (by simp); omega), ih (fun z hz => hL z (by simp [hz]))]; rfl
theorem ins_parts (L : List Bk) (y : Bk) (h : Rises L) : ∃ L1 L2, L = L1 ++ L2 ∧ (∀ l ∈ L1, l.1 ≤ y.1) ∧ ∀ r ∈ L2, y.1 < r.1 := by
  induction L with
  | nil => exact ⟨[], [], rfl, (fun l hl => by cases hl), (fun l hl => by cases hl)⟩
  | cons x L ih =>
    rw [Rises, List.pairwise_cons] at h
    by_cases hx : y.1 < x.1
    · refine ⟨[], x :: L, rfl, (fun l hl => by cases hl), fun r hr => ?_⟩
      rcases List.mem_cons.1 hr with rfl | hr
      · exact hx
      · have := h.1 r hr; omega
    · obtain ⟨L1, L2, rfl, h1, h2⟩ := ih h.2
      refine ⟨x :: L1, L2, rfl, fun l hl => ?_, h2⟩
      rcases List.mem_cons.1 hl with rfl | hl
      · omega
      · exact h1 l hl
theorem sorted_snoc (T : List Bk) (y : Bk) : sorted (T ++ [y]) = ins (sorted T) y := by simp [sorted]
theorem stab_snoc (L R : List Bk) (y : Bk) (hR : ∀ r ∈ R, y.1 < r.1) : Stab (L ++ R ++ [y]) (L ++ y :: R) := by
  rw [List.append_assoc]
  refine (Stab.refl L).app ?_
  exact stab_swap R [y] (fun u hu v hv => by simp at hv; subst hv; have := hR u hu; omega)
theorem stab_sorted (T : List Bk) : Stab T (sorted T) := by
  have go : ∀ n (T : List Bk), T.length = n → Stab T (sorted T) := by
    intro n
    induction n with
    | zero => intro T h; rw [List.eq_nil_of_length_eq_zero h]; exact Stab.refl _
    | succ n ih =>
      intro T h
      have hne : T ≠ [] := fun e => by rw [e] at h; simp at h
      obtain ⟨y, T', rfl⟩ : ∃ y T', T = T' ++ [y] := ⟨T.getLast hne, T.dropLast, (List.dropLast_concat_getLast hne).symm⟩
      rw [sorted_snoc]
      obtain ⟨L1, L2, e, h1, h2⟩ := ins_parts (sorted T') y (sorted_rises T')
      rw [e, ins_split _ _ _ h1 h2]
      refine Stab.trans ?_ (stab_snoc L1 L2 y h2)
      rw [← e]
      exact (ih T' (by simpa using h)).app (Stab.refl _)
  exact go _ T rfl
/-- What rises, and has those of one Id as they stand, is what is sorted. -/
theorem sorted_is (D L : List Bk) (h : Rises L) (k : Stab D L) : sorted D = L := rises_unique _ _ (sorted_rises D) h ((stab_sorted D).symm.trans k)
theorem sorted_self (L : List Bk) (h : Rises L) : sorted L = L := sorted_is L L h (Stab.refl L)
theorem rises_app {L R : List Bk} (hL : Rises L) (hR : Rises R) (h : ∀ l ∈ L, ∀ r ∈ R, l.1 ≤ r.1) : Rises (L ++ R) := List.pairwise_append.2 ⟨hL, hR, h⟩
theorem sorted_mem' (D : List Bk) (x : Bk) : x ∈ sorted D ↔ x ∈ D := by
  have := stab_sorted D x.1
  constructor
  · intro h
    have hm : x ∈ (sorted D).filter (fun y => y.1 == x.1) := List.mem_filter.2 ⟨h, by simp⟩
    rw [this] at hm; exact (List.mem_filter.1 hm).1
  · intro h
    have hm : x ∈ D.filter (fun y => y.1 == x.1) := List.mem_filter.2 ⟨h, by simp⟩
    rw [← this] at hm; exact (List.mem_filter.1 hm).1
/-- One ahead of a row. -/
theorem merge_first (x : Bk) (Y1 Y2 : List Bk) (hY : Rises (Y1 ++ Y2)) (h1 : ∀ y ∈ Y1, y.1 < x.1) (h2 : ∀ y ∈ Y2, x.1 ≤ y.1) : sorted ([x] ++ (Y1 ++ Y2)) = Y1 ++ x :: Y2 := by
  rw [Rises, List.pairwise_append] at hY
  refine sorted_is _ _ ?_ ?_
  · refine rises_app hY.1 (List.pairwise_cons.2 ⟨h2, hY.2.1⟩) fun l hl r hr => ?_
    rcases List.mem_cons.1 hr with rfl | hr
    · have := h1 l hl; omega
    · exact hY.2.2 l hl r hr
  · have e : Y1 ++ x :: Y2 = (Y1 ++ [x]) ++ Y2 := by simp
    rw [e, ← List.append_assoc]
    exact (stab_swap [x] Y1 (fun u hu v hv => by simp at hu; subst hu; have := h1 v hv; omega)).app (Stab.refl _)
/-- One behind a row. -/
theorem merge_last (y : Bk) (X1 X2 : List Bk) (hX : Rises (X1 ++ X2)) (h1 : ∀ x ∈ X1, x.1 ≤ y.1) (h2 : ∀ x ∈ X2, y.1 < x.1) : sorted (X1 ++ X2 ++ [y]) = X1 ++ y :: X2 := by
  rw [sorted_snoc, sorted_self _ hX, ins_split _ _ _ h1 h2]
/-- Two rows, parted alike. -/
theorem merge_two (X1 X2 Y1 Y2 : List Bk) (hX : Rises (X1 ++ X2)) (hY : Rises (Y1 ++ Y2)) (h1 : ∀ x ∈ X1, ∀ y ∈ Y2, x.1 ≤ y.1) (h2 : ∀ y ∈ Y1, ∀ x ∈ X2, y.1 < x.1) :
    sorted (X1 ++ X2 ++ (Y1 ++ Y2)) = sorted (X1 ++ Y1) ++ sorted (X2 ++ Y2) := by
  rw [Rises, List.pairwise_append] at hX hY
  refine sorted_is _ _ (rises_app (sorted_rises _) (sorted_rises _) fun l hl r hr => ?_) ?_
  · rw [sorted_mem', List.mem_append] at hl hr
    rcases hl with hl | hl <;> rcases hr with hr | hr
    · exact hX.2.2 l hl r hr
    · exact h1 l hl r hr
    · have := h2 l hl r hr; omega
    · exact hY.2.2 l hl r hr
  · refine Stab.trans ?_ ((stab_sorted (X1 ++ Y1)).app (stab_sorted (X2 ++ Y2)))
    have e1 : X1 ++ X2 ++ (Y1 ++ Y2) = X1 ++ ((X2 ++ Y1) ++ Y2) := by simp
    have e2 : X1 ++ Y1 ++ (X2 ++ Y2) = X1 ++ ((Y1 ++ X2) ++ Y2) := by simp
    rw [e1, e2]
    exact (Stab.refl X1).app ((stab_swap X2 Y1 (fun u hu v hv => by have := h2 v hv u hu; omega)).app (Stab.refl Y2))
end Go.Proofs.Ytppbbhijlkfioaa.Pol

namespace Go.Proofs.Ytppbbhijlkfioaa.Pol
open Go.RowKit Go.Shelf Rgn

theorem set_mid (L R : List Bk) (x y : Bk) (p : Nat) (hp : p = L.length) : (L ++ x :: R).set p y = L ++ y :: R := by subst hp; simp
theorem get_mid (L R : List Bk) (x : Bk) (p : Nat) (hp : p = L.length) (h : p < (L ++ x :: R).length) : (L ++ x :: R)[p] = x := by subst hp; simp
/-- Two backends of a row change places. -/
theorem swap_mid (A M C : List Bk) (x y : Bk) (p q : Nat) (hp : p = A.length) (hq : q = A.length + 1 + M.length) :
    ((A ++ x :: (M ++ y :: C)).set p y).set q x = A ++ y :: (M ++ x :: C) := by
  rw [set_mid A _ x y p hp]
  have e : A ++ y :: (M ++ y :: C) = (A ++ y :: M) ++ y :: C := by simp
  rw [e, set_mid _ _ y x q (by simp; omega)]
  simp
theorem Row.swap {W : World} {g cap : Nat} {es : List Bk} (h : Row W g cap es) (p q : Nat) (x y : Bk) : Row (put2 (put2 W g p y) g q x).drew g cap ((es.set p y).set q x) := ((h.put p y).put q x).drew
theorem below_swap {B : Nat} {w W : World} (h : Below B w W) {g : Nat} (hg : B ≤ g) (p q : Nat) (x y : Bk) : Below B w (put2 (put2 W g p y) g q x).drew := (below_put (below_put h hg p y) hg q x).drew
/-- What swapRange has done behind i rounds. -/
structure Swapd (A P M Q C es : List Bk) (i : Nat) : Prop where
  ex : ∃ P1 P2 Q1 Q2, P = P1 ++ P2 ∧ Q = Q1 ++ Q2 ∧ P1.length = i ∧ Q1.length = i ∧ es = A ++ (Q1 ++ (P2 ++ (M ++ (P1 ++ (Q2 ++ C)))))
theorem Swapd.next {A P M Q C es : List Bk} {i : Nat} (h : Swapd A P M Q C es i) (hi : i < P.length) (hl : P.length = Q.length) (p q : Nat) (hp : p = A.length + i) (hq : q = A.length + P.length + M.length + i) :
    ∃ x y, es[p]? = some x ∧ es[q]? = some y ∧ Swapd A P M Q C ((es.set p y).set q x) (i + 1) := by
  obtain ⟨P1, P2, Q1, Q2, rfl, rfl, h1, h2, rfl⟩ := h.ex
  rw [List.length_append] at hi hl hq
  rw [List.length_append] at hl
  cases P2 with
  | nil => simp at hi; omega
  | cons x P2 =>
    cases Q2 with
    | nil => simp at hl; omega
    | cons y Q2 =>
      simp at hl hq
      refine ⟨x, y, ?_, ?_, ⟨P1 ++ [x], P2, Q1 ++ [y], Q2, by simp, by simp, by simp [h1], by simp [h2], ?_⟩⟩
      · have e : A ++ (Q1 ++ (x :: P2 ++ (M ++ (P1 ++ (y :: Q2 ++ C))))) = (A ++ Q1) ++ x :: (P2 ++ (M ++ (P1 ++ (y :: Q2 ++ C)))) := by simp
        rw [e, List.getElem?_append_right (by simp; omega)]
        simp [hp, h2]
      · have e : A ++ (Q1 ++ (x :: P2 ++ (M ++ (P1 ++ (y :: Q2 ++ C))))) = (A ++ Q1 ++ x :: P2 ++ M ++ P1) ++ y :: (Q2 ++ C) := by simp
        have e2 : q = (A ++ Q1 ++ x :: P2 ++ M ++ P1).length := by simp; omega
        rw [e, e2, List.getElem?_append_right (Nat.le_refl _)]
        simp
      · have e : A ++ (Q1 ++ (x :: P2 ++ (M ++ (P1 ++ (y :: Q2 ++ C))))) = (A ++ Q1) ++ x :: ((P2 ++ M ++ P1) ++ y :: (Q2 ++ C)) := by simp
        rw [e, swap_mid _ _ _ x y p q (by simp; omega) (by simp; omega)]
        simp
theorem Swapd.start (A P M Q C : List Bk) : Swapd A P M Q C (A ++ (P ++ (M ++ (Q ++ C)))) 0 := ⟨[], P, [], Q, rfl, rfl, rfl, rfl, rfl⟩
theorem Swapd.done {A P M Q C es : List Bk} {i : Nat} (h : Swapd A P M Q C es i) (hi : i = P.length) (hl : P.length = Q.length) : es = A ++ (Q ++ (M ++ (P ++ C))) := by
  obtain ⟨P1, P2, Q1, Q2, rfl, rfl, h1, h2, rfl⟩ := h.ex
  simp at hi hl
  have e1 : P2 = [] := List.eq_nil_of_length_eq_zero (by omega)
  have e2 : Q2 = [] := List.eq_nil_of_length_eq_zero (by omega)
  subst e1 e2; simp

set_option maxRecDepth 100000 in
set_option maxHeartbeats 4000000 in
theorem swapRange_any (g cap N : Nat) (A P M Q C : List Bk) (a b n : Nat) (f : Value) (B : Nat) (w : World) (h : Row w g cap (A ++ (P ++ (M ++ (Q ++ C))))) (hB : B ≤ g)
    (hN : N = A.length + P.length + M.length + Q.length + C.length) (ha : a = A.length) (hn : n = P.length) (hQ : P.length = Q.length) (hb : b = A.length + P.length + M.length) :
    Calls Try.prog 91 #[.slice (some ⟨g, 0, none⟩) N cap, .int .i64 a, .int .i64 b, .int .i64 n, f] w
      fun e W' => e = .returned (.tuple #[]) ∧ Row W' g cap (A ++ (Q ++ (M ++ (P ++ C)))) ∧ Below B w W' := by
  have hM := h.len
  have hlN : (A ++ (P ++ (M ++ (Q ++ C)))).length = N := by simp; omega
  rw [hlN] at hM
  unfold maxLen at hM
  have H := Lib.hid h
  have hbN : b + n ≤ N := by omega
  have hab : a + n ≤ b := by omega
  have HA := Lib.hid ha
  have HN := Lib.hid hn
  have HQ := Lib.hid hQ
  have HBb := Lib.hid hb
  have HL := Lib.hid hlN
  clear h hlN ha hn hQ hb hN
  go_enter Try.func91, Try.ntmps91
  go_wp2
  go_loopw [10] (fun vi W => ∃ (i : Nat) (es : List Bk), vi = .int .i64 i ∧ i ≤ n ∧ es.length = N ∧ Swapd A P M Q C es i ∧ Row W g cap es ∧ Below B w W) (fun vi _ => n - (intOf vi).toNat)
  case atStart => exact ⟨0, _, rfl, Nat.zero_le _, HL.out, Swapd.start A P M Q C, H.out, Below.refl _ _⟩
  case round =>
    obtain ⟨i, es, rfl, hi, hes, hS, hR, hBel⟩ := hrel
    have HR := Lib.hid hR
    have HS := Lib.hid hS
    have HE := Lib.hid hes
    have HBel := Lib.hid hBel
    clear hR hBel hS hes
    by_cases hlt : i < n
    · obtain ⟨x, y, hx, hy, hS'⟩ := HS.out.next (by rw [← HN.out]; exact hlt) HQ.out (a + i) (b + i) (by rw [HA.out]) (by rw [HBb.out])
      obtain ⟨hxl, ex⟩ := List.getElem?_eq_some_iff.1 hx
      obtain ⟨hyl, ey⟩ := List.getElem?_eq_some_iff.1 hy
      obtain ⟨c0, c1, f0, f1⟩ := HR.out.cell hxl
      obtain ⟨d0, d1, g0, g1⟩ := HR.out.cell hyl
      rw [ex] at c0 c1
      rw [ey] at d0 d1
      have HS2 := Lib.hid hS'
      have HR2 := Lib.hid (HR.out.swap (a + i) (b + i) x y)
      have HB2 := Lib.hid (below_swap HBel.out hB (a + i) (b + i) x y)
      have s1 : IntKind.i64.wrap ((a : Int) + (i : Int)) = ((a + i : Nat) : Int) := by rw [IntKind.wrap_i64]; omega
      have s2 : IntKind.i64.wrap ((b : Int) + (i : Int)) = ((b + i : Nat) : Int) := by rw [IntKind.wrap_i64]; omega
      have e1 : a + i < N := by omega
      have e2 : b + i < N := by omega
      have ne : a + i ≠ b + i := by omega
      clear ex ey hx hy hS' hxl hyl
      generalize a + i = p at *
      generalize b + i = q at *
      go_wp2_with fail
      go_region
      go_wp2
      go_roundw
      case rel => exact ⟨i + 1, _, by go_num, by omega, by simp; exact HE.out, HS2.out, HR2.out, HB2.out⟩
      case measure => simp [intOf]; omega
    · have HD := Lib.hid (HS.out.done (by rw [← HN.out]; omega) HQ.out)
      go_wp2
      go_end0
      exact ⟨rfl, by rw [← HD.out]; exact HR.out, HBel.out⟩
end Go.Proofs.Ytppbbhijlkfioaa.Pol

namespace Go.Proofs.Ytppbbhijlkfioaa.Pol
open Go.RowKit Go.Shelf Rgn

/-- What rotate has done: P and Q are still to change places. -/
structure Rotd (A U V C es : List Bk) (m i j : Nat) : Prop where
  pi : 0 < i
  pj : 0 < j
  le : i ≤ m
  ex : ∃ L P Q R, es = A ++ (L ++ (P ++ (Q ++ (R ++ C)))) ∧ A.length + L.length + P.length = m ∧ P.length = i ∧ Q.length = j ∧ L ++ (Q ++ (P ++ R)) = V ++ U
theorem Rotd.len {A U V C es : List Bk} {m i j : Nat} (h : Rotd A U V C es m i j) : es.length = A.length + U.length + V.length + C.length ∧ m + j ≤ es.length := by
  obtain ⟨L, P, Q, R, rfl, h1, h2, h3, h4⟩ := h.ex
  have := congrArg List.length h4
  simp at this ⊢
  omega

set_option maxRecDepth 100000 in
set_option maxHeartbeats 2000000 in
theorem rotate_any (g cap N : Nat) (A U V C : List Bk) (a m b : Nat) (f : Value) (B : Nat) (w : World) (h : Row w g cap (A ++ (U ++ (V ++ C)))) (hB : B ≤ g)
    (hN : N = A.length + U.length + V.length + C.length) (ha : a = A.length) (hm : m = A.length + U.length) (hb : b = A.length + U.length + V.length) (hU : 0 < U.length) (hV : 0 < V.length) :
    Calls Try.prog 81 #[.slice (some ⟨g, 0, none⟩) N cap, .int .i64 a, .int .i64 m, .int .i64 b, f] w
      fun e W' => e = .returned (.tuple #[]) ∧ Row W' g cap (A ++ (V ++ (U ++ C))) ∧ Below B w W' := by
  have hM := h.len
  have hlN : (A ++ (U ++ (V ++ C))).length = N := by simp; omega
  rw [hlN] at hM
  unfold maxLen at hM
  have H := Lib.hid h
  have HS := Lib.hid (show Rotd A U V C (A ++ (U ++ (V ++ C))) m (m - a) (b - m) from ⟨by omega, by omega, by omega, [], U, V, [], by simp, by simp; omega, by omega, by omega, by simp⟩)
  have HN := Lib.hid hN
  have s1 : IntKind.i64.wrap ((m : Int) - (a : Int)) = ((m - a : Nat) : Int) := by rw [IntKind.wrap_i64]; omega
  have s2 : IntKind.i64.wrap ((b : Int) - (m : Int)) = ((b - m : Nat) : Int) := by rw [IntKind.wrap_i64]; omega
  have hmN : m < N := by omega
  have hpi : 0 < m - a := by omega
  have hpj : 0 < b - m := by omega
  clear h hlN ha hm hb hN hU hV
  go_enter Try.func81, Try.ntmps81
  go_wp2_with fail
  generalize m - a = i0 at *
  generalize b - m = j0 at *
  go_loopw [10, 11] (fun vi vj W => ∃ (i j : Nat) (es : List Bk), vi = .int .i64 i ∧ vj = .int .i64 j ∧ Rotd A U V C es m i j ∧ Row W g cap es ∧ Below B w W) (fun vi vj _ => (intOf vi).toNat + (intOf vj).toNat)
  case atStart => exact ⟨i0, j0, _, rfl, rfl, HS.out, H.out, Below.refl _ _⟩
  case round =>
    obtain ⟨i, j, es, rfl, rfl, hS, hR, hBel⟩ := hrel
    have hl := hS.len
    rw [← HN.out] at hl
    have hpi' := hS.pi
    have hpj' := hS.pj
    have hle := hS.le
    have HR := Lib.hid hR
    have HBel := Lib.hid hBel
    have HX := Lib.hid hS.ex
    have hjN : m + j ≤ N := by omega
    clear hR hBel hS hl
    rcases Nat.lt_trichotomy i j with hlt | heq | hgt
    · -- the shorter part stands first
      obtain ⟨L, P, Q, R, he, h1, h2, h3, h4⟩ := HX.out
      have hb1 : ((i : Int) != (j : Int)) = true := bne_iff_ne.2 (by omega)
      have hd1 : decide ((j : Int) < (i : Int)) = false := decide_eq_false (by omega)
      have t1 : IntKind.i64.wrap ((m : Int) - (i : Int)) = ((m - i : Nat) : Int) := by rw [IntKind.wrap_i64]; omega
      have t4 : IntKind.i64.wrap ((j : Int) - (i : Int)) = ((j - i : Nat) : Int) := by rw [IntKind.wrap_i64]; omega
      have eQ : Q = Q.take (j - i) ++ Q.drop (j - i) := (List.take_append_drop _ _).symm
      have l1 : (Q.take (j - i)).length = j - i := by simp; omega
      have l2 : (Q.drop (j - i)).length = i := by simp; omega
      generalize Q.take (j - i) = Q1 at *
      generalize Q.drop (j - i) = Q2 at *
      subst eQ
      have hRow := HR.out
      rw [he] at hRow
      have e1 : A ++ (L ++ (P ++ ((Q1 ++ Q2) ++ (R ++ C)))) = (A ++ L) ++ (P ++ (Q1 ++ (Q2 ++ (R ++ C)))) := by simp
      rw [e1] at hRow
      have hln := congrArg List.length h4
      simp only [List.length_append] at hln h1 h3
      have SW0 := swapRange_any g cap N (A ++ L) P Q1 Q2 (R ++ C) (m - i) (m + j - i) i f B wr hRow hB (by have := HN.out; simp; omega) (by simp; omega) (by omega) (by omega) (by simp; omega)
      rw [show ((m + j - i : Nat) : Int) = (m : Int) + (j : Int) - (i : Int) by omega] at SW0
      have SW := Lib.hid SW0
      have HS' := Lib.hid (show Rotd A U V C ((A ++ L) ++ (Q2 ++ (Q1 ++ (P ++ (R ++ C))))) m i (j - i) from ⟨by omega, by omega, by omega, L, Q2, Q1, P ++ R, by simp, by omega, by omega, by omega, by rw [← h4]; simp⟩)
      clear he h1 h2 h3 h4 e1 hRow hln l1 l2 HX SW0
      go_wp2_with fail
      refine SW.out.mono ?_
      rintro e w2 ⟨rfl, hr2, hb2⟩
      have HR2 := Lib.hid hr2
      have HB2 := Lib.hid (HBel.out.trans hb2)
      clear hr2 hb2 SW
      go_wp2_with fail
      go_roundw
      case rel => exact ⟨i, j - i, _, rfl, rfl, HS'.out, HR2.out, HB2.out⟩
      case measure => simp [intOf]; omega
    · subst heq
      obtain ⟨L, P, Q, R, he, h1, h2, h3, h4⟩ := HX.out
      have hb1 : ((i : Int) != (i : Int)) = false := by simp
      have t1 : IntKind.i64.wrap ((m : Int) - (i : Int)) = ((m - i : Nat) : Int) := by rw [IntKind.wrap_i64]; omega
      have hRow := HR.out
      rw [he] at hRow
      have e1 : A ++ (L ++ (P ++ (Q ++ (R ++ C)))) = (A ++ L) ++ (P ++ ([] ++ (Q ++ (R ++ C)))) := by simp
      rw [e1] at hRow
      have hln := congrArg List.length h4
      simp only [List.length_append] at hln
      have SW := Lib.hid (swapRange_any g cap N (A ++ L) P [] Q (R ++ C) (m - i) m i f B wr hRow hB (by have := HN.out; simp; omega) (by simp; omega) (by omega) (by omega) (by simp; omega))
      have HE := Lib.hid (show (A ++ L) ++ (Q ++ ([] ++ (P ++ (R ++ C)))) = A ++ (V ++ (U ++ C)) by
        have : A ++ (V ++ (U ++ C)) = A ++ ((V ++ U) ++ C) := by simp
        rw [this, ← h4]; simp)
      clear he h1 h2 h3 h4 e1 hRow hln HX
      go_wp2_with fail
      refine SW.out.mono ?_
      rintro e w2 ⟨rfl, hr2, hb2⟩
      have HR2 := Lib.hid hr2
      have HB2 := Lib.hid (HBel.out.trans hb2)
      clear hr2 hb2 SW
      go_wp2_with fail
      go_end0
      exact ⟨rfl, by rw [← HE.out]; exact HR2.out, HB2.out⟩
    · obtain ⟨L, P, Q, R, he, h1, h2, h3, h4⟩ := HX.out
      have hb1 : ((i : Int) != (j : Int)) = true := bne_iff_ne.2 (by omega)
      have hd1 : decide ((j : Int) < (i : Int)) = true := decide_eq_true (by omega)
      have t1 : IntKind.i64.wrap ((m : Int) - (i : Int)) = ((m - i : Nat) : Int) := by rw [IntKind.wrap_i64]; omega
      have t4 : IntKind.i64.wrap ((i : Int) - (j : Int)) = ((i - j : Nat) : Int) := by rw [IntKind.wrap_i64]; omega
      have eP : P = P.take j ++ P.drop j := (List.take_append_drop _ _).symm
      have l1 : (P.take j).length = j := by simp; omega
      have l2 : (P.drop j).length = i - j := by simp; omega
      generalize P.take j = P1 at *
      generalize P.drop j = P2 at *
      subst eP
      have hRow := HR.out
      rw [he] at hRow
      have e1 : A ++ (L ++ ((P1 ++ P2) ++ (Q ++ (R ++ C)))) = (A ++ L) ++ (P1 ++ (P2 ++ (Q ++ (R ++ C)))) := by simp
      rw [e1] at hRow
      have hln := congrArg List.length h4
      simp only [List.length_append] at hln h1 h2
      have SW := Lib.hid (swapRange_any g cap N (A ++ L) P1 P2 Q (R ++ C) (m - i) m j f B wr hRow hB (by have := HN.out; simp; omega) (by simp; omega) (by omega) (by omega) (by simp; omega))
      have HS' := Lib.hid (show Rotd A U V C ((A ++ L) ++ (Q ++ (P2 ++ (P1 ++ (R ++ C))))) m (i - j) j from ⟨by omega, by omega, by omega, L ++ Q, P2, P1, R, by simp, by simp; omega, by omega, by omega, by rw [← h4]; simp⟩)
      clear he h1 h2 h3 h4 e1 hRow hln l1 l2 HX
      go_wp2_with fail
      refine SW.out.mono ?_
      rintro e w2 ⟨rfl, hr2, hb2⟩
      have HR2 := Lib.hid hr2
      have HB2 := Lib.hid (HBel.out.trans hb2)
      clear hr2 hb2 SW
      go_wp2_with fail
      go_roundw
      case rel => exact ⟨i - j, j, _, rfl, rfl, HS'.out, HR2.out, HB2.out⟩
      case measure => simp [intOf]; omega
end Go.Proofs.Ytppbbhijlkfioaa.Pol

namespace Go.Proofs.Ytppbbhijlkfioaa.Pol
open Go.RowKit Go.Shelf Rgn

/-- What is told of two backends. -/
def cmpI (x y : Int) : Int := if x < y then -1 else if y < x then 1 else 0
theorem cmpI_lt (x y : Int) : cmpI x y < 0 ↔ x < y := by unfold cmpI; split <;> (try split) <;> omega
abbrev cmpF : Value := .func (.func 39) #[] #[]

set_option maxHeartbeats 1000000 in
theorem cmp_any (x y : Bk) (W : World) : Calls Try.prog 39 #[bkV x, bkV y] W fun e W' => e = .returned (.int .i64 (cmpI x.1 y.1)) ∧ Below W.heap.size W W' := by
  have al := Lib.hid (((Below.refl W.heap.size W).alloc (Nat.le_refl _) (.cells #[.int .i64 x.1, .int .i64 x.2] 38)).alloc (by simp) (.cells #[.int .i64 y.1, .int .i64 y.2] 38))
  have e1 : (x.1 != x.1) = false := by simp
  have e2 : (y.1 != y.1) = false := by simp
  rcases Int.lt_trichotomy x.1 y.1 with h | h | h
  · have HV := Lib.hid (show cmpI x.1 y.1 = -1 from if_pos h)
    go_enter Try.func39, Try.ntmps39
    go_wp2
    go_ret
    exact ⟨by rw [HV.out]; rfl, al.out⟩
  · have HV := Lib.hid (show cmpI x.1 y.1 = 0 by unfold cmpI; rw [if_neg (by omega), if_neg (by omega)])
    have d1 : decide (x.1 < y.1) = false := decide_eq_false (by omega)
    have d2 : decide (y.1 < x.1) = false := decide_eq_false (by omega)
    clear h
    go_enter Try.func39, Try.ntmps39
    go_wp2
    go_ret
    exact ⟨by rw [HV.out]; rfl, al.out⟩
  · have HV := Lib.hid (show cmpI x.1 y.1 = 1 by unfold cmpI; rw [if_neg (by omega), if_pos h])
    have d1 : decide (x.1 < y.1) = false := decide_eq_false (by omega)
    go_enter Try.func39, Try.ntmps39
    go_wp2
    go_ret
    exact ⟨by rw [HV.out]; rfl, al.out⟩

/-- Two backends of a row, while they are held against one another. -/
theorem two_keep {W0 W W' : World} {g p q : Nat} {x y : Bk} (h : Below W0.heap.size W0 W ∧ W.cell? ⟨g, p * 2, none⟩ = some (.int .i64 x.1) ∧ W.cell? ⟨g, p * 2 + 1, none⟩ = some (.int .i64 x.2) ∧ W.cell? ⟨g, q * 2, none⟩ = some (.int .i64 y.1) ∧ W.cell? ⟨g, q * 2 + 1, none⟩ = some (.int .i64 y.2)) (hb : Below W.heap.size W W') :
    Below W0.heap.size W0 W' ∧ W'.cell? ⟨g, p * 2, none⟩ = some (.int .i64 x.1) ∧ W'.cell? ⟨g, p * 2 + 1, none⟩ = some (.int .i64 x.2) ∧ W'.cell? ⟨g, q * 2, none⟩ = some (.int .i64 y.1) ∧ W'.cell? ⟨g, q * 2 + 1, none⟩ = some (.int .i64 y.2) := by
  obtain ⟨h0, h1, h2, h3, h4⟩ := h
  exact ⟨below2 h0 hb, (hb.cell (World.block_lt_of_cell? W _ h1)).trans h1, (hb.cell (World.block_lt_of_cell? W _ h2)).trans h2, (hb.cell (World.block_lt_of_cell? W _ h3)).trans h3, (hb.cell (World.block_lt_of_cell? W _ h4)).trans h4⟩

/-- One backend y on its way into a part T of a row that is in order. -/
structure Insd (A T D es : List Bk) (y : Bk) (j : Nat) : Prop where
  ex : ∃ L R, T = L ++ R ∧ es = A ++ (L ++ y :: (R ++ D)) ∧ A.length + L.length = j ∧ ∀ r ∈ R, y.1 < r.1
theorem Insd.len {A T D es : List Bk} {y : Bk} {j : Nat} (h : Insd A T D es y j) : es.length = A.length + T.length + 1 + D.length ∧ A.length ≤ j ∧ j ≤ A.length + T.length := by
  obtain ⟨L, R, rfl, rfl, h1, _⟩ := h.ex
  simp; omega
theorem Insd.at {A T D es : List Bk} {y : Bk} {p : Nat} (h : Insd A T D es y (p + 1)) (hT : Rises T) (hj : A.length < p + 1) :
    ∃ x, es[p + 1]? = some y ∧ es[p]? = some x ∧ (y.1 < x.1 → Insd A T D ((es.set (p + 1) x).set p y) y p) ∧ (¬ y.1 < x.1 → es = A ++ (ins T y ++ D)) := by
  obtain ⟨L, R, rfl, rfl, h1, h2⟩ := h.ex
  have hL : L ≠ [] := fun e => by subst e; simp at h1; omega
  obtain ⟨L', x, rfl⟩ : ∃ L' x, L = L' ++ [x] := ⟨L.dropLast, L.getLast hL, (List.dropLast_concat_getLast hL).symm⟩
  simp at h1
  have e : A ++ (L' ++ [x] ++ y :: (R ++ D)) = (A ++ L') ++ x :: ([] ++ y :: (R ++ D)) := by simp
  refine ⟨x, ?_, ?_, fun hlt => ?_, fun hlt => ?_⟩
  · have e2 : A ++ (L' ++ [x] ++ y :: (R ++ D)) = (A ++ L' ++ [x]) ++ y :: (R ++ D) := by simp
    have e3 : p + 1 = (A ++ L' ++ [x]).length := by simp; omega
    rw [e2, e3, List.getElem?_append_right (Nat.le_refl _)]; simp
  · have e3 : p = (A ++ L').length := by simp; omega
    rw [e, e3, List.getElem?_append_right (Nat.le_refl _)]; simp
  · refine ⟨L', x :: R, by simp, ?_, by omega, fun r hr => ?_⟩
    · rw [e]
      have e4 : (((A ++ L') ++ x :: ([] ++ y :: (R ++ D))).set (p + 1) x).set p y = (((A ++ L') ++ x :: ([] ++ y :: (R ++ D))).set p y).set (p + 1) x := List.set_comm _ _ (by omega)
      rw [e4, swap_mid _ _ _ x y p (p + 1) (by simp; omega) (by simp; omega)]
      simp
    · rcases List.mem_cons.1 hr with rfl | hr
      · exact hlt
      · exact h2 r hr
  · rw [ins_split _ _ _ (fun l hl => ?_) h2]
    · simp
    · have hp : Rises (L' ++ [x]) := by
        unfold Rises at hT ⊢
        exact (List.pairwise_append.1 hT).1
      rcases List.mem_append.1 hl with hl | hl
      · have := (List.pairwise_append.1 hp).2.2 l hl x (by simp); omega
      · simp at hl; subst hl; omega
theorem Insd.first {A T D es : List Bk} {y : Bk} (h : Insd A T D es y A.length) : es = A ++ (ins T y ++ D) := by
  obtain ⟨L, R, rfl, rfl, h1, h2⟩ := h.ex
  have : L = [] := List.eq_nil_of_length_eq_zero (by omega)
  subst this
  rw [ins_split [] R y (fun l hl => by cases hl) h2]
  simp

set_option maxRecDepth 100000 in
set_option maxHeartbeats 4000000 in
theorem insertion_any (g cap N : Nat) (A S C : List Bk) (a b : Nat) (B : Nat) (w : World) (h : Row w g cap (A ++ (S ++ C))) (hB : B ≤ g)
    (hN : N = A.length + S.length + C.length) (ha : a = A.length) (hb : b = A.length + S.length) (hbig : N ≤ 1000000000000) :
    Calls Try.prog 66 #[.slice (some ⟨g, 0, none⟩) N cap, .int .i64 a, .int .i64 b, cmpF] w
      fun e W' => e = .returned (.tuple #[]) ∧ Row W' g cap (A ++ (sorted S ++ C)) ∧ Below B w W' := by
  have en : ∀ (args : Array Value) (w : World), (callFunc 39 args).run Try.prog w = .ok (.enter 39 args) w := enters_of Try.func39 (by kernel_rfl) rfl
  have hM := h.len
  have hlN : (A ++ (S ++ C)).length = N := by simp; omega
  rw [hlN] at hM
  unfold maxLen at hM
  have H := Lib.hid h
  have HA := Lib.hid ha
  have HBb := Lib.hid hb
  have HN := Lib.hid hN
  have hab : a ≤ b := by omega
  have hbN : b ≤ N := by omega
  clear h hlN ha hb hN
  go_enter Try.func66, Try.ntmps66
  go_wp2
  go_loopw [8] (fun vi W => ∃ (k : Nat), vi = .int .i64 ((a + k : Nat) : Int) ∧ 1 ≤ k ∧ (k ≤ S.length ∨ k = 1) ∧ Row W g cap (A ++ (sorted (S.take k) ++ (S.drop k ++ C))) ∧ Below B w W) (fun vi _ => b - (intOf vi).toNat)
  case atStart =>
    refine ⟨1, by go_num, Nat.le_refl _, Or.inr rfl, ?_, Below.refl _ _⟩
    rw [show sorted (S.take 1) ++ (S.drop 1 ++ C) = S ++ C by cases S <;> simp [sorted, ins]]
    exact H.out
  case round =>
    obtain ⟨k, rfl, hk1, hkS, hR, hBel⟩ := hrel
    have HBel := Lib.hid hBel
    clear hBel
    by_cases hlt : a + k < b
    · have hkl : k < S.length := by have := HA.out; have := HBb.out; omega
      have HT := Lib.hid (show sorted (S.take (k + 1)) = ins (sorted (S.take k)) S[k] by rw [take_more S k hkl, sorted_snoc])
      have HTr := Lib.hid (sorted_rises (S.take k))
      have hTl : (sorted (S.take k)).length = k := by rw [sorted_length]; simp; omega
      have hD : S.drop k ++ C = S[k] :: (S.drop (k + 1) ++ C) := by rw [List.drop_eq_getElem_cons hkl]; rfl
      rw [hD] at hR
      have hDl : (S.drop (k + 1) ++ C).length = N - (a + k + 1) := by have := HA.out; have := HN.out; simp; omega
      have hS0 : Insd A (sorted (S.take k)) (S.drop (k + 1) ++ C) (A ++ (sorted (S.take k) ++ S[k] :: (S.drop (k + 1) ++ C))) S[k] (a + k) :=
        ⟨sorted (S.take k), [], by simp, by simp, by have := HA.out; omega, fun r hr => by cases hr⟩
      have HR := Lib.hid hR
      have HS0 := Lib.hid hS0
      have HTl := Lib.hid hTl
      have HDl := Lib.hid hDl
      clear hR hS0 hD hTl hDl
      generalize sorted (S.take k) = T at *
      generalize S[k] = y at *
      have d0 : ((a + k : Nat) : Int) < (b : Int) := by omega
      generalize hi : a + k = i at *
      have HI := Lib.hid hi
      clear hi
      go_wp2_with fail
      go_loopw [9] (fun vj W => ∃ (j : Nat) (es : List Bk), vj = .int .i64 j ∧ Insd A T (S.drop (k + 1) ++ C) es y j ∧ Row W g cap es ∧ Below B w W) (fun vj _ => (intOf vj).toNat)
      case atStart => exact ⟨i, _, rfl, HS0.out, HR.out, HBel.out⟩
      case round =>
        obtain ⟨j, es, rfl, hS, hR, hBel2⟩ := hrel
        have hl := hS.len
        rw [HTl.out, HDl.out, ← HA.out] at hl
        have hesN : es.length = N := by have := HI.out; omega
        have hji : a ≤ j ∧ j ≤ i := by have := HI.out; omega
        have HS := Lib.hid hS
        have HR2 := Lib.hid hR
        have HB2 := Lib.hid hBel2
        clear hS hR hBel2 hl
        by_cases hja : a < j
        · obtain ⟨p, rfl⟩ : ∃ p, j = p + 1 := ⟨j - 1, by omega⟩
          obtain ⟨x, hy1, hx1, hless, hnot⟩ := HS.out.at HTr.out (by have := HA.out; omega)
          obtain ⟨hyl, ey⟩ := List.getElem?_eq_some_iff.1 hy1
          obtain ⟨hxl, ex⟩ := List.getElem?_eq_some_iff.1 hx1
          obtain ⟨c0, c1, f0, f1⟩ := HR2.out.cell hyl
          obtain ⟨d0, d1, g0, g1⟩ := HR2.out.cell hxl
          rw [ey] at c0 c1
          rw [ex] at d0 d1
          have HX := Lib.hid hless
          have HNt := Lib.hid hnot
          clear hless hnot ey ex hy1 hx1
          generalize hq : p + 1 = q at *
          have b1 : p < N := by omega
          have b2 : q < N := by omega
          have b3 : (a : Int) < (q : Int) := by omega
          have s1 : IntKind.i64.wrap ((q : Int) - 1) = (p : Int) := by rw [IntKind.wrap_i64]; omega
          have hne : q ≠ p := by omega
          have HQ := Lib.hid hq
          clear hq hyl hxl
          go_wp2_with fail
          go_region_held3 (fun W => Below wr.heap.size wr W ∧ W.cell? ⟨g, q * 2, none⟩ = some (.int .i64 y.1) ∧ W.cell? ⟨g, q * 2 + 1, none⟩ = some (.int .i64 y.2) ∧ W.cell? ⟨g, p * 2, none⟩ = some (.int .i64 x.1) ∧ W.cell? ⟨g, p * 2 + 1, none⟩ = some (.int .i64 x.2)) (first | exact ⟨(Below.refl _ wr).drew, c0, c1, d0, d1⟩ | exact two_keep (by assumption) hb)
            (first | (go_at_call 39; (with_reducible refine (cmp_any _ _ _).mono ?_); rintro e w3 ⟨rfl, hb⟩))
          rename_i hHeld
          have HR3 := Lib.hid (HR2.out.kept hHeld.1)
          have HB3 := Lib.hid (HB2.out.trans (hHeld.1.mono (Nat.le_trans hB (Nat.le_of_lt HR2.out.lt))))
          obtain ⟨_, c0', c1', d0', d1'⟩ := hHeld
          have hyl : q < es.length := by rw [hesN]; exact b2
          have hxl : p < es.length := by rw [hesN]; exact b1
          have f0' := (HR3.out.cell hyl).2.2.1
          have f1' := (HR3.out.cell hyl).2.2.2
          have g0' := (HR3.out.cell hxl).2.2.1
          have g1' := (HR3.out.cell hxl).2.2.2
          clear c0 c1 d0 d1 f0 f1 g0 g1 hb hyl hxl HR2 HB2
          by_cases hless : y.1 < x.1
          · have dl : cmpI y.1 x.1 < 0 := (cmpI_lt _ _).2 hless
            have HS' := Lib.hid (HX.out hless)
            have HR4 := Lib.hid (HR3.out.swap q p y x)
            have HB4 := Lib.hid (below_swap HB3.out hB q p y x)
            clear hless HX HNt
            go_wp2_with fail
            go_region
            go_wp2
            go_roundw
            case rel => exact ⟨p, _, by go_num, HS'.out, HR4.out, HB4.out⟩
            case measure => have := HQ.out; simp [intOf]; omega
          · have dl : 0 ≤ cmpI y.1 x.1 := Int.not_lt.1 fun h => hless ((cmpI_lt _ _).1 h)
            have HE := Lib.hid (HNt.out (by omega))
            clear hless HX HNt
            go_wp2_with fail
            go_roundw
            case rel => exact ⟨k + 1, by have := HI.out; go_num, by omega, Or.inl (by omega), by rw [HT.out, ← HE.out]; exact HR3.out, HB3.out⟩
            case measure => have := HI.out; simp [intOf]; omega
        · obtain rfl : j = a := by omega
          have d1 : decide ((j : Int) < (j : Int)) = false := decide_eq_false (by omega)
          have HE := Lib.hid (Insd.first (by have := HS.out; rwa [HA.out] at this))
          go_wp2_with fail
          go_quiet (fail)
          have HR3 := Lib.hid (show Row (wr.drewN nq) g cap es from HR2.out)
          have HB3 := Lib.hid (below_drewN HB2.out nq)
          go_wp2_with fail
          go_roundw
          case rel => exact ⟨k + 1, by have := HI.out; go_num, by omega, Or.inl (by omega), by rw [HT.out, ← HE.out]; exact HR3.out, HB3.out⟩
          case measure => have := HI.out; simp [intOf]; omega
    · have HE := Lib.hid (show sorted (S.take k) ++ (S.drop k ++ C) = sorted S ++ C by
        have h1 := HA.out
        have h2 := HBb.out
        rw [List.take_of_length_le (by omega), List.drop_eq_nil_of_le (by omega)]; rfl)
      have HR := Lib.hid hR
      clear hR
      go_wp2
      go_end0
      exact ⟨rfl, by rw [← HE.out]; exact HR.out, HBel.out⟩
end Go.Proofs.Ytppbbhijlkfioaa.Pol

namespace Go.Proofs.Ytppbbhijlkfioaa.Pol
open Go.RowKit Go.Shelf Rgn

theorem rises_le {Y : List Bk} (h : Rises Y) {i j : Nat} (hij : i ≤ j) {x y : Bk} (hx : Y[i]? = some x) (hy : Y[j]? = some y) : x.1 ≤ y.1 := by
  obtain ⟨hi, rfl⟩ := List.getElem?_eq_some_iff.1 hx
  obtain ⟨hj, rfl⟩ := List.getElem?_eq_some_iff.1 hy
  rcases Nat.lt_or_eq_of_le hij with hlt | rfl
  · exact List.pairwise_iff_getElem.1 h i j hi hj hlt
  · exact Int.le_refl _
theorem take_at {Y : List Bk} {u : Nat} {y : Bk} (h : y ∈ Y.take u) : ∃ i, i < u ∧ Y[i]? = some y := by
  obtain ⟨i, hi, rfl⟩ := List.getElem_of_mem h
  simp at hi
  exact ⟨i, by omega, by simp [List.getElem?_eq_getElem (show i < Y.length by omega)]⟩
theorem drop_at {Y : List Bk} {u : Nat} {y : Bk} (h : y ∈ Y.drop u) : ∃ i, u ≤ i ∧ Y[i]? = some y := by
  obtain ⟨i, hi, rfl⟩ := List.getElem_of_mem h
  simp at hi
  exact ⟨u + i, by omega, by simp [List.getElem?_eq_getElem (show u + i < Y.length by omega)]⟩
/-- Where x goes to in Y is looked for: ahead of s all are lower, from t on none is. -/
structure Seek (x : Bk) (Y : List Bk) (s t : Nat) : Prop where
  st : s ≤ t
  le : t ≤ Y.length
  low : ∀ y ∈ Y.take s, y.1 < x.1
  high : ∀ y ∈ Y.drop t, x.1 ≤ y.1
theorem Seek.start (x : Bk) (Y : List Bk) : Seek x Y 0 Y.length := ⟨Nat.zero_le _, Nat.le_refl _, fun y hy => by simp at hy, fun y hy => by simp at hy⟩
theorem Seek.up {x : Bk} {Y : List Bk} {s t : Nat} (h : Seek x Y s t) (hY : Rises Y) (u : Nat) (hu : u < t) (y : Bk) (hy : Y[u]? = some y) (hlt : y.1 < x.1) : Seek x Y (u + 1) t :=
  ⟨by omega, h.le, fun z hz => by obtain ⟨i, hi, hz⟩ := take_at hz; have := rises_le hY (show i ≤ u by omega) hz hy; omega, h.high⟩
theorem Seek.down {x : Bk} {Y : List Bk} {s t : Nat} (h : Seek x Y s t) (hY : Rises Y) (u : Nat) (hs : s ≤ u) (hu : u < t) (y : Bk) (hy : Y[u]? = some y) (hlt : ¬ y.1 < x.1) : Seek x Y s u :=
  ⟨hs, by have := h.le; omega, h.low, fun z hz => by obtain ⟨i, hi, hz⟩ := drop_at hz; have := rises_le hY hi hy hz; omega⟩

theorem row_x (A : List Bk) (x : Bk) (R : List Bk) (a : Nat) (ha : a = A.length) : (A ++ x :: R)[a]? = some x := by subst ha; simp
theorem row_y (A Y R : List Bk) (u c : Nat) (hu : u < Y.length) (hc : c = A.length + u) : (A ++ (Y ++ R))[c]? = Y[u]? := by
  subst hc
  rw [List.getElem?_append_right (by omega), List.getElem?_append_left (by omega)]
  congr 1; omega
theorem row_xy (A : List Bk) (x : Bk) (Y R : List Bk) (u c : Nat) (hu : u < Y.length) (hc : c = A.length + 1 + u) : (A ++ (x :: (Y ++ R)))[c]? = Y[u]? := by
  have e : A ++ (x :: (Y ++ R)) = (A ++ [x]) ++ (Y ++ R) := by simp
  rw [e]; exact row_y _ _ _ u c hu (by simp; omega)
theorem at_some {Y : List Bk} {u : Nat} (hu : u < Y.length) : ∃ y, Y[u]? = some y := ⟨Y[u], List.getElem?_eq_getElem hu⟩
/-- The cells of a backend that stands in a row. -/
theorem Row.at? {W : World} {g cap : Nat} {es : List Bk} (h : Row W g cap es) {c : Nat} {y : Bk} (hy : es[c]? = some y) :
    W.cell? ⟨g, c * 2, none⟩ = some (.int .i64 y.1) ∧ W.cell? ⟨g, c * 2 + 1, none⟩ = some (.int .i64 y.2) ∧ W.frozen? ⟨g, c * 2, none⟩ = false ∧ W.frozen? ⟨g, c * 2 + 1, none⟩ = false := by
  obtain ⟨hl, rfl⟩ := List.getElem?_eq_some_iff.1 hy
  exact h.cell hl

/-- A row in which x stands behind the first t of Y. -/
abbrev among (A : List Bk) (x : Bk) (Y C : List Bk) (t : Nat) : List Bk := A ++ (Y.take t ++ x :: (Y.drop t ++ C))
theorem among_next (A : List Bk) (x : Bk) (Y C : List Bk) (t a : Nat) (ht : t < Y.length) (ha : a = A.length) :
    ∃ y, (among A x Y C t)[a + t]? = some x ∧ (among A x Y C t)[a + t + 1]? = some y ∧ (((among A x Y C t).set (a + t) y).set (a + t + 1) x) = among A x Y C (t + 1)
      ∧ (among A x Y C (t + 1))[a + t + 1]? = some x ∧ (among A x Y C (t + 1))[a + t]? = some y ∧ (((among A x Y C (t + 1)).set (a + t + 1) y).set (a + t) x) = among A x Y C t := by
  have e0 : Y.drop t = Y[t] :: Y.drop (t + 1) := List.drop_eq_getElem_cons ht
  have e1 : Y.take (t + 1) = Y.take t ++ [Y[t]] := take_more Y t ht
  have hl : (Y.take t).length = t := by simp; omega
  unfold among
  rw [e0, e1]
  generalize Y.take t = T at *
  generalize Y.drop (t + 1) = D at *
  generalize Y[t] = y at *
  have f1 : A ++ (T ++ x :: (y :: D ++ C)) = (A ++ T) ++ x :: ([] ++ y :: (D ++ C)) := by simp
  have f2 : A ++ (T ++ [y] ++ x :: (D ++ C)) = (A ++ T) ++ y :: ([] ++ x :: (D ++ C)) := by simp
  have l0 : a + t = (A ++ T).length := by simp; omega
  have g1 : ∀ z z' R, ((A ++ T) ++ z :: ([] ++ z' :: R))[a + t]? = some z := fun z z' R => row_x _ _ _ _ l0
  have g2 : ∀ z z' R, ((A ++ T) ++ z :: ([] ++ z' :: R))[a + t + 1]? = some z' := fun z z' R => by
    have e : (A ++ T) ++ z :: ([] ++ z' :: R) = (A ++ T ++ [z]) ++ z' :: R := by simp
    rw [e]; exact row_x _ _ _ _ (by simp at l0 ⊢; omega)
  rw [f1, f2]
  refine ⟨y, g1 _ _ _, g2 _ _ _, ?_, g2 _ _ _, g1 _ _ _, ?_⟩
  · rw [swap_mid _ _ _ x y (a + t) (a + t + 1) l0 (by simp at l0 ⊢; omega)]
  · rw [List.set_comm _ _ (by omega), swap_mid _ _ _ y x (a + t) (a + t + 1) l0 (by simp at l0 ⊢; omega)]

set_option maxRecDepth 100000 in
set_option maxHeartbeats 4000000 in
theorem symMerge_first (g cap N : Nat) (A : List Bk) (x : Bk) (Y C : List Bk) (a m b : Nat) (B : Nat) (w : World) (h : Row w g cap (A ++ (x :: (Y ++ C)))) (hB : B ≤ g)
    (hN : N = A.length + 1 + Y.length + C.length) (ha : a = A.length) (hm : m = A.length + 1) (hb : b = A.length + 1 + Y.length) (hbig : N ≤ 1000000000000) (hY : Rises Y) :
    Calls Try.prog 67 #[.slice (some ⟨g, 0, none⟩) N cap, .int .i64 a, .int .i64 m, .int .i64 b, cmpF] w
      fun e W' => e = .returned (.tuple #[]) ∧ Row W' g cap (A ++ (sorted ([x] ++ Y) ++ C)) ∧ Below B w W' := by
  have en : ∀ (args : Array Value) (w : World), (callFunc 39 args).run Try.prog w = .ok (.enter 39 args) w := enters_of Try.func39 (by kernel_rfl) rfl
  have hM := h.len
  have hlN : (A ++ (x :: (Y ++ C))).length = N := by simp; omega
  rw [hlN] at hM
  unfold maxLen at hM
  have H := Lib.hid h
  have HA := Lib.hid ha
  have HN := Lib.hid hN
  have HL := Lib.hid hlN
  have HY := Lib.hid hY
  have HYl := Lib.hid (show Y.length = b - m by omega)
  have Hma := Lib.hid (show m = a + 1 by omega)
  have ham : a < m := by omega
  have hmb : m ≤ b := by omega
  have hbN : b ≤ N := by omega
  have s0 : IntKind.i64.wrap ((m : Int) - (a : Int)) = 1 := by rw [IntKind.wrap_i64]; omega
  clear h hlN ha hm hb hN hY
  go_enter Try.func67, Try.ntmps67
  go_wp2_with fail
  go_loopw [10, 11] (fun vi vj W => ∃ (s t : Nat), vi = .int .i64 ((m + s : Nat) : Int) ∧ vj = .int .i64 ((m + t : Nat) : Int) ∧ Seek x Y s t ∧ Row W g cap (A ++ (x :: (Y ++ C))) ∧ Below B w W) (fun vi vj _ => (intOf vj).toNat - (intOf vi).toNat)
  case atStart => exact ⟨0, Y.length, by simp, by rw [HYl.out]; congr 2; omega, Seek.start x Y, H.out, Below.refl _ _⟩
  case round =>
    obtain ⟨s, t, rfl, rfl, hS, hR, hBel⟩ := hrel
    have hst := hS.st
    have htl := hS.le
    rw [HYl.out] at htl
    have HS := Lib.hid hS
    have HR := Lib.hid hR
    have HBel := Lib.hid hBel
    clear hS hR hBel
    by_cases hlt : s < t
    · obtain ⟨c, hc, hci, hcj⟩ : ∃ c : Nat, (((m + s : Nat) : Int) + ((m + t : Nat) : Int)) / 2 = (c : Int) ∧ m + s ≤ c ∧ c < m + t := ⟨(m + s + (m + t)) / 2, by omega, by omega, by omega⟩
      have hul : c - m < Y.length := by have := HYl.out; omega
      obtain ⟨y, hy⟩ := at_some hul
      have hyr : (A ++ (x :: (Y ++ C)))[c]? = some y := by rw [row_xy A x Y C (c - m) c hul (by have := HA.out; have := Hma.out; omega)]; exact hy
      obtain ⟨c0, c1, _, _⟩ := HR.out.at? hyr
      obtain ⟨d0, d1, _, _⟩ := HR.out.at? (row_x A x (Y ++ C) a HA.out)
      have HUp := Lib.hid (HS.out.up HY.out (c - m) (by omega) y hy)
      have HDn := Lib.hid (HS.out.down HY.out (c - m) (by omega) (by omega) y hy)
      have hcN : c < N := by omega
      have haN : a < N := by omega
      have e1 : m + (c - m + 1) = c + 1 := by omega
      have e2 : m + (c - m) = c := by omega
      have E1 := Lib.hid e1
      have E2 := Lib.hid e2
      have hD : ((m + s : Nat) : Int) < ((m + t : Nat) : Int) := by omega
      clear hy hyr hul e1 e2
      generalize hi : m + s = i at *
      generalize hj : m + t = j at *
      have HI := Lib.hid hi
      have HJ := Lib.hid hj
      clear hi hj
      go_wp2_with fail
      go_region_held3 (fun W => Below wr.heap.size wr W ∧ W.cell? ⟨g, c * 2, none⟩ = some (.int .i64 y.1) ∧ W.cell? ⟨g, c * 2 + 1, none⟩ = some (.int .i64 y.2) ∧ W.cell? ⟨g, a * 2, none⟩ = some (.int .i64 x.1) ∧ W.cell? ⟨g, a * 2 + 1, none⟩ = some (.int .i64 x.2)) (first | exact ⟨(Below.refl _ wr).drew, c0, c1, d0, d1⟩ | exact two_keep (by assumption) hb)
        (first | (go_at_call 39; (with_reducible refine (cmp_any _ _ _).mono ?_); rintro e w3 ⟨rfl, hb⟩))
      rename_i hHeld
      have HR3 := Lib.hid (HR.out.kept hHeld.1)
      have HB3 := Lib.hid (HBel.out.trans (hHeld.1.mono (Nat.le_trans hB (Nat.le_of_lt HR.out.lt))))
      clear hHeld c0 c1 d0 d1 hb HR HBel
      by_cases hless : y.1 < x.1
      · have dl : cmpI y.1 x.1 < 0 := (cmpI_lt _ _).2 hless
        have HS' := Lib.hid (HUp.out hless)
        clear hless HUp HDn
        go_wp2_with fail
        go_roundw
        case rel => exact ⟨c - m + 1, t, by rw [E1.out]; go_num, by rw [HJ.out], HS'.out, HR3.out, HB3.out⟩
        case measure => simp [intOf]; omega
      · have dl : 0 ≤ cmpI y.1 x.1 := Int.not_lt.1 fun h => hless ((cmpI_lt _ _).1 h)
        have HS' := Lib.hid (HDn.out (by omega))
        clear hless HUp HDn
        go_wp2_with fail
        go_roundw
        case rel => exact ⟨s, c - m, by rw [HI.out], by rw [E2.out], HS'.out, HR3.out, HB3.out⟩
        case measure => simp [intOf]; omega
    · obtain rfl : s = t := by omega
      have hsl : s ≤ Y.length := HS.out.le
      have HF := Lib.hid (show sorted ([x] ++ Y) = Y.take s ++ x :: Y.drop s by
        have := merge_first x (Y.take s) (Y.drop s) (by rw [List.take_append_drop]; exact HY.out) HS.out.low HS.out.high
        rwa [List.take_append_drop] at this)
      have HSl := Lib.hid hsl
      have hsb : m + s ≤ b := by have := HYl.out; omega
      clear hsl HS
      have z1 : IntKind.i64.wrap (((m + s : Nat) : Int) - 1) = ((a + s : Nat) : Int) := by have := Hma.out; rw [IntKind.wrap_i64]; omega
      have hD : ¬ ((m + s : Nat) : Int) < ((m + s : Nat) : Int) := by omega
      generalize hi : m + s = i at *
      have HI := Lib.hid hi
      clear hi
      have E0 := Lib.hid (show among A x Y C 0 = A ++ (x :: (Y ++ C)) by simp [among])
      have HF2 := Lib.hid (show among A x Y C s = A ++ (sorted ([x] ++ Y) ++ C) by rw [HF.out]; simp [among])
      go_wp2_with fail
      go_loopw [13] (fun vk W => ∃ t : Nat, vk = .int .i64 ((a + t : Nat) : Int) ∧ t ≤ s ∧ Row W g cap (among A x Y C t) ∧ Below B w W) (fun vk _ => a + s - (intOf vk).toNat)
      case atStart => exact ⟨0, by simp, Nat.zero_le _, by rw [E0.out]; exact HR.out, HBel.out⟩
      case round =>
        obtain ⟨t, rfl, hts, hR, hB2⟩ := hrel
        have HR2 := Lib.hid hR
        have HB2 := Lib.hid hB2
        clear hR hB2
        by_cases htl : t < s
        · obtain ⟨y, k1, k2, k3, _, _, _⟩ := among_next A x Y C t a (by have := HSl.out; omega) HA.out
          obtain ⟨c0, c1, f0, f1⟩ := HR2.out.at? k1
          obtain ⟨d0, d1, g0, g1⟩ := HR2.out.at? k2
          have hr := HR2.out.swap (a + t) (a + t + 1) x y
          rw [k3] at hr
          have HR4 := Lib.hid hr
          have HB4 := Lib.hid (below_swap HB2.out hB (a + t) (a + t + 1) x y)
          clear k1 k2 k3 hr
          have b1 : a + t < N := by have := HI.out; omega
          have b2 : a + t + 1 < N := by have := HI.out; have := Hma.out; omega
          have hD : ((a + t : Nat) : Int) < ((a + s : Nat) : Int) := by omega
          have s1 : IntKind.i64.wrap (((a + t : Nat) : Int) + 1) = ((a + t + 1 : Nat) : Int) := by rw [IntKind.wrap_i64]; omega
          have hne : a + t ≠ a + t + 1 := by omega
          generalize hp : a + t = p at *
          generalize hq : p + 1 = q at *
          have HP := Lib.hid hp
          have HQ := Lib.hid hq
          clear hp hq
          generalize hz : a + s = z at *
          have HZ := Lib.hid hz
          clear hz
          go_wp2_with fail
          go_region
          go_wp2
          go_roundw
          case rel => exact ⟨t + 1, by have := HP.out; have := HQ.out; first | go_num | (congr 1; omega), by omega, HR4.out, HB4.out⟩
          case measure => have := HZ.out; have := HQ.out; have := HP.out; simp [intOf]; omega
        · obtain rfl : t = s := by omega
          have hD : ¬ ((a + t : Nat) : Int) < ((a + t : Nat) : Int) := by omega
          go_wp2_with fail
          exact bodyPost_ret (v := .tuple #[]) (by simp [results, Try.results67, go_sem]) rfl ⟨rfl, by have := HR2.out; rw [HF2.out] at this; exact this, HB2.out⟩

/-- Where y goes to behind X is looked for: ahead of s none is greater, from t on all are. -/
structure Seek2 (y : Bk) (X : List Bk) (s t : Nat) : Prop where
  st : s ≤ t
  le : t ≤ X.length
  low : ∀ x ∈ X.take s, x.1 ≤ y.1
  high : ∀ x ∈ X.drop t, y.1 < x.1
theorem Seek2.start (y : Bk) (X : List Bk) : Seek2 y X 0 X.length := ⟨Nat.zero_le _, Nat.le_refl _, fun y hy => by simp at hy, fun y hy => by simp at hy⟩
theorem Seek2.up {y : Bk} {X : List Bk} {s t : Nat} (h : Seek2 y X s t) (hX : Rises X) (u : Nat) (hu : u < t) (x : Bk) (hx : X[u]? = some x) (hlt : ¬ y.1 < x.1) : Seek2 y X (u + 1) t :=
  ⟨by omega, h.le, fun z hz => by obtain ⟨i, hi, hz⟩ := take_at hz; have := rises_le hX (show i ≤ u by omega) hz hx; omega, h.high⟩
theorem Seek2.down {y : Bk} {X : List Bk} {s t : Nat} (h : Seek2 y X s t) (hX : Rises X) (u : Nat) (hs : s ≤ u) (hu : u < t) (x : Bk) (hx : X[u]? = some x) (hlt : y.1 < x.1) : Seek2 y X s u :=
  ⟨hs, by have := h.le; omega, h.low, fun z hz => by obtain ⟨i, hi, hz⟩ := drop_at hz; have := rises_le hX hi hx hz; omega⟩

set_option maxRecDepth 100000 in
set_option maxHeartbeats 4000000 in
theorem symMerge_last (g cap N : Nat) (A X : List Bk) (y : Bk) (C : List Bk) (a m b : Nat) (B : Nat) (w : World) (h : Row w g cap (A ++ (X ++ (y :: C)))) (hB : B ≤ g)
    (hN : N = A.length + X.length + 1 + C.length) (ha : a = A.length) (hm : m = A.length + X.length) (hb : b = A.length + X.length + 1) (hbig : N ≤ 1000000000000) (hX : Rises X) (hX2 : 2 ≤ X.length) :
    Calls Try.prog 67 #[.slice (some ⟨g, 0, none⟩) N cap, .int .i64 a, .int .i64 m, .int .i64 b, cmpF] w
      fun e W' => e = .returned (.tuple #[]) ∧ Row W' g cap (A ++ (sorted (X ++ [y]) ++ C)) ∧ Below B w W' := by
  have en : ∀ (args : Array Value) (w : World), (callFunc 39 args).run Try.prog w = .ok (.enter 39 args) w := enters_of Try.func39 (by kernel_rfl) rfl
  have hM := h.len
  have hlN : (A ++ (X ++ (y :: C))).length = N := by simp; omega
  rw [hlN] at hM
  unfold maxLen at hM
  have H := Lib.hid h
  have HA := Lib.hid ha
  have HX := Lib.hid hX
  have HXl := Lib.hid (show X.length = m - a by omega)
  have hma : a + 2 ≤ m := by omega
  have hmN : m < N := by omega
  have s0 : IntKind.i64.wrap ((m : Int) - (a : Int)) = ((m - a : Nat) : Int) := by rw [IntKind.wrap_i64]; omega
  have s1 : (((m - a : Nat) : Int) == 1) = false := beq_false_of_ne (by omega)
  have s2 : IntKind.i64.wrap ((b : Int) - (m : Int)) = 1 := by rw [IntKind.wrap_i64]; omega
  have hym : (A ++ (X ++ (y :: C)))[m]? = some y := by
    have e : A ++ (X ++ (y :: C)) = (A ++ X) ++ y :: C := by simp
    rw [e]; exact row_x _ _ _ _ (by simp; omega)
  have HYM := Lib.hid hym
  clear h hlN ha hm hb hN hX hX2 hym
  generalize m - a = dd at s0 s1
  go_enter Try.func67, Try.ntmps67
  go_wp2_with fail
  go_loopw [14, 15] (fun vi vj W => ∃ (s t : Nat), vi = .int .i64 ((a + s : Nat) : Int) ∧ vj = .int .i64 ((a + t : Nat) : Int) ∧ Seek2 y X s t ∧ Row W g cap (A ++ (X ++ (y :: C))) ∧ Below B w W) (fun vi vj _ => (intOf vj).toNat - (intOf vi).toNat)
  case atStart => exact ⟨0, X.length, by simp, by rw [HXl.out]; congr 2; omega, Seek2.start y X, H.out, Below.refl _ _⟩
  case round =>
    obtain ⟨s, t, rfl, rfl, hS, hR, hBel⟩ := hrel
    have hst := hS.st
    have htl := hS.le
    rw [HXl.out] at htl
    have HS := Lib.hid hS
    have HR := Lib.hid hR
    have HBel := Lib.hid hBel
    clear hS hR hBel
    by_cases hlt : s < t
    · obtain ⟨c, hc, hci, hcj⟩ : ∃ c : Nat, (((a + s : Nat) : Int) + ((a + t : Nat) : Int)) / 2 = (c : Int) ∧ a + s ≤ c ∧ c < a + t := ⟨(a + s + (a + t)) / 2, by omega, by omega, by omega⟩
      have hul : c - a < X.length := by have := HXl.out; omega
      obtain ⟨x, hx⟩ := at_some hul
      have hxr : (A ++ (X ++ (y :: C)))[c]? = some x := by rw [row_y A X (y :: C) (c - a) c hul (by have := HA.out; omega)]; exact hx
      obtain ⟨c0, c1, _, _⟩ := HR.out.at? hxr
      obtain ⟨d0, d1, _, _⟩ := HR.out.at? HYM.out
      have HUp := Lib.hid (HS.out.up HX.out (c - a) (by omega) x hx)
      have HDn := Lib.hid (HS.out.down HX.out (c - a) (by omega) (by omega) x hx)
      have hcN : c < N := by omega
      have E1 := Lib.hid (show a + (c - a + 1) = c + 1 by omega)
      have E2 := Lib.hid (show a + (c - a) = c by omega)
      have hD : ((a + s : Nat) : Int) < ((a + t : Nat) : Int) := by omega
      clear hx hxr hul
      generalize hi : a + s = i at *
      generalize hj : a + t = j at *
      have HI := Lib.hid hi
      have HJ := Lib.hid hj
      clear hi hj
      go_wp2_with fail
      go_region_held3 (fun W => Below wr.heap.size wr W ∧ W.cell? ⟨g, c * 2, none⟩ = some (.int .i64 x.1) ∧ W.cell? ⟨g, c * 2 + 1, none⟩ = some (.int .i64 x.2) ∧ W.cell? ⟨g, m * 2, none⟩ = some (.int .i64 y.1) ∧ W.cell? ⟨g, m * 2 + 1, none⟩ = some (.int .i64 y.2)) (first | exact ⟨(Below.refl _ wr).drew, c0, c1, d0, d1⟩ | exact two_keep (by assumption) hb)
        (first | (go_at_call 39; (with_reducible refine (cmp_any _ _ _).mono ?_); rintro e w3 ⟨rfl, hb⟩))
      rename_i hHeld
      have HR3 := Lib.hid (HR.out.kept hHeld.1)
      have HB3 := Lib.hid (HBel.out.trans (hHeld.1.mono (Nat.le_trans hB (Nat.le_of_lt HR.out.lt))))
      clear hHeld c0 c1 d0 d1 hb HR HBel
      by_cases hless : y.1 < x.1
      · have dl : decide (cmpI y.1 x.1 < 0) = true := decide_eq_true ((cmpI_lt _ _).2 hless)
        have HS' := Lib.hid (HDn.out hless)
        rw [dl]
        clear hless HUp HDn dl
        go_wp2_with fail
        go_roundw
        case rel => exact ⟨s, c - a, by rw [HI.out], by rw [E2.out], HS'.out, HR3.out, HB3.out⟩
        case measure => simp [intOf]; omega
      · have dl : decide (cmpI y.1 x.1 < 0) = false := decide_eq_false fun h => hless ((cmpI_lt _ _).1 h)
        have HS' := Lib.hid (HUp.out (by omega))
        rw [dl]
        clear hless HUp HDn dl
        go_wp2_with fail
        go_roundw
        case rel => exact ⟨c - a + 1, t, by rw [E1.out]; go_num, by rw [HJ.out], HS'.out, HR3.out, HB3.out⟩
        case measure => simp [intOf]; omega
    · obtain rfl : s = t := by omega
      have hsl : s ≤ X.length := HS.out.le
      have HF := Lib.hid (show sorted (X ++ [y]) = X.take s ++ y :: X.drop s by
        have := merge_last y (X.take s) (X.drop s) (by rw [List.take_append_drop]; exact HX.out) HS.out.low HS.out.high
        rwa [List.take_append_drop] at this)
      have HSl := Lib.hid hsl
      have E0 := Lib.hid (show among A y X C X.length = A ++ (X ++ (y :: C)) by simp [among])
      have HF2 := Lib.hid (show among A y X C s = A ++ (sorted (X ++ [y]) ++ C) by rw [HF.out]; simp [among])
      have HML := Lib.hid (show a + X.length = m by have := HXl.out; omega)
      have hsm : a + s ≤ m := by omega
      clear hsl HS HF
      have hD : ¬ ((a + s : Nat) : Int) < ((a + s : Nat) : Int) := by omega
      generalize hi : a + s = i at *
      have HI := Lib.hid hi
      clear hi
      go_wp2_with fail
      go_loopw [17] (fun vk W => ∃ t : Nat, vk = .int .i64 ((a + t : Nat) : Int) ∧ s ≤ t ∧ t ≤ X.length ∧ Row W g cap (among A y X C t) ∧ Below B w W) (fun vk _ => (intOf vk).toNat)
      case atStart => exact ⟨X.length, by rw [HML.out], HSl.out, Nat.le_refl _, by rw [E0.out]; exact HR.out, HBel.out⟩
      case round =>
        obtain ⟨t, rfl, hts, htX, hR, hB2⟩ := hrel
        have HR2 := Lib.hid hR
        have HB2 := Lib.hid hB2
        have HtX := Lib.hid htX
        clear hR hB2 htX
        by_cases htl : s < t
        · obtain ⟨t', rfl⟩ : ∃ t', t = t' + 1 := ⟨t - 1, by omega⟩
          obtain ⟨x, _, _, _, k1, k2, k3⟩ := among_next A y X C t' a (by have := HtX.out; omega) HA.out
          obtain ⟨c0, c1, f0, f1⟩ := HR2.out.at? k1
          obtain ⟨d0, d1, g0, g1⟩ := HR2.out.at? k2
          have hr := HR2.out.swap (a + t' + 1) (a + t') y x
          rw [k3] at hr
          have HR4 := Lib.hid hr
          have HB4 := Lib.hid (below_swap HB2.out hB (a + t' + 1) (a + t') y x)
          clear k1 k2 k3 hr
          have htm : a + t' + 1 ≤ m := by have := HtX.out; have := HXl.out; omega
          have b1 : a + t' < N := by omega
          have b2 : a + t' + 1 < N := by omega
          have hit : i ≤ a + t' := by have := HI.out; omega
          have hne : a + t' + 1 ≠ a + t' := by omega
          have e1 : a + (t' + 1) = a + t' + 1 := by omega
          rw [e1]
          clear e1
          generalize hp : a + t' = p at *
          have s1 : IntKind.i64.wrap (((p + 1 : Nat) : Int) - 1) = (p : Int) := by rw [IntKind.wrap_i64]; omega
          generalize hq : p + 1 = q at *
          have hD : (i : Int) < (q : Int) := by omega
          have HP := Lib.hid hp
          have HQ := Lib.hid hq
          clear hp hq
          go_wp2_with fail
          go_region
          go_wp2
          go_roundw
          case rel => exact ⟨t', by have := HP.out; first | go_num | (congr 1; omega), by omega, by have := HtX.out; omega, HR4.out, HB4.out⟩
          case measure => have := HQ.out; have := HP.out; simp [intOf]; omega
        · obtain rfl : t = s := by omega
          have hE : a + t = i := HI.out
          rw [hE]
          clear hE
          have hD : ¬ (i : Int) < (i : Int) := by omega
          go_wp2_with fail
          exact bodyPost_ret (v := .tuple #[]) (by simp [results, Try.results67, go_sem]) rfl ⟨rfl, by have := HR2.out; rw [HF2.out] at this; exact this, HB2.out⟩
end Go.Proofs.Ytppbbhijlkfioaa.Pol

namespace Go.Proofs.Ytppbbhijlkfioaa.Pol
open Go.RowKit Go.Shelf Rgn

/-- How far X and Y are parted: ahead of s the backends of X are no greater than their fellows in Y, from r on they are greater. -/
structure Sym (X Y : List Bk) (a m n lo hi s r : Nat) : Prop where
  ls : lo ≤ s
  sr : s ≤ r
  rh : r ≤ hi
  low : s = lo ∨ ∃ x y, X[s - 1 - a]? = some x ∧ Y[n - s - m]? = some y ∧ x.1 ≤ y.1
  high : r = hi ∨ ∃ x y, X[r - a]? = some x ∧ Y[n - 1 - r - m]? = some y ∧ y.1 < x.1
theorem Sym.parted {X Y : List Bk} {a m b mid n lo hi s : Nat} (h : Sym X Y a m n lo hi s s) (hX : Rises X) (hY : Rises Y) (hXl : X.length = m - a) (hYl : Y.length = b - m) (hn : n = mid + m) (hmid : mid = (a + b) / 2)
    (hlo : (lo = a ∧ hi = m ∧ m ≤ mid) ∨ (lo + b = n ∧ hi = mid ∧ mid < m)) (ham : a < m) (hmb : m < b) :
    (∀ x ∈ X.take (s - a), ∀ y ∈ Y.drop (n - s - m), x.1 ≤ y.1) ∧ (∀ y ∈ Y.take (n - s - m), ∀ x ∈ X.drop (s - a), y.1 < x.1) := by
  have h1 := h.ls
  have h2 := h.rh
  constructor
  · intro x hx y hy
    obtain ⟨i, hi1, hx⟩ := take_at hx
    obtain ⟨j, hj1, hy⟩ := drop_at hy
    have hil := (List.getElem?_eq_some_iff.1 hx).1
    have hjl := (List.getElem?_eq_some_iff.1 hy).1
    rcases h.low with e | ⟨x', y', hx', hy', hle⟩
    · omega
    · have a1 := rises_le hX (show i ≤ s - 1 - a by omega) hx hx'
      have a2 := rises_le hY hj1 hy' hy
      omega
  · intro y hy x hx
    obtain ⟨i, hi1, hx⟩ := drop_at hx
    obtain ⟨j, hj1, hy⟩ := take_at hy
    have hil := (List.getElem?_eq_some_iff.1 hx).1
    have hjl := (List.getElem?_eq_some_iff.1 hy).1
    rcases h.high with e | ⟨x', y', hx', hy', hlt⟩
    · omega
    · have a1 := rises_le hX hi1 hx' hx
      have a2 := rises_le hY (show j ≤ n - 1 - s - m by omega) hy hy'
      omega

/-- What symMerge does with two parts of at most k backends. -/
def SymOk (k : Nat) : Prop := ∀ (g cap N : Nat) (A X Y C : List Bk) (a m b B : Nat) (w : World), Row w g cap (A ++ (X ++ (Y ++ C))) → B ≤ g →
  N = A.length + X.length + Y.length + C.length → a = A.length → m = A.length + X.length → b = A.length + X.length + Y.length → N ≤ 1000000000000 → Rises X → Rises Y → 0 < X.length → 0 < Y.length → X.length + Y.length ≤ k →
    Calls Try.prog 67 #[.slice (some ⟨g, 0, none⟩) N cap, .int .i64 a, .int .i64 m, .int .i64 b, cmpF] w
      fun e W' => e = .returned (.tuple #[]) ∧ Row W' g cap (A ++ (sorted (X ++ Y) ++ C)) ∧ Below B w W'

set_option maxRecDepth 100000 in
set_option maxHeartbeats 4000000 in
theorem symMerge_more (k : Nat) (ih : SymOk k) (g cap N : Nat) (A X Y C : List Bk) (a m b : Nat) (B : Nat) (w : World) (h : Row w g cap (A ++ (X ++ (Y ++ C)))) (hB : B ≤ g)
    (hN : N = A.length + X.length + Y.length + C.length) (ha : a = A.length) (hm : m = A.length + X.length) (hb : b = A.length + X.length + Y.length) (hbig : N ≤ 1000000000000) (hX : Rises X) (hY : Rises Y) (hX2 : 2 ≤ X.length) (hY2 : 2 ≤ Y.length) (hk : X.length + Y.length = k + 1) :
    Calls Try.prog 67 #[.slice (some ⟨g, 0, none⟩) N cap, .int .i64 a, .int .i64 m, .int .i64 b, cmpF] w
      fun e W' => e = .returned (.tuple #[]) ∧ Row W' g cap (A ++ (sorted (X ++ Y) ++ C)) ∧ Below B w W' := by
  have en : ∀ (args : Array Value) (w : World), (callFunc 39 args).run Try.prog w = .ok (.enter 39 args) w := enters_of Try.func39 (by kernel_rfl) rfl
  have hM := h.len
  have hlN : (A ++ (X ++ (Y ++ C))).length = N := by simp; omega
  rw [hlN] at hM
  unfold maxLen at hM
  have H := Lib.hid h
  have IH := Lib.hid ih
  have HN := Lib.hid hN
  have HA := Lib.hid ha
  have HX := Lib.hid hX
  have HY := Lib.hid hY
  have HXl := Lib.hid (show X.length = m - a by omega)
  have HYl := Lib.hid (show Y.length = b - m by omega)
  have hma : a + 2 ≤ m := by omega
  have hmb : m + 2 ≤ b := by omega
  have hbN : b ≤ N := by omega
  have HK := Lib.hid (show b - a = k + 1 by omega)
  obtain ⟨mid, hmid⟩ : ∃ mid, mid = (a + b) / 2 := ⟨_, rfl⟩
  obtain ⟨n, hn⟩ : ∃ n, n = mid + m := ⟨_, rfl⟩
  have r1 : ((a : Int) + (b : Int)) / 2 = (mid : Int) := by omega
  have r2 : (mid : Int) + (m : Int) = (n : Int) := by omega
  have Hmid := Lib.hid hmid
  have Hn := Lib.hid hn
  have hm1 : a < mid := by omega
  have hm2 : mid < b := by omega
  have hn1 : m ≤ n := by omega
  have hn2 : n ≤ 2000000000000 := by omega
  have s0 : IntKind.i64.wrap ((m : Int) - (a : Int)) = ((m - a : Nat) : Int) := by rw [IntKind.wrap_i64]; omega
  have s1 : (((m - a : Nat) : Int) == 1) = false := beq_false_of_ne (by omega)
  have s2 : IntKind.i64.wrap ((b : Int) - (m : Int)) = ((b - m : Nat) : Int) := by rw [IntKind.wrap_i64]; omega
  have s3 : (((b - m : Nat) : Int) == 1) = false := beq_false_of_ne (by omega)
  clear h hlN ha hm hb hN hX hY hX2 hY2 ih hk
  generalize m - a = dd at s0 s1
  generalize b - m = de at s2 s3
  clear hmid hn
  go_enter Try.func67, Try.ntmps67
  go_upto_if 140 with fail
  go_cut [20, 21] from 138 to 146 (fun s r W => ∃ lo hi : Nat, s = .int .i64 lo ∧ r = .int .i64 hi ∧ ((lo = a ∧ hi = m ∧ m ≤ mid) ∨ (lo + b = n ∧ hi = mid ∧ mid < m)) ∧ w = W)
  case first =>
    by_cases hc : mid < m
    · have hcz : (mid : Int) < (m : Int) := by omega
      have r3 : IntKind.i64.wrap ((n : Int) - (b : Int)) = ((n - b : Nat) : Int) := by have := Hn.out; have := Hmid.out; rw [IntKind.wrap_i64]; omega
      go_wp2_with fail
      go_meet
      exact ⟨n - b, mid, rfl, rfl, Or.inr ⟨by have := Hn.out; have := Hmid.out; omega, rfl, hc⟩, rfl⟩
    · have hcz : ¬ (mid : Int) < (m : Int) := by omega
      go_wp2_with fail
      go_meet
      exact ⟨a, m, rfl, rfl, Or.inl ⟨rfl, rfl, by omega⟩, rfl⟩
  case rest =>
    obtain ⟨lo, hi, rfl, rfl, hlo, rfl⟩ := hcut
    obtain ⟨p, hp⟩ : ∃ p, p + 1 = n := ⟨n - 1, by omega⟩
    have r4 : IntKind.i64.wrap ((n : Int) - 1) = (p : Int) := by rw [IntKind.wrap_i64]; omega
    have HP := Lib.hid hp
    have HLo := Lib.hid hlo
    have hlh : lo ≤ hi ∧ a ≤ lo ∧ hi ≤ m ∧ hi ≤ mid := by have := Hn.out; have := Hmid.out; omega
    have hpc : ∀ c, lo ≤ c → c < hi → m ≤ p - c ∧ p - c < b ∧ c ≤ p := fun c h1 h2 => by have := Hn.out; have := Hmid.out; omega
    have HPC := Lib.hid hpc
    have HS0 := Lib.hid (show Sym X Y a m n lo hi lo hi from ⟨Nat.le_refl _, hlh.1, Nat.le_refl _, Or.inl rfl, Or.inl rfl⟩)
    clear hlo hp hpc
    go_wp2_with fail
    go_loopw [20, 21] (fun vs vr W => ∃ s r : Nat, vs = .int .i64 s ∧ vr = .int .i64 r ∧ Sym X Y a m n lo hi s r ∧ Row W g cap (A ++ (X ++ (Y ++ C))) ∧ Below B w W) (fun vs vr _ => (intOf vr).toNat - (intOf vs).toNat)
    case atStart => exact ⟨lo, hi, rfl, rfl, HS0.out, H.out, Below.refl _ _⟩
    case round =>
      obtain ⟨s, r, rfl, rfl, hS, hR, hBel⟩ := hrel
      have h1 := hS.ls
      have h2 := hS.sr
      have h3 := hS.rh
      have HS := Lib.hid hS
      have HR := Lib.hid hR
      have HBel := Lib.hid hBel
      clear hS hR hBel
      by_cases hlt : s < r
      · obtain ⟨c, hc, hci, hcj⟩ : ∃ c : Nat, ((s : Int) + (r : Int)) / 2 = (c : Int) ∧ s ≤ c ∧ c < r := ⟨(s + r) / 2, by omega, by omega, by omega⟩
        obtain ⟨hq1, hq2, hq3⟩ := HPC.out c (by omega) (by omega)
        have t1 : IntKind.i64.wrap ((p : Int) - (c : Int)) = ((p - c : Nat) : Int) := by rw [IntKind.wrap_i64]; omega
        have hxl : c - a < X.length := by have := HXl.out; omega
        have hyl : p - c - m < Y.length := by have := HYl.out; omega
        obtain ⟨x, hx⟩ := at_some hxl
        obtain ⟨y, hy⟩ := at_some hyl
        have hxr : (A ++ (X ++ (Y ++ C)))[c]? = some x := by rw [row_y A X (Y ++ C) (c - a) c hxl (by have := HA.out; omega)]; exact hx
        have hyr : (A ++ (X ++ (Y ++ C)))[p - c]? = some y := by
          have e : A ++ (X ++ (Y ++ C)) = (A ++ X) ++ (Y ++ C) := by simp
          rw [e, row_y (A ++ X) Y C (p - c - m) (p - c) hyl (by have := HA.out; have := HXl.out; simp; omega)]; exact hy
        obtain ⟨c0, c1, _, _⟩ := HR.out.at? hxr
        obtain ⟨d0, d1, _, _⟩ := HR.out.at? hyr
        have HUp := Lib.hid (show ¬ y.1 < x.1 → Sym X Y a m n lo hi (c + 1) r from fun hn => ⟨by omega, by omega, h3, Or.inr ⟨x, y, by rw [show c + 1 - 1 - a = c - a by omega]; exact hx, by rw [show n - (c + 1) - m = p - c - m by have := HP.out; omega]; exact hy, by omega⟩, HS.out.high⟩)
        have HDn := Lib.hid (show y.1 < x.1 → Sym X Y a m n lo hi s c from fun hn => ⟨h1, by omega, by omega, HS.out.low, Or.inr ⟨x, y, hx, by rw [show n - 1 - c - m = p - c - m by have := HP.out; omega]; exact hy, hn⟩⟩)
        have hcN : c < N := by omega
        have hqN : p - c < N := by omega
        have hD : (s : Int) < (r : Int) := by omega
        clear hx hy hxr hyr hxl hyl
        generalize p - c = q at *
        go_wp2_with fail
        go_region_held3 (fun W => Below wr.heap.size wr W ∧ W.cell? ⟨g, c * 2, none⟩ = some (.int .i64 x.1) ∧ W.cell? ⟨g, c * 2 + 1, none⟩ = some (.int .i64 x.2) ∧ W.cell? ⟨g, q * 2, none⟩ = some (.int .i64 y.1) ∧ W.cell? ⟨g, q * 2 + 1, none⟩ = some (.int .i64 y.2)) (first | exact ⟨(Below.refl _ wr).drew, c0, c1, d0, d1⟩ | exact two_keep (by assumption) hb)
          (first | (go_at_call 39; (with_reducible refine (cmp_any _ _ _).mono ?_); rintro e w3 ⟨rfl, hb⟩))
        rename_i hHeld
        have HR3 := Lib.hid (HR.out.kept hHeld.1)
        have HB3 := Lib.hid (HBel.out.trans (hHeld.1.mono (Nat.le_trans hB (Nat.le_of_lt HR.out.lt))))
        clear hHeld c0 c1 d0 d1 hb HR HBel
        by_cases hless : y.1 < x.1
        · have dl : decide (cmpI y.1 x.1 < 0) = true := decide_eq_true ((cmpI_lt _ _).2 hless)
          have HS' := Lib.hid (HDn.out hless)
          rw [dl]
          clear hless HUp HDn dl
          go_wp2_with fail
          go_roundw
          case rel => exact ⟨s, c, rfl, rfl, HS'.out, HR3.out, HB3.out⟩
          case measure => simp [intOf]; omega
        · have dl : decide (cmpI y.1 x.1 < 0) = false := decide_eq_false fun h => hless ((cmpI_lt _ _).1 h)
          have HS' := Lib.hid (HUp.out (by omega))
          rw [dl]
          clear hless HUp HDn dl
          go_wp2_with fail
          go_roundw
          case rel => exact ⟨c + 1, r, by go_num, rfl, HS'.out, HR3.out, HB3.out⟩
          case measure => simp [intOf]; omega
      · obtain rfl : s = r := by omega
        have hpart := HS.out.parted (b := b) (mid := mid) HX.out HY.out HXl.out HYl.out Hn.out Hmid.out HLo.out (by omega) (by omega)
        obtain ⟨e, he⟩ : ∃ e, e + s = n := ⟨n - s, by have := Hn.out; omega⟩
        have hee : n - s = e := by omega
        rw [hee] at hpart
        have r5 : IntKind.i64.wrap ((n : Int) - (s : Int)) = (e : Int) := by rw [IntKind.wrap_i64]; omega
        have he1 : m ≤ e ∧ e ≤ b ∧ e + s = mid + m := by have := Hn.out; have := Hmid.out; have := HLo.out; omega
        have eX : X = X.take (s - a) ++ X.drop (s - a) := (List.take_append_drop _ _).symm
        have eY : Y = Y.take (e - m) ++ Y.drop (e - m) := (List.take_append_drop _ _).symm
        have l1 : (X.take (s - a)).length = s - a := by have := HXl.out; simp; omega
        have l2 : (X.drop (s - a)).length = m - s := by have := HXl.out; simp; omega
        have l3 : (Y.take (e - m)).length = e - m := by have := HYl.out; simp; omega
        have l4 : (Y.drop (e - m)).length = b - e := by have := HYl.out; simp; omega
        have hRow := HR.out
        have hX := HX.out
        have hY := HY.out
        rw [eX] at hX
        rw [eY] at hY
        rw [eX, eY] at hRow
        have hfin := merge_two _ _ _ _ hX hY hpart.1 hpart.2
        rw [← eX, ← eY] at hfin
        have HNl := Lib.hid (show N = a + (m - a) + (b - m) + C.length by have := HN.out; have := HA.out; have := HXl.out; have := HYl.out; omega)
        clear HR HS HX HY HXl HYl hpart eX eY
        generalize X.take (s - a) = X1 at *
        generalize X.drop (s - a) = X2 at *
        generalize Y.take (e - m) = Y1 at *
        generalize Y.drop (e - m) = Y2 at *
        have hRow2 : Row wr g cap ((A ++ X1) ++ (X2 ++ (Y1 ++ (Y2 ++ C)))) := by
          have : (A ++ X1) ++ (X2 ++ (Y1 ++ (Y2 ++ C))) = A ++ ((X1 ++ X2) ++ ((Y1 ++ Y2) ++ C)) := by simp
          rw [this]; exact hRow
        have HR := Lib.hid hRow2
        have HF := Lib.hid hfin
        have HX1 := Lib.hid (show Rises X1 from (List.pairwise_append.1 hX).1)
        have HX2 := Lib.hid (show Rises X2 from (List.pairwise_append.1 hX).2.1)
        have HY1 := Lib.hid (show Rises Y1 from (List.pairwise_append.1 hY).1)
        have HY2 := Lib.hid (show Rises Y2 from (List.pairwise_append.1 hY).2.1)
        have L := Lib.hid (show X1.length = s - a ∧ X2.length = m - s ∧ Y1.length = e - m ∧ Y2.length = b - e from ⟨l1, l2, l3, l4⟩)
        have HE := Lib.hid he
        clear hRow hRow2 hfin hX hY l1 l2 l3 l4 he hee
        go_upto_region 39 with fail
        go_cut [185] from 178 to 185 (fun v W => v = .bool (decide (s < m ∧ m < e)) ∧ wr = W)
        case first =>
          by_cases hc : s < m
          · by_cases hd : m < e
            · have z1 : (s : Int) < (m : Int) := by omega
              have z2 : (m : Int) < (e : Int) := by omega
              go_wp2_with fail
              go_meet
              exact ⟨by simp [hc, hd], rfl⟩
            · have z1 : (s : Int) < (m : Int) := by omega
              have z2 : ¬ (m : Int) < (e : Int) := by omega
              go_wp2_with fail
              go_meet
              exact ⟨by simp [hd], rfl⟩
          · have z1 : ¬ (s : Int) < (m : Int) := by omega
            go_wp2_with fail
            go_meet
            exact ⟨by simp [hc], rfl⟩
        case rest =>
        obtain ⟨rfl, rfl⟩ := hcut
        go_upto_if 185 with fail
        go_cut [] from 185 to 191 (fun W => Row W g cap (A ++ (X1 ++ (Y1 ++ (X2 ++ (Y2 ++ C))))) ∧ Below B w W)
        case first =>
          by_cases hc : s < m ∧ m < e
          · have hv : decide (s < m ∧ m < e) = true := decide_eq_true hc
            rw [hv]
            clear hv
            have RT := Lib.hid (rotate_any g cap N (A ++ X1) X2 Y1 (Y2 ++ C) s m e cmpF B wr HR.out hB (by have := HNl.out; have := HA.out; have := L.out; simp; omega) (by have := HA.out; have := L.out; simp; omega) (by have := HA.out; have := L.out; simp; omega) (by have := HA.out; have := L.out; simp; omega) (by have := L.out; omega) (by have := L.out; omega))
            clear hc
            go_wp2_with fail
            refine RT.out.mono ?_
            rintro e2 w3 ⟨rfl, hr3, hb3⟩
            have HR3 := Lib.hid hr3
            have HB3 := Lib.hid (HBel.out.trans hb3)
            clear hr3 hb3 RT
            go_wp2_with fail
            go_meet
            exact ⟨by have := HR3.out; rwa [List.append_assoc] at this, HB3.out⟩
          · have hv : decide (s < m ∧ m < e) = false := decide_eq_false hc
            rw [hv]
            clear hv
            have HR3 := Lib.hid (show Row wr g cap (A ++ (X1 ++ (Y1 ++ (X2 ++ (Y2 ++ C))))) by
              have h0 := HR.out
              have hL := L.out
              by_cases hs : s < m
              · have : Y1 = [] := List.eq_nil_of_length_eq_zero (by omega)
                subst this; simpa using h0
              · have : X2 = [] := List.eq_nil_of_length_eq_zero (by omega)
                subst this; simpa using h0)
            clear hc
            go_wp2_with fail
            go_meet
            exact ⟨HR3.out, HBel.out⟩
        case rest =>
        have HR4 := Lib.hid hcut.1
        have HB4 := Lib.hid hcut.2
        clear hcut HR HBel
        go_upto_region 41 with fail
        go_cut [199] from 192 to 199 (fun v W => v = .bool (decide (a < s ∧ s < mid)) ∧ wc = W)
        case first =>
          by_cases hc : a < s
          · by_cases hd : s < mid
            · have z1 : (a : Int) < (s : Int) := by omega
              have z2 : (s : Int) < (mid : Int) := by omega
              go_wp2_with fail
              go_meet
              exact ⟨by simp [hc, hd], rfl⟩
            · have z1 : (a : Int) < (s : Int) := by omega
              have z2 : ¬ (s : Int) < (mid : Int) := by omega
              go_wp2_with fail
              go_meet
              exact ⟨by simp [hd], rfl⟩
          · have z1 : ¬ (a : Int) < (s : Int) := by omega
            go_wp2_with fail
            go_meet
            exact ⟨by simp [hc], rfl⟩
        case rest =>
        obtain ⟨rfl, rfl⟩ := hcut
        go_upto_if 199 with fail
        go_cut [] from 199 to 205 (fun W => Row W g cap (A ++ (sorted (X1 ++ Y1) ++ (X2 ++ (Y2 ++ C)))) ∧ Below B w W)
        case first =>
          by_cases hc : a < s ∧ s < mid
          · have hv : decide (a < s ∧ s < mid) = true := decide_eq_true hc
            rw [hv]
            clear hv
            have RT := Lib.hid (IH.out g cap N A X1 Y1 (X2 ++ (Y2 ++ C)) a s mid B wc HR4.out hB (by have := HNl.out; have := HA.out; have := L.out; simp; omega) HA.out (by have := HA.out; have := L.out; omega) (by have := HA.out; have := L.out; omega) hbig HX1.out HY1.out (by have := L.out; omega) (by have := L.out; omega) (by have := L.out; have := HK.out; omega))
            clear hc
            go_wp2_with fail
            refine RT.out.mono ?_
            rintro e2 w3 ⟨rfl, hr3, hb3⟩
            have HR3 := Lib.hid hr3
            have HB3 := Lib.hid (HB4.out.trans hb3)
            clear hr3 hb3 RT
            go_wp2_with fail
            go_meet
            exact ⟨HR3.out, HB3.out⟩
          · have hv : decide (a < s ∧ s < mid) = false := decide_eq_false hc
            rw [hv]
            clear hv
            have HR3 := Lib.hid (show Row wc g cap (A ++ (sorted (X1 ++ Y1) ++ (X2 ++ (Y2 ++ C)))) by
              have h0 := HR4.out
              have hL := L.out
              by_cases hs : a < s
              · have : Y1 = [] := List.eq_nil_of_length_eq_zero (by omega)
                subst this
                rw [List.append_nil, sorted_self _ HX1.out]; simpa using h0
              · have : X1 = [] := List.eq_nil_of_length_eq_zero (by omega)
                subst this
                rw [List.nil_append, sorted_self _ HY1.out]; simpa using h0)
            clear hc
            go_wp2_with fail
            go_meet
            exact ⟨HR3.out, HB4.out⟩
        case rest =>
        have HR5 := Lib.hid hcut.1
        have HB5 := Lib.hid hcut.2
        clear hcut HR4 HB4
        go_upto_region 43 with fail
        go_cut [213] from 206 to 213 (fun v W => v = .bool (decide (mid < e ∧ e < b)) ∧ wc = W)
        case first =>
          by_cases hc : mid < e
          · by_cases hd : e < b
            · have z1 : (mid : Int) < (e : Int) := by omega
              have z2 : (e : Int) < (b : Int) := by omega
              go_wp2_with fail
              go_meet
              exact ⟨by simp [hc, hd], rfl⟩
            · have z1 : (mid : Int) < (e : Int) := by omega
              have z2 : ¬ (e : Int) < (b : Int) := by omega
              go_wp2_with fail
              go_meet
              exact ⟨by simp [hd], rfl⟩
          · have z1 : ¬ (mid : Int) < (e : Int) := by omega
            go_wp2_with fail
            go_meet
            exact ⟨by simp [hc], rfl⟩
        case rest =>
        obtain ⟨rfl, rfl⟩ := hcut
        have HSl := Lib.hid (show (sorted (X1 ++ Y1)).length = mid - a by have := L.out; rw [sorted_length]; simp; omega)
        by_cases hc : mid < e ∧ e < b
        · have hv : decide (mid < e ∧ e < b) = true := decide_eq_true hc
          rw [hv]
          clear hv
          have h0 : Row wc g cap ((A ++ sorted (X1 ++ Y1)) ++ (X2 ++ (Y2 ++ C))) := by have := HR5.out; rwa [← List.append_assoc] at this
          have RT := Lib.hid (IH.out g cap N (A ++ sorted (X1 ++ Y1)) X2 Y2 C mid e b B wc h0 hB (by have := HNl.out; have := HA.out; have := L.out; have := HSl.out; simp; omega) (by have := HA.out; have := HSl.out; simp; omega) (by have := HA.out; have := L.out; have := HSl.out; simp; omega) (by have := HA.out; have := L.out; have := HSl.out; simp; omega) hbig HX2.out HY2.out (by have := L.out; omega) (by have := L.out; omega) (by have := L.out; have := HK.out; omega))
          clear hc h0
          go_wp2_with fail
          refine RT.out.mono ?_
          rintro e2 w3 ⟨rfl, hr3, hb3⟩
          have HR3 := Lib.hid hr3
          have HB3 := Lib.hid (HB5.out.trans hb3)
          clear hr3 hb3 RT
          go_wp2_with fail
          go_end0
          exact ⟨rfl, by have := HR3.out; rw [HF.out]; simpa using this, HB3.out⟩
        · have hv : decide (mid < e ∧ e < b) = false := decide_eq_false hc
          rw [hv]
          clear hv
          have HR3 := Lib.hid (show Row wc g cap (A ++ (sorted (X1 ++ Y1) ++ (sorted (X2 ++ Y2) ++ C))) by
            have h0 := HR5.out
            have hL := L.out
            by_cases hs : mid < e
            · have : Y2 = [] := List.eq_nil_of_length_eq_zero (by omega)
              subst this
              rw [List.append_nil, sorted_self _ HX2.out]; simpa using h0
            · have : X2 = [] := List.eq_nil_of_length_eq_zero (by omega)
              subst this
              rw [List.nil_append, sorted_self _ HY2.out]; simpa using h0)
          clear hc
          go_wp2_with fail
          go_end0
          exact ⟨rfl, by have := HR3.out; rw [HF.out]; simpa using this, HB5.out⟩

theorem symMerge_all : ∀ k, SymOk k := by
  intro k
  induction k with
  | zero => intro g cap N A X Y C a m b B w _ _ _ _ _ _ _ _ _ h1 _ h3; omega
  | succ k ih =>
    intro g cap N A X Y C a m b B w h hB hN ha hm hb hbig hX hY hX0 hY0 hk
    by_cases hle : X.length + Y.length ≤ k
    · exact ih g cap N A X Y C a m b B w h hB hN ha hm hb hbig hX hY hX0 hY0 hle
    · by_cases h1 : X.length = 1
      · obtain ⟨x, rfl⟩ := List.length_eq_one_iff.1 h1
        exact symMerge_first g cap N A x Y C a m b B w h hB (by simpa using hN) ha (by simpa using hm) (by simpa using hb) hbig hY
      · by_cases h2 : Y.length = 1
        · obtain ⟨y, rfl⟩ := List.length_eq_one_iff.1 h2
          exact symMerge_last g cap N A X y C a m b B w h hB (by simpa using hN) ha hm (by simpa using hb) hbig hX (by omega)
        · exact symMerge_more k ih g cap N A X Y C a m b B w h hB hN ha hm hb hbig hX hY (by omega) (by omega) (by omega)
end Go.Proofs.Ytppbbhijlkfioaa.Pol

namespace Go.Proofs.Ytppbbhijlkfioaa.Pol

/-- Two neighbours stand in order. -/
def Adj (es : List Bk) (t : Nat) : Prop := ∀ x y, es[t]? = some x → es[t + 1]? = some y → x.1 ≤ y.1
theorem adj_le (es : List Bk) (p q : Nat) (h : ∀ t, p ≤ t → t + 1 < q → Adj es t) : ∀ (d i : Nat) (x y : Bk), p ≤ i → i + d < q → es[i]? = some x → es[i + d]? = some y → x.1 ≤ y.1 := by
  intro d
  induction d with
  | zero => intro i x y _ _ hx hy; rw [Nat.add_zero, hx] at hy; cases hy; exact Int.le_refl _
  | succ d ih =>
    intro i x y hp hq hx hy
    have hl := (List.getElem?_eq_some_iff.1 hy).1
    have hz : es[i + d]? = some es[i + d] := List.getElem?_eq_getElem (by omega)
    have h1 := ih i x _ hp (by omega) hx hz
    have h2 := h (i + d) (by omega) (by omega) _ _ hz hy
    omega
/-- The part of a row from p on, ahead of q. -/
abbrev seg (es : List Bk) (p q : Nat) : List Bk := (es.drop p).take (q - p)
theorem seg_length (es : List Bk) (p q : Nat) (hq : q ≤ es.length) : (seg es p q).length = q - p := by simp [seg]; omega
theorem seg_rises (es : List Bk) (p q : Nat) (h : ∀ t, p ≤ t → t + 1 < q → Adj es t) : Rises (seg es p q) := by
  refine List.pairwise_iff_getElem.2 fun i j hi hj hij => ?_
  have li : (seg es p q)[i]? = some (seg es p q)[i] := List.getElem?_eq_getElem hi
  have lj : (seg es p q)[j]? = some (seg es p q)[j] := List.getElem?_eq_getElem hj
  simp only [seg, List.length_take, List.length_drop] at hi hj
  generalize (seg es p q)[i] = x at *
  generalize (seg es p q)[j] = y at *
  rw [seg, List.getElem?_take_of_lt (by omega), List.getElem?_drop] at li lj
  refine adj_le es p q h (j - i) (p + i) x y (by omega) (by omega) li ?_
  rw [show p + i + (j - i) = p + j by omega]; exact lj
theorem parts (es : List Bk) (a b : Nat) (hab : a ≤ b) : es = es.take a ++ (seg es a b ++ es.drop b) := by
  conv => lhs; rw [← List.take_append_drop a es]
  congr 1
  conv => lhs; rw [← List.take_append_drop (b - a) (es.drop a)]
  rw [List.drop_drop, show a + (b - a) = b by omega]
theorem parts2 (es : List Bk) (a m b : Nat) (h1 : a ≤ m) (h2 : m ≤ b) : seg es a b = seg es a m ++ seg es m b := by
  have e : es.drop m = (es.drop a).drop (m - a) := by rw [List.drop_drop]; congr 1; omega
  have e2 : b - a = (m - a) + (b - m) := by omega
  show (es.drop a).take (b - a) = (es.drop a).take (m - a) ++ (es.drop m).take (b - m)
  rw [e, e2, List.take_add]
/-- A part of a row is another one now. -/
abbrev upd (es Z : List Bk) (a b : Nat) : List Bk := es.take a ++ (Z ++ es.drop b)
theorem upd_get (es Z : List Bk) (a b : Nat) (hab : a ≤ b) (hb : b ≤ es.length) (hZ : Z.length = b - a) (t : Nat) (ht : t < a ∨ b ≤ t) : (upd es Z a b)[t]? = es[t]? := by
  have hl : (es.take a).length = a := by simp; omega
  rcases ht with ht | ht
  · rw [upd, List.getElem?_append_left (by omega), List.getElem?_take_of_lt ht]
  · rw [upd, List.getElem?_append_right (by omega), List.getElem?_append_right (by omega), List.getElem?_drop]
    congr 1; omega
theorem upd_in (es Z : List Bk) (a b : Nat) (hab : a ≤ b) (hb : b ≤ es.length) (hZ : Z.length = b - a) (t : Nat) (h1 : a ≤ t) (h2 : t < b) : (upd es Z a b)[t]? = Z[t - a]? := by
  have hl : (es.take a).length = a := by simp; omega
  rw [upd, List.getElem?_append_right (by omega), List.getElem?_append_left (by omega), hl]
theorem upd_length (es Z : List Bk) (a b : Nat) (hab : a ≤ b) (hb : b ≤ es.length) (hZ : Z.length = b - a) : (upd es Z a b).length = es.length := by simp [upd]; omega
theorem upd_new (es Z : List Bk) (a b : Nat) (hab : a ≤ b) (hb : b ≤ es.length) (hZ : Z.length = b - a) (hr : Rises Z) (t : Nat) (h1 : a ≤ t) (h2 : t + 1 < b) : Adj (upd es Z a b) t := by
  intro x y hx hy
  rw [upd_in es Z a b hab hb hZ t h1 (by omega)] at hx
  rw [upd_in es Z a b hab hb hZ (t + 1) (by omega) h2] at hy
  obtain ⟨hi, rfl⟩ := List.getElem?_eq_some_iff.1 hx
  obtain ⟨hj, rfl⟩ := List.getElem?_eq_some_iff.1 hy
  exact List.pairwise_iff_getElem.1 hr _ _ hi hj (by omega)
theorem upd_old (es Z : List Bk) (a b : Nat) (hab : a ≤ b) (hb : b ≤ es.length) (hZ : Z.length = b - a) (t : Nat) (ht : t + 1 < a ∨ b ≤ t) (h : Adj es t) : Adj (upd es Z a b) t := by
  intro x y hx hy
  rw [upd_get es Z a b hab hb hZ t (by omega)] at hx
  rw [upd_get es Z a b hab hb hZ (t + 1) (by omega)] at hy
  exact h x y hx hy
theorem upd_stab (ds es Z : List Bk) (a b : Nat) (hab : a ≤ b) (h : Stab ds es) (hZ : Stab (seg es a b) Z) : Stab ds (upd es Z a b) := by
  refine h.trans ?_
  have e := parts es a b hab
  intro v
  conv => rhs; rw [e]
  exact ((Stab.refl (es.take a)).app (hZ.app (Stab.refl (es.drop b)))) v
theorem not_dvd {k a t : Nat} (ha : k ∣ a) (h1 : a < t) (h2 : t < a + k) : ¬ k ∣ t := by
  intro h
  have : k ∣ t - a := Nat.dvd_sub h ha
  have := Nat.le_of_dvd (by omega) this
  omega
/-- Parts of k backends are in order, ahead of a; and nothing is lost. -/
structure Ranked (ds es : List Bk) (k a : Nat) : Prop where
  stab : Stab ds es
  len : es.length = ds.length
  dvd : k ∣ a
  low : ∀ t, t + 1 < a → ¬ k ∣ t + 1 → Adj es t
/-- .. and parts of h backends from a on. -/
structure Ranked2 (ds es : List Bk) (h k a : Nat) : Prop extends Ranked ds es k a where
  high : ∀ t, a ≤ t → ¬ h ∣ t + 1 → Adj es t
theorem Ranked.start (ds : List Bk) (k : Nat) : Ranked ds ds k 0 := ⟨Stab.refl _, rfl, Nat.dvd_zero k, fun t h => absurd h (by omega)⟩
theorem Ranked.next {ds es : List Bk} {k a : Nat} (h : Ranked ds es k a) (hb : a + k ≤ es.length) : Ranked ds (upd es (sorted (seg es a (a + k))) a (a + k)) k (a + k) := by
  have hl : (sorted (seg es a (a + k))).length = a + k - a := by rw [sorted_length, seg_length _ _ _ hb]
  refine ⟨upd_stab _ _ _ _ _ (by omega) h.stab (stab_sorted _), by rw [upd_length _ _ _ _ (by omega) hb hl]; exact h.len, Nat.dvd_add h.dvd (Nat.dvd_refl k), fun t ht hd => ?_⟩
  by_cases h1 : t + 1 < a
  · exact upd_old _ _ _ _ (by omega) hb hl t (Or.inl h1) (h.low t h1 hd)
  · by_cases h2 : t + 1 = a
    · exact absurd (h2 ▸ h.dvd) hd
    · exact upd_new _ _ _ _ (by omega) hb hl (sorted_rises _) t (by omega) (by omega)
theorem Ranked.last {ds es : List Bk} {k a : Nat} (h : Ranked ds es k a) (ha : a ≤ es.length) : Ranked2 ds (upd es (sorted (seg es a es.length)) a es.length) k k 0 := by
  have hl : (sorted (seg es a es.length)).length = es.length - a := by rw [sorted_length, seg_length _ _ _ (Nat.le_refl _)]
  refine ⟨⟨upd_stab _ _ _ _ _ ha h.stab (stab_sorted _), by rw [upd_length _ _ _ _ ha (Nat.le_refl _) hl]; exact h.len, Nat.dvd_zero k, fun t ht => absurd ht (by omega)⟩, fun t _ hd => ?_⟩
  by_cases h0 : t + 1 < es.length
  · by_cases h1 : t + 1 < a
    · exact upd_old _ _ _ _ ha (Nat.le_refl _) hl t (Or.inl h1) (h.low t h1 hd)
    · by_cases h2 : t + 1 = a
      · exact absurd (h2 ▸ h.dvd) hd
      · exact upd_new _ _ _ _ ha (Nat.le_refl _) hl (sorted_rises _) t (by omega) h0
  · intro x y _ hy
    have := (List.getElem?_eq_some_iff.1 hy).1
    rw [upd_length _ _ _ _ ha (Nat.le_refl _) hl] at this
    omega
theorem Ranked2.begin {ds es : List Bk} {k : Nat} (h : Ranked2 ds es k k 0) : Ranked2 ds es k (2 * k) 0 := ⟨⟨h.stab, h.len, Nat.dvd_zero _, fun t ht => absurd ht (by omega)⟩, h.high⟩
theorem Ranked2.rises {ds es : List Bk} {k a p q : Nat} (h : Ranked2 ds es k (2 * k) a) (hp : p = a ∨ p = a + k) (hq : q ≤ p + k) : Rises (seg es p q) := by
  have hka : k ∣ a := Nat.dvd_trans (Nat.dvd_mul_left k 2) h.dvd
  have hkp : k ∣ p := by
    rcases hp with rfl | rfl
    · exact hka
    · exact Nat.dvd_add hka (Nat.dvd_refl k)
  exact seg_rises es p q fun t h1 h2 => h.high t (by omega) (not_dvd hkp (by omega) (by omega))
theorem Ranked2.next {ds es : List Bk} {k a : Nat} (h : Ranked2 ds es k (2 * k) a) (hb : a + 2 * k ≤ es.length) : Ranked2 ds (upd es (sorted (seg es a (a + 2 * k))) a (a + 2 * k)) k (2 * k) (a + 2 * k) := by
  have hl : (sorted (seg es a (a + 2 * k))).length = a + 2 * k - a := by rw [sorted_length, seg_length _ _ _ hb]
  exact ⟨h.toRanked.next hb, fun t ht hd => upd_old _ _ _ _ (by omega) hb hl t (Or.inr ht) (h.high t (by omega) hd)⟩
theorem Ranked2.done {ds es : List Bk} {k a : Nat} (h : Ranked2 ds es k (2 * k) a) (ha : a ≤ es.length) : Ranked2 ds (upd es (sorted (seg es a es.length)) a es.length) (2 * k) (2 * k) 0 := h.toRanked.last ha
theorem Ranked2.short {ds es : List Bk} {k a : Nat} (h : Ranked2 ds es k (2 * k) a) (ha : es.length ≤ a + k) : Ranked2 ds es (2 * k) (2 * k) 0 := by
  refine ⟨⟨h.stab, h.len, Nat.dvd_zero _, fun t ht => absurd ht (by omega)⟩, fun t _ hd => ?_⟩
  have hka : k ∣ a := Nat.dvd_trans (Nat.dvd_mul_left k 2) h.dvd
  by_cases h0 : t + 1 < es.length
  · by_cases h1 : t + 1 < a
    · exact h.low t h1 hd
    · by_cases h2 : t + 1 = a
      · exact absurd (h2 ▸ h.dvd) hd
      · exact h.high t (by omega) (not_dvd hka (by omega) (by omega))
  · intro x y _ hy
    have := (List.getElem?_eq_some_iff.1 hy).1
    omega
theorem Ranked2.sorted {ds es : List Bk} {k : Nat} (h : Ranked2 ds es k k 0) (hk : es.length ≤ k) : es = Pol.sorted ds := by
  have hr : Rises es := by
    have := seg_rises es 0 es.length fun t _ h2 => h.high t (by omega) (not_dvd (Nat.dvd_zero k) (by omega) (by omega))
    simpa [seg] using this
  exact (sorted_is ds es hr h.stab).symm
end Go.Proofs.Ytppbbhijlkfioaa.Pol

namespace Go.Proofs.Ytppbbhijlkfioaa.Pol
open Go.RowKit Go.Shelf Rgn

theorem seg_two (es : List Bk) (a m b : Nat) (h1 : a ≤ m) (h2 : m ≤ b) : es.take a ++ (seg es a m ++ (seg es m b ++ es.drop b)) = es := by
  have e := parts es a b (by omega)
  rw [parts2 es a m b h1 h2] at e
  conv => rhs; rw [e]
  simp
/-- A part of a row is sorted. -/
theorem insertion_seg (g cap N : Nat) (es : List Bk) (a b : Nat) (B : Nat) (w : World) (h : Row w g cap es) (hB : B ≤ g) (hN : N = es.length) (hab : a ≤ b) (hb : b ≤ N) (hbig : N ≤ 1000000000000) :
    Calls Try.prog 66 #[.slice (some ⟨g, 0, none⟩) N cap, .int .i64 a, .int .i64 b, cmpF] w
      fun e W' => e = .returned (.tuple #[]) ∧ Row W' g cap (upd es (sorted (seg es a b)) a b) ∧ Below B w W' := by
  have e := parts es a b hab
  rw [e] at h
  have hs := seg_length es a b (by omega)
  exact insertion_any g cap N (es.take a) (seg es a b) (es.drop b) a b B w h hB (by rw [hs]; simp; omega) (by simp; omega) (by rw [hs]; simp; omega) hbig
/-- Two parts of a row that are in order become one. -/
theorem symMerge_seg (g cap N : Nat) (es : List Bk) (a m b : Nat) (B : Nat) (w : World) (h : Row w g cap es) (hB : B ≤ g) (hN : N = es.length) (ham : a < m) (hmb : m < b) (hb : b ≤ N) (hbig : N ≤ 1000000000000) (h1 : Rises (seg es a m)) (h2 : Rises (seg es m b)) :
    Calls Try.prog 67 #[.slice (some ⟨g, 0, none⟩) N cap, .int .i64 a, .int .i64 m, .int .i64 b, cmpF] w
      fun e W' => e = .returned (.tuple #[]) ∧ Row W' g cap (upd es (sorted (seg es a b)) a b) ∧ Below B w W' := by
  have e := seg_two es a m b (by omega) (by omega)
  rw [← e] at h
  have l1 := seg_length es a m (by omega)
  have l2 := seg_length es m b (by omega)
  have l3 : (es.take a).length = a := by simp; omega
  have l4 : (es.drop b).length = N - b := by simp; omega
  have := symMerge_all _ g cap N (es.take a) (seg es a m) (seg es m b) (es.drop b) a m b B w h hB (by omega) (by omega) (by omega) (by omega) hbig h1 h2 (by omega) (by omega) (Nat.le_refl _)
  rw [← parts2 es a m b (by omega) (by omega)] at this
  exact this

set_option maxRecDepth 100000 in
set_option maxHeartbeats 4000000 in
theorem stable_any (g cap N : Nat) (ds : List Bk) (B : Nat) (w : World) (h : Row w g cap ds) (hB : B ≤ g) (hN : N = ds.length) (hbig : N ≤ 1000000000) :
    Calls Try.prog 53 #[.slice (some ⟨g, 0, none⟩) N cap, .int .i64 N, cmpF] w
      fun e W' => e = .returned (.tuple #[]) ∧ Row W' g cap (sorted ds) ∧ Below B w W' := by
  have H := Lib.hid h
  have HN := Lib.hid hN
  clear h hN
  go_enter Try.func53, Try.ntmps53
  go_wp2_with fail
  go_loopw [7, 8] (fun va vb W => ∃ (a : Nat) (es : List Bk), va = .int .i64 a ∧ vb = .int .i64 ((a + 20 : Nat) : Int) ∧ a ≤ N ∧ es.length = N ∧ Ranked ds es 20 a ∧ Row W g cap es ∧ Below B w W) (fun va _ _ => N - (intOf va).toNat)
  case atStart => exact ⟨0, ds, rfl, rfl, Nat.zero_le _, HN.out.symm, Ranked.start ds 20, H.out, Below.refl _ _⟩
  case round =>
    obtain ⟨a, es, rfl, rfl, haN, hes, hK, hR, hBel⟩ := hrel
    have HE := Lib.hid hes
    have HK := Lib.hid hK
    have HR := Lib.hid hR
    have HBel := Lib.hid hBel
    clear hes hK hR hBel
    by_cases hlt : a + 20 ≤ N
    · have IS := Lib.hid (insertion_seg g cap N es a (a + 20) B wr HR.out hB HE.out.symm (by omega) hlt (by omega))
      have HK' := Lib.hid (HK.out.next (by rw [HE.out]; exact hlt))
      have HE' := Lib.hid (show (upd es (sorted (seg es a (a + 20))) a (a + 20)).length = N by rw [upd_length _ _ _ _ (by omega) (by rw [HE.out]; exact hlt) (by rw [sorted_length, seg_length _ _ _ (by rw [HE.out]; exact hlt)])]; exact HE.out)
      have hD : ((a + 20 : Nat) : Int) ≤ (N : Int) := by omega
      generalize upd es (sorted (seg es a (a + 20))) a (a + 20) = es' at *
      generalize hb : a + 20 = b at *
      have HBb := Lib.hid hb
      clear hb
      go_wp2_with fail
      refine IS.out.mono ?_
      rintro e w2 ⟨rfl, hr2, hb2⟩
      have HR2 := Lib.hid hr2
      have HB2 := Lib.hid (HBel.out.trans hb2)
      clear hr2 hb2 IS
      go_wp2_with fail
      go_roundw
      case rel => exact ⟨b, es', rfl, by go_num, hlt, HE'.out, HK'.out, HR2.out, HB2.out⟩
      case measure => have := HBb.out; simp [intOf]; omega
    · have IS := Lib.hid (insertion_seg g cap N es a N B wr HR.out hB HE.out.symm haN (Nat.le_refl _) (by omega))
      have HK' := Lib.hid (show Ranked2 ds (upd es (sorted (seg es a N)) a N) 20 20 0 by have := HK.out.last (by rw [HE.out]; exact haN); rwa [HE.out] at this)
      have hD : ¬ ((a + 20 : Nat) : Int) ≤ (N : Int) := by omega
      generalize upd es (sorted (seg es a N)) a N = es1 at *
      generalize a + 20 = b at *
      go_wp2_with fail
      refine IS.out.mono ?_
      rintro e w2 ⟨rfl, hr2, hb2⟩
      have HR2 := Lib.hid hr2
      have HB2 := Lib.hid (HBel.out.trans hb2)
      clear hr2 hb2 IS HR HBel HE HK
      go_wp2_with fail
      go_loopw [6] (fun vk W => ∃ (k : Nat) (es : List Bk), vk = .int .i64 k ∧ 20 ≤ k ∧ k ≤ 4000000000 ∧ Ranked2 ds es k k 0 ∧ Row W g cap es ∧ Below B w W) (fun vk _ => N - (intOf vk).toNat)
      case atStart => exact ⟨20, es1, rfl, Nat.le_refl _, by omega, HK'.out, HR2.out, HB2.out⟩
      case round =>
        obtain ⟨k, es2, rfl, hk20, hkb, hK, hR, hBel⟩ := hrel
        have HE := Lib.hid (show es2.length = N by rw [hK.len, ← HN.out])
        have HK := Lib.hid hK
        have HR := Lib.hid hR
        have HBel := Lib.hid hBel
        clear hK hR hBel HR2 HB2 HK'
        by_cases hkN : k < N
        · have hD1 : (k : Int) < (N : Int) := by omega
          have HK0 := Lib.hid HK.out.begin
          obtain ⟨d, hd⟩ : ∃ d, d = 2 * k := ⟨_, rfl⟩
          have q1 : IntKind.i64.wrap (2 * (k : Int)) = (d : Int) := by rw [IntKind.wrap_i64]; omega
          have q2 : IntKind.i64.wrap ((k : Int) * 2) = (d : Int) := by rw [IntKind.wrap_i64]; omega
          have HD := Lib.hid hd
          clear hd
          go_wp2_with fail
          go_loopw [7, 8] (fun va vb W => ∃ (a : Nat) (es : List Bk), va = .int .i64 a ∧ vb = .int .i64 ((a + d : Nat) : Int) ∧ a ≤ N ∧ es.length = N ∧ Ranked2 ds es k (2 * k) a ∧ Row W g cap es ∧ Below B w W) (fun va _ _ => N - (intOf va).toNat)
          case atStart => exact ⟨0, es2, rfl, by simp, Nat.zero_le _, HE.out, HK0.out, HR.out, HBel.out⟩
          case round =>
            obtain ⟨a2, es3, rfl, rfl, haN2, hes3, hK3, hR3, hBel3⟩ := hrel
            have HE3 := Lib.hid hes3
            have HK3 := Lib.hid hK3
            have HR3 := Lib.hid hR3
            have HBel3 := Lib.hid hBel3
            clear hes3 hK3 hR3 hBel3
            have HDk := HD.out
            by_cases hlt2 : a2 + d ≤ N
            · have SM0 := symMerge_seg g cap N es3 a2 (a2 + k) (a2 + d) B wr HR3.out hB HE3.out.symm (by omega) (by omega) hlt2 (by omega) (HK3.out.rises (Or.inl rfl) (Nat.le_refl _)) (HK3.out.rises (Or.inr rfl) (by omega))
              have HK' := Lib.hid (show Ranked2 ds (upd es3 (sorted (seg es3 a2 (a2 + d))) a2 (a2 + d)) k (2 * k) (a2 + d) by rw [HDk]; exact HK3.out.next (by rw [HE3.out]; omega))
              have HE' := Lib.hid (show (upd es3 (sorted (seg es3 a2 (a2 + d))) a2 (a2 + d)).length = N by rw [upd_length _ _ _ _ (by omega) (by rw [HE3.out]; exact hlt2) (by rw [sorted_length, seg_length _ _ _ (by rw [HE3.out]; exact hlt2)])]; exact HE3.out)
              rw [show ((a2 + k : Nat) : Int) = (a2 : Int) + (k : Int) by omega] at SM0
              have SM := Lib.hid SM0
              have hDD : ((a2 + d : Nat) : Int) ≤ (N : Int) := by omega
              have hd20 : 40 ≤ d := by omega
              have hdb : d ≤ 4000000000 := by omega
              clear SM0 HDk
              generalize upd es3 (sorted (seg es3 a2 (a2 + d))) a2 (a2 + d) = es' at *
              generalize hb : a2 + d = b2 at *
              have HBb := Lib.hid hb
              clear hb
              go_wp2_with fail
              refine SM.out.mono ?_
              rintro e w2 ⟨rfl, hr2, hb2⟩
              have HR4 := Lib.hid hr2
              have HB4 := Lib.hid (HBel3.out.trans hb2)
              clear hr2 hb2 SM
              go_wp2_with fail
              go_roundw
              case rel => exact ⟨b2, es', rfl, by go_num, hlt2, HE'.out, HK'.out, HR4.out, HB4.out⟩
              case measure => have := HBb.out; simp [intOf]; omega
            · have hDD : ¬ ((a2 + d : Nat) : Int) ≤ (N : Int) := by omega
              have hdb : d ≤ 4000000000 := by omega
              have hd20 : 40 ≤ d := by omega
              have HNk := Lib.hid (show N - d < N - k by omega)
              by_cases hm : a2 + k < N
              · have SM0 := symMerge_seg g cap N es3 a2 (a2 + k) N B wr HR3.out hB HE3.out.symm (by omega) hm (Nat.le_refl _) (by omega) (HK3.out.rises (Or.inl rfl) (Nat.le_refl _)) (HK3.out.rises (Or.inr rfl) (by omega))
                have HK' := Lib.hid (show Ranked2 ds (upd es3 (sorted (seg es3 a2 N)) a2 N) d d 0 by rw [HDk]; have := HK3.out.done (by rw [HE3.out]; exact haN2); rwa [HE3.out] at this)
                rw [show ((a2 + k : Nat) : Int) = (a2 : Int) + (k : Int) by omega] at SM0
                have SM := Lib.hid SM0
                have hmz : (a2 : Int) + (k : Int) < (N : Int) := by omega
                clear SM0 HDk
                generalize upd es3 (sorted (seg es3 a2 N)) a2 N = es' at *
                generalize a2 + d = b2 at *
                go_wp2_with fail
                refine SM.out.mono ?_
                rintro e w2 ⟨rfl, hr2, hb2⟩
                have HR4 := Lib.hid hr2
                have HB4 := Lib.hid (HBel3.out.trans hb2)
                clear hr2 hb2 SM
                go_wp2_with fail
                go_roundw
                case rel => exact ⟨d, es', rfl, by omega, hdb, HK'.out, HR4.out, HB4.out⟩
                case measure => have := HNk.out; simp [intOf]; omega
              · have HK' := Lib.hid (show Ranked2 ds es3 d d 0 by rw [HDk]; exact HK3.out.short (by rw [HE3.out]; omega))
                have hmz : ¬ (a2 : Int) + (k : Int) < (N : Int) := by omega
                clear HDk
                generalize a2 + d = b2 at *
                go_wp2_with fail
                go_roundw
                case rel => exact ⟨d, es3, rfl, by omega, hdb, HK'.out, HR3.out, HBel3.out⟩
                case measure => have := HNk.out; simp [intOf]; omega
        · have hD1 : ¬ (k : Int) < (N : Int) := by omega
          have HF := Lib.hid (HK.out.sorted (by rw [HE.out]; omega))
          go_wp2_with fail
          go_end0
          exact ⟨rfl, by rw [← HF.out]; exact HR.out, HBel.out⟩

set_option maxHeartbeats 2000000 in
theorem insertion_none (a : Option Addr) (cap : Nat) (w : World) :
    Calls Try.prog 66 #[.slice a 0 cap, .int .i64 0, .int .i64 0, cmpF] w fun e W' => e = .returned (.tuple #[]) ∧ w = W' := by
  go_enter Try.func66, Try.ntmps66
  go_wp2_with fail
  refine wp_loop_rounds 1 ?_
  rw [rounds_succ]
  go_wp2_with fail
  go_end0
  exact ⟨rfl, rfl⟩
set_option maxHeartbeats 2000000 in
theorem stable_none (a : Option Addr) (cap : Nat) (w : World) :
    Calls Try.prog 53 #[.slice a 0 cap, .int .i64 0, cmpF] w fun e W' => e = .returned (.tuple #[]) ∧ w = W' := by
  have I := Lib.hid (insertion_none a cap w)
  go_enter Try.func53, Try.ntmps53
  go_wp2_with fail
  refine wp_loop_rounds 1 ?_
  rw [rounds_succ]
  go_wp2_with fail
  refine I.out.mono ?_
  rintro e w1 ⟨rfl, rfl⟩
  go_wp2_with fail
  refine wp_loop_rounds 1 ?_
  rw [rounds_succ]
  go_wp2_with fail
  go_end0
  exact ⟨rfl, rfl⟩

set_option maxHeartbeats 2000000 in
theorem SortStable_any (a : Option Addr) (cap : Nat) (ds : List Bk) (B : Nat) (w : World) (h : Own B w (polV a cap ds) ds) (hbig : ds.length ≤ 1000000000) :
    Calls Try.prog 38 #[polV a cap ds, cmpF] w fun e W' => e = .returned (.tuple #[]) ∧ Gives W' (polV a cap ds) (sorted ds) ∧ Below B w W' := by
  by_cases hn : ds = []
  · subst hn
    obtain ⟨a', cap', e, hL⟩ := h.lies
    have e' : a = a' ∧ cap = cap' := by cases e; exact ⟨rfl, rfl⟩
    obtain ⟨rfl, rfl⟩ := e'
    have I := Lib.hid (stable_none a cap w)
    have HL := Lib.hid hL
    clear h e hL
    go_enter Try.func38, Try.ntmps38
    go_wp2_with fail
    refine I.out.mono ?_
    rintro e w1 ⟨rfl, rfl⟩
    go_wp2_with fail
    go_end0
    exact ⟨rfl, ⟨a, cap, rfl, HL.out⟩, Below.refl _ _⟩
  · obtain ⟨g, cap', e, hB, hR⟩ := h.row hn
    have e' : a = some ⟨g, 0, none⟩ ∧ cap = cap' := by cases e; exact ⟨rfl, rfl⟩
    obtain ⟨rfl, rfl⟩ := e'
    have I := Lib.hid (stable_any g cap ds.length ds B w hR hB rfl hbig)
    have HL := Lib.hid (sorted_length ds)
    clear h e hR
    go_enter Try.func38, Try.ntmps38
    go_wp2_with fail
    refine I.out.mono ?_
    rintro e w1 ⟨rfl, hr, hb⟩
    have HR := Lib.hid hr
    have HB := Lib.hid hb
    clear hr hb I
    go_wp2_with fail
    go_end0
    exact ⟨rfl, ⟨_, cap, by show Value.slice _ ds.length _ = Value.slice _ (sorted ds).length _; rw [HL.out], HR.out.lies⟩, HB.out⟩

set_option maxHeartbeats 2000000 in
theorem Sorted_told (a : Option Addr) (cap : Nat) (bs : List Bk) (w : World) (h : Lies w a cap bs) (hl : bs.length ≤ 1000000000) :
    Calls Try.prog 22 #[polV a cap bs] w fun e W' => ∃ v, e = .returned v ∧ Gives W' v (sorted bs) ∧ Below w.heap.size w W' := by
  have C := Lib.hid (Clone_any a cap bs w h (by omega))
  clear h
  go_enter Try.func22, Try.ntmps22
  go_wp2_with fail
  refine C.out.mono ?_
  rintro e w1 ⟨v, rfl, ho, hb⟩
  obtain ⟨a', cap', rfl, hL⟩ := ho.lies
  have S := Lib.hid (SortStable_any a' cap' bs w.heap.size w1 ho hl)
  have HB := Lib.hid hb
  clear ho hb hL C
  go_wp2_with fail
  refine S.out.mono ?_
  rintro e w2 ⟨rfl, hg, hb2⟩
  have HG := Lib.hid hg
  have HB2 := Lib.hid (HB.out.trans hb2)
  clear hg hb2 S
  go_wp2_with fail
  go_ret
  exact ⟨_, rfl, HG.out, HB2.out⟩
end Go.Proofs.Ytppbbhijlkfioaa.Pol
