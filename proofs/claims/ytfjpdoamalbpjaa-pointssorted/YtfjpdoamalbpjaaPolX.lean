/-
  Pools in order: how two backends are held against one another; a part of a row is sorted one by one (package slices: insertionSortCmpFunc).
-/
import Derived.Test.YtfjpdoamalbpjaaPolU
import Derived.Deep.RegionHeld3
import Derived.Shelf.RegionOpen
import Derived.BigQuiet
import Derived.WalkSmall
namespace Go.Proofs.Ytfjpdoamalbpjaa.Pol
open Go.RowKit Go.Shelf Rgn

/-- What is told of two backends. -/
def cmpI (x y : Int) : Int := if x < y then -1 else if y < x then 1 else 0
theorem cmpI_lt (x y : Int) : cmpI x y < 0 ↔ x < y := by unfold cmpI; split <;> (try split) <;> omega
abbrev cmpF : Value := .func (.func 35) #[] #[]

set_option maxHeartbeats 1000000 in
theorem cmp_any (x y : Bk) (W : World) : Calls Try.prog 35 #[bkV x, bkV y] W fun e W' => e = .returned (.int .i64 (cmpI x.1 y.1)) ∧ Below W.heap.size W W' := by
  have al := Lib.hid (((Below.refl W.heap.size W).alloc (Nat.le_refl _) (.cells #[.int .i64 x.1, .int .i64 x.2] 35)).alloc (by simp) (.cells #[.int .i64 y.1, .int .i64 y.2] 35))
  have e1 : (x.1 != x.1) = false := by simp
  have e2 : (y.1 != y.1) = false := by simp
  rcases Int.lt_trichotomy x.1 y.1 with h | h | h
  · have HV := Lib.hid (show cmpI x.1 y.1 = -1 from if_pos h)
    go_enter Try.func35, Try.ntmps35
    go_wp2
    go_ret
    exact ⟨by rw [HV.out]; rfl, al.out⟩
  · have HV := Lib.hid (show cmpI x.1 y.1 = 0 by unfold cmpI; rw [if_neg (by omega), if_neg (by omega)])
    have d1 : decide (x.1 < y.1) = false := decide_eq_false (by omega)
    have d2 : decide (y.1 < x.1) = false := decide_eq_false (by omega)
    clear h
    go_enter Try.func35, Try.ntmps35
    go_wp2
    go_ret
    exact ⟨by rw [HV.out]; rfl, al.out⟩
  · have HV := Lib.hid (show cmpI x.1 y.1 = 1 by unfold cmpI; rw [if_neg (by omega), if_pos h])
    have d1 : decide (x.1 < y.1) = false := decide_eq_false (by omega)
    go_enter Try.func35, Try.ntmps35
    go_wp2
    go_ret
    exact ⟨by rw [HV.out]; rfl, al.out⟩

/-- Two backends of a row, while they are held against one another. -/
theorem two_keep {W0 W W' : World} {g p q : Nat} {x y : Bk} (h : Below W0.heap.size W0 W ∧ W.cell? ⟨g, p * 2, none⟩ = some (.int .i64 x.1) ∧ W.cell? ⟨g, p * 2 + 1, none⟩ = some (.int .i64 x.2) ∧ W.cell? ⟨g, q * 2, none⟩ = some (.int .i64 y.1) ∧ W.cell? ⟨g, q * 2 + 1, none⟩ = some (.int .i64 y.2)) (hb : Below W.heap.size W W') :
    Below W0.heap.size W0 W' ∧ W'.cell? ⟨g, p * 2, none⟩ = some (.int .i64 x.1) ∧ W'.cell? ⟨g, p * 2 + 1, none⟩ = some (.int .i64 x.2) ∧ W'.cell? ⟨g, q * 2, none⟩ = some (.int .i64 y.1) ∧ W'.cell? ⟨g, q * 2 + 1, none⟩ = some (.int .i64 y.2) := by
  obtain ⟨h0, h1, h2, h3, h4⟩ := h
  exact ⟨below2 h0 hb, (hb.cell (World.block_lt_of_cell? W _ h1)).trans h1, (hb.cell (World.block_lt_of_cell? W _ h2)).trans h2, (hb.cell (World.block_lt_of_cell? W _ h3)).trans h3, (hb.cell (World.block_lt_of_cell? W _ h4)).trans h4⟩

/-- One backend y on its way into a part T of a row that is in order. -/
structure Insd (A T D es : List Bk) (y : Bk) (j : Nat) : Prop where
  ex : ∃ L R, T = L ++ R ∧ es = A ++ (L ++ y :: (R ++ D)) ∧ A.length + L.length = j ∧ ∀ r ∈ R, y.1 < r.1
theorem Insd.len {A T D es : List Bk} {y : Bk} {j : Nat} (h : Insd A T D es y j) : es.length = A.length + T.length + 1 + D.length ∧ A.length ≤ j ∧ j ≤ A.length + T.length := by
  obtain ⟨L, R, rfl, rfl, h1, _⟩ := h.ex
  simp; omega
theorem Insd.at {A T D es : List Bk} {y : Bk} {p : Nat} (h : Insd A T D es y (p + 1)) (hT : Rises T) (hj : A.length < p + 1) :
    ∃ x, es[p + 1]? = some y ∧ es[p]? = some x ∧ (y.1 < x.1 → Insd A T D ((es.set (p + 1) x).set p y) y p) ∧ (¬ y.1 < x.1 → es = A ++ (ins T y ++ D)) := by
  obtain ⟨L, R, rfl, rfl, h1, h2⟩ := h.ex
  have hL : L ≠ [] := fun e => by subst e; simp at h1; omega
  obtain ⟨L', x, rfl⟩ : ∃ L' x, L = L' ++ [x] := ⟨L.dropLast, L.getLast hL, (List.dropLast_concat_getLast hL).symm⟩
  simp at h1
  have e : A ++ (L' ++ [x] ++ y :: (R ++ D)) = (A ++ L') ++ x :: ([] ++ y :: (R ++ D)) := by simp
  refine ⟨x, ?_, ?_, fun hlt => ?_, fun hlt => ?_⟩
  · have e2 : A ++ (L' ++ [x] ++ y :: (R ++ D)) = (A ++ L' ++ [x]) ++ y :: (R ++ D) := by simp
    have e3 : p + 1 = (A ++ L' ++ [x]).length := by simp; omega
    rw [e2, e3, List.getElem?_append_right (Nat.le_refl _)]; simp
  · have e3 : p = (A ++ L').length := by simp; omega
    rw [e, e3, List.getElem?_append_right (Nat.le_refl _)]; simp
  · refine ⟨L', x :: R, by simp, ?_, by omega, fun r hr => ?_⟩
    · rw [e]
      have e4 : (((A ++ L') ++ x :: ([] ++ y :: (R ++ D))).set (p + 1) x).set p y = (((A ++ L') ++ x :: ([] ++ y :: (R ++ D))).set p y).set (p + 1) x := List.set_comm _ _ (by omega)
      rw [e4, swap_mid _ _ _ x y p (p + 1) (by simp; omega) (by simp; omega)]
      simp
    · rcases List.mem_cons.1 hr with rfl | hr
      · exact hlt
      · exact h2 r hr
  · rw [ins_split _ _ _ (fun l hl => ?_) h2]
    · simp
    · have hp : Rises (L' ++ [x]) := by
        unfold Rises at hT ⊢
        exact (List.pairwise_append.1 hT).1
      rcases List.mem_append.1 hl with hl | hl
      · have := (List.pairwise_append.1 hp).2.2 l hl x (by simp); omega
      · simp at hl; subst hl; omega
theorem Insd.first {A T D es : List Bk} {y : Bk} (h : Insd A T D es y A.length) : es = A ++ (ins T y ++ D) := by
  obtain ⟨L, R, rfl, rfl, h1, h2⟩ := h.ex
  have : L = [] := List.eq_nil_of_length_eq_zero (by omega)
  subst this
  rw [ins_split [] R y (fun l hl => by cases hl) h2]
  simp

set_option maxRecDepth 100000 in
set_option maxHeartbeats 4000000 in
theorem insertion_any (g cap N : Nat) (A S C : List Bk) (a b : Nat) (B : Nat) (w : World) (h : Row w g cap (A ++ (S ++ C))) (hB : B ≤ g)
    (hN : N = A.length + S.length + C.length) (ha : a = A.length) (hb : b = A.length + S.length) (hbig : N ≤ 1000000000000) :
    Calls Try.prog 69 #[.slice (some ⟨g, 0, none⟩) N cap, .int .i64 a, .int .i64 b, cmpF] w
      fun e W' => e = .returned (.tuple #[]) ∧ Row W' g cap (A ++ (sorted S ++ C)) ∧ Below B w W' := by
  have en : ∀ (args : Array Value) (w : World), (callFunc 35 args).run Try.prog w = .ok (.enter 35 args) w := enters_of Try.func35 (by kernel_rfl) rfl
  have hM := h.len
  have hlN : (A ++ (S ++ C)).length = N := by simp; omega
  rw [hlN] at hM
  unfold maxLen at hM
  have H := Lib.hid h
  have HA := Lib.hid ha
  have HBb := Lib.hid hb
  have HN := Lib.hid hN
  have hab : a ≤ b := by omega
  have hbN : b ≤ N := by omega
  clear h hlN ha hb hN
  go_enter Try.func69, Try.ntmps69
  go_wp2
  go_loopw [8] (fun vi W => ∃ (k : Nat), vi = .int .i64 ((a + k : Nat) : Int) ∧ 1 ≤ k ∧ (k ≤ S.length ∨ k = 1) ∧ Row W g cap (A ++ (sorted (S.take k) ++ (S.drop k ++ C))) ∧ Below B w W) (fun vi _ => b - (intOf vi).toNat)
  case atStart =>
    refine ⟨1, by go_num, Nat.le_refl _, Or.inr rfl, ?_, Below.refl _ _⟩
    rw [show sorted (S.take 1) ++ (S.drop 1 ++ C) = S ++ C by cases S <;> simp [sorted, ins]]
    exact H.out
  case round =>
    obtain ⟨k, rfl, hk1, hkS, hR, hBel⟩ := hrel
    have HBel := Lib.hid hBel
    clear hBel
    by_cases hlt : a + k < b
    · have hkl : k < S.length := by have := HA.out; have := HBb.out; omega
      have HT := Lib.hid (show sorted (S.take (k + 1)) = ins (sorted (S.take k)) S[k] by rw [take_more S k hkl, sorted_snoc])
      have HTr := Lib.hid (sorted_rises (S.take k))
      have hTl : (sorted (S.take k)).length = k := by rw [sorted_length]; simp; omega
      have hD : S.drop k ++ C = S[k] :: (S.drop (k + 1) ++ C) := by rw [List.drop_eq_getElem_cons hkl]; rfl
      rw [hD] at hR
      have hDl : (S.drop (k + 1) ++ C).length = N - (a + k + 1) := by have := HA.out; have := HN.out; simp; omega
      have hS0 : Insd A (sorted (S.take k)) (S.drop (k + 1) ++ C) (A ++ (sorted (S.take k) ++ S[k] :: (S.drop (k + 1) ++ C))) S[k] (a + k) :=
        ⟨sorted (S.take k), [], by simp, by simp, by have := HA.out; omega, fun r hr => by cases hr⟩
      have HR := Lib.hid hR
      have HS0 := Lib.hid hS0
      have HTl := Lib.hid hTl
      have HDl := Lib.hid hDl
      clear hR hS0 hD hTl hDl
      generalize sorted (S.take k) = T at *
      generalize S[k] = y at *
      have d0 : ((a + k : Nat) : Int) < (b : Int) := by omega
      generalize hi : a + k = i at *
      have HI := Lib.hid hi
      clear hi
      go_wp2_with fail
      go_loopw [9] (fun vj W => ∃ (j : Nat) (es : List Bk), vj = .int .i64 j ∧ Insd A T (S.drop (k + 1) ++ C) es y j ∧ Row W g cap es ∧ Below B w W) (fun vj _ => (intOf vj).toNat)
      case atStart => exact ⟨i, _, rfl, HS0.out, HR.out, HBel.out⟩
      case round =>
        obtain ⟨j, es, rfl, hS, hR, hBel2⟩ := hrel
        have hl := hS.len
        rw [HTl.out, HDl.out, ← HA.out] at hl
        have hesN : es.length = N := by have := HI.out; omega
        have hji : a ≤ j ∧ j ≤ i := by have := HI.out; omega
        have HS := Lib.hid hS
        have HR2 := Lib.hid hR
        have HB2 := Lib.hid hBel2
        clear hS hR hBel2 hl
        by_cases hja : a < j
        · obtain ⟨p, rfl⟩ : ∃ p, j = p + 1 := ⟨j - 1, by omega⟩
          obtain ⟨x, hy1, hx1, hless, hnot⟩ := HS.out.at HTr.out (by have := HA.out; omega)
          obtain ⟨hyl, ey⟩ := List.getElem?_eq_some_iff.1 hy1
          obtain ⟨hxl, ex⟩ := List.getElem?_eq_some_iff.1 hx1
          obtain ⟨c0, c1, f0, f1⟩ := HR2.out.cell hyl
          obtain ⟨d0, d1, g0, g1⟩ := HR2.out.cell hxl
          rw [ey] at c0 c1
          rw [ex] at d0 d1
          have HX := Lib.hid hless
          have HNt := Lib.hid hnot
          clear hless hnot ey ex hy1 hx1
          generalize hq : p + 1 = q at *
          have b1 : p < N := by omega
          have b2 : q < N := by omega
          have b3 : (a : Int) < (q : Int) := by omega
          have s1 : IntKind.i64.wrap ((q : Int) - 1) = (p : Int) := by rw [IntKind.wrap_i64]; omega
          have hne : q ≠ p := by omega
          have HQ := Lib.hid hq
          clear hq hyl hxl
          go_wp2_with fail
          go_region_held3 (fun W => Below wr.heap.size wr W ∧ W.cell? ⟨g, q * 2, none⟩ = some (.int .i64 y.1) ∧ W.cell? ⟨g, q * 2 + 1, none⟩ = some (.int .i64 y.2) ∧ W.cell? ⟨g, p * 2, none⟩ = some (.int .i64 x.1) ∧ W.cell? ⟨g, p * 2 + 1, none⟩ = some (.int .i64 x.2)) (first | exact ⟨(Below.refl _ wr).drew, c0, c1, d0, d1⟩ | exact two_keep (by assumption) hb)
            (first | (go_at_call 35; (with_reducible refine (cmp_any _ _ _).mono ?_); rintro e w3 ⟨rfl, hb⟩))
          rename_i hHeld
          have HR3 := Lib.hid (HR2.out.kept hHeld.1)
          have HB3 := Lib.hid (HB2.out.trans (hHeld.1.mono (Nat.le_trans hB (Nat.le_of_lt HR2.out.lt))))
          obtain ⟨_, c0', c1', d0', d1'⟩ := hHeld
          have hyl : q < es.length := by rw [hesN]; exact b2
          have hxl : p < es.length := by rw [hesN]; exact b1
          have f0' := (HR3.out.cell hyl).2.2.1
          have f1' := (HR3.out.cell hyl).2.2.2
          have g0' := (HR3.out.cell hxl).2.2.1
          have g1' := (HR3.out.cell hxl).2.2.2
          clear c0 c1 d0 d1 f0 f1 g0 g1 hb hyl hxl HR2 HB2
          by_cases hless : y.1 < x.1
          · have dl : cmpI y.1 x.1 < 0 := (cmpI_lt _ _).2 hless
            have HS' := Lib.hid (HX.out hless)
            have HR4 := Lib.hid (HR3.out.swap q p y x)
            have HB4 := Lib.hid (below_swap HB3.out hB q p y x)
            clear hless HX HNt
            go_wp2_with fail
            go_region
            go_wp2
            go_roundw
            case rel => exact ⟨p, _, by go_num, HS'.out, HR4.out, HB4.out⟩
            case measure => have := HQ.out; simp [intOf]; omega
          · have dl : 0 ≤ cmpI y.1 x.1 := Int.not_lt.1 fun h => hless ((cmpI_lt _ _).1 h)
            have HE := Lib.hid (HNt.out (by omega))
            clear hless HX HNt
            go_wp2_with fail
            go_roundw
            case rel => exact ⟨k + 1, by have := HI.out; go_num, by omega, Or.inl (by omega), by rw [HT.out, ← HE.out]; exact HR3.out, HB3.out⟩
            case measure => have := HI.out; simp [intOf]; omega
        · obtain rfl : j = a := by omega
          have d1 : decide ((j : Int) < (j : Int)) = false := decide_eq_false (by omega)
          have HE := Lib.hid (Insd.first (by have := HS.out; rwa [HA.out] at this))
          go_wp2_with fail
          go_quiet (fail)
          have HR3 := Lib.hid (show Row (wr.drewN nq) g cap es from HR2.out)
          have HB3 := Lib.hid (below_drewN HB2.out nq)
          go_wp2_with fail
          go_roundw
          case rel => exact ⟨k + 1, by have := HI.out; go_num, by omega, Or.inl (by omega), by rw [HT.out, ← HE.out]; exact HR3.out, HB3.out⟩
          case measure => have := HI.out; simp [intOf]; omega
    · have HE := Lib.hid (show sorted (S.take k) ++ (S.drop k ++ C) = sorted S ++ C by
        have h1 := HA.out
        have h2 := HBb.out
        rw [List.take_of_length_le (by omega), List.drop_eq_nil_of_le (by omega)]; rfl)
      have HR := Lib.hid hR
      clear hR
      go_wp2
      go_end0
      exact ⟨rfl, by rw [← HE.out]; exact HR.out, HBel.out⟩
end Go.Proofs.Ytfjpdoamalbpjaa.Pol
