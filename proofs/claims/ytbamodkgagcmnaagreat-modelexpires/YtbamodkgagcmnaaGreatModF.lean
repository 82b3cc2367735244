/-
  The document's model (package gangplankref17): in, Check, Small.
-/
import Derived.Test.YtbamodkgagcmnaaGreatBTab
import Derived.WalkMore
import Derived.Lib.Hide
import Derived.Below
set_option maxRecDepth 100000
namespace Go.Proofs.YtbamodkgagcmnaaGreat.Mod
open Go.RowKit Go.Shelf Go.WideShapes

attribute [local go_sem] Oper.semAt_some

/-- A configuration. -/
structure Cfg where
  W : Int
  S : Int
  cap : Int
  idle : Int
  K : Int
deriving DecidableEq
abbrev cfgV (c : Cfg) : Value := .agg #[.int .i64 c.W, .int .i64 c.S, .int .i64 c.cap, .int .i64 c.idle, .int .i64 c.K]
def inB (n lo hi : Int) : Bool := decide (lo ≤ n ∧ n ≤ hi)
/-- May it be made so? -/
def okB (c : Cfg) : Bool := inB c.W 1 64 && (inB c.S 1 16 && (inB c.cap 1 64 && (inB c.idle 0 1000000 && inB c.K 2 8)))
def smallB (c : Cfg) : Bool := decide (c.W ≤ 6) && (decide (c.S ≤ 6) && decide (c.cap ≤ 12))
set_option maxHeartbeats 400000 in
theorem refin_any (n lo hi : Int) (w : World) : Calls Tryz.prog 44 #[.int .i64 n, .int .i64 lo, .int .i64 hi] w fun e W' => e = .returned (.bool (inB n lo hi)) ∧ W' = w := by
  by_cases h0 : lo ≤ n
  · by_cases h1 : n ≤ hi
    · have d0 : decide (lo ≤ n) = true := decide_eq_true h0
      have d1 : decide (n ≤ hi) = true := decide_eq_true h1
      have HS := Lib.hid (show inB n lo hi = true by unfold inB; exact decide_eq_true ⟨h0, h1⟩)
      go_enter Tryz.func44, Tryz.ntmps44
      go_wp2_with fail
      go_ret
      exact ⟨by rw [HS.out]; rfl, rfl⟩
    · have d0 : decide (lo ≤ n) = true := decide_eq_true h0
      have d1 : decide (n ≤ hi) = false := decide_eq_false h1
      have HS := Lib.hid (show inB n lo hi = false by unfold inB; exact decide_eq_false fun e => h1 e.2)
      go_enter Tryz.func44, Tryz.ntmps44
      go_wp2_with fail
      go_ret
      exact ⟨by rw [HS.out]; rfl, rfl⟩
  · have d0 : decide (lo ≤ n) = false := decide_eq_false h0
    have HS := Lib.hid (show inB n lo hi = false by unfold inB; exact decide_eq_false fun e => h0 e.1)
    go_enter Tryz.func44, Tryz.ntmps44
    go_wp2_with fail
    go_ret
    exact ⟨by rw [HS.out]; rfl, rfl⟩
set_option maxHeartbeats 400000 in
theorem refSmall_any (c : Cfg) (w : World) : Calls Tryz.prog 41 #[cfgV c] w fun e W' => e = .returned (.bool (smallB c)) ∧ Below w.heap.size w W' := by
  obtain ⟨W, S, cap, idle, K⟩ := c
  have HS := Lib.hid (show smallB ⟨W, S, cap, idle, K⟩ = (decide (W ≤ 6) && (decide (S ≤ 6) && decide (cap ≤ 12))) from rfl)
  cases d0 : decide (W ≤ 6) <;> cases d1 : decide (S ≤ 6) <;> cases d2 : decide (cap ≤ 12) <;> rw [d0, d1, d2] at HS <;>
    (go_enter Tryz.func41, Tryz.ntmps41
     go_wp2
     go_ret
     exact ⟨by rw [HS.out]; rfl, by first | exact Below.refl _ _ | exact (Below.refl _ w).alloc (Nat.le_refl _) _⟩)
/-- 0: it may; 1: it may not. -/
def errOf (b : Bool) : Int := if b = true then 0 else 1
set_option maxHeartbeats 1000000 in
theorem refCheck_any (c : Cfg) (w : World) : Calls Tryz.prog 14 #[cfgV c] w fun e W' => e = .returned (.int .i64 (errOf (okB c))) ∧ Below w.heap.size w W' := by
  obtain ⟨W, S, cap, idle, K⟩ := c
  have S1 := Lib.hid (refin_any W 1 64)
  have S2 := Lib.hid (refin_any S 1 16)
  have S3 := Lib.hid (refin_any cap 1 64)
  have S4 := Lib.hid (refin_any idle 0 1000000)
  have S5 := Lib.hid (refin_any K 2 8)
  have HS := Lib.hid (show okB ⟨W, S, cap, idle, K⟩ = (inB W 1 64 && (inB S 1 16 && (inB cap 1 64 && (inB idle 0 1000000 && inB K 2 8)))) from rfl)
  cases h1 : inB W 1 64 with
  | false =>
    simp only [h1] at S1
    have HE := Lib.hid (show okB ⟨W, S, cap, idle, K⟩ = false by rw [HS.out, h1]; rfl)
    clear HS h1
    go_enter Tryz.func14, Tryz.ntmps14
    go_wp2_with fail
    refine (S1.out _).mono ?_
    rintro e w1 ⟨rfl, rfl⟩
    go_wp2_with fail
    go_ret
    exact ⟨by rw [HE.out]; rfl, by first | exact Below.refl _ _ | exact (Below.refl _ _).alloc (Nat.le_refl _) _⟩
  | true =>
    cases h2 : inB S 1 16 with
    | false =>
      simp only [h1] at S1
      simp only [h2] at S2
      have HE := Lib.hid (show okB ⟨W, S, cap, idle, K⟩ = false by rw [HS.out, h1, h2]; rfl)
      clear HS h1 h2
      go_enter Tryz.func14, Tryz.ntmps14
      go_wp2_with fail
      refine (S1.out _).mono ?_
      rintro e w1 ⟨rfl, rfl⟩
      go_wp2_with fail
      refine (S2.out _).mono ?_
      rintro e w2 ⟨rfl, rfl⟩
      go_wp2_with fail
      go_ret
      exact ⟨by rw [HE.out]; rfl, by first | exact Below.refl _ _ | exact (Below.refl _ _).alloc (Nat.le_refl _) _⟩
    | true =>
      cases h3 : inB cap 1 64 with
      | false =>
        simp only [h1] at S1
        simp only [h2] at S2
        simp only [h3] at S3
        have HE := Lib.hid (show okB ⟨W, S, cap, idle, K⟩ = false by rw [HS.out, h1, h2, h3]; rfl)
        clear HS h1 h2 h3
        go_enter Tryz.func14, Tryz.ntmps14
        go_wp2_with fail
        refine (S1.out _).mono ?_
        rintro e w1 ⟨rfl, rfl⟩
        go_wp2_with fail
        refine (S2.out _).mono ?_
        rintro e w2 ⟨rfl, rfl⟩
        go_wp2_with fail
        refine (S3.out _).mono ?_
        rintro e w3 ⟨rfl, rfl⟩
        go_wp2_with fail
        go_ret
        exact ⟨by rw [HE.out]; rfl, by first | exact Below.refl _ _ | exact (Below.refl _ _).alloc (Nat.le_refl _) _⟩
      | true =>
        cases h4 : inB idle 0 1000000 with
        | false =>
          simp only [h1] at S1
          simp only [h2] at S2
          simp only [h3] at S3
          simp only [h4] at S4
          have HE := Lib.hid (show okB ⟨W, S, cap, idle, K⟩ = false by rw [HS.out, h1, h2, h3, h4]; rfl)
          clear HS h1 h2 h3 h4
          go_enter Tryz.func14, Tryz.ntmps14
          go_wp2_with fail
          refine (S1.out _).mono ?_
          rintro e w1 ⟨rfl, rfl⟩
          go_wp2_with fail
          refine (S2.out _).mono ?_
          rintro e w2 ⟨rfl, rfl⟩
          go_wp2_with fail
          refine (S3.out _).mono ?_
          rintro e w3 ⟨rfl, rfl⟩
          go_wp2_with fail
          refine (S4.out _).mono ?_
          rintro e w4 ⟨rfl, rfl⟩
          go_wp2_with fail
          go_ret
          exact ⟨by rw [HE.out]; rfl, by first | exact Below.refl _ _ | exact (Below.refl _ _).alloc (Nat.le_refl _) _⟩
        | true =>
          cases h5 : inB K 2 8 with
          | false =>
            simp only [h1] at S1
            simp only [h2] at S2
            simp only [h3] at S3
            simp only [h4] at S4
            simp only [h5] at S5
            have HE := Lib.hid (show okB ⟨W, S, cap, idle, K⟩ = false by rw [HS.out, h1, h2, h3, h4, h5]; rfl)
            clear HS h1 h2 h3 h4 h5
            go_enter Tryz.func14, Tryz.ntmps14
            go_wp2_with fail
            refine (S1.out _).mono ?_
            rintro e w1 ⟨rfl, rfl⟩
            go_wp2_with fail
            refine (S2.out _).mono ?_
            rintro e w2 ⟨rfl, rfl⟩
            go_wp2_with fail
            refine (S3.out _).mono ?_
            rintro e w3 ⟨rfl, rfl⟩
            go_wp2_with fail
            refine (S4.out _).mono ?_
            rintro e w4 ⟨rfl, rfl⟩
            go_wp2_with fail
            refine (S5.out _).mono ?_
            rintro e w5 ⟨rfl, rfl⟩
            go_wp2_with fail
            go_ret
            exact ⟨by rw [HE.out]; rfl, by first | exact Below.refl _ _ | exact (Below.refl _ _).alloc (Nat.le_refl _) _⟩
          | true =>
            simp only [h1] at S1
            simp only [h2] at S2
            simp only [h3] at S3
            simp only [h4] at S4
            simp only [h5] at S5
            have HE := Lib.hid (show okB ⟨W, S, cap, idle, K⟩ = true by rw [HS.out, h1, h2, h3, h4, h5]; rfl)
            clear HS h1 h2 h3 h4 h5
            go_enter Tryz.func14, Tryz.ntmps14
            go_wp2_with fail
            refine (S1.out _).mono ?_
            rintro e w1 ⟨rfl, rfl⟩
            go_wp2_with fail
            refine (S2.out _).mono ?_
            rintro e w2 ⟨rfl, rfl⟩
            go_wp2_with fail
            refine (S3.out _).mono ?_
            rintro e w3 ⟨rfl, rfl⟩
            go_wp2_with fail
            refine (S4.out _).mono ?_
            rintro e w4 ⟨rfl, rfl⟩
            go_wp2_with fail
            refine (S5.out _).mono ?_
            rintro e w5 ⟨rfl, rfl⟩
            go_wp2_with fail
            go_ret
            exact ⟨by rw [HE.out]; rfl, by first | exact Below.refl _ _ | exact (Below.refl _ _).alloc (Nat.le_refl _) _⟩
end Go.Proofs.YtbamodkgagcmnaaGreat.Mod
