/-
  SweepKeeps: for every t, from, n, now and key the law SweepKeeps answers true: what is gone was due, all else stays, and is found. No condition.
-/
import Derived.Test.YticpjccfpmaikaaRows
import Derived.Test.YticpjccfpmaikaaBTab
import Derived.Test.YticpjccfpmaikaaSwpW
import Derived.Test.YticpjccfpmaikaaSwpP
import Derived.ProofKit
import Derived.OpenShut
import Derived.ChangeMaps5
import Derived.BigQuiet
import Derived.WalkSmall
namespace Go.Proofs.Yticpjccfpmaikaa
open Go.ChangeShapes Go.WideShapes Go.ChangeAt Go.RowKit Go.Shelf
open Go.ChangeMaps (open_string shut_string)
open Prb RowG Tab Flo Swp

set_option maxRecDepth 100000 in
set_option maxHeartbeats 2000000 in
theorem walk_SweepKeeps (a0 : Option Addr) (c0 : Nat) (z0 : List Ent) (a1 : Int) (a2 : Int) (a3 : Int) (a4 : ByteArray) (w : World) (h0 : Lies entK w a0 c0 z0) (g0 : ∀ x ∈ z0, EntOk x) (_h1 : (Lit.int .i64 a1).wf = true) (_h2 : (Lit.int .i64 a2).wf = true) (_h3 : (Lit.int .i64 a3).wf = true) (h4 : a4.size ≤ maxLen) :
    Calls Try.prog 5 #[rowV a0 c0 z0, .int .i64 a1, .int .i64 a2, .int .i64 a3, .string a4] w fun e W' => e = .returned (.bool true) ∧ Below w.heap.size w W' := by
  have H0 := Lib.hid h0
  have hC0 := h0.len
  have hM0 := h0.max
  unfold maxLen at hM0 h4
  clear h0
  go_enter Try.func5, Try.ntmps5
  go_wp2_with fail
  refine (works_any _).mono ?_
  rintro e w1 ⟨rfl, hb⟩
  have B1 := Lib.hid hb
  have L0 := Lib.hid (H0.out.kept hb)
  clear hb H0
  go_wp2_with fail
  refine (few_any a0 c0 z0 _ L0.out g0).mono ?_
  rintro e w2 ⟨rfl, rfl⟩
  by_cases f0 : ¬ few64 z0
  · rw [decide_eq_false f0]
    go_wp2_with fail
    go_ret
    exact ⟨rfl, B1.out⟩
  replace f0 := Decidable.not_not.1 f0
  rw [decide_eq_true f0]
  have hl0 := f0.2
  have S0 := Lib.hid (show Short 60 z0 from f0.1.2)
  clear f0 g0
  by_cases b4 : 60 < a4.size
  · have d0 : decide ((60 : Int) < (a4.size : Int)) = true := decide_eq_true (by omega)
    have d0n : decide (60 < a4.size) = true := decide_eq_true b4
    go_wp2_with fail
    go_ret
    exact ⟨rfl, B1.out⟩
  have db4 : decide ((60 : Int) < (a4.size : Int)) = false := decide_eq_false (by omega)
  have eb4 : decide (60 < a4.size) = false := decide_eq_false b4
  go_wp2_with fail
  by_cases r0 : Right home z0
  case neg =>
    refine (Right_told a0 c0 z0 false (by simp [r0]) _ L0.out (S0.out.wide (by omega))).mono ?_
    rintro e w2 ⟨rfl, hb⟩
    have L0 := Lib.hid (L0.out.kept hb)
    have B1 := Lib.hid (below2 B1.out hb)
    clear hb
    go_wp2_with fail
    go_ret
    exact ⟨rfl, B1.out⟩
  refine (Right_told a0 c0 z0 true (by simp [r0]) _ L0.out (S0.out.wide (by omega))).mono ?_
  rintro e w2 ⟨rfl, hb⟩
  have L0 := Lib.hid (L0.out.kept hb)
  have B1 := Lib.hid (below2 B1.out hb)
  clear hb
  go_wp2_with fail
  refine (Step_told a0 c0 z0 a1 a2 a3 _ L0.out (S0.out.wide (by omega)) (by omega)).mono ?_
  rintro e w3 ⟨v, rfl, ⟨aU, cU, rfl, hl⟩, hb⟩
  have L0 := Lib.hid (L0.out.kept hb)
  have LU := Lib.hid hl
  have B1 := Lib.hid (below2 B1.out hb)
  clear hb hl
  have ST := Lib.hid (step_full (now := a3) hl0 r0 _ (looked z0.length (norm z0.length a1) a2))
  have hlU := ST.out.len
  have SU := Lib.hid (step_short (now := a3) S0.out (places z0.length (norm z0.length a1) (span a2 z0.length)))
  have hnp := np_le z0.length (norm z0.length a1) (span a2 z0.length)
  generalize nextP z0.length (norm z0.length a1) (span a2 z0.length) = np at *
  generalize dueN a3 (places z0.length (norm z0.length a1) (span a2 z0.length)) z0 = du at *
  generalize stepC a3 (places z0.length (norm z0.length a1) (span a2 z0.length)) z0 = U at *
  go_wp2_with fail
  refine (Find_told a0 c0 z0 a4 _ L0.out (by omega)).mono ?_
  rintro e w4 ⟨rfl, hb⟩
  have L0 := Lib.hid (L0.out.kept hb)
  have LU := Lib.hid (LU.out.kept hb)
  have B1 := Lib.hid (below2 B1.out hb)
  clear hb
  go_wp2_with fail
  refine (Find_told aU cU U a4 _ LU.out (by omega)).mono ?_
  rintro e w5 ⟨rfl, hb⟩
  have L0 := Lib.hid (L0.out.kept hb)
  have LU := Lib.hid (LU.out.kept hb)
  have B1 := Lib.hid (below2 B1.out hb)
  clear hb
  have hcn := ST.out.cnt
  have hcl := count_le 1 z0
  have xl : ((U.length : Int) != (z0.length : Int)) = false := by simp [hlU]
  have xl2 : ((z0.length : Int) != (z0.length : Int)) = false := by simp
  have xd : decide ((du : Int) < 0) = false := decide_eq_false (by omega)
  have xn : decide ((np : Int) < 0) = false := decide_eq_false (by omega)
  cases hw : find home z0 a4 with
  | none =>
    rw [ST.out.gone a4 hw, show zOf none = -1 from rfl]
    clear hw
    have x1a : decide ((z0.length : Int) ≤ -1) = false := decide_eq_false (by omega)
    have x2a : decide ((U.length : Int) ≤ -1) = false := decide_eq_false (by omega)
    have hz3 : z0.length = 0 ∨ z0.length = 1 ∨ ∃ lm, z0.length = lm + 1 ∧ 0 < lm := by rcases z0 with _ | ⟨_, _ | ⟨_, t⟩⟩; exact .inl rfl; exact .inr (.inl rfl); exact .inr (.inr ⟨t.length + 1, rfl, by omega⟩)
    rcases hz3 with hz | hz | ⟨lm, hz, hlm⟩
    · have em : IntKind.i64.wrap ((z0.length : Int) - 1) = -1 := by rw [hz]; rfl
      have en0 : np = 0 := by omega
      subst en0
      have HZ := Lib.hid hz
      clear hz
      go_wp2_with fail
      refine (Right_told _ cU U true (by simp [ST.out.right]) _ LU.out (SU.out.wide (by omega))).mono ?_
      rintro e w6 ⟨rfl, hb⟩
      have L0 := Lib.hid (L0.out.kept hb)
      have LU := Lib.hid (LU.out.kept hb)
      have B1 := Lib.hid (below2 B1.out hb)
      clear hb
      go_wp2_with fail
      refine (Count_told _ cU U 1 _ LU.out).mono ?_
      rintro e w7 ⟨rfl, hb⟩
      have L0 := Lib.hid (L0.out.kept hb)
      have LU := Lib.hid (LU.out.kept hb)
      have B1 := Lib.hid (below2 B1.out hb)
      clear hb
      go_wp2_with fail
      refine (Count_told _ c0 z0 1 _ L0.out).mono ?_
      rintro e w8 ⟨rfl, hb⟩
      have L0 := Lib.hid (L0.out.kept hb)
      have LU := Lib.hid (LU.out.kept hb)
      have B1 := Lib.hid (below2 B1.out hb)
      clear hb
      rw [← hcn]
      generalize count 1 U = n at *
      have ew : IntKind.i64.wrap (((n + du : Nat) : Int) - (du : Int)) = (n : Int) := by rw [show ((n + du : Nat) : Int) - (du : Int) = (n : Int) by omega]; exact IntWalk.i64_in _ (by omega)
      go_wp2_with fail
      go_ret
      exact ⟨rfl, B1.out⟩
    · have em : IntKind.i64.wrap ((z0.length : Int) - 1) = 0 := by rw [hz]; rfl
      have en0 : np = 0 := by omega
      subst en0
      have HZ := Lib.hid hz
      clear hz
      go_wp2_with fail
      refine (Right_told _ cU U true (by simp [ST.out.right]) _ LU.out (SU.out.wide (by omega))).mono ?_
      rintro e w6 ⟨rfl, hb⟩
      have L0 := Lib.hid (L0.out.kept hb)
      have LU := Lib.hid (LU.out.kept hb)
      have B1 := Lib.hid (below2 B1.out hb)
      clear hb
      go_wp2_with fail
      refine (Count_told _ cU U 1 _ LU.out).mono ?_
      rintro e w7 ⟨rfl, hb⟩
      have L0 := Lib.hid (L0.out.kept hb)
      have LU := Lib.hid (LU.out.kept hb)
      have B1 := Lib.hid (below2 B1.out hb)
      clear hb
      go_wp2_with fail
      refine (Count_told _ c0 z0 1 _ L0.out).mono ?_
      rintro e w8 ⟨rfl, hb⟩
      have L0 := Lib.hid (L0.out.kept hb)
      have LU := Lib.hid (LU.out.kept hb)
      have B1 := Lib.hid (below2 B1.out hb)
      clear hb
      rw [← hcn]
      generalize count 1 U = n at *
      have ew : IntKind.i64.wrap (((n + du : Nat) : Int) - (du : Int)) = (n : Int) := by rw [show ((n + du : Nat) : Int) - (du : Int) = (n : Int) by omega]; exact IntWalk.i64_in _ (by omega)
      go_wp2_with fail
      go_ret
      exact ⟨rfl, B1.out⟩
    · have em : IntKind.i64.wrap ((z0.length : Int) - 1) = (lm : Int) := by rw [hz, show ((lm + 1 : Nat) : Int) - 1 = (lm : Int) by omega]; exact IntWalk.i64_in _ (by omega)
      have en0 : decide ((lm : Int) < (np : Int)) = false := decide_eq_false (by omega)
      have en1 : decide (lm < np) = false := decide_eq_false (by omega)
      have HZ := Lib.hid hz
      clear hz
      go_wp2_with fail
      refine (Right_told _ cU U true (by simp [ST.out.right]) _ LU.out (SU.out.wide (by omega))).mono ?_
      rintro e w6 ⟨rfl, hb⟩
      have L0 := Lib.hid (L0.out.kept hb)
      have LU := Lib.hid (LU.out.kept hb)
      have B1 := Lib.hid (below2 B1.out hb)
      clear hb
      go_wp2_with fail
      refine (Count_told _ cU U 1 _ LU.out).mono ?_
      rintro e w7 ⟨rfl, hb⟩
      have L0 := Lib.hid (L0.out.kept hb)
      have LU := Lib.hid (LU.out.kept hb)
      have B1 := Lib.hid (below2 B1.out hb)
      clear hb
      go_wp2_with fail
      refine (Count_told _ c0 z0 1 _ L0.out).mono ?_
      rintro e w8 ⟨rfl, hb⟩
      have L0 := Lib.hid (L0.out.kept hb)
      have LU := Lib.hid (LU.out.kept hb)
      have B1 := Lib.hid (below2 B1.out hb)
      clear hb
      rw [← hcn]
      generalize count 1 U = n at *
      have ew : IntKind.i64.wrap (((n + du : Nat) : Int) - (du : Int)) = (n : Int) := by rw [show ((n + du : Nat) : Int) - (du : Int) = (n : Int) by omega]; exact IntWalk.i64_in _ (by omega)
      go_wp2_with fail
      go_ret
      exact ⟨rfl, B1.out⟩
  | some p =>
    have hpl := (find_some hw).1
    rcases ST.out.kept a4 p hw with ⟨r, hi, hsm⟩ | ⟨hi, hdu, hd0⟩
    · have hrl := (find_some hi).1
      rw [hi, show zOf (some p) = (p : Int) from rfl, show zOf (some r) = (r : Int) from rfl]
      clear hw hi
      have hrz : r < z0.length := by omega
      have x1a : decide ((z0.length : Int) ≤ (p : Int)) = false := decide_eq_false (by omega)
      have x1b : decide (z0.length ≤ p) = false := decide_eq_false (by omega)
      have x1c : decide ((p : Int) < 0) = false := decide_eq_false (by omega)
      have x1d : decide (0 ≤ (p : Int)) = true := decide_eq_true (by omega)
      have x2a : decide ((U.length : Int) ≤ (r : Int)) = false := decide_eq_false (by omega)
      have x2b : decide (U.length ≤ r) = false := decide_eq_false (by omega)
      have x2c : decide ((r : Int) < 0) = false := decide_eq_false (by omega)
      have x2d : decide (0 ≤ (r : Int)) = true := decide_eq_true (by omega)
      have x2za : decide ((z0.length : Int) ≤ (r : Int)) = false := decide_eq_false (by omega)
      have x2zb : decide (z0.length ≤ r) = false := decide_eq_false (by omega)
      have x2zc : decide ((r : Int) < 0) = false := decide_eq_false (by omega)
      have x2zd : decide (0 ≤ (r : Int)) = true := decide_eq_true (by omega)
      have hz3 : z0.length = 0 ∨ z0.length = 1 ∨ ∃ lm, z0.length = lm + 1 ∧ 0 < lm := by rcases z0 with _ | ⟨_, _ | ⟨_, t⟩⟩; exact .inl rfl; exact .inr (.inl rfl); exact .inr (.inr ⟨t.length + 1, rfl, by omega⟩)
      rcases hz3 with hz | hz | ⟨lm, hz, hlm⟩
      · have em : IntKind.i64.wrap ((z0.length : Int) - 1) = -1 := by rw [hz]; rfl
        have en0 : np = 0 := by omega
        subst en0
        have HZ := Lib.hid hz
        clear hz
        go_wp2_with fail
        refine (Right_told _ cU U true (by simp [ST.out.right]) _ LU.out (SU.out.wide (by omega))).mono ?_
        rintro e w6 ⟨rfl, hb⟩
        have L0 := Lib.hid (L0.out.kept hb)
        have LU := Lib.hid (LU.out.kept hb)
        have B1 := Lib.hid (below2 B1.out hb)
        clear hb
        go_wp2_with fail
        refine (Count_told _ cU U 1 _ LU.out).mono ?_
        rintro e w7 ⟨rfl, hb⟩
        have L0 := Lib.hid (L0.out.kept hb)
        have LU := Lib.hid (LU.out.kept hb)
        have B1 := Lib.hid (below2 B1.out hb)
        clear hb
        go_wp2_with fail
        refine (Count_told _ c0 z0 1 _ L0.out).mono ?_
        rintro e w8 ⟨rfl, hb⟩
        have L0 := Lib.hid (L0.out.kept hb)
        have LU := Lib.hid (LU.out.kept hb)
        have B1 := Lib.hid (below2 B1.out hb)
        clear hb
        rw [← hcn]
        generalize count 1 U = n at *
        have ew : IntKind.i64.wrap (((n + du : Nat) : Int) - (du : Int)) = (n : Int) := by rw [show ((n + du : Nat) : Int) - (du : Int) = (n : Int) by omega]; exact IntWalk.i64_in _ (by omega)
        obtain ⟨bby, offy, haby, y0, y1, y2, y3⟩ := LU.out.ent hrl
        cases haby
        rw [← ent_at hrl] at y0 y1 y2 y3
        obtain ⟨bbu, offu, habu, u0, u1, u2, u3⟩ := L0.out.ent hpl
        cases habu
        rw [← ent_at hpl] at u0 u1 u2 u3
        rw [hsm] at y0 y1 y2 y3
        clear hsm
        have CC := ent_cmp (ent z0 p) (ent z0 p) true (by simp)
        generalize ent z0 p = y at *
        go_wp2_with fail
        go_quiet (fail)
        have bq := below_drewN (Below.refl w8.heap.size w8) nq
        have L0 := Lib.hid (L0.out.kept bq)
        have LU := Lib.hid (LU.out.kept bq)
        have B1 := Lib.hid (below2 B1.out bq)
        clear bq
        go_wp2_with fail
        go_ret
        exact ⟨rfl, B1.out⟩
      · have em : IntKind.i64.wrap ((z0.length : Int) - 1) = 0 := by rw [hz]; rfl
        have en0 : np = 0 := by omega
        subst en0
        have HZ := Lib.hid hz
        clear hz
        go_wp2_with fail
        refine (Right_told _ cU U true (by simp [ST.out.right]) _ LU.out (SU.out.wide (by omega))).mono ?_
        rintro e w6 ⟨rfl, hb⟩
        have L0 := Lib.hid (L0.out.kept hb)
        have LU := Lib.hid (LU.out.kept hb)
        have B1 := Lib.hid (below2 B1.out hb)
        clear hb
        go_wp2_with fail
        refine (Count_told _ cU U 1 _ LU.out).mono ?_
        rintro e w7 ⟨rfl, hb⟩
        have L0 := Lib.hid (L0.out.kept hb)
        have LU := Lib.hid (LU.out.kept hb)
        have B1 := Lib.hid (below2 B1.out hb)
        clear hb
        go_wp2_with fail
        refine (Count_told _ c0 z0 1 _ L0.out).mono ?_
        rintro e w8 ⟨rfl, hb⟩
        have L0 := Lib.hid (L0.out.kept hb)
        have LU := Lib.hid (LU.out.kept hb)
        have B1 := Lib.hid (below2 B1.out hb)
        clear hb
        rw [← hcn]
        generalize count 1 U = n at *
        have ew : IntKind.i64.wrap (((n + du : Nat) : Int) - (du : Int)) = (n : Int) := by rw [show ((n + du : Nat) : Int) - (du : Int) = (n : Int) by omega]; exact IntWalk.i64_in _ (by omega)
        obtain ⟨bby, offy, haby, y0, y1, y2, y3⟩ := LU.out.ent hrl
        cases haby
        rw [← ent_at hrl] at y0 y1 y2 y3
        obtain ⟨bbu, offu, habu, u0, u1, u2, u3⟩ := L0.out.ent hpl
        cases habu
        rw [← ent_at hpl] at u0 u1 u2 u3
        rw [hsm] at y0 y1 y2 y3
        clear hsm
        have CC := ent_cmp (ent z0 p) (ent z0 p) true (by simp)
        generalize ent z0 p = y at *
        go_wp2_with fail
        go_quiet (fail)
        have bq := below_drewN (Below.refl w8.heap.size w8) nq
        have L0 := Lib.hid (L0.out.kept bq)
        have LU := Lib.hid (LU.out.kept bq)
        have B1 := Lib.hid (below2 B1.out bq)
        clear bq
        go_wp2_with fail
        go_ret
        exact ⟨rfl, B1.out⟩
      · have em : IntKind.i64.wrap ((z0.length : Int) - 1) = (lm : Int) := by rw [hz, show ((lm + 1 : Nat) : Int) - 1 = (lm : Int) by omega]; exact IntWalk.i64_in _ (by omega)
        have en0 : decide ((lm : Int) < (np : Int)) = false := decide_eq_false (by omega)
        have en1 : decide (lm < np) = false := decide_eq_false (by omega)
        have HZ := Lib.hid hz
        clear hz
        go_wp2_with fail
        refine (Right_told _ cU U true (by simp [ST.out.right]) _ LU.out (SU.out.wide (by omega))).mono ?_
        rintro e w6 ⟨rfl, hb⟩
        have L0 := Lib.hid (L0.out.kept hb)
        have LU := Lib.hid (LU.out.kept hb)
        have B1 := Lib.hid (below2 B1.out hb)
        clear hb
        go_wp2_with fail
        refine (Count_told _ cU U 1 _ LU.out).mono ?_
        rintro e w7 ⟨rfl, hb⟩
        have L0 := Lib.hid (L0.out.kept hb)
        have LU := Lib.hid (LU.out.kept hb)
        have B1 := Lib.hid (below2 B1.out hb)
        clear hb
        go_wp2_with fail
        refine (Count_told _ c0 z0 1 _ L0.out).mono ?_
        rintro e w8 ⟨rfl, hb⟩
        have L0 := Lib.hid (L0.out.kept hb)
        have LU := Lib.hid (LU.out.kept hb)
        have B1 := Lib.hid (below2 B1.out hb)
        clear hb
        rw [← hcn]
        generalize count 1 U = n at *
        have ew : IntKind.i64.wrap (((n + du : Nat) : Int) - (du : Int)) = (n : Int) := by rw [show ((n + du : Nat) : Int) - (du : Int) = (n : Int) by omega]; exact IntWalk.i64_in _ (by omega)
        obtain ⟨bby, offy, haby, y0, y1, y2, y3⟩ := LU.out.ent hrl
        cases haby
        rw [← ent_at hrl] at y0 y1 y2 y3
        obtain ⟨bbu, offu, habu, u0, u1, u2, u3⟩ := L0.out.ent hpl
        cases habu
        rw [← ent_at hpl] at u0 u1 u2 u3
        rw [hsm] at y0 y1 y2 y3
        clear hsm
        have CC := ent_cmp (ent z0 p) (ent z0 p) true (by simp)
        generalize ent z0 p = y at *
        go_wp2_with fail
        go_quiet (fail)
        have bq := below_drewN (Below.refl w8.heap.size w8) nq
        have L0 := Lib.hid (L0.out.kept bq)
        have LU := Lib.hid (LU.out.kept bq)
        have B1 := Lib.hid (below2 B1.out bq)
        clear bq
        go_wp2_with fail
        go_ret
        exact ⟨rfl, B1.out⟩
    · rw [hi, show zOf (some p) = (p : Int) from rfl, show zOf none = -1 from rfl]
      clear hw hi
      have x1a : decide ((z0.length : Int) ≤ (p : Int)) = false := decide_eq_false (by omega)
      have x1b : decide (z0.length ≤ p) = false := decide_eq_false (by omega)
      have x1c : decide ((p : Int) < 0) = false := decide_eq_false (by omega)
      have x1d : decide (0 ≤ (p : Int)) = true := decide_eq_true (by omega)
      have x2a : decide ((U.length : Int) ≤ -1) = false := decide_eq_false (by omega)
      have x3a : decide ((z0.length : Int) ≤ -1) = false := decide_eq_false (by omega)
      have xg : decide (0 < (du : Int)) = true := decide_eq_true (by omega)
      have xg2 : decide (0 < du) = true := decide_eq_true hd0
      have hz3 : z0.length = 0 ∨ z0.length = 1 ∨ ∃ lm, z0.length = lm + 1 ∧ 0 < lm := by rcases z0 with _ | ⟨_, _ | ⟨_, t⟩⟩; exact .inl rfl; exact .inr (.inl rfl); exact .inr (.inr ⟨t.length + 1, rfl, by omega⟩)
      rcases hz3 with hz | hz | ⟨lm, hz, hlm⟩
      · have em : IntKind.i64.wrap ((z0.length : Int) - 1) = -1 := by rw [hz]; rfl
        have en0 : np = 0 := by omega
        subst en0
        have HZ := Lib.hid hz
        clear hz
        go_wp2_with fail
        refine (Right_told _ cU U true (by simp [ST.out.right]) _ LU.out (SU.out.wide (by omega))).mono ?_
        rintro e w6 ⟨rfl, hb⟩
        have L0 := Lib.hid (L0.out.kept hb)
        have LU := Lib.hid (LU.out.kept hb)
        have B1 := Lib.hid (below2 B1.out hb)
        clear hb
        go_wp2_with fail
        refine (Count_told _ cU U 1 _ LU.out).mono ?_
        rintro e w7 ⟨rfl, hb⟩
        have L0 := Lib.hid (L0.out.kept hb)
        have LU := Lib.hid (LU.out.kept hb)
        have B1 := Lib.hid (below2 B1.out hb)
        clear hb
        go_wp2_with fail
        refine (Count_told _ c0 z0 1 _ L0.out).mono ?_
        rintro e w8 ⟨rfl, hb⟩
        have L0 := Lib.hid (L0.out.kept hb)
        have LU := Lib.hid (LU.out.kept hb)
        have B1 := Lib.hid (below2 B1.out hb)
        clear hb
        rw [← hcn]
        generalize count 1 U = n at *
        have ew : IntKind.i64.wrap (((n + du : Nat) : Int) - (du : Int)) = (n : Int) := by rw [show ((n + du : Nat) : Int) - (du : Int) = (n : Int) by omega]; exact IntWalk.i64_in _ (by omega)
        obtain ⟨bbu, offu, habu, u0, u1, u2, u3⟩ := L0.out.ent hpl
        cases habu
        rw [← ent_at hpl] at u0 u1 u2 u3
        have DC := Lib.hid (fun w => Due_told (ent z0 p) a3 true (by simp [hdu]) w)
        clear hdu
        generalize ent z0 p = y at *
        go_wp2_with fail
        refine (DC.out _).mono ?_
        rintro e w9 ⟨rfl, hb⟩
        have L0 := Lib.hid (L0.out.kept hb)
        have LU := Lib.hid (LU.out.kept hb)
        have B1 := Lib.hid (below2 B1.out hb)
        clear hb
        go_wp2_with fail
        go_ret
        exact ⟨rfl, B1.out⟩
      · have em : IntKind.i64.wrap ((z0.length : Int) - 1) = 0 := by rw [hz]; rfl
        have en0 : np = 0 := by omega
        subst en0
        have HZ := Lib.hid hz
        clear hz
        go_wp2_with fail
        refine (Right_told _ cU U true (by simp [ST.out.right]) _ LU.out (SU.out.wide (by omega))).mono ?_
        rintro e w6 ⟨rfl, hb⟩
        have L0 := Lib.hid (L0.out.kept hb)
        have LU := Lib.hid (LU.out.kept hb)
        have B1 := Lib.hid (below2 B1.out hb)
        clear hb
        go_wp2_with fail
        refine (Count_told _ cU U 1 _ LU.out).mono ?_
        rintro e w7 ⟨rfl, hb⟩
        have L0 := Lib.hid (L0.out.kept hb)
        have LU := Lib.hid (LU.out.kept hb)
        have B1 := Lib.hid (below2 B1.out hb)
        clear hb
        go_wp2_with fail
        refine (Count_told _ c0 z0 1 _ L0.out).mono ?_
        rintro e w8 ⟨rfl, hb⟩
        have L0 := Lib.hid (L0.out.kept hb)
        have LU := Lib.hid (LU.out.kept hb)
        have B1 := Lib.hid (below2 B1.out hb)
        clear hb
        rw [← hcn]
        generalize count 1 U = n at *
        have ew : IntKind.i64.wrap (((n + du : Nat) : Int) - (du : Int)) = (n : Int) := by rw [show ((n + du : Nat) : Int) - (du : Int) = (n : Int) by omega]; exact IntWalk.i64_in _ (by omega)
        obtain ⟨bbu, offu, habu, u0, u1, u2, u3⟩ := L0.out.ent hpl
        cases habu
        rw [← ent_at hpl] at u0 u1 u2 u3
        have DC := Lib.hid (fun w => Due_told (ent z0 p) a3 true (by simp [hdu]) w)
        clear hdu
        generalize ent z0 p = y at *
        go_wp2_with fail
        refine (DC.out _).mono ?_
        rintro e w9 ⟨rfl, hb⟩
        have L0 := Lib.hid (L0.out.kept hb)
        have LU := Lib.hid (LU.out.kept hb)
        have B1 := Lib.hid (below2 B1.out hb)
        clear hb
        go_wp2_with fail
        go_ret
        exact ⟨rfl, B1.out⟩
      · have em : IntKind.i64.wrap ((z0.length : Int) - 1) = (lm : Int) := by rw [hz, show ((lm + 1 : Nat) : Int) - 1 = (lm : Int) by omega]; exact IntWalk.i64_in _ (by omega)
        have en0 : decide ((lm : Int) < (np : Int)) = false := decide_eq_false (by omega)
        have en1 : decide (lm < np) = false := decide_eq_false (by omega)
        have HZ := Lib.hid hz
        clear hz
        go_wp2_with fail
        refine (Right_told _ cU U true (by simp [ST.out.right]) _ LU.out (SU.out.wide (by omega))).mono ?_
        rintro e w6 ⟨rfl, hb⟩
        have L0 := Lib.hid (L0.out.kept hb)
        have LU := Lib.hid (LU.out.kept hb)
        have B1 := Lib.hid (below2 B1.out hb)
        clear hb
        go_wp2_with fail
        refine (Count_told _ cU U 1 _ LU.out).mono ?_
        rintro e w7 ⟨rfl, hb⟩
        have L0 := Lib.hid (L0.out.kept hb)
        have LU := Lib.hid (LU.out.kept hb)
        have B1 := Lib.hid (below2 B1.out hb)
        clear hb
        go_wp2_with fail
        refine (Count_told _ c0 z0 1 _ L0.out).mono ?_
        rintro e w8 ⟨rfl, hb⟩
        have L0 := Lib.hid (L0.out.kept hb)
        have LU := Lib.hid (LU.out.kept hb)
        have B1 := Lib.hid (below2 B1.out hb)
        clear hb
        rw [← hcn]
        generalize count 1 U = n at *
        have ew : IntKind.i64.wrap (((n + du : Nat) : Int) - (du : Int)) = (n : Int) := by rw [show ((n + du : Nat) : Int) - (du : Int) = (n : Int) by omega]; exact IntWalk.i64_in _ (by omega)
        obtain ⟨bbu, offu, habu, u0, u1, u2, u3⟩ := L0.out.ent hpl
        cases habu
        rw [← ent_at hpl] at u0 u1 u2 u3
        have DC := Lib.hid (fun w => Due_told (ent z0 p) a3 true (by simp [hdu]) w)
        clear hdu
        generalize ent z0 p = y at *
        go_wp2_with fail
        refine (DC.out _).mono ?_
        rintro e w9 ⟨rfl, hb⟩
        have L0 := Lib.hid (L0.out.kept hb)
        have LU := Lib.hid (LU.out.kept hb)
        have B1 := Lib.hid (below2 B1.out hb)
        clear hb
        go_wp2_with fail
        go_ret
        exact ⟨rfl, B1.out⟩

theorem own_SweepKeeps : ownKnob Try.prog.godebug = none := by kernel_rfl
set_option maxRecDepth 100000 in
set_option maxHeartbeats 800000 in
theorem lifted_SweepKeeps (os : Os) (started : os.Started) (H : Type) (enc : TypeId × Value → H) :
    ReturnsInHanded {} Try.checked os 5 .any (Rows.sweepKeepsSpec.pre6 enc Try.prog Try.f5 Rows.sweepKeepsRow.domain false) (Rows.sweepKeepsSpec.post enc Try.prog Try.f5 false true false false) := by
  refine returnsInHanded_of_change (C := Try.checked) own_SweepKeeps started (by kernel_rfl) Try.func5
    (ChangeSpec.witness6 (enc := enc) (C := Try.checked) false ⟨#[], #[.slice none 0 0, .int .i64 0, .int .i64 0, .int .i64 0, .string ⟨#[]⟩], []⟩ 8 (by kernel_rfl) (by kernel_rfl) (by kernel_rfl) (by kernel_rfl)) ?_
  intro W base args ds gs before hval0 hW _ _
  have hval : ∀ (j : Nat) t v, Try.f5.params[j]? = some t → args[j]? = some v → Value.okWide Try.prog W .any base t v := hval0
  have hW' := hW
  obtain ⟨p, q, hA0, hV, rfl, _, _⟩ := hW
  have hA : DataW.TrodAll enc Try.prog W 0 (fun _ => true) true Try.f5.params.toList args.toList ds p := hA0
  rw [Try.params5] at hA hval
  obtain ⟨v0, vs0, d0, ds0, p0, q0, ha0, rfl, rfl, t0, r0⟩ := trodAll_cons hA
  obtain ⟨v1, vs1, d1, ds1, p1, q1, ha1, rfl, rfl, t1, r1⟩ := trodAll_cons r0
  obtain ⟨v2, vs2, d2, ds2, p2, q2, ha2, rfl, rfl, t2, r2⟩ := trodAll_cons r1
  obtain ⟨v3, vs3, d3, ds3, p3, q3, ha3, rfl, rfl, t3, r3⟩ := trodAll_cons r2
  obtain ⟨v4, vs4, d4, ds4, p4, q4, ha4, rfl, rfl, t4, r4⟩ := trodAll_cons r3
  obtain ⟨rfl, rfl, rfl⟩ := trodAll_nil r4
  subst ha4
  subst ha3
  subst ha2
  subst ha1
  obtain rfl : args = #[v0, v1, v2, v3, v4] := by cases args; simp_all
  obtain ⟨rfl, rfl⟩ := trodVars_none hV
  have k0 := t0
  have lt0 : ∀ x ∈ p0, x.block < W.heap.size := by obtain ⟨m, hm⟩ := k0; exact DataW.trod_lt m _ _ _ hm
  obtain ⟨a0, c0, z0, rfl, h0, g0⟩ := Ste.open_table (hval 0 22 v0 rfl rfl) t0
  obtain ⟨a1, rfl, rfl, rfl, h1⟩ := open_int Try.underlying3 (hval 1 3 v1 rfl rfl) t1
  obtain ⟨a2, rfl, rfl, rfl, h2⟩ := open_int Try.underlying3 (hval 2 3 v2 rfl rfl) t2
  obtain ⟨a3, rfl, rfl, rfl, h3⟩ := open_int Try.underlying3 (hval 3 3 v3 rfl rfl) t3
  obtain ⟨a4, rfl, rfl, rfl, h4⟩ := open_string Try.underlying9 (hval 4 9 v4 rfl rfl) t4
  clear hA0 hval0
  refine (walk_SweepKeeps a0 c0 z0 a1 a2 a3 a4 W h0 g0 h1 h2 h3 h4).mono fun e W' ⟨he, hnx⟩ => ?_
  subst he
  exact ⟨_, rfl, ⟨_, _, _, [], _, [], hW', trodAll_cons_mk (shut_bool Try.underlying4 _) trodAll_mk0, (trodAll_cons_mk (Below.trod Ste.laidOut (by kernel_rfl) (of_decide_eq_true (by kernel_rfl)) k0 hnx lt0) (trodAll_cons_mk (shut_int Try.underlying3 h1) (trodAll_cons_mk (shut_int Try.underlying3 h2) (trodAll_cons_mk (shut_int Try.underlying3 h3) (trodAll_cons_mk (shut_string Try.underlying9 h4) trodAll_mk0))))), rfl, hnx.frame _, fun h => by cases h⟩⟩

theorem sweepKeeps_holds : Rows.SweepKeepsSaid :=
  OpenClaim.holds_of_wide 5 Try.f5 rfl rfl rfl rfl rfl rfl rfl ⟨rfl, rfl, rfl, rfl, rfl⟩ rfl rfl rfl rfl rfl (by kernel_rfl) Try.func5 (by kernel_rfl)
    (of_decide_eq_true (by kernel_rfl)) (by unfold Func.isWrapper; first | (rw [if_pos (by decide +kernel)]; kernel_rfl) | (rw [if_neg (by decide +kernel)]; exact ⟨rfl, rfl⟩))
    (fun os started H enc _ => lifted_SweepKeeps os started H enc)

#print axioms sweepKeeps_holds
end Go.Proofs.Yticpjccfpmaikaa
