/-
  FlowsPut: for every t, key, backend, deadline and other the law FlowsPut answers true: what is put is found with what was put, and all else stays; a table is full just if all are live. No condition.
-/
import Derived.Test.YtbflnhoifkdooaaRows
import Derived.Test.YtbflnhoifkdooaaBTab
import Derived.Test.YtbflnhoifkdooaaFloW
import Derived.Test.YtbflnhoifkdooaaBFlp
import Derived.ProofKit
import Derived.OpenShut
import Derived.ChangeMaps5
import Derived.BigQuiet
import Derived.WalkSmall
namespace Go.Proofs.Ytbflnhoifkdooaa
open Go.ChangeShapes Go.WideShapes Go.ChangeAt Go.RowKit Go.Shelf
open Go.ChangeMaps (open_string shut_string)
open Prb RowG Tab Flo

set_option maxRecDepth 100000 in
set_option maxHeartbeats 2000000 in
theorem walk_FlowsPut (a0 : Option Addr) (c0 : Nat) (z0 : List Ent) (a1 : ByteArray) (a2 : Int) (a3 : Int) (a4 : ByteArray) (w : World) (h0 : Lies entK w a0 c0 z0) (g0 : ∀ x ∈ z0, EntOk x) (h1 : a1.size ≤ maxLen) (_h2 : (Lit.int .i64 a2).wf = true) (_h3 : (Lit.int .i64 a3).wf = true) (h4 : a4.size ≤ maxLen) :
    Calls Try.prog 4 #[rowV a0 c0 z0, .string a1, .int .i64 a2, .int .i64 a3, .string a4] w fun e W' => e = .returned (.bool true) ∧ Below w.heap.size w W' := by
  have H0 := Lib.hid h0
  have hC0 := h0.len
  have hM0 := h0.max
  unfold maxLen at hM0 h1 h4
  clear h0
  go_enter Try.func4, Try.ntmps4
  go_wp2_with fail
  refine (works_any _).mono ?_
  rintro e w1 ⟨rfl, hb⟩
  have B1 := Lib.hid hb
  have L0 := Lib.hid (H0.out.kept hb)
  clear hb H0
  go_wp2_with fail
  refine (few_any a0 c0 z0 _ L0.out g0).mono ?_
  rintro e w2 ⟨rfl, rfl⟩
  by_cases f0 : ¬ few64 z0
  · rw [decide_eq_false f0]
    go_wp2_with fail
    go_ret
    exact ⟨rfl, B1.out⟩
  replace f0 := Decidable.not_not.1 f0
  rw [decide_eq_true f0]
  have hl0 := f0.2
  have S0 := Lib.hid (show Short 60 z0 from f0.1.2)
  clear f0 g0
  by_cases b1 : 60 < a1.size
  · have d0 : decide ((60 : Int) < (a1.size : Int)) = true := decide_eq_true (by omega)
    have d0n : decide (60 < a1.size) = true := decide_eq_true b1
    go_wp2_with fail
    go_ret
    exact ⟨rfl, B1.out⟩
  have db1 : decide ((60 : Int) < (a1.size : Int)) = false := decide_eq_false (by omega)
  have eb1 : decide (60 < a1.size) = false := decide_eq_false b1
  by_cases b4 : 60 < a4.size
  · have d0 : decide ((60 : Int) < (a4.size : Int)) = true := decide_eq_true (by omega)
    have d0n : decide (60 < a4.size) = true := decide_eq_true b4
    go_wp2_with fail
    go_ret
    exact ⟨rfl, B1.out⟩
  have db4 : decide ((60 : Int) < (a4.size : Int)) = false := decide_eq_false (by omega)
  have eb4 : decide (60 < a4.size) = false := decide_eq_false b4
  go_wp2_with fail
  refine (Put_told a0 c0 z0 a1 a2 a3 _ L0.out (by omega) (by omega)).mono ?_
  rintro e w2 ⟨v, rfl, ⟨aU, cU, rfl, hl⟩, hb⟩
  have L0 := Lib.hid (L0.out.kept hb)
  have LU := Lib.hid hl
  have B1 := Lib.hid (below2 B1.out hb)
  clear hb hl
  cases hp : place z0 a1 with
  | none =>
    obtain ⟨p1, p2, p3, p4⟩ := put_no hp a2 a3
    rw [p2]
    rw [p1] at LU ⊢
    clear hp p1 p2
    go_wp2_with fail
    refine (Same_told aU cU z0 a0 c0 z0 true (by simp) _ LU.out L0.out).mono ?_
    rintro e w3 ⟨rfl, hb⟩
    have L0 := Lib.hid (L0.out.kept hb)
    have LU := Lib.hid (LU.out.kept hb)
    have B1 := Lib.hid (below2 B1.out hb)
    clear hb
    go_wp2_with fail
    refine (Count_told a0 c0 z0 1 _ L0.out).mono ?_
    rintro e w4 ⟨rfl, hb⟩
    have L0 := Lib.hid (L0.out.kept hb)
    have LU := Lib.hid (LU.out.kept hb)
    have B1 := Lib.hid (below2 B1.out hb)
    clear hb
    rw [p4]
    go_wp2_with fail
    refine (Find_told a0 c0 z0 a1 _ L0.out (by omega)).mono ?_
    rintro e w5 ⟨rfl, hb⟩
    have L0 := Lib.hid (L0.out.kept hb)
    have LU := Lib.hid (LU.out.kept hb)
    have B1 := Lib.hid (below2 B1.out hb)
    clear hb
    rw [p3, show zOf none = -1 from rfl]
    go_wp2_with fail
    go_ret
    exact ⟨rfl, B1.out⟩
  | some q =>
    obtain ⟨p1, p2⟩ := put_yes hp a2 a3
    obtain ⟨x, hx, hfx, hex⟩ := put_there p1
    have hlU := put_length p1
    have PO := Lib.hid (fun o (ho : a1 ≠ o) q hq => put_other p1 ho (b := q) hq)
    have PR := Lib.hid (fun hr => Right.puts hr p1)
    have PA := Lib.hid (fun hr o ho hn => Right.put_absent (o := o) hr p1 ho hn)
    have SU := Lib.hid (short_put (b := a2) (d := a3) S0.out (show a1.size ≤ 60 by omega))
    rw [p2]
    clear hp p1 p2
    generalize putT z0 a1 a2 a3 = U at *
    go_wp2_with fail
    refine (Find_told aU cU U a1 _ LU.out (by omega)).mono ?_
    rintro e w3 ⟨rfl, hb⟩
    have L0 := Lib.hid (L0.out.kept hb)
    have LU := Lib.hid (LU.out.kept hb)
    have B1 := Lib.hid (below2 B1.out hb)
    clear hb
    rw [hfx, show zOf (some x) = (x : Int) from rfl]
    obtain ⟨bby, offy, haby, y0, y1, y2, y3⟩ := LU.out.ent hx
    cases haby
    rw [← ent_at hx] at y0 y1 y2 y3
    rw [hex] at y0 y1 y2 y3
    simp only [live] at y0 y1 y2 y3
    have x0a : decide ((U.length : Int) ≤ (x : Int)) = false := decide_eq_false (by omega)
    have x0b : decide (U.length ≤ x) = false := decide_eq_false (by omega)
    have x0c : decide ((x : Int) < 0) = false := decide_eq_false (by omega)
    have x0d : decide (0 ≤ (x : Int)) = true := decide_eq_true (by omega)
    have x0za : decide ((z0.length : Int) ≤ (x : Int)) = false := decide_eq_false (by omega)
    have x0zb : decide (z0.length ≤ x) = false := decide_eq_false (by omega)
    have x0zc : decide ((x : Int) < 0) = false := decide_eq_false (by omega)
    have x0zd : decide (0 ≤ (x : Int)) = true := decide_eq_true (by omega)
    have xl : ((U.length : Int) != (z0.length : Int)) = false := by simp [hlU]
    have CC := ent_cmp (live a1 a2 a3) (live a1 a2 a3) true (by simp)
    simp only [live] at CC
    go_wp2_with fail
    clear y0 y1 y2 y3 CC xl x0a x0b x0c x0d hex
    refine (Find_told a0 c0 z0 a4 _ L0.out (by omega)).mono ?_
    rintro e w4 ⟨rfl, hb⟩
    have L0 := Lib.hid (L0.out.kept hb)
    have LU := Lib.hid (LU.out.kept hb)
    have B1 := Lib.hid (below2 B1.out hb)
    clear hb
    go_wp2_with fail
    refine (Find_told _ cU U a4 _ LU.out (by omega)).mono ?_
    rintro e w5 ⟨rfl, hb⟩
    have L0 := Lib.hid (L0.out.kept hb)
    have LU := Lib.hid (LU.out.kept hb)
    have B1 := Lib.hid (below2 B1.out hb)
    clear hb
    by_cases hk : a1 = a4
    · have dk : (a1.toList == a4.toList) = true := by rw [text_cmp]; exact decide_eq_true hk
      have hf4 : find home U a4 = some x := hk ▸ hfx
      rw [hf4, show zOf (some x) = (x : Int) from rfl]
      clear hf4 hfx PO PA hk
      have x0a : decide ((U.length : Int) ≤ (x : Int)) = false := decide_eq_false (by omega)
      have x0b : decide (U.length ≤ x) = false := decide_eq_false (by omega)
      have x0c : decide ((x : Int) < 0) = false := decide_eq_false (by omega)
      have x0d : decide (0 ≤ (x : Int)) = true := decide_eq_true (by omega)
      have x0za : decide ((z0.length : Int) ≤ (x : Int)) = false := decide_eq_false (by omega)
      have x0zb : decide (z0.length ≤ x) = false := decide_eq_false (by omega)
      have x0zc : decide ((x : Int) < 0) = false := decide_eq_false (by omega)
      have x0zd : decide (0 ≤ (x : Int)) = true := decide_eq_true (by omega)
      cases hf : find home z0 a4 with
      | none =>
        rw [show zOf none = -1 from rfl]
        clear hf
        have x1a : decide ((z0.length : Int) ≤ -1) = false := decide_eq_false (by omega)
        go_wp2_with fail
        go_quiet (fail)
        have bq := below_drewN (Below.refl w5.heap.size w5) nq
        have L0 := Lib.hid (L0.out.kept bq)
        have LU := Lib.hid (LU.out.kept bq)
        have B1 := Lib.hid (below2 B1.out bq)
        clear bq
        go_wp2_with fail
        by_cases r0 : Right home z0
        · refine (Right_told _ c0 z0 true (by simp [r0]) _ L0.out (S0.out.wide (by omega))).mono ?_
          rintro e w6 ⟨rfl, hb⟩
          have L0 := Lib.hid (L0.out.kept hb)
          have LU := Lib.hid (LU.out.kept hb)
          have B1 := Lib.hid (below2 B1.out hb)
          clear hb
          go_wp2_with fail
          refine (Right_told _ cU U true (by simp [PR.out r0]) _ LU.out (SU.out.wide (by omega))).mono ?_
          rintro e w7 ⟨rfl, hb⟩
          have L0 := Lib.hid (L0.out.kept hb)
          have LU := Lib.hid (LU.out.kept hb)
          have B1 := Lib.hid (below2 B1.out hb)
          clear hb
          go_wp2_with fail
          go_ret
          exact ⟨rfl, B1.out⟩
        · refine (Right_told _ c0 z0 false (by simp [r0]) _ L0.out (S0.out.wide (by omega))).mono ?_
          rintro e w6 ⟨rfl, hb⟩
          have L0 := Lib.hid (L0.out.kept hb)
          have LU := Lib.hid (LU.out.kept hb)
          have B1 := Lib.hid (below2 B1.out hb)
          clear hb
          go_wp2_with fail
          go_ret
          exact ⟨rfl, B1.out⟩
      | some p =>
        have hpl := (find_some hf).1
        rw [show zOf (some p) = (p : Int) from rfl]
        clear hf
        have x1a : decide ((z0.length : Int) ≤ (p : Int)) = false := decide_eq_false (by omega)
        have x1b : decide (z0.length ≤ p) = false := decide_eq_false (by omega)
        have x1c : decide ((p : Int) < 0) = false := decide_eq_false (by omega)
        have x1d : decide (0 ≤ (p : Int)) = true := decide_eq_true (by omega)
        go_wp2_with fail
        go_quiet (fail)
        have bq := below_drewN (Below.refl w5.heap.size w5) nq
        have L0 := Lib.hid (L0.out.kept bq)
        have LU := Lib.hid (LU.out.kept bq)
        have B1 := Lib.hid (below2 B1.out bq)
        clear bq
        go_wp2_with fail
        by_cases r0 : Right home z0
        · refine (Right_told _ c0 z0 true (by simp [r0]) _ L0.out (S0.out.wide (by omega))).mono ?_
          rintro e w6 ⟨rfl, hb⟩
          have L0 := Lib.hid (L0.out.kept hb)
          have LU := Lib.hid (LU.out.kept hb)
          have B1 := Lib.hid (below2 B1.out hb)
          clear hb
          go_wp2_with fail
          refine (Right_told _ cU U true (by simp [PR.out r0]) _ LU.out (SU.out.wide (by omega))).mono ?_
          rintro e w7 ⟨rfl, hb⟩
          have L0 := Lib.hid (L0.out.kept hb)
          have LU := Lib.hid (LU.out.kept hb)
          have B1 := Lib.hid (below2 B1.out hb)
          clear hb
          go_wp2_with fail
          go_ret
          exact ⟨rfl, B1.out⟩
        · refine (Right_told _ c0 z0 false (by simp [r0]) _ L0.out (S0.out.wide (by omega))).mono ?_
          rintro e w6 ⟨rfl, hb⟩
          have L0 := Lib.hid (L0.out.kept hb)
          have LU := Lib.hid (LU.out.kept hb)
          have B1 := Lib.hid (below2 B1.out hb)
          clear hb
          go_wp2_with fail
          go_ret
          exact ⟨rfl, B1.out⟩
    · have dk : (a1.toList == a4.toList) = false := by rw [text_cmp]; exact decide_eq_false hk
      clear hfx
      cases hf : find home z0 a4 with
      | some p =>
        have hpl := (find_some hf).1
        obtain ⟨o1, o2⟩ := PO.out a4 hk p hf
        have hpU := (find_some o1).1
        rw [o1, show zOf (some p) = (p : Int) from rfl]
        have x1a : decide ((z0.length : Int) ≤ (p : Int)) = false := decide_eq_false (by omega)
        have x1b : decide (z0.length ≤ p) = false := decide_eq_false (by omega)
        have x1c : decide ((p : Int) < 0) = false := decide_eq_false (by omega)
        have x1d : decide (0 ≤ (p : Int)) = true := decide_eq_true (by omega)
        have x2a : decide ((U.length : Int) ≤ (p : Int)) = false := decide_eq_false (by omega)
        have x2b : decide (U.length ≤ p) = false := decide_eq_false (by omega)
        have x2c : decide ((p : Int) < 0) = false := decide_eq_false (by omega)
        have x2d : decide (0 ≤ (p : Int)) = true := decide_eq_true (by omega)
        have x2za : decide ((z0.length : Int) ≤ (p : Int)) = false := decide_eq_false (by omega)
        have x2zb : decide (z0.length ≤ p) = false := decide_eq_false (by omega)
        have x2zc : decide ((p : Int) < 0) = false := decide_eq_false (by omega)
        have x2zd : decide (0 ≤ (p : Int)) = true := decide_eq_true (by omega)
        obtain ⟨bby, offy, haby, y0, y1, y2, y3⟩ := LU.out.ent hpU
        cases haby
        rw [← ent_at hpU] at y0 y1 y2 y3
        obtain ⟨bbu, offu, habu, u0, u1, u2, u3⟩ := L0.out.ent hpl
        cases habu
        rw [← ent_at hpl] at u0 u1 u2 u3
        rw [o2] at y0 y1 y2 y3
        clear hf o1 o2 PO PA hk
        have CC := ent_cmp (ent z0 p) (ent z0 p) true (by simp)
        generalize ent z0 p = y at *
        go_wp2_with fail
        go_quiet (fail)
        have bq := below_drewN (Below.refl w5.heap.size w5) nq
        have L0 := Lib.hid (L0.out.kept bq)
        have LU := Lib.hid (LU.out.kept bq)
        have B1 := Lib.hid (below2 B1.out bq)
        clear bq
        clear y0 y1 y2 y3 u0 u1 u2 u3 CC
        go_wp2_with fail
        by_cases r0 : Right home z0
        · refine (Right_told _ c0 z0 true (by simp [r0]) _ L0.out (S0.out.wide (by omega))).mono ?_
          rintro e w6 ⟨rfl, hb⟩
          have L0 := Lib.hid (L0.out.kept hb)
          have LU := Lib.hid (LU.out.kept hb)
          have B1 := Lib.hid (below2 B1.out hb)
          clear hb
          go_wp2_with fail
          refine (Right_told _ cU U true (by simp [PR.out r0]) _ LU.out (SU.out.wide (by omega))).mono ?_
          rintro e w7 ⟨rfl, hb⟩
          have L0 := Lib.hid (L0.out.kept hb)
          have LU := Lib.hid (LU.out.kept hb)
          have B1 := Lib.hid (below2 B1.out hb)
          clear hb
          go_wp2_with fail
          go_ret
          exact ⟨rfl, B1.out⟩
        · refine (Right_told _ c0 z0 false (by simp [r0]) _ L0.out (S0.out.wide (by omega))).mono ?_
          rintro e w6 ⟨rfl, hb⟩
          have L0 := Lib.hid (L0.out.kept hb)
          have LU := Lib.hid (LU.out.kept hb)
          have B1 := Lib.hid (below2 B1.out hb)
          clear hb
          go_wp2_with fail
          go_ret
          exact ⟨rfl, B1.out⟩
      | none =>
        rw [show zOf none = -1 from rfl]
        have x1a : decide ((z0.length : Int) ≤ -1) = false := decide_eq_false (by omega)
        cases hfu : find home U a4 with
        | none =>
          rw [show zOf none = -1 from rfl]
          clear hfu hf PO PA hk
          have x2a : decide ((U.length : Int) ≤ -1) = false := decide_eq_false (by omega)
          go_wp2_with fail
          go_quiet (fail)
          have bq := below_drewN (Below.refl w5.heap.size w5) nq
          have L0 := Lib.hid (L0.out.kept bq)
          have LU := Lib.hid (LU.out.kept bq)
          have B1 := Lib.hid (below2 B1.out bq)
          clear bq
          go_wp2_with fail
          by_cases r0 : Right home z0
          · refine (Right_told _ c0 z0 true (by simp [r0]) _ L0.out (S0.out.wide (by omega))).mono ?_
            rintro e w6 ⟨rfl, hb⟩
            have L0 := Lib.hid (L0.out.kept hb)
            have LU := Lib.hid (LU.out.kept hb)
            have B1 := Lib.hid (below2 B1.out hb)
            clear hb
            go_wp2_with fail
            refine (Right_told _ cU U true (by simp [PR.out r0]) _ LU.out (SU.out.wide (by omega))).mono ?_
            rintro e w7 ⟨rfl, hb⟩
            have L0 := Lib.hid (L0.out.kept hb)
            have LU := Lib.hid (LU.out.kept hb)
            have B1 := Lib.hid (below2 B1.out hb)
            clear hb
            go_wp2_with fail
            go_ret
            exact ⟨rfl, B1.out⟩
          · refine (Right_told _ c0 z0 false (by simp [r0]) _ L0.out (S0.out.wide (by omega))).mono ?_
            rintro e w6 ⟨rfl, hb⟩
            have L0 := Lib.hid (L0.out.kept hb)
            have LU := Lib.hid (LU.out.kept hb)
            have B1 := Lib.hid (below2 B1.out hb)
            clear hb
            go_wp2_with fail
            go_ret
            exact ⟨rfl, B1.out⟩
        | some r =>
          have hrU := (find_some hfu).1
          rw [show zOf (some r) = (r : Int) from rfl]
          have NO := Lib.hid (show ¬ Right home z0 from fun hr => by have := PA.out hr a4 hk hf; rw [hfu] at this; cases this)
          clear hfu hf PO PA hk
          have x2a : decide ((U.length : Int) ≤ (r : Int)) = false := decide_eq_false (by omega)
          have x2b : decide (U.length ≤ r) = false := decide_eq_false (by omega)
          have x2c : decide ((r : Int) < 0) = false := decide_eq_false (by omega)
          have x2d : decide (0 ≤ (r : Int)) = true := decide_eq_true (by omega)
          have x2za : decide ((z0.length : Int) ≤ (r : Int)) = false := decide_eq_false (by omega)
          have x2zb : decide (z0.length ≤ r) = false := decide_eq_false (by omega)
          have x2zc : decide ((r : Int) < 0) = false := decide_eq_false (by omega)
          have x2zd : decide (0 ≤ (r : Int)) = true := decide_eq_true (by omega)
          go_wp2_with fail
          go_quiet (fail)
          have bq := below_drewN (Below.refl w5.heap.size w5) nq
          have L0 := Lib.hid (L0.out.kept bq)
          have LU := Lib.hid (LU.out.kept bq)
          have B1 := Lib.hid (below2 B1.out bq)
          clear bq
          go_wp2_with fail
          by_cases r0 : Right home z0
          · refine (Right_told _ c0 z0 true (by simp [r0]) _ L0.out (S0.out.wide (by omega))).mono ?_
            rintro e w6 ⟨rfl, hb⟩
            have L0 := Lib.hid (L0.out.kept hb)
            have LU := Lib.hid (LU.out.kept hb)
            have B1 := Lib.hid (below2 B1.out hb)
            clear hb
            exact absurd r0 NO.out
          · refine (Right_told _ c0 z0 false (by simp [r0]) _ L0.out (S0.out.wide (by omega))).mono ?_
            rintro e w6 ⟨rfl, hb⟩
            have L0 := Lib.hid (L0.out.kept hb)
            have LU := Lib.hid (LU.out.kept hb)
            have B1 := Lib.hid (below2 B1.out hb)
            clear hb
            go_wp2_with fail
            go_ret
            exact ⟨rfl, B1.out⟩

theorem own_FlowsPut : ownKnob Try.prog.godebug = none := by kernel_rfl
set_option maxRecDepth 100000 in
set_option maxHeartbeats 800000 in
theorem lifted_FlowsPut (os : Os) (started : os.Started) (H : Type) (enc : TypeId × Value → H) :
    ReturnsInHanded {} Try.checked os 4 .any (Rows.flowsPutSpec.pre6 enc Try.prog Try.f4 Rows.flowsPutRow.domain false) (Rows.flowsPutSpec.post enc Try.prog Try.f4 false true false false) := by
  refine returnsInHanded_of_change (C := Try.checked) own_FlowsPut started (by kernel_rfl) Try.func4
    (ChangeSpec.witness6 (enc := enc) (C := Try.checked) false ⟨#[], #[.slice none 0 0, .string ⟨#[]⟩, .int .i64 0, .int .i64 0, .string ⟨#[]⟩], []⟩ 8 (by kernel_rfl) (by kernel_rfl) (by kernel_rfl) (by kernel_rfl)) ?_
  intro W base args ds gs before hval0 hW _ _
  have hval : ∀ (j : Nat) t v, Try.f4.params[j]? = some t → args[j]? = some v → Value.okWide Try.prog W .any base t v := hval0
  have hW' := hW
  obtain ⟨p, q, hA0, hV, rfl, _, _⟩ := hW
  have hA : DataW.TrodAll enc Try.prog W 0 (fun _ => true) true Try.f4.params.toList args.toList ds p := hA0
  rw [Try.params4] at hA hval
  obtain ⟨v0, vs0, d0, ds0, p0, q0, ha0, rfl, rfl, t0, r0⟩ := trodAll_cons hA
  obtain ⟨v1, vs1, d1, ds1, p1, q1, ha1, rfl, rfl, t1, r1⟩ := trodAll_cons r0
  obtain ⟨v2, vs2, d2, ds2, p2, q2, ha2, rfl, rfl, t2, r2⟩ := trodAll_cons r1
  obtain ⟨v3, vs3, d3, ds3, p3, q3, ha3, rfl, rfl, t3, r3⟩ := trodAll_cons r2
  obtain ⟨v4, vs4, d4, ds4, p4, q4, ha4, rfl, rfl, t4, r4⟩ := trodAll_cons r3
  obtain ⟨rfl, rfl, rfl⟩ := trodAll_nil r4
  subst ha4
  subst ha3
  subst ha2
  subst ha1
  obtain rfl : args = #[v0, v1, v2, v3, v4] := by cases args; simp_all
  obtain ⟨rfl, rfl⟩ := trodVars_none hV
  have k0 := t0
  have lt0 : ∀ x ∈ p0, x.block < W.heap.size := by obtain ⟨m, hm⟩ := k0; exact DataW.trod_lt m _ _ _ hm
  obtain ⟨a0, c0, z0, rfl, h0, g0⟩ := Ste.open_table (hval 0 22 v0 rfl rfl) t0
  obtain ⟨a1, rfl, rfl, rfl, h1⟩ := open_string Try.underlying9 (hval 1 9 v1 rfl rfl) t1
  obtain ⟨a2, rfl, rfl, rfl, h2⟩ := open_int Try.underlying3 (hval 2 3 v2 rfl rfl) t2
  obtain ⟨a3, rfl, rfl, rfl, h3⟩ := open_int Try.underlying3 (hval 3 3 v3 rfl rfl) t3
  obtain ⟨a4, rfl, rfl, rfl, h4⟩ := open_string Try.underlying9 (hval 4 9 v4 rfl rfl) t4
  clear hA0 hval0
  refine (walk_FlowsPut a0 c0 z0 a1 a2 a3 a4 W h0 g0 h1 h2 h3 h4).mono fun e W' ⟨he, hnx⟩ => ?_
  subst he
  exact ⟨_, rfl, ⟨_, _, _, [], _, [], hW', trodAll_cons_mk (shut_bool Try.underlying4 _) trodAll_mk0, (trodAll_cons_mk (Below.trod Ste.laidOut (by kernel_rfl) (of_decide_eq_true (by kernel_rfl)) k0 hnx lt0) (trodAll_cons_mk (shut_string Try.underlying9 h1) (trodAll_cons_mk (shut_int Try.underlying3 h2) (trodAll_cons_mk (shut_int Try.underlying3 h3) (trodAll_cons_mk (shut_string Try.underlying9 h4) trodAll_mk0))))), rfl, hnx.frame _, fun h => by cases h⟩⟩

theorem flowsPut_holds : Rows.FlowsPutSaid :=
  OpenClaim.holds_of_wide 4 Try.f4 rfl rfl rfl rfl rfl rfl rfl ⟨rfl, rfl, rfl, rfl, rfl⟩ rfl rfl rfl rfl rfl (by kernel_rfl) Try.func4 (by kernel_rfl)
    (of_decide_eq_true (by kernel_rfl)) (by unfold Func.isWrapper; first | (rw [if_pos (by decide +kernel)]; kernel_rfl) | (rw [if_neg (by decide +kernel)]; exact ⟨rfl, rfl⟩))
    (fun os started H enc _ => lifted_FlowsPut os started H enc)

#print axioms flowsPut_holds
end Go.Proofs.Ytbflnhoifkdooaa
