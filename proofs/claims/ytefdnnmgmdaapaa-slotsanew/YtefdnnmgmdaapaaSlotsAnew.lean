/-
  SlotsAnew: for every p, q, id, h and spoil the law SlotsAnew answers true: built anew a slot tells its new pool alone. No condition.
-/
import Derived.Test.YtefdnnmgmdaapaaRows
import Derived.Test.YtefdnnmgmdaapaaBPol
import Derived.Test.YtefdnnmgmdaapaaSts
import Derived.Test.YtefdnnmgmdaapaaSlsV
import Derived.Test.YtefdnnmgmdaapaaRinCp
import Derived.BigQuiet
import Derived.WalkSmall
import Derived.ProofKit
import Derived.OpenShut
import Derived.ChangeMaps5
namespace Go.Proofs.Ytefdnnmgmdaapaa
open Go.ChangeShapes Go.WideShapes Go.ChangeAt Go.RowKit Go.Shelf
open Go.ChangeMaps (open_string shut_string)
open Sls Slo
open Pol (Bk polV chk chkV)
open Pts (ofL hsh)
open Rin (succL)

set_option maxRecDepth 100000 in
set_option maxHeartbeats 4000000 in
theorem walk_SlotsAnew (a0 : Option Addr) (c0 : Nat) (z0 : List Bk) (a1 : Option Addr) (c1 : Nat) (z1 : List Bk) (id h : Int) (a4 : Bool) (w : World) (h0 : Pol.Lies w a0 c0 z0) (_g0 : ∀ x ∈ z0, Stp.BkOk x) (h1 : Pol.Lies w a1 c1 z1) (_g1 : ∀ x ∈ z1, Stp.BkOk x) (_h2 : (Lit.int .i64 id).wf = true) (_h3 : (Lit.int .u64 h).wf = true) :
    Calls Try.prog 6 #[polV a0 c0 z0, polV a1 c1 z1, .int .i64 id, .int .u64 h, .bool a4] w fun e W' => e = .returned (.bool true) ∧ Below w.heap.size w W' := by
  have H0 := Lib.hid h0
  have hC0 := h0.len
  have hM0 := h0.max
  have H1 := Lib.hid h1
  have hC1 := h1.len
  have hM1 := h1.max
  unfold maxLen at hM0 hM1
  clear h0 h1
  by_cases g0 : 8 < z0.length
  · have d4 : decide ((8 : Int) < (z0.length : Int)) = true := decide_eq_true (by omega)
    have d5 : decide (8 < z0.length) = true := decide_eq_true g0
    go_enter Try.func6, Try.ntmps6
    go_wp2_with fail
    refine (works_any _).mono ?_
    rintro e w1 ⟨rfl, hb⟩
    have B1 := Lib.hid hb
    clear hb
    go_wp2_with fail
    go_ret
    exact ⟨rfl, B1.out⟩
  have d0 : decide ((8 : Int) < (z0.length : Int)) = false := decide_eq_false (by omega)
  have d0n : decide (8 < z0.length) = false := decide_eq_false g0
  by_cases g1 : 8 < z1.length
  · have d4 : decide ((8 : Int) < (z1.length : Int)) = true := decide_eq_true (by omega)
    have d5 : decide (8 < z1.length) = true := decide_eq_true g1
    go_enter Try.func6, Try.ntmps6
    go_wp2_with fail
    refine (works_any _).mono ?_
    rintro e w1 ⟨rfl, hb⟩
    have B1 := Lib.hid hb
    clear hb
    go_wp2_with fail
    go_ret
    exact ⟨rfl, B1.out⟩
  have d1 : decide ((8 : Int) < (z1.length : Int)) = false := decide_eq_false (by omega)
  have d1n : decide (8 < z1.length) = false := decide_eq_false g1
  have l0 : z0.length ≤ 8 := by omega
  have l1 : z1.length ≤ 8 := by omega
  cases hr1 : rightB z1 with
  | false =>
    go_enter Try.func6, Try.ntmps6
    go_wp2_with fail
    refine (works_any _).mono ?_
    rintro e w1 ⟨rfl, hb⟩
    have B1 := Lib.hid hb
    clear hb
    have K1 := Lib.hid (check_at a1 c1 z1 false hr1 w1 (H1.out.kept B1.out))
    go_wp2_with fail
    refine K1.out.mono ?_
    rintro e w2 ⟨rfl, hb⟩
    have B2 := Lib.hid (RowG.below2 B1.out hb)
    simp only [chkV]
    clear hb K1 B1
    go_wp2_with fail
    go_ret
    exact ⟨rfl, B2.out⟩
  | true =>
    cases hr : rightB z0 with
    | false =>
      have hr0 := Lib.hid hr
      clear hr
      obtain ⟨x, hx⟩ : ∃ x, fullX false z0 = x := ⟨_, rfl⟩
      have PX := Lib.hid (show ∀ u, pickOf [x, u] 0 h = (0, false) from fun u => by rw [← hx]; rfl)
      go_enter Try.func6, Try.ntmps6
      go_wp2_with fail
      refine (works_any _).mono ?_
      rintro e w1 ⟨rfl, hb⟩
      have B1 := Lib.hid hb
      clear hb
      have K1 := Lib.hid (check_at a1 c1 z1 true hr1 w1 (H1.out.kept B1.out))
      go_wp2_with fail
      refine K1.out.mono ?_
      rintro e w2 ⟨rfl, hb⟩
      have B2 := Lib.hid (RowG.below2 B1.out hb)
      simp only [chkV]
      have C := Lib.hid (new_stand 2 w w2 B2.out)
      rw [show (new 2 : List (Slot (List Bk))) = [.spoilt, .spoilt] from rfl] at C
      clear hb K1 B1
      go_wp2_with fail
      refine C.out.mono ?_
      rintro e w3 ⟨f, rfl, S3⟩
      have HS3 := Lib.hid S3
      clear C B2 S3
      go_wp2_with fail
      go_loopw [13] (fun i W => (i = .int .i64 0 ∧ Stand w W f [.spoilt, .spoilt]) ∨ (i = .int .i64 1 ∧ Stand w W f [x, .spoilt]) ∨ (i = .int .i64 2 ∧ Stand w W f [x, x])) (fun i _ => (2 - intOf i).toNat)
      case atStart => exact .inl ⟨rfl, HS3.out⟩
      case round =>
        clear HS3
        rcases hrel with ⟨rfl, S⟩ | ⟨rfl, S⟩ | ⟨rfl, S6⟩
        · have D4 := Lib.hid (begin_stand S 0)
          rw [show Slo.begin [.spoilt, .spoilt] 0 = (([.built, .spoilt] : List (Slot (List Bk))), true) from rfl] at D4
          go_wp2_with fail
          refine D4.out.mono ?_
          rintro e w4 ⟨rfl, S4⟩
          have D5 := Lib.hid (fill_stand S4 0 a0 c0 z0 H0.out)
          rw [fill_x0 hr0.out, hx] at D5
          clear D4 S
          go_wp2_with fail
          refine D5.out.mono ?_
          rintro e w5 ⟨rfl, S5⟩
          clear D5 S4
          go_wp2_with fail
          refine ⟨.inr (.inl ⟨by go_num, S5⟩), by simp [intOf]⟩
        · have D4 := Lib.hid (begin_stand S 1)
          rw [show Slo.begin [x, .spoilt] 1 = ([x, .built], true) from rfl] at D4
          go_wp2_with fail
          refine D4.out.mono ?_
          rintro e w4 ⟨rfl, S4⟩
          have D5 := Lib.hid (fill_stand S4 1 a0 c0 z0 H0.out)
          rw [fill_x1 hr0.out, hx] at D5
          clear D4 S
          go_wp2_with fail
          refine D5.out.mono ?_
          rintro e w5 ⟨rfl, S5⟩
          clear D5 S4
          go_wp2_with fail
          refine ⟨.inr (.inr ⟨by go_num, S5⟩), by simp [intOf]⟩
        · cases a4 with
          | true =>
            have D5 := Lib.hid (spoil_stand S6 1)
            rw [show Slo.spoil [x, x] 1 = ([x, .spoilt], true) from rfl] at D5
            go_wp2_with fail
            refine D5.out.mono ?_
            rintro e w6 ⟨rfl, S⟩
            clear D5 S6
            have D6 := Lib.hid (begin_stand S 1)
            rw [show Slo.begin [x, .spoilt] 1 = ([x, .built], true) from rfl] at D6
            go_wp2_with fail
            refine D6.out.mono ?_
            rintro e w7 ⟨rfl, S7⟩
            have D7 := Lib.hid (fill_stand S7 1 a1 c1 z1 H1.out)
            rw [fill_x1 hr1 x, show fullX true z1 = .ready z1 from rfl] at D7
            clear D6 S
            go_wp2_with fail
            refine D7.out.mono ?_
            rintro e w8 ⟨rfl, S8⟩
            have D8 := Lib.hid (pick_stand S8 1 h)
            rw [show pickOf [x, .ready z1] 1 h = (succL (ofL hsh z1) h, true) from rfl] at D8
            clear D7 S7
            go_wp2_with fail
            refine D8.out.mono ?_
            rintro e w9 ⟨rfl, S9⟩
            have D9 := Lib.hid (has_stand S9 1 id)
            rw [show hasOf [x, .ready z1] 1 id = (hasB z1 id, true) from rfl] at D9
            clear D8 S8
            go_wp2_with fail
            refine D9.out.mono ?_
            rintro e w10 ⟨rfl, S10⟩
            have D10 := Lib.hid (pick_stand S10 0 h)
            rw [PX.out _] at D10
            clear D9 S9
            go_wp2_with fail
            refine D10.out.mono ?_
            rintro e w11 ⟨rfl, S11⟩
            have K11 := Lib.hid (check_at a0 c0 z0 false hr0.out w11 (H0.out.kept S11.below))
            have B11 := Lib.hid S11.below
            clear D10 S10 S11 PX
            simp only [chkV] at K11
            go_wp2_with fail
            refine K11.out.mono ?_
            rintro e w12 ⟨rfl, hb⟩
            have B12 := Lib.hid (RowG.below2 B11.out hb)
            have R12 := Lib.hid (Rin.Pick_told a1 c1 z1 h w12 (H1.out.kept B12.out) (by omega))
            have q0 : decide (0 ≤ Pol.find z1 id 0) = hasB z1 id := rfl
            have F12 := Lib.hid (fun W (hb : Below w.heap.size w W) => Pol.Find_told a1 c1 z1 id W (H1.out.kept hb))
            generalize hasB z1 id = q at *
            generalize Pol.find z1 id 0 = k at *
            generalize succL (ofL hsh z1) h = to at *
            clear hb K11 B11
            go_wp2_with fail
            refine R12.out.mono ?_
            rintro e w13 ⟨rfl, hb⟩
            have B13 := Lib.hid (RowG.below2 B12.out hb)
            have F13 := Lib.hid (F12.out w13 B13.out)
            clear hb R12 B12 F12
            go_wp2_with fail
            refine F13.out.mono ?_
            rintro e w14 ⟨rfl, hb⟩
            have B14 := Lib.hid (RowG.below2 B13.out hb)
            clear hb F13 B13
            go_wp2_with fail
            go_ret
            exact ⟨rfl, B14.out⟩
          | false =>
            have D6 := Lib.hid (begin_stand S6 1)
            rw [show Slo.begin [x, x] 1 = ([x, .built], true) from rfl] at D6
            go_wp2_with fail
            refine D6.out.mono ?_
            rintro e w7 ⟨rfl, S7⟩
            have D7 := Lib.hid (fill_stand S7 1 a1 c1 z1 H1.out)
            rw [fill_x1 hr1 x, show fullX true z1 = .ready z1 from rfl] at D7
            clear D6 S6
            go_wp2_with fail
            refine D7.out.mono ?_
            rintro e w8 ⟨rfl, S8⟩
            have D8 := Lib.hid (pick_stand S8 1 h)
            rw [show pickOf [x, .ready z1] 1 h = (succL (ofL hsh z1) h, true) from rfl] at D8
            clear D7 S7
            go_wp2_with fail
            refine D8.out.mono ?_
            rintro e w9 ⟨rfl, S9⟩
            have D9 := Lib.hid (has_stand S9 1 id)
            rw [show hasOf [x, .ready z1] 1 id = (hasB z1 id, true) from rfl] at D9
            clear D8 S8
            go_wp2_with fail
            refine D9.out.mono ?_
            rintro e w10 ⟨rfl, S10⟩
            have D10 := Lib.hid (pick_stand S10 0 h)
            rw [PX.out _] at D10
            clear D9 S9
            go_wp2_with fail
            refine D10.out.mono ?_
            rintro e w11 ⟨rfl, S11⟩
            have K11 := Lib.hid (check_at a0 c0 z0 false hr0.out w11 (H0.out.kept S11.below))
            have B11 := Lib.hid S11.below
            clear D10 S10 S11 PX
            simp only [chkV] at K11
            go_wp2_with fail
            refine K11.out.mono ?_
            rintro e w12 ⟨rfl, hb⟩
            have B12 := Lib.hid (RowG.below2 B11.out hb)
            have R12 := Lib.hid (Rin.Pick_told a1 c1 z1 h w12 (H1.out.kept B12.out) (by omega))
            have q0 : decide (0 ≤ Pol.find z1 id 0) = hasB z1 id := rfl
            have F12 := Lib.hid (fun W (hb : Below w.heap.size w W) => Pol.Find_told a1 c1 z1 id W (H1.out.kept hb))
            generalize hasB z1 id = q at *
            generalize Pol.find z1 id 0 = k at *
            generalize succL (ofL hsh z1) h = to at *
            clear hb K11 B11
            go_wp2_with fail
            refine R12.out.mono ?_
            rintro e w13 ⟨rfl, hb⟩
            have B13 := Lib.hid (RowG.below2 B12.out hb)
            have F13 := Lib.hid (F12.out w13 B13.out)
            clear hb R12 B12 F12
            go_wp2_with fail
            refine F13.out.mono ?_
            rintro e w14 ⟨rfl, hb⟩
            have B14 := Lib.hid (RowG.below2 B13.out hb)
            clear hb F13 B13
            go_wp2_with fail
            go_ret
            exact ⟨rfl, B14.out⟩
    | true =>
      have hr0 := Lib.hid hr
      clear hr
      obtain ⟨x, hx⟩ : ∃ x, fullX true z0 = x := ⟨_, rfl⟩
      have PX := Lib.hid (show ∀ u, pickOf [x, u] 0 h = (succL (ofL hsh z0) h, true) from fun u => by rw [← hx]; rfl)
      go_enter Try.func6, Try.ntmps6
      go_wp2_with fail
      refine (works_any _).mono ?_
      rintro e w1 ⟨rfl, hb⟩
      have B1 := Lib.hid hb
      clear hb
      have K1 := Lib.hid (check_at a1 c1 z1 true hr1 w1 (H1.out.kept B1.out))
      go_wp2_with fail
      refine K1.out.mono ?_
      rintro e w2 ⟨rfl, hb⟩
      have B2 := Lib.hid (RowG.below2 B1.out hb)
      simp only [chkV]
      have C := Lib.hid (new_stand 2 w w2 B2.out)
      rw [show (new 2 : List (Slot (List Bk))) = [.spoilt, .spoilt] from rfl] at C
      clear hb K1 B1
      go_wp2_with fail
      refine C.out.mono ?_
      rintro e w3 ⟨f, rfl, S3⟩
      have HS3 := Lib.hid S3
      clear C B2 S3
      go_wp2_with fail
      go_loopw [13] (fun i W => (i = .int .i64 0 ∧ Stand w W f [.spoilt, .spoilt]) ∨ (i = .int .i64 1 ∧ Stand w W f [x, .spoilt]) ∨ (i = .int .i64 2 ∧ Stand w W f [x, x])) (fun i _ => (2 - intOf i).toNat)
      case atStart => exact .inl ⟨rfl, HS3.out⟩
      case round =>
        clear HS3
        rcases hrel with ⟨rfl, S⟩ | ⟨rfl, S⟩ | ⟨rfl, S6⟩
        · have D4 := Lib.hid (begin_stand S 0)
          rw [show Slo.begin [.spoilt, .spoilt] 0 = (([.built, .spoilt] : List (Slot (List Bk))), true) from rfl] at D4
          go_wp2_with fail
          refine D4.out.mono ?_
          rintro e w4 ⟨rfl, S4⟩
          have D5 := Lib.hid (fill_stand S4 0 a0 c0 z0 H0.out)
          rw [fill_x0 hr0.out, hx] at D5
          clear D4 S
          go_wp2_with fail
          refine D5.out.mono ?_
          rintro e w5 ⟨rfl, S5⟩
          clear D5 S4
          go_wp2_with fail
          refine ⟨.inr (.inl ⟨by go_num, S5⟩), by simp [intOf]⟩
        · have D4 := Lib.hid (begin_stand S 1)
          rw [show Slo.begin [x, .spoilt] 1 = ([x, .built], true) from rfl] at D4
          go_wp2_with fail
          refine D4.out.mono ?_
          rintro e w4 ⟨rfl, S4⟩
          have D5 := Lib.hid (fill_stand S4 1 a0 c0 z0 H0.out)
          rw [fill_x1 hr0.out, hx] at D5
          clear D4 S
          go_wp2_with fail
          refine D5.out.mono ?_
          rintro e w5 ⟨rfl, S5⟩
          clear D5 S4
          go_wp2_with fail
          refine ⟨.inr (.inr ⟨by go_num, S5⟩), by simp [intOf]⟩
        · cases a4 with
          | true =>
            have D5 := Lib.hid (spoil_stand S6 1)
            rw [show Slo.spoil [x, x] 1 = ([x, .spoilt], true) from rfl] at D5
            go_wp2_with fail
            refine D5.out.mono ?_
            rintro e w6 ⟨rfl, S⟩
            clear D5 S6
            have D6 := Lib.hid (begin_stand S 1)
            rw [show Slo.begin [x, .spoilt] 1 = ([x, .built], true) from rfl] at D6
            go_wp2_with fail
            refine D6.out.mono ?_
            rintro e w7 ⟨rfl, S7⟩
            have D7 := Lib.hid (fill_stand S7 1 a1 c1 z1 H1.out)
            rw [fill_x1 hr1 x, show fullX true z1 = .ready z1 from rfl] at D7
            clear D6 S
            go_wp2_with fail
            refine D7.out.mono ?_
            rintro e w8 ⟨rfl, S8⟩
            have D8 := Lib.hid (pick_stand S8 1 h)
            rw [show pickOf [x, .ready z1] 1 h = (succL (ofL hsh z1) h, true) from rfl] at D8
            clear D7 S7
            go_wp2_with fail
            refine D8.out.mono ?_
            rintro e w9 ⟨rfl, S9⟩
            have D9 := Lib.hid (has_stand S9 1 id)
            rw [show hasOf [x, .ready z1] 1 id = (hasB z1 id, true) from rfl] at D9
            clear D8 S8
            go_wp2_with fail
            refine D9.out.mono ?_
            rintro e w10 ⟨rfl, S10⟩
            have D10 := Lib.hid (pick_stand S10 0 h)
            rw [PX.out _] at D10
            clear D9 S9
            go_wp2_with fail
            refine D10.out.mono ?_
            rintro e w11 ⟨rfl, S11⟩
            have K11 := Lib.hid (check_at a0 c0 z0 true hr0.out w11 (H0.out.kept S11.below))
            have B11 := Lib.hid S11.below
            clear D10 S10 S11 PX
            simp only [chkV] at K11
            go_wp2_with fail
            refine K11.out.mono ?_
            rintro e w12 ⟨rfl, hb⟩
            have B12 := Lib.hid (RowG.below2 B11.out hb)
            have R12 := Lib.hid (Rin.Pick_told a1 c1 z1 h w12 (H1.out.kept B12.out) (by omega))
            have q0 : decide (0 ≤ Pol.find z1 id 0) = hasB z1 id := rfl
            have F12 := Lib.hid (fun W (hb : Below w.heap.size w W) => Pol.Find_told a1 c1 z1 id W (H1.out.kept hb))
            generalize hasB z1 id = q at *
            generalize Pol.find z1 id 0 = k at *
            generalize succL (ofL hsh z1) h = to at *
            clear hb K11 B11
            go_wp2_with fail
            refine R12.out.mono ?_
            rintro e w13 ⟨rfl, hb⟩
            have B13 := Lib.hid (RowG.below2 B12.out hb)
            have F13 := Lib.hid (F12.out w13 B13.out)
            clear hb R12 B12 F12
            go_wp2_with fail
            refine F13.out.mono ?_
            rintro e w14 ⟨rfl, hb⟩
            have B14 := Lib.hid (RowG.below2 B13.out hb)
            clear hb F13 B13
            have R14 := Lib.hid (Rin.Pick_told a0 c0 z0 h w14 (H0.out.kept B14.out) (by omega))
            generalize succL (ofL hsh z0) h = was at *
            go_wp2_with fail
            refine R14.out.mono ?_
            rintro e w15 ⟨rfl, hb⟩
            have B15 := Lib.hid (RowG.below2 B14.out hb)
            clear hb R14 B14
            go_wp2_with fail
            go_ret
            exact ⟨rfl, B15.out⟩
          | false =>
            have D6 := Lib.hid (begin_stand S6 1)
            rw [show Slo.begin [x, x] 1 = ([x, .built], true) from rfl] at D6
            go_wp2_with fail
            refine D6.out.mono ?_
            rintro e w7 ⟨rfl, S7⟩
            have D7 := Lib.hid (fill_stand S7 1 a1 c1 z1 H1.out)
            rw [fill_x1 hr1 x, show fullX true z1 = .ready z1 from rfl] at D7
            clear D6 S6
            go_wp2_with fail
            refine D7.out.mono ?_
            rintro e w8 ⟨rfl, S8⟩
            have D8 := Lib.hid (pick_stand S8 1 h)
            rw [show pickOf [x, .ready z1] 1 h = (succL (ofL hsh z1) h, true) from rfl] at D8
            clear D7 S7
            go_wp2_with fail
            refine D8.out.mono ?_
            rintro e w9 ⟨rfl, S9⟩
            have D9 := Lib.hid (has_stand S9 1 id)
            rw [show hasOf [x, .ready z1] 1 id = (hasB z1 id, true) from rfl] at D9
            clear D8 S8
            go_wp2_with fail
            refine D9.out.mono ?_
            rintro e w10 ⟨rfl, S10⟩
            have D10 := Lib.hid (pick_stand S10 0 h)
            rw [PX.out _] at D10
            clear D9 S9
            go_wp2_with fail
            refine D10.out.mono ?_
            rintro e w11 ⟨rfl, S11⟩
            have K11 := Lib.hid (check_at a0 c0 z0 true hr0.out w11 (H0.out.kept S11.below))
            have B11 := Lib.hid S11.below
            clear D10 S10 S11 PX
            simp only [chkV] at K11
            go_wp2_with fail
            refine K11.out.mono ?_
            rintro e w12 ⟨rfl, hb⟩
            have B12 := Lib.hid (RowG.below2 B11.out hb)
            have R12 := Lib.hid (Rin.Pick_told a1 c1 z1 h w12 (H1.out.kept B12.out) (by omega))
            have q0 : decide (0 ≤ Pol.find z1 id 0) = hasB z1 id := rfl
            have F12 := Lib.hid (fun W (hb : Below w.heap.size w W) => Pol.Find_told a1 c1 z1 id W (H1.out.kept hb))
            generalize hasB z1 id = q at *
            generalize Pol.find z1 id 0 = k at *
            generalize succL (ofL hsh z1) h = to at *
            clear hb K11 B11
            go_wp2_with fail
            refine R12.out.mono ?_
            rintro e w13 ⟨rfl, hb⟩
            have B13 := Lib.hid (RowG.below2 B12.out hb)
            have F13 := Lib.hid (F12.out w13 B13.out)
            clear hb R12 B12 F12
            go_wp2_with fail
            refine F13.out.mono ?_
            rintro e w14 ⟨rfl, hb⟩
            have B14 := Lib.hid (RowG.below2 B13.out hb)
            clear hb F13 B13
            have R14 := Lib.hid (Rin.Pick_told a0 c0 z0 h w14 (H0.out.kept B14.out) (by omega))
            generalize succL (ofL hsh z0) h = was at *
            go_wp2_with fail
            refine R14.out.mono ?_
            rintro e w15 ⟨rfl, hb⟩
            have B15 := Lib.hid (RowG.below2 B14.out hb)
            clear hb R14 B14
            go_wp2_with fail
            go_ret
            exact ⟨rfl, B15.out⟩

theorem own_SlotsAnew : ownKnob Try.prog.godebug = none := by kernel_rfl
set_option maxRecDepth 100000 in
set_option maxHeartbeats 800000 in
theorem lifted_SlotsAnew (os : Os) (started : os.Started) (H : Type) (enc : TypeId × Value → H) :
    ReturnsInHanded {} Try.checked os 6 .any (Rows.slotsAnewSpec.pre6 enc Try.prog Try.f6 Rows.slotsAnewRow.domain false) (Rows.slotsAnewSpec.post enc Try.prog Try.f6 false true false false) := by
  refine returnsInHanded_of_change (C := Try.checked) own_SlotsAnew started (by kernel_rfl) Try.func6
    (ChangeSpec.witness6 (enc := enc) (C := Try.checked) false ⟨#[], #[.slice none 0 0, .slice none 0 0, .int .i64 0, .int .u64 0, .bool false], []⟩ 8 (by kernel_rfl) (by kernel_rfl) (by kernel_rfl) (by kernel_rfl)) ?_
  intro W base args ds gs before hval0 hW _ _
  have hval : ∀ (j : Nat) t v, Try.f6.params[j]? = some t → args[j]? = some v → Value.okWide Try.prog W .any base t v := hval0
  have hW' := hW
  obtain ⟨p, q, hA0, hV, rfl, _, _⟩ := hW
  have hA : DataW.TrodAll enc Try.prog W 0 (fun _ => true) true Try.f6.params.toList args.toList ds p := hA0
  rw [Try.params6] at hA hval
  obtain ⟨v0, vs0, d0, ds0, p0, q0, ha0, rfl, rfl, t0, r0⟩ := trodAll_cons hA
  obtain ⟨v1, vs1, d1, ds1, p1, q1, ha1, rfl, rfl, t1, r1⟩ := trodAll_cons r0
  obtain ⟨v2, vs2, d2, ds2, p2, q2, ha2, rfl, rfl, t2, r2⟩ := trodAll_cons r1
  obtain ⟨v3, vs3, d3, ds3, p3, q3, ha3, rfl, rfl, t3, r3⟩ := trodAll_cons r2
  obtain ⟨v4, vs4, d4, ds4, p4, q4, ha4, rfl, rfl, t4, r4⟩ := trodAll_cons r3
  obtain ⟨rfl, rfl, rfl⟩ := trodAll_nil r4
  subst ha4
  subst ha3
  subst ha2
  subst ha1
  obtain rfl : args = #[v0, v1, v2, v3, v4] := by cases args; simp_all
  obtain ⟨rfl, rfl⟩ := trodVars_none hV
  have k0 := t0
  have lt0 : ∀ x ∈ p0, x.block < W.heap.size := by obtain ⟨m, hm⟩ := k0; exact DataW.trod_lt m _ _ _ hm
  obtain ⟨a0, c0, z0, rfl, h0, g0⟩ := Stp.open_pool (hval 0 23 v0 rfl rfl) t0
  have k1 := t1
  have lt1 : ∀ x ∈ p1, x.block < W.heap.size := by obtain ⟨m, hm⟩ := k1; exact DataW.trod_lt m _ _ _ hm
  obtain ⟨a1, c1, z1, rfl, h1, g1⟩ := Stp.open_pool (hval 1 23 v1 rfl rfl) t1
  obtain ⟨a2, rfl, rfl, rfl, h2⟩ := open_int Try.underlying3 (hval 2 3 v2 rfl rfl) t2
  obtain ⟨a3, rfl, rfl, rfl, h3⟩ := open_int Try.underlying24 (hval 3 24 v3 rfl rfl) t3
  obtain ⟨a4, rfl, rfl, rfl⟩ := open_bool Try.underlying4 (hval 4 4 v4 rfl rfl) t4
  clear hA0 hval0
  refine (walk_SlotsAnew a0 c0 z0 a1 c1 z1 a2 a3 a4 W h0 g0 h1 g1 h2 h3).mono fun e W' ⟨he, hnx⟩ => ?_
  subst he
  exact ⟨_, rfl, ⟨_, _, _, [], _, [], hW', trodAll_cons_mk (shut_bool Try.underlying4 _) trodAll_mk0, (trodAll_cons_mk (Below.trod Stp.laidOut (by kernel_rfl) (of_decide_eq_true (by kernel_rfl)) k0 hnx lt0) (trodAll_cons_mk (Below.trod Stp.laidOut (by kernel_rfl) (of_decide_eq_true (by kernel_rfl)) k1 hnx lt1) (trodAll_cons_mk (shut_int Try.underlying3 h2) (trodAll_cons_mk (shut_int Try.underlying24 h3) (trodAll_cons_mk (shut_bool Try.underlying4 _) trodAll_mk0))))), rfl, hnx.frame _, fun h => by cases h⟩⟩

theorem slotsAnew_holds : Rows.SlotsAnewSaid :=
  OpenClaim.holds_of_wide 6 Try.f6 rfl rfl rfl rfl rfl rfl rfl ⟨rfl, rfl, rfl, rfl, rfl⟩ rfl rfl rfl rfl rfl (by kernel_rfl) Try.func6 (by kernel_rfl)
    (of_decide_eq_true (by kernel_rfl)) (by unfold Func.isWrapper; first | (rw [if_pos (by decide +kernel)]; kernel_rfl) | (rw [if_neg (by decide +kernel)]; exact ⟨rfl, rfl⟩))
    (fun os started H enc _ => lifted_SlotsAnew os started H enc)

#print axioms slotsAnew_holds
end Go.Proofs.Ytefdnnmgmdaapaa
