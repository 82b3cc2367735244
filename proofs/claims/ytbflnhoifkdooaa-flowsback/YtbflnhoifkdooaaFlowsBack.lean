/-
  FlowsBack: for every t, key, backend, deadline and other the law FlowsBack answers true: what is put and deleted has changed nothing. No condition.
-/
import Derived.Test.YtbflnhoifkdooaaRows
import Derived.Test.YtbflnhoifkdooaaBTab
import Derived.Test.YtbflnhoifkdooaaFloW
import Derived.Test.YtbflnhoifkdooaaBFlp
import Derived.Test.YtbflnhoifkdooaaFloS
import Derived.ProofKit
import Derived.OpenShut
import Derived.ChangeMaps5
import Derived.BigQuiet
import Derived.WalkSmall
namespace Go.Proofs.Ytbflnhoifkdooaa
open Go.ChangeShapes Go.WideShapes Go.ChangeAt Go.RowKit Go.Shelf
open Go.ChangeMaps (open_string shut_string)
open Prb RowG Tab Flo Rgn

set_option maxRecDepth 100000 in
set_option maxHeartbeats 2000000 in
theorem walk_FlowsBack (a0 : Option Addr) (c0 : Nat) (z0 : List Ent) (a1 : ByteArray) (a2 : Int) (a3 : Int) (a4 : ByteArray) (w : World) (h0 : Lies entK w a0 c0 z0) (g0 : ∀ x ∈ z0, EntOk x) (h1 : a1.size ≤ maxLen) (_h2 : (Lit.int .i64 a2).wf = true) (_h3 : (Lit.int .i64 a3).wf = true) (h4 : a4.size ≤ maxLen) :
    Calls Try.prog 8 #[rowV a0 c0 z0, .string a1, .int .i64 a2, .int .i64 a3, .string a4] w fun e W' => e = .returned (.bool true) ∧ Below w.heap.size w W' := by
  have H0 := Lib.hid h0
  have hC0 := h0.len
  have hM0 := h0.max
  unfold maxLen at hM0 h1 h4
  clear h0
  go_enter Try.func8, Try.ntmps8
  go_wp2_with fail
  refine (works_any _).mono ?_
  rintro e w1 ⟨rfl, hb⟩
  have B1 := Lib.hid hb
  have L0 := Lib.hid (H0.out.kept hb)
  clear hb H0
  go_wp2_with fail
  refine (few_any a0 c0 z0 _ L0.out g0).mono ?_
  rintro e w2 ⟨rfl, rfl⟩
  by_cases f0 : ¬ few64 z0
  · rw [decide_eq_false f0]
    go_wp2_with fail
    go_ret
    exact ⟨rfl, B1.out⟩
  replace f0 := Decidable.not_not.1 f0
  rw [decide_eq_true f0]
  have hl0 := f0.2
  have S0 := Lib.hid (show Short 60 z0 from f0.1.2)
  clear f0 g0
  by_cases b1 : 60 < a1.size
  · have d0 : decide ((60 : Int) < (a1.size : Int)) = true := decide_eq_true (by omega)
    have d0n : decide (60 < a1.size) = true := decide_eq_true b1
    go_wp2_with fail
    go_ret
    exact ⟨rfl, B1.out⟩
  have db1 : decide ((60 : Int) < (a1.size : Int)) = false := decide_eq_false (by omega)
  have eb1 : decide (60 < a1.size) = false := decide_eq_false b1
  by_cases b4 : 60 < a4.size
  · have d0 : decide ((60 : Int) < (a4.size : Int)) = true := decide_eq_true (by omega)
    have d0n : decide (60 < a4.size) = true := decide_eq_true b4
    go_wp2_with fail
    go_ret
    exact ⟨rfl, B1.out⟩
  have db4 : decide ((60 : Int) < (a4.size : Int)) = false := decide_eq_false (by omega)
  have eb4 : decide (60 < a4.size) = false := decide_eq_false b4
  go_wp2_with fail
  by_cases r0 : Right home z0
  case neg =>
    refine (Right_told a0 c0 z0 false (by simp [r0]) _ L0.out (S0.out.wide (by omega))).mono ?_
    rintro e w2 ⟨rfl, hb⟩
    have L0 := Lib.hid (L0.out.kept hb)
    have B1 := Lib.hid (below2 B1.out hb)
    clear hb
    go_wp2_with fail
    go_ret
    exact ⟨rfl, B1.out⟩
  refine (Right_told a0 c0 z0 true (by simp [r0]) _ L0.out (S0.out.wide (by omega))).mono ?_
  rintro e w2 ⟨rfl, hb⟩
  have L0 := Lib.hid (L0.out.kept hb)
  have B1 := Lib.hid (below2 B1.out hb)
  clear hb
  go_wp2_with fail
  refine (Find_told a0 c0 z0 a1 _ L0.out (by omega)).mono ?_
  rintro e w3 ⟨rfl, hb⟩
  have L0 := Lib.hid (L0.out.kept hb)
  have B1 := Lib.hid (below2 B1.out hb)
  clear hb
  cases hn : find home z0 a1 with
  | some q =>
    rw [show zOf (some q) = (q : Int) from rfl]
    have dq : decide (0 ≤ (q : Int)) = true := decide_eq_true (by omega)
    go_wp2_with fail
    go_ret
    exact ⟨rfl, B1.out⟩
  | none =>
    rw [show zOf none = -1 from rfl]
    go_wp2_with fail
    refine (Put_told a0 c0 z0 a1 a2 a3 _ L0.out (by omega) (by omega)).mono ?_
    rintro e w4 ⟨v, rfl, ⟨aU, cU, rfl, hl⟩, hb⟩
    have L0 := Lib.hid (L0.out.kept hb)
    have LU := Lib.hid hl
    have B1 := Lib.hid (below2 B1.out hb)
    clear hb hl
    cases hp : place z0 a1 with
    | none =>
      obtain ⟨p1, p2, p3, p4⟩ := put_no hp a2 a3
      rw [p2]
      have hkl : ((keys z0).length : Int) = (z0.length : Int) := by rw [keys_length, p4]
      clear hp p1 p2 p3 p4 hn
      go_wp2_with fail
      refine (Keys_told a0 c0 z0 _ L0.out (by omega)).mono ?_
      rintro e w5 ⟨v, rfl, ⟨aK, cK, rfl, hl⟩, hb⟩
      have L0 := Lib.hid (L0.out.kept hb)
      have LU := Lib.hid (LU.out.kept hb)
      have LK := Lib.hid hl
      have B1 := Lib.hid (below2 B1.out hb)
      clear hb hl
      have dk : (((keys z0).length : Int) == (z0.length : Int)) = true := by rw [hkl]; exact beq_self_eq_true _
      have dk2 : ((keys z0).length == z0.length) = true := by simp; omega
      clear hkl
      go_wp2_with fail
      go_ret
      exact ⟨rfl, B1.out⟩
    | some q0 =>
      obtain ⟨p1, p2⟩ := put_yes hp a2 a3
      have hlU := put_length p1
      obtain ⟨⟨x, hx⟩, BK⟩ := put_back hl0 r0 hn p1
      have BK := Lib.hid BK
      have SU := Lib.hid (short_put (b := a2) (d := a3) S0.out (show a1.size ≤ 60 by omega))
      rw [p2]
      clear hp p1 p2 hn
      generalize putT z0 a1 a2 a3 = U at *
      go_wp2_with fail
      refine (Delete_told aU cU U a1 _ LU.out (by omega) (SU.out.wide (by omega)) (by omega)).mono ?_
      rintro e w5 ⟨v, rfl, ⟨aV, cV, rfl, hl⟩, hb⟩
      have L0 := Lib.hid (L0.out.kept hb)
      have LU := Lib.hid (LU.out.kept hb)
      have LV := Lib.hid hl
      have B1 := Lib.hid (below2 B1.out hb)
      clear hb hl
      rw [hx, show (some x).isSome = true from rfl]
      clear hx SU
      have hlV := BK.out.len
      have KL := Lib.hid (show (keys (delT U a1)).length = (keys z0).length by rw [keys_length, keys_length, BK.out.cnt])
      generalize delT U a1 = V at *
      go_wp2_with fail
      refine (Find_told a0 c0 z0 a4 _ L0.out (by omega)).mono ?_
      rintro e w6 ⟨rfl, hb⟩
      have L0 := Lib.hid (L0.out.kept hb)
      have LV := Lib.hid (LV.out.kept hb)
      have B1 := Lib.hid (below2 B1.out hb)
      clear hb
      go_wp2_with fail
      refine (Find_told aV cV V a4 _ LV.out (by omega)).mono ?_
      rintro e w7 ⟨rfl, hb⟩
      have L0 := Lib.hid (L0.out.kept hb)
      have LV := Lib.hid (LV.out.kept hb)
      have B1 := Lib.hid (below2 B1.out hb)
      clear hb
      cases hw : find home z0 a4 with
      | none =>
        rw [(BK.out.none a4).1 hw, show zOf none = -1 from rfl]
        clear hw
        have x1a : decide ((z0.length : Int) ≤ -1) = false := decide_eq_false (by omega)
        have x2a : decide ((V.length : Int) ≤ -1) = false := decide_eq_false (by omega)
        have KV := fun W (hb : Below w7.heap.size w7 W) => Keys_told _ cV V W (LV.out.kept hb) (by omega)
        have KT := fun W (hb : Below w7.heap.size w7 W) => Keys_told _ c0 z0 W (L0.out.kept hb) (by omega)
        go_wp2_with fail
        refine wp_region_val (spV [.is (.bool true), .is (.bool true), .is (.int .i64 (-1)), .is (.bool true), .is (.bool true), .is (undef), .is (undef), .is (undef), .is (undef), .is (undef), .is (undef), .is (undef), .is (undef), .is (undef), .is (.bool true), .is (.bool true), .is (.bool true), .is (rowV aV cV V), .ints (keys V), .is (.int .i64 (((keys V) : List _).length : Nat)), .is (rowV a0 c0 z0), .ints (keys z0), .is (.int .i64 (((keys z0) : List _).length : Nat)), .is (.bool true), .is (.bool true), .is (.bool true)]) (spV_kept _) (by kernel_rfl) (by kernel_rfl) (by kernel_rfl) ?step ?done
        case step =>
          intro d a W i hi hall hI
          replace hi : i < 26 := hi
          have b0 := hI.below
          obtain rfl | rfl | rfl | rfl | rfl | rfl | rfl | rfl | rfl | rfl | rfl | rfl | rfl | rfl | rfl | rfl | rfl | rfl | rfl | rfl | rfl | rfl | rfl | rfl | rfl | rfl : i = 0 ∨ i = 1 ∨ i = 2 ∨ i = 3 ∨ i = 4 ∨ i = 5 ∨ i = 6 ∨ i = 7 ∨ i = 8 ∨ i = 9 ∨ i = 10 ∨ i = 11 ∨ i = 12 ∨ i = 13 ∨ i = 14 ∨ i = 15 ∨ i = 16 ∨ i = 17 ∨ i = 18 ∨ i = 19 ∨ i = 20 ∨ i = 21 ∨ i = 22 ∨ i = 23 ∨ i = 24 ∨ i = 25 := by omega
          · have e11 : a.tmps[11]?.getD undef = .bool true := hI.old 11 (unwritten_of (by kernel_rfl) d)
            refine StepV.done rfl (wanted_free rfl) fun K hK => ?_
            exact op_move rfl (hK _ _ (Below.refl _ _) e11)
          · have f := hI.val 0 98 rfl (hall 0 (by kernel_rfl))
            refine StepV.done rfl (wanted_free rfl) fun K hK => ?_
            exact op_move rfl (hK _ _ (Below.refl _ _) f)
          · have g : a.tmps[99]?.getD undef = .bool true := hI.val 1 99 rfl (hall 1 (by kernel_rfl))
            have e16 : a.tmps[16]?.getD undef = .int .i64 (-1) := hI.old 16 (unwritten_of (by kernel_rfl) d)
            refine StepV.done rfl (by rw [wanted_if (j := 1) (s := 99) (want := true) (b := true) rfl rfl g]; rfl) fun K hK => ?_
            exact op_move rfl (hK _ _ (Below.refl _ _) e16)
          · have g : a.tmps[99]?.getD undef = .bool true := hI.val 1 99 rfl (hall 1 (by kernel_rfl))
            have e100 : a.tmps[100]?.getD undef = .int .i64 (-1) := hI.val 2 100 rfl (hall 2 (by kernel_rfl))
            refine StepV.done rfl (by rw [wanted_if (j := 1) (s := 99) (want := true) (b := true) rfl rfl g]; rfl) fun K hK => ?_
            clear hall hI
            refine op_run (.bool true) W ?_ (hK _ _ (Below.refl _ _) rfl)
            clear hK
            simp only [List.getElem_toArray, List.getElem_cons_zero, List.getElem_cons_succ, execOp, Act.eval]
            go_simp
          · have g : a.tmps[99]?.getD undef = .bool true := hI.val 1 99 rfl (hall 1 (by kernel_rfl))
            have f := hI.val 3 101 rfl (hall 3 (by kernel_rfl))
            refine StepV.done rfl (by rw [wanted_if (j := 1) (s := 99) (want := true) (b := true) rfl rfl g]; rfl) fun K hK => ?_
            exact op_move rfl (hK _ _ (Below.refl _ _) f)
          · have g : a.tmps[102]?.getD undef = .bool true := hI.val 4 102 rfl (hall 4 (by kernel_rfl))
            exact StepV.left rfl (by rw [wanted_if (j := 4) (s := 102) (want := false) (b := true) rfl rfl g]; rfl) rfl
          · have g : a.tmps[102]?.getD undef = .bool true := hI.val 4 102 rfl (hall 4 (by kernel_rfl))
            exact StepV.left rfl (by rw [wanted_if (j := 4) (s := 102) (want := false) (b := true) rfl rfl g]; rfl) rfl
          · have g : a.tmps[102]?.getD undef = .bool true := hI.val 4 102 rfl (hall 4 (by kernel_rfl))
            exact StepV.left rfl (by rw [wanted_if (j := 4) (s := 102) (want := false) (b := true) rfl rfl g]; rfl) rfl
          · have g : a.tmps[102]?.getD undef = .bool true := hI.val 4 102 rfl (hall 4 (by kernel_rfl))
            exact StepV.left rfl (by rw [wanted_if (j := 4) (s := 102) (want := false) (b := true) rfl rfl g]; rfl) rfl
          · have g : a.tmps[102]?.getD undef = .bool true := hI.val 4 102 rfl (hall 4 (by kernel_rfl))
            exact StepV.left rfl (by rw [wanted_if (j := 4) (s := 102) (want := false) (b := true) rfl rfl g]; rfl) rfl
          · have g : a.tmps[102]?.getD undef = .bool true := hI.val 4 102 rfl (hall 4 (by kernel_rfl))
            exact StepV.left rfl (by rw [wanted_if (j := 4) (s := 102) (want := false) (b := true) rfl rfl g]; rfl) rfl
          · have g : a.tmps[102]?.getD undef = .bool true := hI.val 4 102 rfl (hall 4 (by kernel_rfl))
            exact StepV.left rfl (by rw [wanted_if (j := 4) (s := 102) (want := false) (b := true) rfl rfl g]; rfl) rfl
          · have g : a.tmps[102]?.getD undef = .bool true := hI.val 4 102 rfl (hall 4 (by kernel_rfl))
            exact StepV.left rfl (by rw [wanted_if (j := 4) (s := 102) (want := false) (b := true) rfl rfl g]; rfl) rfl
          · have g : a.tmps[102]?.getD undef = .bool true := hI.val 4 102 rfl (hall 4 (by kernel_rfl))
            exact StepV.left rfl (by rw [wanted_if (j := 4) (s := 102) (want := false) (b := true) rfl rfl g]; rfl) rfl
          · have g : a.tmps[99]?.getD undef = .bool true := hI.val 1 99 rfl (hall 1 (by kernel_rfl))
            have e102 : a.tmps[102]?.getD undef = .bool true := hI.val 4 102 rfl (hall 4 (by kernel_rfl))
            refine StepV.done rfl (by rw [wanted_if (j := 1) (s := 99) (want := true) (b := true) rfl rfl g]; rfl) fun K hK => ?_
            exact op_pick_yes rfl e102 (hK _ _ (Below.refl _ _) rfl)
          · have e99 : a.tmps[99]?.getD undef = .bool true := hI.val 1 99 rfl (hall 1 (by kernel_rfl))
            have e112 : a.tmps[112]?.getD undef = .bool true := hI.val 14 112 rfl (hall 14 (by kernel_rfl))
            refine StepV.done rfl (wanted_free rfl) fun K hK => ?_
            exact op_pick_yes rfl e99 (hK _ _ (Below.refl _ _) ((eval_tmp 112).trans e112))
          · have f := hI.val 15 113 rfl (hall 15 (by kernel_rfl))
            refine StepV.done rfl (wanted_free rfl) fun K hK => ?_
            exact op_move rfl (hK _ _ (Below.refl _ _) f)
          · have g : a.tmps[114]?.getD undef = .bool true := hI.val 16 114 rfl (hall 16 (by kernel_rfl))
            have e14 : a.tmps[14]?.getD undef = rowV aV cV V := hI.old 14 (unwritten_of (by kernel_rfl) d)
            refine StepV.done rfl (by rw [wanted_if (j := 16) (s := 114) (want := true) (b := true) rfl rfl g]; rfl) fun K hK => ?_
            exact op_move rfl (hK _ _ (Below.refl _ _) e14)
          · have g : a.tmps[114]?.getD undef = .bool true := hI.val 16 114 rfl (hall 16 (by kernel_rfl))
            have e115 : a.tmps[115]?.getD undef = rowV aV cV V := hI.val 17 115 rfl (hall 17 (by kernel_rfl))
            refine StepV.done rfl (by rw [wanted_if (j := 16) (s := 114) (want := true) (b := true) rfl rfl g]; rfl) fun K hK => ?_
            have C := (KV W b0).mono (R' := fun e W2 => ∃ v, e = .returned v ∧ (∃ p c, v = intsV p c (keys V) ∧ LiesI W2 p c (keys V)) ∧ Below W.heap.size W W2) (fun e W2 ⟨v, he, hg, hb⟩ => ⟨v, he, hg, hb⟩)
            refine op_call 22 #[rowV aV cV V] (fun v W2 => (∃ p c, v = intsV p c (keys V) ∧ LiesI W2 p c (keys V)) ∧ Below W.heap.size W W2) ?_ C (fun v W2 ⟨h1, h2⟩ => hK v W2 h2 h1)
            clear hall hI hK C
            simp only [List.getElem_toArray, List.getElem_cons_zero, List.getElem_cons_succ, execOp]
            go_simp
          · have g : a.tmps[114]?.getD undef = .bool true := hI.val 16 114 rfl (hall 16 (by kernel_rfl))
            obtain ⟨p116, q116, e116, l116⟩ : ∃ p c, a.tmps[116]?.getD undef = intsV p c (keys V) ∧ LiesI W p c (keys V) := hI.val 18 116 rfl (hall 18 (by kernel_rfl))
            refine StepV.done rfl (by rw [wanted_if (j := 16) (s := 114) (want := true) (b := true) rfl rfl g]; rfl) fun K hK => ?_
            clear hall hI
            refine op_run (.int .i64 (((keys V) : List _).length : Nat)) W ?_ (hK _ _ (Below.refl _ _) rfl)
            clear hK
            simp only [List.getElem_toArray, List.getElem_cons_zero, List.getElem_cons_succ, execOp]
            go_simp
          · have g : a.tmps[114]?.getD undef = .bool true := hI.val 16 114 rfl (hall 16 (by kernel_rfl))
            have e0 : a.tmps[0]?.getD undef = rowV a0 c0 z0 := hI.old 0 (unwritten_of (by kernel_rfl) d)
            refine StepV.done rfl (by rw [wanted_if (j := 16) (s := 114) (want := true) (b := true) rfl rfl g]; rfl) fun K hK => ?_
            exact op_move rfl (hK _ _ (Below.refl _ _) e0)
          · have g : a.tmps[114]?.getD undef = .bool true := hI.val 16 114 rfl (hall 16 (by kernel_rfl))
            have e118 : a.tmps[118]?.getD undef = rowV a0 c0 z0 := hI.val 20 118 rfl (hall 20 (by kernel_rfl))
            refine StepV.done rfl (by rw [wanted_if (j := 16) (s := 114) (want := true) (b := true) rfl rfl g]; rfl) fun K hK => ?_
            have C := (KT W b0).mono (R' := fun e W2 => ∃ v, e = .returned v ∧ (∃ p c, v = intsV p c (keys z0) ∧ LiesI W2 p c (keys z0)) ∧ Below W.heap.size W W2) (fun e W2 ⟨v, he, hg, hb⟩ => ⟨v, he, hg, hb⟩)
            refine op_call 22 #[rowV a0 c0 z0] (fun v W2 => (∃ p c, v = intsV p c (keys z0) ∧ LiesI W2 p c (keys z0)) ∧ Below W.heap.size W W2) ?_ C (fun v W2 ⟨h1, h2⟩ => hK v W2 h2 h1)
            clear hall hI hK C
            simp only [List.getElem_toArray, List.getElem_cons_zero, List.getElem_cons_succ, execOp]
            go_simp
          · have g : a.tmps[114]?.getD undef = .bool true := hI.val 16 114 rfl (hall 16 (by kernel_rfl))
            obtain ⟨p119, q119, e119, l119⟩ : ∃ p c, a.tmps[119]?.getD undef = intsV p c (keys z0) ∧ LiesI W p c (keys z0) := hI.val 21 119 rfl (hall 21 (by kernel_rfl))
            refine StepV.done rfl (by rw [wanted_if (j := 16) (s := 114) (want := true) (b := true) rfl rfl g]; rfl) fun K hK => ?_
            clear hall hI
            refine op_run (.int .i64 (((keys z0) : List _).length : Nat)) W ?_ (hK _ _ (Below.refl _ _) rfl)
            clear hK
            simp only [List.getElem_toArray, List.getElem_cons_zero, List.getElem_cons_succ, execOp]
            go_simp
          · have g : a.tmps[114]?.getD undef = .bool true := hI.val 16 114 rfl (hall 16 (by kernel_rfl))
            have e117 : a.tmps[117]?.getD undef = .int .i64 (((keys V) : List _).length : Nat) := hI.val 19 117 rfl (hall 19 (by kernel_rfl))
            have e120 : a.tmps[120]?.getD undef = .int .i64 (((keys z0) : List _).length : Nat) := hI.val 22 120 rfl (hall 22 (by kernel_rfl))
            have kl : (((keys V).length : Int) == ((keys z0).length : Int)) = true := by rw [KL.out]; exact beq_self_eq_true _
            refine StepV.done rfl (by rw [wanted_if (j := 16) (s := 114) (want := true) (b := true) rfl rfl g]; rfl) fun K hK => ?_
            clear hall hI
            refine op_run (.bool true) W ?_ (hK _ _ (Below.refl _ _) rfl)
            clear hK
            simp only [List.getElem_toArray, List.getElem_cons_zero, List.getElem_cons_succ, execOp, Act.eval]
            go_simp
          · have e114 : a.tmps[114]?.getD undef = .bool true := hI.val 16 114 rfl (hall 16 (by kernel_rfl))
            have e121 : a.tmps[121]?.getD undef = .bool true := hI.val 23 121 rfl (hall 23 (by kernel_rfl))
            refine StepV.done rfl (wanted_free rfl) fun K hK => ?_
            exact op_pick_yes rfl e114 (hK _ _ (Below.refl _ _) ((eval_tmp 121).trans e121))
          · have f := hI.val 24 122 rfl (hall 24 (by kernel_rfl))
            refine StepV.done rfl (wanted_free rfl) fun K hK => ?_
            exact op_assign rfl (hK _ _ (Below.refl _ _) f)
        case done =>
          intro a W hv hI
          obtain ⟨t, df⟩ := a
          obtain rfl : df = [] := hI.defs
          have hz : t.size = 123 := hI.size
          have b0 := hI.below
          have e10 : t[10]?.getD undef = .bool true := hv 25 10 rfl
          clear hv hI
          obtain ⟨ys, hy, ht⟩ := arr_slots t 123 hz
          have hl : (slotsFrom ys 0 123).toArray = #[ys 0, ys 1, ys 2, ys 3, ys 4, ys 5, ys 6, ys 7, ys 8, ys 9, ys 10, ys 11, ys 12, ys 13, ys 14, ys 15, ys 16, ys 17, ys 18, ys 19, ys 20, ys 21, ys 22, ys 23, ys 24, ys 25, ys 26, ys 27, ys 28, ys 29, ys 30, ys 31, ys 32, ys 33, ys 34, ys 35, ys 36, ys 37, ys 38, ys 39, ys 40, ys 41, ys 42, ys 43, ys 44, ys 45, ys 46, ys 47, ys 48, ys 49, ys 50, ys 51, ys 52, ys 53, ys 54, ys 55, ys 56, ys 57, ys 58, ys 59, ys 60, ys 61, ys 62, ys 63, ys 64, ys 65, ys 66, ys 67, ys 68, ys 69, ys 70, ys 71, ys 72, ys 73, ys 74, ys 75, ys 76, ys 77, ys 78, ys 79, ys 80, ys 81, ys 82, ys 83, ys 84, ys 85, ys 86, ys 87, ys 88, ys 89, ys 90, ys 91, ys 92, ys 93, ys 94, ys 95, ys 96, ys 97, ys 98, ys 99, ys 100, ys 101, ys 102, ys 103, ys 104, ys 105, ys 106, ys 107, ys 108, ys 109, ys 110, ys 111, ys 112, ys 113, ys 114, ys 115, ys 116, ys 117, ys 118, ys 119, ys 120, ys 121, ys 122] := rfl
          rw [hy] at e10
          rw [ht, hl, e10]
          clear ht hl hz hy e10
          go_wp2
          go_ret
          exact ⟨rfl, below2 B1.out b0⟩
      | some p =>
        cases hi : find home V a4 with
        | none => exact absurd ((BK.out.none a4).2 hi) (by rw [hw]; simp)
        | some q =>
          have hpl := (find_some hw).1
          have hql := (find_some hi).1
          have hqz : q < z0.length := by omega
          have hsm := BK.out.same a4 p q hw hi
          rw [show zOf (some p) = (p : Int) from rfl, show zOf (some q) = (q : Int) from rfl]
          clear hw hi
          have x1a : decide ((z0.length : Int) ≤ (p : Int)) = false := decide_eq_false (by omega)
          have x1b : decide (z0.length ≤ p) = false := decide_eq_false (by omega)
          have x1c : decide ((p : Int) < 0) = false := decide_eq_false (by omega)
          have x1d : decide (0 ≤ (p : Int)) = true := decide_eq_true (by omega)
          have x2a : decide ((V.length : Int) ≤ (q : Int)) = false := decide_eq_false (by omega)
          have x2b : decide (V.length ≤ q) = false := decide_eq_false (by omega)
          have x2c : decide ((q : Int) < 0) = false := decide_eq_false (by omega)
          have x2d : decide (0 ≤ (q : Int)) = true := decide_eq_true (by omega)
          have x2za : decide ((z0.length : Int) ≤ (q : Int)) = false := decide_eq_false (by omega)
          have x2zb : decide (z0.length ≤ q) = false := decide_eq_false (by omega)
          have x2zc : decide ((q : Int) < 0) = false := decide_eq_false (by omega)
          have x2zd : decide (0 ≤ (q : Int)) = true := decide_eq_true (by omega)
          obtain ⟨bby, offy, haby, y0, y1, y2, y3⟩ := LV.out.ent hql
          cases haby
          rw [← ent_at hql] at y0 y1 y2 y3
          obtain ⟨bbu, offu, habu, u0, u1, u2, u3⟩ := L0.out.ent hpl
          cases habu
          rw [← ent_at hpl] at u0 u1 u2 u3
          rw [hsm] at y0 y1 y2 y3
          clear hsm
          have CC := ent_cmp (ent z0 p) (ent z0 p) true (by simp)
          generalize ent z0 p = y at *
          have KV := fun W (hb : Below w7.heap.size w7 W) => Keys_told _ cV V W (LV.out.kept hb) (by omega)
          have KT := fun W (hb : Below w7.heap.size w7 W) => Keys_told _ c0 z0 W (L0.out.kept hb) (by omega)
          go_wp2_with fail
          refine wp_region_val (spV [.is (.bool true), .is (.bool true), .is (.int .i64 (p : Nat)), .is (.bool false), .is (.bool false), .is (rowV (some ⟨bbu, offu, none⟩) c0 z0), .is (.int .i64 (p : Nat)), .is (.pointer (some ⟨bbu, offu + p * 4, none⟩)), .is (entV y), .is (rowV (some ⟨bby, offy, none⟩) cV V), .is (.int .i64 (q : Nat)), .is (.pointer (some ⟨bby, offy + q * 4, none⟩)), .is (entV y), .is (.bool true), .is (.bool true), .is (.bool true), .is (.bool true), .is (rowV (some ⟨bby, offy, none⟩) cV V), .ints (keys V), .is (.int .i64 (((keys V) : List _).length : Nat)), .is (rowV (some ⟨bbu, offu, none⟩) c0 z0), .ints (keys z0), .is (.int .i64 (((keys z0) : List _).length : Nat)), .is (.bool true), .is (.bool true), .is (.bool true)]) (spV_kept _) (by kernel_rfl) (by kernel_rfl) (by kernel_rfl) ?step ?done
          case step =>
            intro d a W i hi hall hI
            replace hi : i < 26 := hi
            have b0 := hI.below
            obtain rfl | rfl | rfl | rfl | rfl | rfl | rfl | rfl | rfl | rfl | rfl | rfl | rfl | rfl | rfl | rfl | rfl | rfl | rfl | rfl | rfl | rfl | rfl | rfl | rfl | rfl : i = 0 ∨ i = 1 ∨ i = 2 ∨ i = 3 ∨ i = 4 ∨ i = 5 ∨ i = 6 ∨ i = 7 ∨ i = 8 ∨ i = 9 ∨ i = 10 ∨ i = 11 ∨ i = 12 ∨ i = 13 ∨ i = 14 ∨ i = 15 ∨ i = 16 ∨ i = 17 ∨ i = 18 ∨ i = 19 ∨ i = 20 ∨ i = 21 ∨ i = 22 ∨ i = 23 ∨ i = 24 ∨ i = 25 := by omega
            · have e11 : a.tmps[11]?.getD undef = .bool true := hI.old 11 (unwritten_of (by kernel_rfl) d)
              refine StepV.done rfl (wanted_free rfl) fun K hK => ?_
              exact op_move rfl (hK _ _ (Below.refl _ _) e11)
            · have f := hI.val 0 98 rfl (hall 0 (by kernel_rfl))
              refine StepV.done rfl (wanted_free rfl) fun K hK => ?_
              exact op_move rfl (hK _ _ (Below.refl _ _) f)
            · have g : a.tmps[99]?.getD undef = .bool true := hI.val 1 99 rfl (hall 1 (by kernel_rfl))
              have e16 : a.tmps[16]?.getD undef = .int .i64 (p : Nat) := hI.old 16 (unwritten_of (by kernel_rfl) d)
              refine StepV.done rfl (by rw [wanted_if (j := 1) (s := 99) (want := true) (b := true) rfl rfl g]; rfl) fun K hK => ?_
              exact op_move rfl (hK _ _ (Below.refl _ _) e16)
            · have g : a.tmps[99]?.getD undef = .bool true := hI.val 1 99 rfl (hall 1 (by kernel_rfl))
              have e100 : a.tmps[100]?.getD undef = .int .i64 (p : Nat) := hI.val 2 100 rfl (hall 2 (by kernel_rfl))
              refine StepV.done rfl (by rw [wanted_if (j := 1) (s := 99) (want := true) (b := true) rfl rfl g]; rfl) fun K hK => ?_
              clear hall hI
              refine op_run (.bool false) W ?_ (hK _ _ (Below.refl _ _) rfl)
              clear hK
              simp only [List.getElem_toArray, List.getElem_cons_zero, List.getElem_cons_succ, execOp, Act.eval]
              go_simp
            · have g : a.tmps[99]?.getD undef = .bool true := hI.val 1 99 rfl (hall 1 (by kernel_rfl))
              have f := hI.val 3 101 rfl (hall 3 (by kernel_rfl))
              refine StepV.done rfl (by rw [wanted_if (j := 1) (s := 99) (want := true) (b := true) rfl rfl g]; rfl) fun K hK => ?_
              exact op_move rfl (hK _ _ (Below.refl _ _) f)
            · have g : a.tmps[102]?.getD undef = .bool false := hI.val 4 102 rfl (hall 4 (by kernel_rfl))
              have e0 : a.tmps[0]?.getD undef = rowV (some ⟨bbu, offu, none⟩) c0 z0 := hI.old 0 (unwritten_of (by kernel_rfl) d)
              refine StepV.done rfl (by rw [wanted_if (j := 4) (s := 102) (want := false) (b := false) rfl rfl g]; rfl) fun K hK => ?_
              exact op_move rfl (hK _ _ (Below.refl _ _) e0)
            · have g : a.tmps[102]?.getD undef = .bool false := hI.val 4 102 rfl (hall 4 (by kernel_rfl))
              have e16 : a.tmps[16]?.getD undef = .int .i64 (p : Nat) := hI.old 16 (unwritten_of (by kernel_rfl) d)
              refine StepV.done rfl (by rw [wanted_if (j := 4) (s := 102) (want := false) (b := false) rfl rfl g]; rfl) fun K hK => ?_
              exact op_move rfl (hK _ _ (Below.refl _ _) e16)
            · have g : a.tmps[102]?.getD undef = .bool false := hI.val 4 102 rfl (hall 4 (by kernel_rfl))
              have e103 : a.tmps[103]?.getD undef = rowV (some ⟨bbu, offu, none⟩) c0 z0 := hI.val 5 103 rfl (hall 5 (by kernel_rfl))
              have e104 : a.tmps[104]?.getD undef = .int .i64 (p : Nat) := hI.val 6 104 rfl (hall 6 (by kernel_rfl))
              refine StepV.done rfl (by rw [wanted_if (j := 4) (s := 102) (want := false) (b := false) rfl rfl g]; rfl) fun K hK => ?_
              clear hall hI
              refine op_run (.pointer (some ⟨bbu, offu + p * 4, none⟩)) W ?_ (hK _ _ (Below.refl _ _) rfl)
              clear hK
              simp only [List.getElem_toArray, List.getElem_cons_zero, List.getElem_cons_succ, execOp, Act.eval]
              go_simp
            · have g : a.tmps[102]?.getD undef = .bool false := hI.val 4 102 rfl (hall 4 (by kernel_rfl))
              have e105 : a.tmps[105]?.getD undef = .pointer (some ⟨bbu, offu + p * 4, none⟩) := hI.val 7 105 rfl (hall 7 (by kernel_rfl))
              refine StepV.done rfl (by rw [wanted_if (j := 4) (s := 102) (want := false) (b := false) rfl rfl g]; rfl) fun K hK => ?_
              have k0 := (b0.cell (World.block_lt_of_cell? _ _ u0)).trans u0
              have k1 := (b0.cell (World.block_lt_of_cell? _ _ u1)).trans u1
              have k2 := (b0.cell (World.block_lt_of_cell? _ _ u2)).trans u2
              have k3 := (b0.cell (World.block_lt_of_cell? _ _ u3)).trans u3
              clear hall hI
              refine op_run (entV y) W ?_ (hK _ _ (Below.refl _ _) rfl)
              clear hK
              simp only [List.getElem_toArray, List.getElem_cons_zero, List.getElem_cons_succ, execOp, Act.eval]
              go_simp
            · have g : a.tmps[102]?.getD undef = .bool false := hI.val 4 102 rfl (hall 4 (by kernel_rfl))
              have e14 : a.tmps[14]?.getD undef = rowV (some ⟨bby, offy, none⟩) cV V := hI.old 14 (unwritten_of (by kernel_rfl) d)
              refine StepV.done rfl (by rw [wanted_if (j := 4) (s := 102) (want := false) (b := false) rfl rfl g]; rfl) fun K hK => ?_
              exact op_move rfl (hK _ _ (Below.refl _ _) e14)
            · have g : a.tmps[102]?.getD undef = .bool false := hI.val 4 102 rfl (hall 4 (by kernel_rfl))
              have e17 : a.tmps[17]?.getD undef = .int .i64 (q : Nat) := hI.old 17 (unwritten_of (by kernel_rfl) d)
              refine StepV.done rfl (by rw [wanted_if (j := 4) (s := 102) (want := false) (b := false) rfl rfl g]; rfl) fun K hK => ?_
              exact op_move rfl (hK _ _ (Below.refl _ _) e17)
            · have g : a.tmps[102]?.getD undef = .bool false := hI.val 4 102 rfl (hall 4 (by kernel_rfl))
              have e107 : a.tmps[107]?.getD undef = rowV (some ⟨bby, offy, none⟩) cV V := hI.val 9 107 rfl (hall 9 (by kernel_rfl))
              have e108 : a.tmps[108]?.getD undef = .int .i64 (q : Nat) := hI.val 10 108 rfl (hall 10 (by kernel_rfl))
              refine StepV.done rfl (by rw [wanted_if (j := 4) (s := 102) (want := false) (b := false) rfl rfl g]; rfl) fun K hK => ?_
              clear hall hI
              refine op_run (.pointer (some ⟨bby, offy + q * 4, none⟩)) W ?_ (hK _ _ (Below.refl _ _) rfl)
              clear hK
              simp only [List.getElem_toArray, List.getElem_cons_zero, List.getElem_cons_succ, execOp, Act.eval]
              go_simp
            · have g : a.tmps[102]?.getD undef = .bool false := hI.val 4 102 rfl (hall 4 (by kernel_rfl))
              have e109 : a.tmps[109]?.getD undef = .pointer (some ⟨bby, offy + q * 4, none⟩) := hI.val 11 109 rfl (hall 11 (by kernel_rfl))
              refine StepV.done rfl (by rw [wanted_if (j := 4) (s := 102) (want := false) (b := false) rfl rfl g]; rfl) fun K hK => ?_
              have k0 := (b0.cell (World.block_lt_of_cell? _ _ y0)).trans y0
              have k1 := (b0.cell (World.block_lt_of_cell? _ _ y1)).trans y1
              have k2 := (b0.cell (World.block_lt_of_cell? _ _ y2)).trans y2
              have k3 := (b0.cell (World.block_lt_of_cell? _ _ y3)).trans y3
              clear hall hI
              refine op_run (entV y) W ?_ (hK _ _ (Below.refl _ _) rfl)
              clear hK
              simp only [List.getElem_toArray, List.getElem_cons_zero, List.getElem_cons_succ, execOp, Act.eval]
              go_simp
            · have g : a.tmps[102]?.getD undef = .bool false := hI.val 4 102 rfl (hall 4 (by kernel_rfl))
              have e106 : a.tmps[106]?.getD undef = entV y := hI.val 8 106 rfl (hall 8 (by kernel_rfl))
              have e110 : a.tmps[110]?.getD undef = entV y := hI.val 12 110 rfl (hall 12 (by kernel_rfl))
              refine StepV.done rfl (by rw [wanted_if (j := 4) (s := 102) (want := false) (b := false) rfl rfl g]; rfl) fun K hK => ?_
              have CW := CC W
              clear hall hI
              refine op_run (.bool true) W ?_ (hK _ _ (Below.refl _ _) rfl)
              clear hK
              simp only [List.getElem_toArray, List.getElem_cons_zero, List.getElem_cons_succ, execOp, Act.eval]
              go_simp
            · have g : a.tmps[99]?.getD undef = .bool true := hI.val 1 99 rfl (hall 1 (by kernel_rfl))
              have e102 : a.tmps[102]?.getD undef = .bool false := hI.val 4 102 rfl (hall 4 (by kernel_rfl))
              have e111 : a.tmps[111]?.getD undef = .bool true := hI.val 13 111 rfl (hall 13 (by kernel_rfl))
              refine StepV.done rfl (by rw [wanted_if (j := 1) (s := 99) (want := true) (b := true) rfl rfl g]; rfl) fun K hK => ?_
              exact op_pick_no rfl e102 (hK _ _ (Below.refl _ _) ((eval_tmp 111).trans e111))
            · have e99 : a.tmps[99]?.getD undef = .bool true := hI.val 1 99 rfl (hall 1 (by kernel_rfl))
              have e112 : a.tmps[112]?.getD undef = .bool true := hI.val 14 112 rfl (hall 14 (by kernel_rfl))
              refine StepV.done rfl (wanted_free rfl) fun K hK => ?_
              exact op_pick_yes rfl e99 (hK _ _ (Below.refl _ _) ((eval_tmp 112).trans e112))
            · have f := hI.val 15 113 rfl (hall 15 (by kernel_rfl))
              refine StepV.done rfl (wanted_free rfl) fun K hK => ?_
              exact op_move rfl (hK _ _ (Below.refl _ _) f)
            · have g : a.tmps[114]?.getD undef = .bool true := hI.val 16 114 rfl (hall 16 (by kernel_rfl))
              have e14 : a.tmps[14]?.getD undef = rowV (some ⟨bby, offy, none⟩) cV V := hI.old 14 (unwritten_of (by kernel_rfl) d)
              refine StepV.done rfl (by rw [wanted_if (j := 16) (s := 114) (want := true) (b := true) rfl rfl g]; rfl) fun K hK => ?_
              exact op_move rfl (hK _ _ (Below.refl _ _) e14)
            · have g : a.tmps[114]?.getD undef = .bool true := hI.val 16 114 rfl (hall 16 (by kernel_rfl))
              have e115 : a.tmps[115]?.getD undef = rowV (some ⟨bby, offy, none⟩) cV V := hI.val 17 115 rfl (hall 17 (by kernel_rfl))
              refine StepV.done rfl (by rw [wanted_if (j := 16) (s := 114) (want := true) (b := true) rfl rfl g]; rfl) fun K hK => ?_
              have C := (KV W b0).mono (R' := fun e W2 => ∃ v, e = .returned v ∧ (∃ p c, v = intsV p c (keys V) ∧ LiesI W2 p c (keys V)) ∧ Below W.heap.size W W2) (fun e W2 ⟨v, he, hg, hb⟩ => ⟨v, he, hg, hb⟩)
              refine op_call 22 #[rowV (some ⟨bby, offy, none⟩) cV V] (fun v W2 => (∃ p c, v = intsV p c (keys V) ∧ LiesI W2 p c (keys V)) ∧ Below W.heap.size W W2) ?_ C (fun v W2 ⟨h1, h2⟩ => hK v W2 h2 h1)
              clear hall hI hK C
              simp only [List.getElem_toArray, List.getElem_cons_zero, List.getElem_cons_succ, execOp]
              go_simp
            · have g : a.tmps[114]?.getD undef = .bool true := hI.val 16 114 rfl (hall 16 (by kernel_rfl))
              obtain ⟨p116, q116, e116, l116⟩ : ∃ p c, a.tmps[116]?.getD undef = intsV p c (keys V) ∧ LiesI W p c (keys V) := hI.val 18 116 rfl (hall 18 (by kernel_rfl))
              refine StepV.done rfl (by rw [wanted_if (j := 16) (s := 114) (want := true) (b := true) rfl rfl g]; rfl) fun K hK => ?_
              clear hall hI
              refine op_run (.int .i64 (((keys V) : List _).length : Nat)) W ?_ (hK _ _ (Below.refl _ _) rfl)
              clear hK
              simp only [List.getElem_toArray, List.getElem_cons_zero, List.getElem_cons_succ, execOp]
              go_simp
            · have g : a.tmps[114]?.getD undef = .bool true := hI.val 16 114 rfl (hall 16 (by kernel_rfl))
              have e0 : a.tmps[0]?.getD undef = rowV (some ⟨bbu, offu, none⟩) c0 z0 := hI.old 0 (unwritten_of (by kernel_rfl) d)
              refine StepV.done rfl (by rw [wanted_if (j := 16) (s := 114) (want := true) (b := true) rfl rfl g]; rfl) fun K hK => ?_
              exact op_move rfl (hK _ _ (Below.refl _ _) e0)
            · have g : a.tmps[114]?.getD undef = .bool true := hI.val 16 114 rfl (hall 16 (by kernel_rfl))
              have e118 : a.tmps[118]?.getD undef = rowV (some ⟨bbu, offu, none⟩) c0 z0 := hI.val 20 118 rfl (hall 20 (by kernel_rfl))
              refine StepV.done rfl (by rw [wanted_if (j := 16) (s := 114) (want := true) (b := true) rfl rfl g]; rfl) fun K hK => ?_
              have C := (KT W b0).mono (R' := fun e W2 => ∃ v, e = .returned v ∧ (∃ p c, v = intsV p c (keys z0) ∧ LiesI W2 p c (keys z0)) ∧ Below W.heap.size W W2) (fun e W2 ⟨v, he, hg, hb⟩ => ⟨v, he, hg, hb⟩)
              refine op_call 22 #[rowV (some ⟨bbu, offu, none⟩) c0 z0] (fun v W2 => (∃ p c, v = intsV p c (keys z0) ∧ LiesI W2 p c (keys z0)) ∧ Below W.heap.size W W2) ?_ C (fun v W2 ⟨h1, h2⟩ => hK v W2 h2 h1)
              clear hall hI hK C
              simp only [List.getElem_toArray, List.getElem_cons_zero, List.getElem_cons_succ, execOp]
              go_simp
            · have g : a.tmps[114]?.getD undef = .bool true := hI.val 16 114 rfl (hall 16 (by kernel_rfl))
              obtain ⟨p119, q119, e119, l119⟩ : ∃ p c, a.tmps[119]?.getD undef = intsV p c (keys z0) ∧ LiesI W p c (keys z0) := hI.val 21 119 rfl (hall 21 (by kernel_rfl))
              refine StepV.done rfl (by rw [wanted_if (j := 16) (s := 114) (want := true) (b := true) rfl rfl g]; rfl) fun K hK => ?_
              clear hall hI
              refine op_run (.int .i64 (((keys z0) : List _).length : Nat)) W ?_ (hK _ _ (Below.refl _ _) rfl)
              clear hK
              simp only [List.getElem_toArray, List.getElem_cons_zero, List.getElem_cons_succ, execOp]
              go_simp
            · have g : a.tmps[114]?.getD undef = .bool true := hI.val 16 114 rfl (hall 16 (by kernel_rfl))
              have e117 : a.tmps[117]?.getD undef = .int .i64 (((keys V) : List _).length : Nat) := hI.val 19 117 rfl (hall 19 (by kernel_rfl))
              have e120 : a.tmps[120]?.getD undef = .int .i64 (((keys z0) : List _).length : Nat) := hI.val 22 120 rfl (hall 22 (by kernel_rfl))
              have kl : (((keys V).length : Int) == ((keys z0).length : Int)) = true := by rw [KL.out]; exact beq_self_eq_true _
              refine StepV.done rfl (by rw [wanted_if (j := 16) (s := 114) (want := true) (b := true) rfl rfl g]; rfl) fun K hK => ?_
              clear hall hI
              refine op_run (.bool true) W ?_ (hK _ _ (Below.refl _ _) rfl)
              clear hK
              simp only [List.getElem_toArray, List.getElem_cons_zero, List.getElem_cons_succ, execOp, Act.eval]
              go_simp
            · have e114 : a.tmps[114]?.getD undef = .bool true := hI.val 16 114 rfl (hall 16 (by kernel_rfl))
              have e121 : a.tmps[121]?.getD undef = .bool true := hI.val 23 121 rfl (hall 23 (by kernel_rfl))
              refine StepV.done rfl (wanted_free rfl) fun K hK => ?_
              exact op_pick_yes rfl e114 (hK _ _ (Below.refl _ _) ((eval_tmp 121).trans e121))
            · have f := hI.val 24 122 rfl (hall 24 (by kernel_rfl))
              refine StepV.done rfl (wanted_free rfl) fun K hK => ?_
              exact op_assign rfl (hK _ _ (Below.refl _ _) f)
          case done =>
            intro a W hv hI
            obtain ⟨t, df⟩ := a
            obtain rfl : df = [] := hI.defs
            have hz : t.size = 123 := hI.size
            have b0 := hI.below
            have e10 : t[10]?.getD undef = .bool true := hv 25 10 rfl
            clear hv hI
            obtain ⟨ys, hy, ht⟩ := arr_slots t 123 hz
            have hl : (slotsFrom ys 0 123).toArray = #[ys 0, ys 1, ys 2, ys 3, ys 4, ys 5, ys 6, ys 7, ys 8, ys 9, ys 10, ys 11, ys 12, ys 13, ys 14, ys 15, ys 16, ys 17, ys 18, ys 19, ys 20, ys 21, ys 22, ys 23, ys 24, ys 25, ys 26, ys 27, ys 28, ys 29, ys 30, ys 31, ys 32, ys 33, ys 34, ys 35, ys 36, ys 37, ys 38, ys 39, ys 40, ys 41, ys 42, ys 43, ys 44, ys 45, ys 46, ys 47, ys 48, ys 49, ys 50, ys 51, ys 52, ys 53, ys 54, ys 55, ys 56, ys 57, ys 58, ys 59, ys 60, ys 61, ys 62, ys 63, ys 64, ys 65, ys 66, ys 67, ys 68, ys 69, ys 70, ys 71, ys 72, ys 73, ys 74, ys 75, ys 76, ys 77, ys 78, ys 79, ys 80, ys 81, ys 82, ys 83, ys 84, ys 85, ys 86, ys 87, ys 88, ys 89, ys 90, ys 91, ys 92, ys 93, ys 94, ys 95, ys 96, ys 97, ys 98, ys 99, ys 100, ys 101, ys 102, ys 103, ys 104, ys 105, ys 106, ys 107, ys 108, ys 109, ys 110, ys 111, ys 112, ys 113, ys 114, ys 115, ys 116, ys 117, ys 118, ys 119, ys 120, ys 121, ys 122] := rfl
            rw [hy] at e10
            rw [ht, hl, e10]
            clear ht hl hz hy e10
            go_wp2
            go_ret
            exact ⟨rfl, below2 B1.out b0⟩

theorem own_FlowsBack : ownKnob Try.prog.godebug = none := by kernel_rfl
set_option maxRecDepth 100000 in
set_option maxHeartbeats 800000 in
theorem lifted_FlowsBack (os : Os) (started : os.Started) (H : Type) (enc : TypeId × Value → H) :
    ReturnsInHanded {} Try.checked os 8 .any (Rows.flowsBackSpec.pre6 enc Try.prog Try.f8 Rows.flowsBackRow.domain false) (Rows.flowsBackSpec.post enc Try.prog Try.f8 false true false false) := by
  refine returnsInHanded_of_change (C := Try.checked) own_FlowsBack started (by kernel_rfl) Try.func8
    (ChangeSpec.witness6 (enc := enc) (C := Try.checked) false ⟨#[], #[.slice none 0 0, .string ⟨#[]⟩, .int .i64 0, .int .i64 0, .string ⟨#[]⟩], []⟩ 8 (by kernel_rfl) (by kernel_rfl) (by kernel_rfl) (by kernel_rfl)) ?_
  intro W base args ds gs before hval0 hW _ _
  have hval : ∀ (j : Nat) t v, Try.f8.params[j]? = some t → args[j]? = some v → Value.okWide Try.prog W .any base t v := hval0
  have hW' := hW
  obtain ⟨p, q, hA0, hV, rfl, _, _⟩ := hW
  have hA : DataW.TrodAll enc Try.prog W 0 (fun _ => true) true Try.f8.params.toList args.toList ds p := hA0
  rw [Try.params8] at hA hval
  obtain ⟨v0, vs0, d0, ds0, p0, q0, ha0, rfl, rfl, t0, r0⟩ := trodAll_cons hA
  obtain ⟨v1, vs1, d1, ds1, p1, q1, ha1, rfl, rfl, t1, r1⟩ := trodAll_cons r0
  obtain ⟨v2, vs2, d2, ds2, p2, q2, ha2, rfl, rfl, t2, r2⟩ := trodAll_cons r1
  obtain ⟨v3, vs3, d3, ds3, p3, q3, ha3, rfl, rfl, t3, r3⟩ := trodAll_cons r2
  obtain ⟨v4, vs4, d4, ds4, p4, q4, ha4, rfl, rfl, t4, r4⟩ := trodAll_cons r3
  obtain ⟨rfl, rfl, rfl⟩ := trodAll_nil r4
  subst ha4
  subst ha3
  subst ha2
  subst ha1
  obtain rfl : args = #[v0, v1, v2, v3, v4] := by cases args; simp_all
  obtain ⟨rfl, rfl⟩ := trodVars_none hV
  have k0 := t0
  have lt0 : ∀ x ∈ p0, x.block < W.heap.size := by obtain ⟨m, hm⟩ := k0; exact DataW.trod_lt m _ _ _ hm
  obtain ⟨a0, c0, z0, rfl, h0, g0⟩ := Ste.open_table (hval 0 22 v0 rfl rfl) t0
  obtain ⟨a1, rfl, rfl, rfl, h1⟩ := open_string Try.underlying9 (hval 1 9 v1 rfl rfl) t1
  obtain ⟨a2, rfl, rfl, rfl, h2⟩ := open_int Try.underlying3 (hval 2 3 v2 rfl rfl) t2
  obtain ⟨a3, rfl, rfl, rfl, h3⟩ := open_int Try.underlying3 (hval 3 3 v3 rfl rfl) t3
  obtain ⟨a4, rfl, rfl, rfl, h4⟩ := open_string Try.underlying9 (hval 4 9 v4 rfl rfl) t4
  clear hA0 hval0
  refine (walk_FlowsBack a0 c0 z0 a1 a2 a3 a4 W h0 g0 h1 h2 h3 h4).mono fun e W' ⟨he, hnx⟩ => ?_
  subst he
  exact ⟨_, rfl, ⟨_, _, _, [], _, [], hW', trodAll_cons_mk (shut_bool Try.underlying4 _) trodAll_mk0, (trodAll_cons_mk (Below.trod Ste.laidOut (by kernel_rfl) (of_decide_eq_true (by kernel_rfl)) k0 hnx lt0) (trodAll_cons_mk (shut_string Try.underlying9 h1) (trodAll_cons_mk (shut_int Try.underlying3 h2) (trodAll_cons_mk (shut_int Try.underlying3 h3) (trodAll_cons_mk (shut_string Try.underlying9 h4) trodAll_mk0))))), rfl, hnx.frame _, fun h => by cases h⟩⟩

theorem flowsBack_holds : Rows.FlowsBackSaid :=
  OpenClaim.holds_of_wide 8 Try.f8 rfl rfl rfl rfl rfl rfl rfl ⟨rfl, rfl, rfl, rfl, rfl⟩ rfl rfl rfl rfl rfl (by kernel_rfl) Try.func8 (by kernel_rfl)
    (of_decide_eq_true (by kernel_rfl)) (by unfold Func.isWrapper; first | (rw [if_pos (by decide +kernel)]; kernel_rfl) | (rw [if_neg (by decide +kernel)]; exact ⟨rfl, rfl⟩))
    (fun os started H enc _ => lifted_FlowsBack os started H enc)

#print axioms flowsBack_holds
end Go.Proofs.Ytbflnhoifkdooaa
