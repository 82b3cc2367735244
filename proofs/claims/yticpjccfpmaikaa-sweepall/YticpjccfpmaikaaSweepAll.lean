/-
  SweepAll: for every t, now and key the law SweepAll answers true: of all places just what is due is gone; once more nothing is. No condition.
-/
import Derived.Test.YticpjccfpmaikaaRows
import Derived.Test.YticpjccfpmaikaaBTab
import Derived.Test.YticpjccfpmaikaaSwpW
import Derived.Test.YticpjccfpmaikaaSwpP
import Derived.ProofKit
import Derived.OpenShut
import Derived.ChangeMaps5
import Derived.BigQuiet
import Derived.WalkSmall
namespace Go.Proofs.Yticpjccfpmaikaa
open Go.ChangeShapes Go.WideShapes Go.ChangeAt Go.RowKit Go.Shelf
open Go.ChangeMaps (open_string shut_string)
open Prb RowG Tab Flo Swp

set_option maxRecDepth 100000 in
set_option maxHeartbeats 2000000 in
theorem walk_SweepAll (a0 : Option Addr) (c0 : Nat) (z0 : List Ent) (a1 : Int) (a2 : ByteArray) (w : World) (h0 : Lies entK w a0 c0 z0) (g0 : ∀ x ∈ z0, EntOk x) (_h1 : (Lit.int .i64 a1).wf = true) (h2 : a2.size ≤ maxLen) :
    Calls Try.prog 6 #[rowV a0 c0 z0, .int .i64 a1, .string a2] w fun e W' => e = .returned (.bool true) ∧ Below w.heap.size w W' := by
  have H0 := Lib.hid h0
  have hC0 := h0.len
  have hM0 := h0.max
  unfold maxLen at hM0 h2
  clear h0
  go_enter Try.func6, Try.ntmps6
  go_wp2_with fail
  refine (works_any _).mono ?_
  rintro e w1 ⟨rfl, hb⟩
  have B1 := Lib.hid hb
  have L0 := Lib.hid (H0.out.kept hb)
  clear hb H0
  go_wp2_with fail
  refine (few_any a0 c0 z0 _ L0.out g0).mono ?_
  rintro e w2 ⟨rfl, rfl⟩
  by_cases f0 : ¬ few64 z0
  · rw [decide_eq_false f0]
    go_wp2_with fail
    go_ret
    exact ⟨rfl, B1.out⟩
  replace f0 := Decidable.not_not.1 f0
  rw [decide_eq_true f0]
  have hl0 := f0.2
  have S0 := Lib.hid (show Short 60 z0 from f0.1.2)
  clear f0 g0
  by_cases b2 : 60 < a2.size
  · have d0 : decide ((60 : Int) < (a2.size : Int)) = true := decide_eq_true (by omega)
    have d0n : decide (60 < a2.size) = true := decide_eq_true b2
    go_wp2_with fail
    go_ret
    exact ⟨rfl, B1.out⟩
  have db2 : decide ((60 : Int) < (a2.size : Int)) = false := decide_eq_false (by omega)
  have eb2 : decide (60 < a2.size) = false := decide_eq_false b2
  go_wp2_with fail
  by_cases r0 : Right home z0
  case neg =>
    refine (Right_told a0 c0 z0 false (by simp [r0]) _ L0.out (S0.out.wide (by omega))).mono ?_
    rintro e w2 ⟨rfl, hb⟩
    have L0 := Lib.hid (L0.out.kept hb)
    have B1 := Lib.hid (below2 B1.out hb)
    clear hb
    go_wp2_with fail
    go_ret
    exact ⟨rfl, B1.out⟩
  refine (Right_told a0 c0 z0 true (by simp [r0]) _ L0.out (S0.out.wide (by omega))).mono ?_
  rintro e w2 ⟨rfl, hb⟩
  have L0 := Lib.hid (L0.out.kept hb)
  have B1 := Lib.hid (below2 B1.out hb)
  clear hb
  go_wp2_with fail
  refine (All_told a0 c0 z0 a1 _ L0.out (S0.out.wide (by omega)) (by omega)).mono ?_
  rintro e w3 ⟨v, rfl, ⟨aU, cU, rfl, hl⟩, hb⟩
  have L0 := Lib.hid (L0.out.kept hb)
  have LU := Lib.hid hl
  have B1 := Lib.hid (below2 B1.out hb)
  clear hb hl
  have ST := Lib.hid (step_full (now := a1) hl0 r0 _ (all_looked z0.length))
  have hlU := ST.out.len
  have SU := Lib.hid (step_short (now := a1) S0.out (places z0.length 0 z0.length))
  have FD := Lib.hid (found (now := a1) hl0 r0 a2 rfl)
  have AG := Lib.hid (again (now := a1) hl0 r0 rfl)
  have NN := Lib.hid (fun h => step_none (now := a1) (T := z0) (l := places z0.length 0 z0.length) h)
  generalize dueN a1 (places z0.length 0 z0.length) z0 = du at *
  generalize stepC a1 (places z0.length 0 z0.length) z0 = U at *
  go_wp2_with fail
  refine (Find_told a0 c0 z0 a2 _ L0.out (by omega)).mono ?_
  rintro e w4 ⟨rfl, hb⟩
  have L0 := Lib.hid (L0.out.kept hb)
  have LU := Lib.hid (LU.out.kept hb)
  have B1 := Lib.hid (below2 B1.out hb)
  clear hb
  go_wp2_with fail
  refine (Find_told aU cU U a2 _ LU.out (by omega)).mono ?_
  rintro e w5 ⟨rfl, hb⟩
  have L0 := Lib.hid (L0.out.kept hb)
  have LU := Lib.hid (LU.out.kept hb)
  have B1 := Lib.hid (below2 B1.out hb)
  clear hb
  have xd : decide (0 ≤ (du : Int)) = true := decide_eq_true (by omega)
  cases hw : find home z0 a2 with
  | none =>
    rw [ST.out.gone a2 hw, show zOf none = -1 from rfl]
    clear hw
    have x1a : decide ((z0.length : Int) ≤ -1) = false := decide_eq_false (by omega)
    have x2a : decide ((U.length : Int) ≤ -1) = false := decide_eq_false (by omega)
    go_wp2_with fail
    refine (All_told _ cU U a1 _ LU.out (SU.out.wide (by omega)) (by omega)).mono ?_
    rintro e w6 ⟨v, rfl, ⟨aG, cG, rfl, hl⟩, hb⟩
    have L0 := Lib.hid (L0.out.kept hb)
    have LU := Lib.hid (LU.out.kept hb)
    have LG := Lib.hid hl
    have B1 := Lib.hid (below2 B1.out hb)
    clear hb hl
    rw [AG.out.1]
    rw [AG.out.2] at LG ⊢
    go_wp2_with fail
    refine (Same_told _ _ U _ _ U true (by simp) _ LG.out LU.out).mono ?_
    rintro e w7 ⟨rfl, hb⟩
    have L0 := Lib.hid (L0.out.kept hb)
    have LU := Lib.hid (LU.out.kept hb)
    have LG := Lib.hid (LG.out.kept hb)
    have B1 := Lib.hid (below2 B1.out hb)
    clear hb
    by_cases hd0 : 0 < du
    · have xg : decide (0 < (du : Int)) = true := decide_eq_true (by omega)
      have xg2 : decide (0 < du) = true := decide_eq_true hd0
      go_wp2_with fail
      go_ret
      exact ⟨rfl, B1.out⟩
    · have xg : decide (0 < (du : Int)) = false := decide_eq_false (by omega)
      have xg2 : decide (0 < du) = false := decide_eq_false hd0
      have EU := Lib.hid (show U = z0 from NN.out (by omega))
      go_wp2_with fail
      refine (Same_told _ _ U _ _ z0 true (by simp [EU.out]) _ LU.out L0.out).mono ?_
      rintro e w8 ⟨rfl, hb⟩
      have L0 := Lib.hid (L0.out.kept hb)
      have LU := Lib.hid (LU.out.kept hb)
      have LG := Lib.hid (LG.out.kept hb)
      have B1 := Lib.hid (below2 B1.out hb)
      clear hb
      go_wp2_with fail
      go_ret
      exact ⟨rfl, B1.out⟩
  | some p =>
    have hpl := (find_some hw).1
    by_cases hdu : Due (ent z0 p) a1
    · have hi : find home U a2 = none := Classical.not_not.1 fun h => by obtain ⟨p2, h2, h3⟩ := FD.out.1 h; rw [hw] at h2; cases h2; exact h3 hdu
      rw [hi, show zOf (some p) = (p : Int) from rfl, show zOf none = -1 from rfl]
      clear hw hi FD
      have x1a : decide ((z0.length : Int) ≤ (p : Int)) = false := decide_eq_false (by omega)
      have x1b : decide (z0.length ≤ p) = false := decide_eq_false (by omega)
      have x1c : decide ((p : Int) < 0) = false := decide_eq_false (by omega)
      have x1d : decide (0 ≤ (p : Int)) = true := decide_eq_true (by omega)
      have x2a : decide ((U.length : Int) ≤ -1) = false := decide_eq_false (by omega)
      obtain ⟨bbu, offu, habu, u0, u1, u2, u3⟩ := L0.out.ent hpl
      cases habu
      rw [← ent_at hpl] at u0 u1 u2 u3
      have DC := Lib.hid (fun w => Due_told (ent z0 p) a1 true (by simp [hdu]) w)
      clear hdu
      generalize ent z0 p = y at *
      go_wp2_with fail
      refine (DC.out _).mono ?_
      rintro e w6 ⟨rfl, hb⟩
      have L0 := Lib.hid (L0.out.kept hb)
      have LU := Lib.hid (LU.out.kept hb)
      have B1 := Lib.hid (below2 B1.out hb)
      clear hb
      go_wp2_with fail
      clear u0 u1 u2 u3 DC
      refine (All_told _ cU U a1 _ LU.out (SU.out.wide (by omega)) (by omega)).mono ?_
      rintro e w7 ⟨v, rfl, ⟨aG, cG, rfl, hl⟩, hb⟩
      have L0 := Lib.hid (L0.out.kept hb)
      have LU := Lib.hid (LU.out.kept hb)
      have LG := Lib.hid hl
      have B1 := Lib.hid (below2 B1.out hb)
      clear hb hl
      rw [AG.out.1]
      rw [AG.out.2] at LG ⊢
      go_wp2_with fail
      refine (Same_told _ _ U _ _ U true (by simp) _ LG.out LU.out).mono ?_
      rintro e w8 ⟨rfl, hb⟩
      have L0 := Lib.hid (L0.out.kept hb)
      have LU := Lib.hid (LU.out.kept hb)
      have LG := Lib.hid (LG.out.kept hb)
      have B1 := Lib.hid (below2 B1.out hb)
      clear hb
      by_cases hd0 : 0 < du
      · have xg : decide (0 < (du : Int)) = true := decide_eq_true (by omega)
        have xg2 : decide (0 < du) = true := decide_eq_true hd0
        go_wp2_with fail
        go_ret
        exact ⟨rfl, B1.out⟩
      · have xg : decide (0 < (du : Int)) = false := decide_eq_false (by omega)
        have xg2 : decide (0 < du) = false := decide_eq_false hd0
        have EU := Lib.hid (show U = z0 from NN.out (by omega))
        go_wp2_with fail
        refine (Same_told _ _ U _ _ z0 true (by simp [EU.out]) _ LU.out L0.out).mono ?_
        rintro e w9 ⟨rfl, hb⟩
        have L0 := Lib.hid (L0.out.kept hb)
        have LU := Lib.hid (LU.out.kept hb)
        have LG := Lib.hid (LG.out.kept hb)
        have B1 := Lib.hid (below2 B1.out hb)
        clear hb
        go_wp2_with fail
        go_ret
        exact ⟨rfl, B1.out⟩
    · cases hi : find home U a2 with
      | none => exact absurd hi (FD.out.2 ⟨p, hw, hdu⟩)
      | some r =>
        have hrl := (find_some hi).1
        rw [show zOf (some p) = (p : Int) from rfl, show zOf (some r) = (r : Int) from rfl]
        clear hw hi FD
        have x1a : decide ((z0.length : Int) ≤ (p : Int)) = false := decide_eq_false (by omega)
        have x1b : decide (z0.length ≤ p) = false := decide_eq_false (by omega)
        have x1c : decide ((p : Int) < 0) = false := decide_eq_false (by omega)
        have x1d : decide (0 ≤ (p : Int)) = true := decide_eq_true (by omega)
        have x2a : decide ((U.length : Int) ≤ (r : Int)) = false := decide_eq_false (by omega)
        have x2b : decide (U.length ≤ r) = false := decide_eq_false (by omega)
        have x2c : decide ((r : Int) < 0) = false := decide_eq_false (by omega)
        have x2d : decide (0 ≤ (r : Int)) = true := decide_eq_true (by omega)
        have x2za : decide ((z0.length : Int) ≤ (r : Int)) = false := decide_eq_false (by omega)
        have x2zb : decide (z0.length ≤ r) = false := decide_eq_false (by omega)
        have x2zc : decide ((r : Int) < 0) = false := decide_eq_false (by omega)
        have x2zd : decide (0 ≤ (r : Int)) = true := decide_eq_true (by omega)
        obtain ⟨bbu, offu, habu, u0, u1, u2, u3⟩ := L0.out.ent hpl
        cases habu
        rw [← ent_at hpl] at u0 u1 u2 u3
        have DC := Lib.hid (fun w => Due_told (ent z0 p) a1 false (by simp [hdu]) w)
        clear hdu
        generalize ent z0 p = y at *
        go_wp2_with fail
        refine (DC.out _).mono ?_
        rintro e w6 ⟨rfl, hb⟩
        have L0 := Lib.hid (L0.out.kept hb)
        have LU := Lib.hid (LU.out.kept hb)
        have B1 := Lib.hid (below2 B1.out hb)
        clear hb
        go_wp2_with fail
        clear u0 u1 u2 u3 DC
        refine (All_told _ cU U a1 _ LU.out (SU.out.wide (by omega)) (by omega)).mono ?_
        rintro e w7 ⟨v, rfl, ⟨aG, cG, rfl, hl⟩, hb⟩
        have L0 := Lib.hid (L0.out.kept hb)
        have LU := Lib.hid (LU.out.kept hb)
        have LG := Lib.hid hl
        have B1 := Lib.hid (below2 B1.out hb)
        clear hb hl
        rw [AG.out.1]
        rw [AG.out.2] at LG ⊢
        go_wp2_with fail
        refine (Same_told _ _ U _ _ U true (by simp) _ LG.out LU.out).mono ?_
        rintro e w8 ⟨rfl, hb⟩
        have L0 := Lib.hid (L0.out.kept hb)
        have LU := Lib.hid (LU.out.kept hb)
        have LG := Lib.hid (LG.out.kept hb)
        have B1 := Lib.hid (below2 B1.out hb)
        clear hb
        by_cases hd0 : 0 < du
        · have xg : decide (0 < (du : Int)) = true := decide_eq_true (by omega)
          have xg2 : decide (0 < du) = true := decide_eq_true hd0
          go_wp2_with fail
          go_ret
          exact ⟨rfl, B1.out⟩
        · have xg : decide (0 < (du : Int)) = false := decide_eq_false (by omega)
          have xg2 : decide (0 < du) = false := decide_eq_false hd0
          have EU := Lib.hid (show U = z0 from NN.out (by omega))
          go_wp2_with fail
          refine (Same_told _ _ U _ _ z0 true (by simp [EU.out]) _ LU.out L0.out).mono ?_
          rintro e w9 ⟨rfl, hb⟩
          have L0 := Lib.hid (L0.out.kept hb)
          have LU := Lib.hid (LU.out.kept hb)
          have LG := Lib.hid (LG.out.kept hb)
          have B1 := Lib.hid (below2 B1.out hb)
          clear hb
          go_wp2_with fail
          go_ret
          exact ⟨rfl, B1.out⟩

theorem own_SweepAll : ownKnob Try.prog.godebug = none := by kernel_rfl
set_option maxRecDepth 100000 in
set_option maxHeartbeats 800000 in
theorem lifted_SweepAll (os : Os) (started : os.Started) (H : Type) (enc : TypeId × Value → H) :
    ReturnsInHanded {} Try.checked os 6 .any (Rows.sweepAllSpec.pre6 enc Try.prog Try.f6 Rows.sweepAllRow.domain false) (Rows.sweepAllSpec.post enc Try.prog Try.f6 false true false false) := by
  refine returnsInHanded_of_change (C := Try.checked) own_SweepAll started (by kernel_rfl) Try.func6
    (ChangeSpec.witness6 (enc := enc) (C := Try.checked) false ⟨#[], #[.slice none 0 0, .int .i64 0, .string ⟨#[]⟩], []⟩ 8 (by kernel_rfl) (by kernel_rfl) (by kernel_rfl) (by kernel_rfl)) ?_
  intro W base args ds gs before hval0 hW _ _
  have hval : ∀ (j : Nat) t v, Try.f6.params[j]? = some t → args[j]? = some v → Value.okWide Try.prog W .any base t v := hval0
  have hW' := hW
  obtain ⟨p, q, hA0, hV, rfl, _, _⟩ := hW
  have hA : DataW.TrodAll enc Try.prog W 0 (fun _ => true) true Try.f6.params.toList args.toList ds p := hA0
  rw [Try.params6] at hA hval
  obtain ⟨v0, vs0, d0, ds0, p0, q0, ha0, rfl, rfl, t0, r0⟩ := trodAll_cons hA
  obtain ⟨v1, vs1, d1, ds1, p1, q1, ha1, rfl, rfl, t1, r1⟩ := trodAll_cons r0
  obtain ⟨v2, vs2, d2, ds2, p2, q2, ha2, rfl, rfl, t2, r2⟩ := trodAll_cons r1
  obtain ⟨rfl, rfl, rfl⟩ := trodAll_nil r2
  subst ha2
  subst ha1
  obtain rfl : args = #[v0, v1, v2] := by cases args; simp_all
  obtain ⟨rfl, rfl⟩ := trodVars_none hV
  have k0 := t0
  have lt0 : ∀ x ∈ p0, x.block < W.heap.size := by obtain ⟨m, hm⟩ := k0; exact DataW.trod_lt m _ _ _ hm
  obtain ⟨a0, c0, z0, rfl, h0, g0⟩ := Ste.open_table (hval 0 22 v0 rfl rfl) t0
  obtain ⟨a1, rfl, rfl, rfl, h1⟩ := open_int Try.underlying3 (hval 1 3 v1 rfl rfl) t1
  obtain ⟨a2, rfl, rfl, rfl, h2⟩ := open_string Try.underlying9 (hval 2 9 v2 rfl rfl) t2
  clear hA0 hval0
  refine (walk_SweepAll a0 c0 z0 a1 a2 W h0 g0 h1 h2).mono fun e W' ⟨he, hnx⟩ => ?_
  subst he
  exact ⟨_, rfl, ⟨_, _, _, [], _, [], hW', trodAll_cons_mk (shut_bool Try.underlying4 _) trodAll_mk0, (trodAll_cons_mk (Below.trod Ste.laidOut (by kernel_rfl) (of_decide_eq_true (by kernel_rfl)) k0 hnx lt0) (trodAll_cons_mk (shut_int Try.underlying3 h1) (trodAll_cons_mk (shut_string Try.underlying9 h2) trodAll_mk0))), rfl, hnx.frame _, fun h => by cases h⟩⟩

theorem sweepAll_holds : Rows.SweepAllSaid :=
  OpenClaim.holds_of_wide 6 Try.f6 rfl rfl rfl rfl rfl rfl rfl ⟨rfl, rfl, rfl, rfl, rfl⟩ rfl rfl rfl rfl rfl (by kernel_rfl) Try.func6 (by kernel_rfl)
    (of_decide_eq_true (by kernel_rfl)) (by unfold Func.isWrapper; first | (rw [if_pos (by decide +kernel)]; kernel_rfl) | (rw [if_neg (by decide +kernel)]; exact ⟨rfl, rfl⟩))
    (fun os started H enc _ => lifted_SweepAll os started H enc)

#print axioms sweepAll_holds
end Go.Proofs.Yticpjccfpmaikaa
