/-
  FlowsTidy: for every t and key the law FlowsTidy answers true: tidied, all flows are found, and no tomb stands. No condition.
-/
import Derived.Test.YtbflnhoifkdooaaRows
import Derived.Test.YtbflnhoifkdooaaBTab
import Derived.Test.YtbflnhoifkdooaaFloW
import Derived.Test.YtbflnhoifkdooaaBFlp
import Derived.ProofKit
import Derived.OpenShut
import Derived.ChangeMaps5
import Derived.BigQuiet
import Derived.WalkSmall
namespace Go.Proofs.Ytbflnhoifkdooaa
open Go.ChangeShapes Go.WideShapes Go.ChangeAt Go.RowKit Go.Shelf
open Go.ChangeMaps (open_string shut_string)
open Prb RowG Tab Flo

set_option maxRecDepth 100000 in
set_option maxHeartbeats 1000000 in
theorem walk_FlowsTidy (a0 : Option Addr) (c0 : Nat) (z0 : List Ent) (a1 : ByteArray) (w : World) (h0 : Lies entK w a0 c0 z0) (g0 : ∀ x ∈ z0, EntOk x) (h1 : a1.size ≤ maxLen) :
    Calls Try.prog 6 #[rowV a0 c0 z0, .string a1] w fun e W' => e = .returned (.bool true) ∧ Below w.heap.size w W' := by
  have H0 := Lib.hid h0
  have hC0 := h0.len
  have hM0 := h0.max
  unfold maxLen at hM0 h1
  clear h0
  go_enter Try.func6, Try.ntmps6
  go_wp2_with fail
  refine (works_any _).mono ?_
  rintro e w1 ⟨rfl, hb⟩
  have B1 := Lib.hid hb
  have L0 := Lib.hid (H0.out.kept hb)
  clear hb H0
  go_wp2_with fail
  refine (few_any a0 c0 z0 _ L0.out g0).mono ?_
  rintro e w2 ⟨rfl, rfl⟩
  by_cases f0 : ¬ few64 z0
  · rw [decide_eq_false f0]
    go_wp2_with fail
    go_ret
    exact ⟨rfl, B1.out⟩
  replace f0 := Decidable.not_not.1 f0
  rw [decide_eq_true f0]
  have hl0 := f0.2
  have S0 := Lib.hid (show Short 60 z0 from f0.1.2)
  clear f0 g0
  by_cases b1 : 60 < a1.size
  · have d0 : decide ((60 : Int) < (a1.size : Int)) = true := decide_eq_true (by omega)
    have d0n : decide (60 < a1.size) = true := decide_eq_true b1
    go_wp2_with fail
    go_ret
    exact ⟨rfl, B1.out⟩
  have db1 : decide ((60 : Int) < (a1.size : Int)) = false := decide_eq_false (by omega)
  have eb1 : decide (60 < a1.size) = false := decide_eq_false b1
  go_wp2_with fail
  by_cases r0 : Right home z0
  case neg =>
    refine (Right_told a0 c0 z0 false (by simp [r0]) _ L0.out (S0.out.wide (by omega))).mono ?_
    rintro e w2 ⟨rfl, hb⟩
    have L0 := Lib.hid (L0.out.kept hb)
    have B1 := Lib.hid (below2 B1.out hb)
    clear hb
    go_wp2_with fail
    go_ret
    exact ⟨rfl, B1.out⟩
  refine (Right_told a0 c0 z0 true (by simp [r0]) _ L0.out (S0.out.wide (by omega))).mono ?_
  rintro e w2 ⟨rfl, hb⟩
  have L0 := Lib.hid (L0.out.kept hb)
  have B1 := Lib.hid (below2 B1.out hb)
  clear hb
  go_wp2_with fail
  refine (Tidy_told a0 c0 z0 _ L0.out (S0.out.wide (by omega))).mono ?_
  rintro e w3 ⟨v, rfl, ⟨aU, cU, rfl, hl⟩, hb⟩
  have L0 := Lib.hid (L0.out.kept hb)
  have LU := Lib.hid hl
  have B1 := Lib.hid (below2 B1.out hb)
  clear hb hl
  have H := Lib.hid r0.tidyHas
  have F := Lib.hid (r0.tidied a1)
  have SU := Lib.hid (short_tidy S0.out)
  rw [tidyC_tidy hl0] at LU SU ⊢
  have hlU := H.out.len
  have CT := Lib.hid (has_tombs H.out)
  have CN := Lib.hid (show count 1 (Tab.tidy home z0) = count 1 z0 from H.out.cnt)
  generalize Tab.tidy home z0 = U at *
  go_wp2_with fail
  refine (Find_told a0 c0 z0 a1 _ L0.out (by omega)).mono ?_
  rintro e w4 ⟨rfl, hb⟩
  have L0 := Lib.hid (L0.out.kept hb)
  have LU := Lib.hid (LU.out.kept hb)
  have B1 := Lib.hid (below2 B1.out hb)
  clear hb
  go_wp2_with fail
  refine (Find_told aU cU U a1 _ LU.out (by omega)).mono ?_
  rintro e w5 ⟨rfl, hb⟩
  have L0 := Lib.hid (L0.out.kept hb)
  have LU := Lib.hid (LU.out.kept hb)
  have B1 := Lib.hid (below2 B1.out hb)
  clear hb
  cases hw : find home z0 a1 with
  | none =>
    rw [F.out.1.1 hw, show zOf none = -1 from rfl]
    clear hw
    have x1a : decide ((z0.length : Int) ≤ -1) = false := decide_eq_false (by omega)
    have x2a : decide ((U.length : Int) ≤ -1) = false := decide_eq_false (by omega)
    go_wp2_with fail
    go_quiet (fail)
    have bq := below_drewN (Below.refl w5.heap.size w5) nq
    have L0 := Lib.hid (L0.out.kept bq)
    have LU := Lib.hid (LU.out.kept bq)
    have B1 := Lib.hid (below2 B1.out bq)
    clear bq
    go_wp2_with fail
    refine (Right_told _ cU U true (by simp [H.out.right]) _ LU.out (SU.out.wide (by omega))).mono ?_
    rintro e w6 ⟨rfl, hb⟩
    have L0 := Lib.hid (L0.out.kept hb)
    have LU := Lib.hid (LU.out.kept hb)
    have B1 := Lib.hid (below2 B1.out hb)
    clear hb
    have xl : ((U.length : Int) == (z0.length : Int)) = true := by simp [hlU]
    go_wp2_with fail
    refine (Count_told _ cU U 2 _ LU.out).mono ?_
    rintro e w7 ⟨rfl, hb⟩
    have L0 := Lib.hid (L0.out.kept hb)
    have LU := Lib.hid (LU.out.kept hb)
    have B1 := Lib.hid (below2 B1.out hb)
    clear hb
    rw [CT.out]
    go_wp2_with fail
    refine (Count_told _ cU U 1 _ LU.out).mono ?_
    rintro e w8 ⟨rfl, hb⟩
    have L0 := Lib.hid (L0.out.kept hb)
    have LU := Lib.hid (LU.out.kept hb)
    have B1 := Lib.hid (below2 B1.out hb)
    clear hb
    rw [CN.out]
    go_wp2_with fail
    refine (Count_told _ c0 z0 1 _ L0.out).mono ?_
    rintro e w9 ⟨rfl, hb⟩
    have L0 := Lib.hid (L0.out.kept hb)
    have LU := Lib.hid (LU.out.kept hb)
    have B1 := Lib.hid (below2 B1.out hb)
    clear hb
    generalize count 1 z0 = n at *
    go_wp2_with fail
    go_ret
    exact ⟨rfl, B1.out⟩
  | some p =>
    cases hi : find home U a1 with
    | none => exact absurd (F.out.1.2 hi) (by rw [hw]; simp)
    | some r =>
      have hpl := (find_some hw).1
      have hrl := (find_some hi).1
      have hsm := F.out.2 p r hw hi
      rw [show zOf (some p) = (p : Int) from rfl, show zOf (some r) = (r : Int) from rfl]
      clear hw hi F
      have x1a : decide ((z0.length : Int) ≤ (p : Int)) = false := decide_eq_false (by omega)
      have x1b : decide (z0.length ≤ p) = false := decide_eq_false (by omega)
      have x1c : decide ((p : Int) < 0) = false := decide_eq_false (by omega)
      have x1d : decide (0 ≤ (p : Int)) = true := decide_eq_true (by omega)
      have x2a : decide ((U.length : Int) ≤ (r : Int)) = false := decide_eq_false (by omega)
      have x2b : decide (U.length ≤ r) = false := decide_eq_false (by omega)
      have x2c : decide ((r : Int) < 0) = false := decide_eq_false (by omega)
      have x2d : decide (0 ≤ (r : Int)) = true := decide_eq_true (by omega)
      have x2za : decide ((z0.length : Int) ≤ (r : Int)) = false := decide_eq_false (by omega)
      have x2zb : decide (z0.length ≤ r) = false := decide_eq_false (by omega)
      have x2zc : decide ((r : Int) < 0) = false := decide_eq_false (by omega)
      have x2zd : decide (0 ≤ (r : Int)) = true := decide_eq_true (by omega)
      obtain ⟨bby, offy, haby, y0, y1, y2, y3⟩ := LU.out.ent hrl
      cases haby
      rw [← ent_at hrl] at y0 y1 y2 y3
      obtain ⟨bbu, offu, habu, u0, u1, u2, u3⟩ := L0.out.ent hpl
      cases habu
      rw [← ent_at hpl] at u0 u1 u2 u3
      rw [hsm] at y0 y1 y2 y3
      clear hsm
      have CC := ent_cmp (ent z0 p) (ent z0 p) true (by simp)
      generalize ent z0 p = y at *
      go_wp2_with fail
      go_quiet (fail)
      have bq := below_drewN (Below.refl w5.heap.size w5) nq
      have L0 := Lib.hid (L0.out.kept bq)
      have LU := Lib.hid (LU.out.kept bq)
      have B1 := Lib.hid (below2 B1.out bq)
      clear bq
      clear y0 y1 y2 y3 u0 u1 u2 u3 CC
      go_wp2_with fail
      refine (Right_told _ cU U true (by simp [H.out.right]) _ LU.out (SU.out.wide (by omega))).mono ?_
      rintro e w6 ⟨rfl, hb⟩
      have L0 := Lib.hid (L0.out.kept hb)
      have LU := Lib.hid (LU.out.kept hb)
      have B1 := Lib.hid (below2 B1.out hb)
      clear hb
      have xl : ((U.length : Int) == (z0.length : Int)) = true := by simp [hlU]
      go_wp2_with fail
      refine (Count_told _ cU U 2 _ LU.out).mono ?_
      rintro e w7 ⟨rfl, hb⟩
      have L0 := Lib.hid (L0.out.kept hb)
      have LU := Lib.hid (LU.out.kept hb)
      have B1 := Lib.hid (below2 B1.out hb)
      clear hb
      rw [CT.out]
      go_wp2_with fail
      refine (Count_told _ cU U 1 _ LU.out).mono ?_
      rintro e w8 ⟨rfl, hb⟩
      have L0 := Lib.hid (L0.out.kept hb)
      have LU := Lib.hid (LU.out.kept hb)
      have B1 := Lib.hid (below2 B1.out hb)
      clear hb
      rw [CN.out]
      go_wp2_with fail
      refine (Count_told _ c0 z0 1 _ L0.out).mono ?_
      rintro e w9 ⟨rfl, hb⟩
      have L0 := Lib.hid (L0.out.kept hb)
      have LU := Lib.hid (LU.out.kept hb)
      have B1 := Lib.hid (below2 B1.out hb)
      clear hb
      generalize count 1 z0 = n at *
      go_wp2_with fail
      go_ret
      exact ⟨rfl, B1.out⟩

theorem own_FlowsTidy : ownKnob Try.prog.godebug = none := by kernel_rfl
set_option maxRecDepth 100000 in
set_option maxHeartbeats 800000 in
theorem lifted_FlowsTidy (os : Os) (started : os.Started) (H : Type) (enc : TypeId × Value → H) :
    ReturnsInHanded {} Try.checked os 6 .any (Rows.flowsTidySpec.pre6 enc Try.prog Try.f6 Rows.flowsTidyRow.domain false) (Rows.flowsTidySpec.post enc Try.prog Try.f6 false true false false) := by
  refine returnsInHanded_of_change (C := Try.checked) own_FlowsTidy started (by kernel_rfl) Try.func6
    (ChangeSpec.witness6 (enc := enc) (C := Try.checked) false ⟨#[], #[.slice none 0 0, .string ⟨#[]⟩], []⟩ 8 (by kernel_rfl) (by kernel_rfl) (by kernel_rfl) (by kernel_rfl)) ?_
  intro W base args ds gs before hval0 hW _ _
  have hval : ∀ (j : Nat) t v, Try.f6.params[j]? = some t → args[j]? = some v → Value.okWide Try.prog W .any base t v := hval0
  have hW' := hW
  obtain ⟨p, q, hA0, hV, rfl, _, _⟩ := hW
  have hA : DataW.TrodAll enc Try.prog W 0 (fun _ => true) true Try.f6.params.toList args.toList ds p := hA0
  rw [Try.params6] at hA hval
  obtain ⟨v0, vs0, d0, ds0, p0, q0, ha0, rfl, rfl, t0, r0⟩ := trodAll_cons hA
  obtain ⟨v1, vs1, d1, ds1, p1, q1, ha1, rfl, rfl, t1, r1⟩ := trodAll_cons r0
  obtain ⟨rfl, rfl, rfl⟩ := trodAll_nil r1
  subst ha1
  obtain rfl : args = #[v0, v1] := by cases args; simp_all
  obtain ⟨rfl, rfl⟩ := trodVars_none hV
  have k0 := t0
  have lt0 : ∀ x ∈ p0, x.block < W.heap.size := by obtain ⟨m, hm⟩ := k0; exact DataW.trod_lt m _ _ _ hm
  obtain ⟨a0, c0, z0, rfl, h0, g0⟩ := Ste.open_table (hval 0 22 v0 rfl rfl) t0
  obtain ⟨a1, rfl, rfl, rfl, h1⟩ := open_string Try.underlying9 (hval 1 9 v1 rfl rfl) t1
  clear hA0 hval0
  refine (walk_FlowsTidy a0 c0 z0 a1 W h0 g0 h1).mono fun e W' ⟨he, hnx⟩ => ?_
  subst he
  exact ⟨_, rfl, ⟨_, _, _, [], _, [], hW', trodAll_cons_mk (shut_bool Try.underlying4 _) trodAll_mk0, (trodAll_cons_mk (Below.trod Ste.laidOut (by kernel_rfl) (of_decide_eq_true (by kernel_rfl)) k0 hnx lt0) (trodAll_cons_mk (shut_string Try.underlying9 h1) trodAll_mk0)), rfl, hnx.frame _, fun h => by cases h⟩⟩

theorem flowsTidy_holds : Rows.FlowsTidySaid :=
  OpenClaim.holds_of_wide 6 Try.f6 rfl rfl rfl rfl rfl rfl rfl ⟨rfl, rfl, rfl, rfl, rfl⟩ rfl rfl rfl rfl rfl (by kernel_rfl) Try.func6 (by kernel_rfl)
    (of_decide_eq_true (by kernel_rfl)) (by unfold Func.isWrapper; first | (rw [if_pos (by decide +kernel)]; kernel_rfl) | (rw [if_neg (by decide +kernel)]; exact ⟨rfl, rfl⟩))
    (fun os started H enc _ => lifted_FlowsTidy os started H enc)

#print axioms flowsTidy_holds
end Go.Proofs.Ytbflnhoifkdooaa
