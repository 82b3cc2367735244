/-
  FlowsOne: for every t and key the law FlowsOne answers true: at most one live entry has a key, in a table that is right. No condition.
-/
import Derived.Test.YtbflnhoifkdooaaRows
import Derived.Test.YtbflnhoifkdooaaBTab
import Derived.Test.YtbflnhoifkdooaaFloW
import Derived.Test.YtbflnhoifkdooaaBFlp
import Derived.ProofKit
import Derived.OpenShut
import Derived.ChangeMaps5
import Derived.BigQuiet
import Derived.WalkSmall
namespace Go.Proofs.Ytbflnhoifkdooaa
open Go.ChangeShapes Go.WideShapes Go.ChangeAt Go.RowKit Go.Shelf
open Go.ChangeMaps (open_string shut_string)
open Prb RowG Tab Flo

set_option maxRecDepth 100000 in
set_option maxHeartbeats 1000000 in
theorem walk_FlowsOne (a0 : Option Addr) (c0 : Nat) (z0 : List Ent) (a1 : ByteArray) (w : World) (h0 : Lies entK w a0 c0 z0) (g0 : ∀ x ∈ z0, EntOk x) (h1 : a1.size ≤ maxLen) :
    Calls Try.prog 7 #[rowV a0 c0 z0, .string a1] w fun e W' => e = .returned (.bool true) ∧ Below w.heap.size w W' := by
  have H0 := Lib.hid h0
  have hC0 := h0.len
  have hM0 := h0.max
  unfold maxLen at hM0 h1
  clear h0
  go_enter Try.func7, Try.ntmps7
  go_wp2_with fail
  refine (works_any _).mono ?_
  rintro e w1 ⟨rfl, hb⟩
  have B1 := Lib.hid hb
  have L0 := Lib.hid (H0.out.kept hb)
  clear hb H0
  go_wp2_with fail
  refine (few_any a0 c0 z0 _ L0.out g0).mono ?_
  rintro e w2 ⟨rfl, rfl⟩
  by_cases f0 : ¬ few64 z0
  · rw [decide_eq_false f0]
    go_wp2_with fail
    go_ret
    exact ⟨rfl, B1.out⟩
  replace f0 := Decidable.not_not.1 f0
  rw [decide_eq_true f0]
  have hl0 := f0.2
  have S0 := Lib.hid (show Short 60 z0 from f0.1.2)
  clear f0 g0
  by_cases b1 : 60 < a1.size
  · have d0 : decide ((60 : Int) < (a1.size : Int)) = true := decide_eq_true (by omega)
    have d0n : decide (60 < a1.size) = true := decide_eq_true b1
    go_wp2_with fail
    go_ret
    exact ⟨rfl, B1.out⟩
  have db1 : decide ((60 : Int) < (a1.size : Int)) = false := decide_eq_false (by omega)
  have eb1 : decide (60 < a1.size) = false := decide_eq_false b1
  go_wp2_with fail
  by_cases r0 : Right home z0
  case neg =>
    refine (Right_told a0 c0 z0 false (by simp [r0]) _ L0.out (S0.out.wide (by omega))).mono ?_
    rintro e w2 ⟨rfl, hb⟩
    have L0 := Lib.hid (L0.out.kept hb)
    have B1 := Lib.hid (below2 B1.out hb)
    clear hb
    go_wp2_with fail
    go_ret
    exact ⟨rfl, B1.out⟩
  refine (Right_told a0 c0 z0 true (by simp [r0]) _ L0.out (S0.out.wide (by omega))).mono ?_
  rintro e w2 ⟨rfl, hb⟩
  have L0 := Lib.hid (L0.out.kept hb)
  have B1 := Lib.hid (below2 B1.out hb)
  clear hb
  go_wp2_with fail
  refine (Keys_told a0 c0 z0 _ L0.out (by omega)).mono ?_
  rintro e w3 ⟨v, rfl, ⟨aK, cK, rfl, hl⟩, hb⟩
  have L0 := Lib.hid (L0.out.kept hb)
  have LK := Lib.hid hl
  have B1 := Lib.hid (below2 B1.out hb)
  clear hb hl
  have KT := Lib.hid (keys_times r0 a1)
  have KL := Lib.hid (keys_length z0)
  have hkl : (keys z0).length ≤ 64 := by rw [keys_length]; exact Nat.le_trans (count_le _ _) hl0
  generalize keys z0 = ks at *
  go_wp2_with fail
  go_loop [7, 8] (fun v i => ∃ j : Nat, j ≤ ks.length ∧ i = .int .i64 j ∧ v = .int .i64 (times a1 (ks.take j) : Nat)) (fun _ i => ks.length - (intOf i).toNat)
  case atStart => exact ⟨0, Nat.zero_le _, rfl, rfl⟩
  case round =>
    obtain ⟨j, hj, rfl, rfl⟩ := hrel
    have htl : times a1 (ks.take j) ≤ 64 := Nat.le_trans (times_le _ _) (by rw [List.length_take]; omega)
    by_cases hlt : j < ks.length
    · obtain ⟨bk, ok, hab, y0⟩ := LK.out.txt hlt
      subst hab
      have HT := Lib.hid (show times a1 (ks.take (j + 1)) = times a1 (ks.take j) + (if ks[j] = a1 then 1 else 0) by rw [List.take_succ_eq_append_getElem hlt, times_snoc])
      generalize ks[j] = y at *
      generalize times a1 (ks.take j) = n at *
      by_cases hy : y = a1
      · have dy : (y.toList == a1.toList) = true := by rw [text_cmp]; exact decide_eq_true hy
        rw [if_pos hy] at HT
        clear hy
        go_wp2_with fail
        exact ⟨⟨j + 1, by omega, by go_num, by rw [HT.out]; go_num⟩, by simp [intOf]; omega⟩
      · have dy : (y.toList == a1.toList) = false := by rw [text_cmp]; exact decide_eq_false hy
        rw [if_neg hy] at HT
        clear hy
        go_wp2_with fail
        exact ⟨⟨j + 1, by omega, by go_num, by rw [HT.out]; go_num⟩, by simp [intOf]; omega⟩
    · have hje : ks.take j = ks := List.take_of_length_le (by omega)
      rw [hje, KT.out]
      clear hje htl
      cases hf : find home z0 a1 with
      | none =>
        simp only [Option.isSome_none, Bool.false_eq_true, if_false]
        go_wp2_with fail
        refine (Find_told a0 c0 z0 a1 _ L0.out (by omega)).mono ?_
        rintro e w4 ⟨rfl, hb⟩
        have L0 := Lib.hid (L0.out.kept hb)
        have LK := Lib.hid (LK.out.kept hb)
        have B1 := Lib.hid (below2 B1.out hb)
        clear hb
        rw [hf, show zOf none = -1 from rfl]
        clear hf
        go_wp2_with fail
        refine (Count_told a0 c0 z0 1 _ L0.out).mono ?_
        rintro e w5 ⟨rfl, hb⟩
        have L0 := Lib.hid (L0.out.kept hb)
        have LK := Lib.hid (LK.out.kept hb)
        have B1 := Lib.hid (below2 B1.out hb)
        clear hb
        rw [← KL.out]
        go_wp2_with fail
        go_ret
        exact ⟨rfl, B1.out⟩
      | some q =>
        simp only [Option.isSome_some, if_true]
        go_wp2_with fail
        refine (Find_told a0 c0 z0 a1 _ L0.out (by omega)).mono ?_
        rintro e w4 ⟨rfl, hb⟩
        have L0 := Lib.hid (L0.out.kept hb)
        have LK := Lib.hid (LK.out.kept hb)
        have B1 := Lib.hid (below2 B1.out hb)
        clear hb
        rw [hf, show zOf (some q) = (q : Int) from rfl]
        have dq : decide (0 ≤ (q : Int)) = true := decide_eq_true (by omega)
        clear hf
        go_wp2_with fail
        refine (Count_told a0 c0 z0 1 _ L0.out).mono ?_
        rintro e w5 ⟨rfl, hb⟩
        have L0 := Lib.hid (L0.out.kept hb)
        have LK := Lib.hid (LK.out.kept hb)
        have B1 := Lib.hid (below2 B1.out hb)
        clear hb
        rw [← KL.out]
        go_wp2_with fail
        go_ret
        exact ⟨rfl, B1.out⟩

theorem own_FlowsOne : ownKnob Try.prog.godebug = none := by kernel_rfl
set_option maxRecDepth 100000 in
set_option maxHeartbeats 800000 in
theorem lifted_FlowsOne (os : Os) (started : os.Started) (H : Type) (enc : TypeId × Value → H) :
    ReturnsInHanded {} Try.checked os 7 .any (Rows.flowsOneSpec.pre6 enc Try.prog Try.f7 Rows.flowsOneRow.domain false) (Rows.flowsOneSpec.post enc Try.prog Try.f7 false true false false) := by
  refine returnsInHanded_of_change (C := Try.checked) own_FlowsOne started (by kernel_rfl) Try.func7
    (ChangeSpec.witness6 (enc := enc) (C := Try.checked) false ⟨#[], #[.slice none 0 0, .string ⟨#[]⟩], []⟩ 8 (by kernel_rfl) (by kernel_rfl) (by kernel_rfl) (by kernel_rfl)) ?_
  intro W base args ds gs before hval0 hW _ _
  have hval : ∀ (j : Nat) t v, Try.f7.params[j]? = some t → args[j]? = some v → Value.okWide Try.prog W .any base t v := hval0
  have hW' := hW
  obtain ⟨p, q, hA0, hV, rfl, _, _⟩ := hW
  have hA : DataW.TrodAll enc Try.prog W 0 (fun _ => true) true Try.f7.params.toList args.toList ds p := hA0
  rw [Try.params7] at hA hval
  obtain ⟨v0, vs0, d0, ds0, p0, q0, ha0, rfl, rfl, t0, r0⟩ := trodAll_cons hA
  obtain ⟨v1, vs1, d1, ds1, p1, q1, ha1, rfl, rfl, t1, r1⟩ := trodAll_cons r0
  obtain ⟨rfl, rfl, rfl⟩ := trodAll_nil r1
  subst ha1
  obtain rfl : args = #[v0, v1] := by cases args; simp_all
  obtain ⟨rfl, rfl⟩ := trodVars_none hV
  have k0 := t0
  have lt0 : ∀ x ∈ p0, x.block < W.heap.size := by obtain ⟨m, hm⟩ := k0; exact DataW.trod_lt m _ _ _ hm
  obtain ⟨a0, c0, z0, rfl, h0, g0⟩ := Ste.open_table (hval 0 22 v0 rfl rfl) t0
  obtain ⟨a1, rfl, rfl, rfl, h1⟩ := open_string Try.underlying9 (hval 1 9 v1 rfl rfl) t1
  clear hA0 hval0
  refine (walk_FlowsOne a0 c0 z0 a1 W h0 g0 h1).mono fun e W' ⟨he, hnx⟩ => ?_
  subst he
  exact ⟨_, rfl, ⟨_, _, _, [], _, [], hW', trodAll_cons_mk (shut_bool Try.underlying4 _) trodAll_mk0, (trodAll_cons_mk (Below.trod Ste.laidOut (by kernel_rfl) (of_decide_eq_true (by kernel_rfl)) k0 hnx lt0) (trodAll_cons_mk (shut_string Try.underlying9 h1) trodAll_mk0)), rfl, hnx.frame _, fun h => by cases h⟩⟩

theorem flowsOne_holds : Rows.FlowsOneSaid :=
  OpenClaim.holds_of_wide 7 Try.f7 rfl rfl rfl rfl rfl rfl rfl ⟨rfl, rfl, rfl, rfl, rfl⟩ rfl rfl rfl rfl rfl (by kernel_rfl) Try.func7 (by kernel_rfl)
    (of_decide_eq_true (by kernel_rfl)) (by unfold Func.isWrapper; first | (rw [if_pos (by decide +kernel)]; kernel_rfl) | (rw [if_neg (by decide +kernel)]; exact ⟨rfl, rfl⟩))
    (fun os started H enc _ => lifted_FlowsOne os started H enc)

#print axioms flowsOne_holds
end Go.Proofs.Ytbflnhoifkdooaa
