/-
  ProbeFinds: for every t and key the law ProbeFinds answers true: what is found is live, and of that key; what is room is not live; there is neither just if all are live. No condition.
-/
import Derived.Test.YtkgaiadmacapfaaRows
import Derived.Test.YtkgaiadmacapfaaSte
import Derived.Test.YtkgaiadmacapfaaPrbW
import Derived.Test.YtkgaiadmacapfaaPrbF
import Derived.ProofKit
import Derived.OpenShut
import Derived.ChangeMaps5
namespace Go.Proofs.Ytkgaiadmacapfaa
open Go.ChangeShapes Go.WideShapes Go.ChangeAt Go.RowKit Go.Shelf
open Go.ChangeMaps (open_string shut_string)
open Prb RowG Tab

set_option maxRecDepth 100000 in
set_option maxHeartbeats 1000000 in
theorem walk_ProbeFinds (a0 : Option Addr) (c0 : Nat) (z0 : List Ent) (a1 : ByteArray) (w : World) (h0 : Lies entK w a0 c0 z0) (g0 : ∀ x ∈ z0, EntOk x) (h1 : a1.size ≤ maxLen) :
    Calls Try.prog 4 #[rowV a0 c0 z0, .string a1] w fun e W' => e = .returned (.bool true) ∧ Below w.heap.size w W' := by
  have H0 := Lib.hid h0
  have hC0 := h0.len
  have hM0 := h0.max
  unfold maxLen at hM0 h1
  clear h0
  go_enter Try.func4, Try.ntmps4
  go_wp2_with fail
  refine (works_any _).mono ?_
  rintro e w1 ⟨rfl, hb⟩
  have B1 := Lib.hid hb
  have L0 := Lib.hid (H0.out.kept hb)
  clear hb H0
  go_wp2_with fail
  refine (refFew_any a0 c0 z0 _ L0.out g0).mono ?_
  rintro e w2 ⟨rfl, rfl⟩
  by_cases f0 : ¬ few z0
  · rw [decide_eq_false f0]
    go_wp2_with fail
    go_ret
    exact ⟨rfl, B1.out⟩
  replace f0 := Decidable.not_not.1 f0
  rw [decide_eq_true f0]
  have hl0 := f0.1
  clear f0 g0
  by_cases g1 : 60 < a1.size
  · have d0 : decide ((60 : Int) < (a1.size : Int)) = true := decide_eq_true (by omega)
    have d0n : decide (60 < a1.size) = true := decide_eq_true g1
    go_wp2_with fail
    go_ret
    exact ⟨rfl, B1.out⟩
  have d0 : decide ((60 : Int) < (a1.size : Int)) = false := decide_eq_false (by omega)
  have d0n : decide (60 < a1.size) = false := decide_eq_false g1
  go_wp2_with fail
  refine (Find_told a0 c0 z0 a1 _ L0.out (by omega)).mono ?_
  rintro e w2 ⟨rfl, hb⟩
  have L0 := Lib.hid (L0.out.kept hb)
  have B1 := Lib.hid (below2 B1.out hb)
  clear hb
  go_wp2_with fail
  refine (Room_told a0 c0 z0 a1 _ L0.out (by omega)).mono ?_
  rintro e w2 ⟨rfl, hb⟩
  have L0 := Lib.hid (L0.out.kept hb)
  have B1 := Lib.hid (below2 B1.out hb)
  clear hb
  rcases told_finds (home := home) z0 a1 with ⟨q, hf, hr, hq, hh⟩ | ⟨hf, q, hr, hq, hh⟩ | ⟨hf, hr, hc⟩
  · obtain ⟨b, off, rfl, y0, y1, -, -⟩ := L0.out.ent hq
    rw [← ent_at hq, hh.1] at y0
    rw [← ent_at hq, hh.2] at y1
    have z1 : zOf (some q) = (q : Int) := rfl
    have z2 : zOf none = -1 := rfl
    rw [hf, hr, z1, z2]
    clear hf hr hh z1 z2 g1
    have x1 : decide ((z0.length : Int) ≤ (q : Int)) = false := decide_eq_false (by omega)
    have x2 : decide (z0.length ≤ q) = false := decide_eq_false (by omega)
    have x3 : decide ((z0.length : Int) ≤ -1) = false := decide_eq_false (by omega)
    have x4 : decide ((q : Int) < -1) = false := decide_eq_false (by omega)
    have xk : (a1.toList == a1.toList) = true := by rw [text_cmp]; exact decide_eq_true rfl
    go_wp2_with fail
    go_ret
    exact ⟨rfl, B1.out⟩
  · obtain ⟨b, off, rfl, y0, y1, -, -⟩ := L0.out.ent hq
    rw [← ent_at hq] at y0 y1
    have z1 : zOf (some q) = (q : Int) := rfl
    have z2 : zOf none = -1 := rfl
    rw [hf, hr, z1, z2]
    have x1 : decide ((z0.length : Int) ≤ (q : Int)) = false := decide_eq_false (by omega)
    have x2 : decide (z0.length ≤ q) = false := decide_eq_false (by omega)
    have x3 : decide ((z0.length : Int) ≤ -1) = false := decide_eq_false (by omega)
    have x4 : decide ((q : Int) < -1) = false := decide_eq_false (by omega)
    have x5 : ((ent z0 q).st != 1) = true := bne_iff_ne.2 hh
    clear hf hr hh z1 z2 g1
    generalize ent z0 q = x at *
    go_wp2_with fail
    go_ret
    exact ⟨rfl, B1.out⟩
  · have z2 : zOf none = -1 := rfl
    rw [hf, hr, z2]
    have x3 : decide ((z0.length : Int) ≤ -1) = false := decide_eq_false (by omega)
    have HC := Lib.hid hc
    clear hf hr z2 g1 hc
    go_wp2_with fail
    refine (Count_told a0 c0 z0 1 _ L0.out).mono ?_
    rintro e w3 ⟨rfl, hb⟩
    rw [HC.out]
    have B1 := Lib.hid (below2 B1.out hb)
    clear hb
    go_wp2_with fail
    go_ret
    exact ⟨rfl, B1.out⟩

theorem own_ProbeFinds : ownKnob Try.prog.godebug = none := by kernel_rfl
set_option maxRecDepth 100000 in
set_option maxHeartbeats 800000 in
theorem lifted_ProbeFinds (os : Os) (started : os.Started) (H : Type) (enc : TypeId × Value → H) :
    ReturnsInHanded {} Try.checked os 4 .any (Rows.probeFindsSpec.pre6 enc Try.prog Try.f4 Rows.probeFindsRow.domain false) (Rows.probeFindsSpec.post enc Try.prog Try.f4 false true false false) := by
  refine returnsInHanded_of_change (C := Try.checked) own_ProbeFinds started (by kernel_rfl) Try.func4
    (ChangeSpec.witness6 (enc := enc) (C := Try.checked) false ⟨#[], #[.slice none 0 0, .string ⟨#[]⟩], []⟩ 8 (by kernel_rfl) (by kernel_rfl) (by kernel_rfl) (by kernel_rfl)) ?_
  intro W base args ds gs before hval0 hW _ _
  have hval : ∀ (j : Nat) t v, Try.f4.params[j]? = some t → args[j]? = some v → Value.okWide Try.prog W .any base t v := hval0
  have hW' := hW
  obtain ⟨p, q, hA0, hV, rfl, _, _⟩ := hW
  have hA : DataW.TrodAll enc Try.prog W 0 (fun _ => true) true Try.f4.params.toList args.toList ds p := hA0
  rw [Try.params4] at hA hval
  obtain ⟨v0, vs0, d0, ds0, p0, q0, ha0, rfl, rfl, t0, r0⟩ := trodAll_cons hA
  obtain ⟨v1, vs1, d1, ds1, p1, q1, ha1, rfl, rfl, t1, r1⟩ := trodAll_cons r0
  obtain ⟨rfl, rfl, rfl⟩ := trodAll_nil r1
  subst ha1
  obtain rfl : args = #[v0, v1] := by cases args; simp_all
  obtain ⟨rfl, rfl⟩ := trodVars_none hV
  have k0 := t0
  have lt0 : ∀ x ∈ p0, x.block < W.heap.size := by obtain ⟨m, hm⟩ := k0; exact DataW.trod_lt m _ _ _ hm
  obtain ⟨a0, c0, z0, rfl, h0, g0⟩ := Ste.open_table (hval 0 22 v0 rfl rfl) t0
  obtain ⟨a1, rfl, rfl, rfl, h1⟩ := open_string Try.underlying9 (hval 1 9 v1 rfl rfl) t1
  clear hA0 hval0
  refine (walk_ProbeFinds a0 c0 z0 a1 W h0 g0 h1).mono fun e W' ⟨he, hnx⟩ => ?_
  subst he
  exact ⟨_, rfl, ⟨_, _, _, [], _, [], hW', trodAll_cons_mk (shut_bool Try.underlying4 _) trodAll_mk0, (trodAll_cons_mk (Below.trod Ste.laidOut (by kernel_rfl) (of_decide_eq_true (by kernel_rfl)) k0 hnx lt0) (trodAll_cons_mk (shut_string Try.underlying9 h1) trodAll_mk0)), rfl, hnx.frame _, fun h => by cases h⟩⟩

theorem probeFinds_holds : Rows.ProbeFindsSaid :=
  OpenClaim.holds_of_wide 4 Try.f4 rfl rfl rfl rfl rfl rfl rfl ⟨rfl, rfl, rfl, rfl, rfl⟩ rfl rfl rfl rfl rfl (by kernel_rfl) Try.func4 (by kernel_rfl)
    (of_decide_eq_true (by kernel_rfl)) (by unfold Func.isWrapper; first | (rw [if_pos (by decide +kernel)]; kernel_rfl) | (rw [if_neg (by decide +kernel)]; exact ⟨rfl, rfl⟩))
    (fun os started H enc _ => lifted_ProbeFinds os started H enc)

#print axioms probeFinds_holds
end Go.Proofs.Ytkgaiadmacapfaa
