/-
  ModelDecides: for every t, p, key, closing, now, idle and n the law ModelDecides answers true: what becomes of a packet is just what the document says, of any table and pool. No condition.
-/
import Derived.Test.YtbamodkgagcmnaaGreatRows
import Derived.Test.YtbamodkgagcmnaaGreatBPolD
import Derived.Test.YtbamodkgagcmnaaGreatBTabD
import Derived.Test.YtbamodkgagcmnaaGreatMdlRD
import Derived.Test.YtbamodkgagcmnaaGreatBPrfD
import Derived.Test.YtbamodkgagcmnaaGreatBPrbD
import Derived.Test.YtbamodkgagcmnaaGreatMdlUD
import Derived.Deep.RegionHeld3
import Derived.BigQuiet
import Derived.WalkSmall
import Derived.ProofKit
import Derived.OpenShut
import Derived.ChangeMaps5
set_option maxRecDepth 100000
namespace Go.Proofs.YtbamodkgagcmnaaGreat
open Go.ChangeShapes Go.WideShapes Go.ChangeAt Go.RowKit Go.Shelf RowG
open Go.ChangeMaps (open_string shut_string)
open Mdl
open Mdo (CfgOk StM stK StOk)
open Pol (polV chk)
open Go.Proofs.YtbamodkgagcmnaaGreat.Mod (smallB okB ansV ansC opV opC cfgV Ans Mo)

attribute [local go_sem] Oper.semAt_some

set_option maxRecDepth 100000 in
set_option maxHeartbeats 4000000 in
theorem walk_ModelDecides (a0 : Option Addr) (c0 : Nat) (z0 : List Tab.Ent) (a1 : Option Addr) (c1 : Nat) (z1 : List Pol.Bk) (a2 : ByteArray) (a3 : Bool) (a4 a5 a6 : Int) (w : World) (h0 : Lies entK w a0 c0 z0) (g0 : ∀ x ∈ z0, EntOk x) (h1 : Pol.Lies w a1 c1 z1) (_g1 : ∀ x ∈ z1, Stp.BkOk x) (h2 : a2.size ≤ maxLen) (_h4 : (Lit.int .i64 a4).wf = true) (_h5 : (Lit.int .i64 a5).wf = true) (h6 : (Lit.int .i64 a6).wf = true) :
    Calls Tryz.prog 4 #[rowV a0 c0 z0, polV a1 c1 z1, .string a2, .bool a3, .int .i64 a4, .int .i64 a5, .int .i64 a6] w fun e W' => e = .returned (.bool true) ∧ Below w.heap.size w W' := by
  have H0 := Lib.hid h0
  have H1 := Lib.hid h1
  have G0 := Lib.hid g0
  have hM0 := h0.max
  have hN0 := h0.len
  have hM1 := h1.max
  have hN1 := h1.len
  unfold maxLen at hM0 hM1 h2
  clear h0 h1 g0
  cases hfw : decide (Prb.few z0) with
  | false =>
    go_enter Tryz.func4, Tryz.ntmps4
    go_wp2_with fail
    refine (works_any _).mono ?_
    rintro e w1 ⟨rfl, hb⟩
    have B1 := Lib.hid hb
    have FW := Lib.hid (Prb.refFew_any a0 c0 z0 w1 (H0.out.kept hb) G0.out)
    rw [hfw] at FW
    clear hb
    go_wp2_with fail
    refine FW.out.mono ?_
    rintro e w2 ⟨rfl, rfl⟩
    clear FW
    go_wp2_with fail
    go_ret
    exact ⟨rfl, B1.out⟩
  | true =>
    by_cases n0 : 64 < z0.length
    · have n0_0 : decide ((64 : Int) < (z0.length : Int)) = true := decide_eq_true (by omega)
      have n0_1 : decide (64 < z0.length) = true := decide_eq_true (by omega)
      go_enter Tryz.func4, Tryz.ntmps4
      go_wp2_with fail
      refine (works_any _).mono ?_
      rintro e w1 ⟨rfl, hb⟩
      have B1 := Lib.hid hb
      have FW := Lib.hid (Prb.refFew_any a0 c0 z0 w1 (H0.out.kept hb) G0.out)
      rw [hfw] at FW
      clear hb
      go_wp2_with fail
      refine FW.out.mono ?_
      rintro e w2 ⟨rfl, rfl⟩
      clear FW
      go_wp2_with fail
      go_ret
      exact ⟨rfl, B1.out⟩
    have n0_0 : decide ((64 : Int) < (z0.length : Int)) = false := decide_eq_false (by omega)
    have n0_1 : decide (64 < z0.length) = false := decide_eq_false (by omega)
    by_cases n1 : 8 < z1.length
    · have n1_0 : decide ((8 : Int) < (z1.length : Int)) = true := decide_eq_true (by omega)
      have n1_1 : decide (8 < z1.length) = true := decide_eq_true (by omega)
      go_enter Tryz.func4, Tryz.ntmps4
      go_wp2_with fail
      refine (works_any _).mono ?_
      rintro e w1 ⟨rfl, hb⟩
      have B1 := Lib.hid hb
      have FW := Lib.hid (Prb.refFew_any a0 c0 z0 w1 (H0.out.kept hb) G0.out)
      rw [hfw] at FW
      clear hb
      go_wp2_with fail
      refine FW.out.mono ?_
      rintro e w2 ⟨rfl, rfl⟩
      clear FW
      go_wp2_with fail
      go_ret
      exact ⟨rfl, B1.out⟩
    have n1_0 : decide ((8 : Int) < (z1.length : Int)) = false := decide_eq_false (by omega)
    have n1_1 : decide (8 < z1.length) = false := decide_eq_false (by omega)
    by_cases n2 : 60 < a2.size
    · have n2_0 : decide ((60 : Int) < (a2.size : Int)) = true := decide_eq_true (by omega)
      have n2_1 : decide (60 < a2.size) = true := decide_eq_true (by omega)
      go_enter Tryz.func4, Tryz.ntmps4
      go_wp2_with fail
      refine (works_any _).mono ?_
      rintro e w1 ⟨rfl, hb⟩
      have B1 := Lib.hid hb
      have FW := Lib.hid (Prb.refFew_any a0 c0 z0 w1 (H0.out.kept hb) G0.out)
      rw [hfw] at FW
      clear hb
      go_wp2_with fail
      refine FW.out.mono ?_
      rintro e w2 ⟨rfl, rfl⟩
      clear FW
      go_wp2_with fail
      go_ret
      exact ⟨rfl, B1.out⟩
    have n2_0 : decide ((60 : Int) < (a2.size : Int)) = false := decide_eq_false (by omega)
    have n2_1 : decide (60 < a2.size) = false := decide_eq_false (by omega)
    have hs0 : Flo.Short 60 z0 := (of_decide_eq_true hfw).2
    have HS0 := Lib.hid hs0
    have hl0 : z0.length ≤ 64 := by omega
    have hl1 : z1.length ≤ 1000000000 := by omega
    have hk : a2.size ≤ 60 := by omega
    have DD := Lib.hid (fun (W : World) (h0 : Lies entK W a0 c0 z0) (h1 : Pol.Lies W a1 c1 z1) => decide_told (w := W) a3 a4 a5 h0 h1 hk hs0 hl0 hl1)
    have DR := Lib.hid (fun (W : World) (h0 : Lies entK W a0 c0 z0) (h1 : Pol.Lies W a1 c1 z1) => refdecide_told (w := W) a3 a4 a5 h0 h1 hk hs0 hl0 (by omega))
    generalize (Mod.deals Prb.home pickK z0 z1 a2 a3 a4 (IntKind.i64.wrap (a4 + a5))).1 = u at *
    generalize (Mod.deals Prb.home pickK z0 z1 a2 a3 a4 (IntKind.i64.wrap (a4 + a5))).2 = y at *
    obtain ⟨ye, yb, ym, yc⟩ := y
    have SS := Lib.hid (fun (W : World) => Shard_told a2 a6 h6 W (by omega))
    have SR := Lib.hid (fun (W : World) => refshard_told a2 a6 h6 W hk)
    generalize Mod.shardZ (hashN a2) a6 = sh at *
    clear hs0
    go_enter Tryz.func4, Tryz.ntmps4
    go_wp2_with fail
    refine (works_any _).mono ?_
    rintro e w1 ⟨rfl, hb⟩
    have B1 := Lib.hid hb
    have FW := Lib.hid (Prb.refFew_any a0 c0 z0 w1 (H0.out.kept hb) G0.out)
    rw [hfw] at FW
    clear hb
    go_wp2_with fail
    refine FW.out.mono ?_
    rintro e w2 ⟨rfl, rfl⟩
    clear FW
    have D1 := Lib.hid (DD.out w1 (H0.out.kept B1.out) (H1.out.kept B1.out))
    go_wp2_with fail
    refine D1.out.mono ?_
    rintro e w3 ⟨ua, uc, rfl, hul, hb⟩
    obtain ⟨xb, ab⟩ := ans_new w3 ⟨ye, yb, ym, yc⟩
    have B3 := Lib.hid (below2 (below2 B1.out hb) ab)
    have HU := Lib.hid (hul.kept ab)
    have X3 := Lib.hid xb
    clear D1 hb hul xb ab DD
    have D2 := Lib.hid (DR.out _ (H0.out.kept B3.out) (H1.out.kept B3.out))
    go_wp2_with fail
    refine D2.out.mono ?_
    rintro e w4 ⟨va, vc, rfl, hul, hb⟩
    obtain ⟨xb, ab⟩ := ans_new w4 ⟨ye, yb, ym, yc⟩
    have B4 := Lib.hid (below2 (below2 B3.out hb) ab)
    have HU4 := Lib.hid ((HU.out.kept hb).kept ab)
    have HV4 := Lib.hid (hul.kept ab)
    have X3 := Lib.hid (ans_kept (ans_kept X3.out hb) ab)
    have X4 := Lib.hid xb
    clear D2 hb hul xb ab DR HU
    have SM := Lib.hid (Prb.refSame_any ua uc u va vc u true ⟨fun _ => rfl, fun _ => rfl⟩ _ HU4.out HV4.out)
    go_wp2_with fail
    refine SM.out.mono ?_
    rintro e w5 ⟨rfl, hb⟩
    have B5 := Lib.hid (below2 B4.out hb)
    obtain ⟨⟨x0, x1, x2, x3⟩, -⟩ := (ans_kept X3.out hb).cells
    obtain ⟨⟨y0, y1, y2, y3⟩, -⟩ := (ans_kept X4.out hb).cells
    clear SM hb X3 X4 HU4 HV4
    have S1 := Lib.hid (SS.out w5)
    go_wp2_with fail
    refine S1.out.mono ?_
    rintro e w6 ⟨rfl, hb⟩
    have BE := Lib.hid (below2 B5.out hb)
    have S2 := Lib.hid (SR.out w6)
    clear S1 hb
    go_wp2_with fail
    refine S2.out.mono ?_
    rintro e w7 ⟨rfl, rfl⟩
    clear S2
    go_wp2_with fail
    go_ret
    exact ⟨rfl, BE.out⟩

theorem own_ModelDecides : ownKnob Tryz.prog.godebug = none := by kernel_rfl
set_option maxRecDepth 100000 in
set_option maxHeartbeats 800000 in
theorem lifted_ModelDecides (os : Os) (started : os.Started) (H : Type) (enc : TypeId × Value → H) :
    ReturnsInHanded {} Tryz.checked os 4 .any (Rows.modelDecidesSpec.pre6 enc Tryz.prog Tryz.f4 Rows.modelDecidesRow.domain false) (Rows.modelDecidesSpec.post enc Tryz.prog Tryz.f4 false true false false) := by
  refine returnsInHanded_of_change (C := Tryz.checked) own_ModelDecides started (by kernel_rfl) Tryz.func4
    (ChangeSpec.witness6 (enc := enc) (C := Tryz.checked) false ⟨#[], #[.slice none 0 0, .slice none 0 0, .string ⟨#[]⟩, .bool false, .int .i64 0, .int .i64 0, .int .i64 0], []⟩ 8 (by kernel_rfl) (by kernel_rfl) (by kernel_rfl) (by kernel_rfl)) ?_
  intro W base args ds gs before hval0 hW _ _
  have hval : ∀ (j : Nat) t v, Tryz.f4.params[j]? = some t → args[j]? = some v → Value.okWide Tryz.prog W .any base t v := hval0
  have hW' := hW
  obtain ⟨p, q, hA0, hV, rfl, _, _⟩ := hW
  have hA : DataW.TrodAll enc Tryz.prog W 0 (fun _ => true) true Tryz.f4.params.toList args.toList ds p := hA0
  rw [Tryz.params4] at hA hval
  obtain ⟨v0, vs0, d0, ds0, p0, q0, ha0, rfl, rfl, t0, r0⟩ := trodAll_cons hA
  obtain ⟨v1, vs1, d1, ds1, p1, q1, ha1, rfl, rfl, t1, r1⟩ := trodAll_cons r0
  obtain ⟨v2, vs2, d2, ds2, p2, q2, ha2, rfl, rfl, t2, r2⟩ := trodAll_cons r1
  obtain ⟨v3, vs3, d3, ds3, p3, q3, ha3, rfl, rfl, t3, r3⟩ := trodAll_cons r2
  obtain ⟨v4, vs4, d4, ds4, p4, q4, ha4, rfl, rfl, t4, r4⟩ := trodAll_cons r3
  obtain ⟨v5, vs5, d5, ds5, p5, q5, ha5, rfl, rfl, t5, r5⟩ := trodAll_cons r4
  obtain ⟨v6, vs6, d6, ds6, p6, q6, ha6, rfl, rfl, t6, r6⟩ := trodAll_cons r5
  obtain ⟨rfl, rfl, rfl⟩ := trodAll_nil r6
  subst ha6
  subst ha5
  subst ha4
  subst ha3
  subst ha2
  subst ha1
  obtain rfl : args = #[v0, v1, v2, v3, v4, v5, v6] := by cases args; simp_all
  obtain ⟨rfl, rfl⟩ := trodVars_none hV
  have k0 := t0
  have lt0 : ∀ x ∈ p0, x.block < W.heap.size := by obtain ⟨m, hm⟩ := k0; exact DataW.trod_lt m _ _ _ hm
  obtain ⟨a0, c0, z0, rfl, h0, g0⟩ := Ste.open_table (hval 0 50 v0 rfl rfl) t0
  have k1 := t1
  have lt1 : ∀ x ∈ p1, x.block < W.heap.size := by obtain ⟨m, hm⟩ := k1; exact DataW.trod_lt m _ _ _ hm
  obtain ⟨a1, c1, z1, rfl, h1, g1⟩ := Stp.open_pool (hval 1 32 v1 rfl rfl) t1
  obtain ⟨a2, rfl, rfl, rfl, h2⟩ := open_string Tryz.underlying9 (hval 2 9 v2 rfl rfl) t2
  obtain ⟨a3, rfl, rfl, rfl⟩ := open_bool Tryz.underlying4 (hval 3 4 v3 rfl rfl) t3
  obtain ⟨a4, rfl, rfl, rfl, h4⟩ := open_int Tryz.underlying3 (hval 4 3 v4 rfl rfl) t4
  obtain ⟨a5, rfl, rfl, rfl, h5⟩ := open_int Tryz.underlying3 (hval 5 3 v5 rfl rfl) t5
  obtain ⟨a6, rfl, rfl, rfl, h6⟩ := open_int Tryz.underlying3 (hval 6 3 v6 rfl rfl) t6
  clear hA0 hval0
  refine (walk_ModelDecides a0 c0 z0 a1 c1 z1 a2 a3 a4 a5 a6 W h0 g0 h1 g1 h2 h4 h5 h6).mono fun e W' ⟨he, hnx⟩ => ?_
  subst he
  exact ⟨_, rfl, ⟨_, _, _, [], _, [], hW', trodAll_cons_mk (shut_bool Tryz.underlying4 _) trodAll_mk0, (trodAll_cons_mk (Below.trod Ste.laidOut (by kernel_rfl) (of_decide_eq_true (by kernel_rfl)) k0 hnx lt0) (trodAll_cons_mk (Below.trod Stp.laidOut (by kernel_rfl) (of_decide_eq_true (by kernel_rfl)) k1 hnx lt1) (trodAll_cons_mk (shut_string Tryz.underlying9 h2) (trodAll_cons_mk (shut_bool Tryz.underlying4 _) (trodAll_cons_mk (shut_int Tryz.underlying3 h4) (trodAll_cons_mk (shut_int Tryz.underlying3 h5) (trodAll_cons_mk (shut_int Tryz.underlying3 h6) trodAll_mk0))))))), rfl, hnx.frame _, fun h => by cases h⟩⟩

theorem modelDecides_holds : Rows.ModelDecidesSaid :=
  OpenClaim.holds_of_wide 4 Tryz.f4 rfl rfl rfl rfl rfl rfl rfl ⟨rfl, rfl, rfl, rfl, rfl⟩ rfl rfl rfl rfl rfl (by kernel_rfl) Tryz.func4 (by kernel_rfl)
    (of_decide_eq_true (by kernel_rfl)) (by unfold Func.isWrapper; first | (rw [if_pos (by decide +kernel)]; kernel_rfl) | (rw [if_neg (by decide +kernel)]; exact ⟨rfl, rfl⟩))
    (fun os started H enc _ => lifted_ModelDecides os started H enc)

#print axioms modelDecides_holds
end Go.Proofs.YtbamodkgagcmnaaGreat
