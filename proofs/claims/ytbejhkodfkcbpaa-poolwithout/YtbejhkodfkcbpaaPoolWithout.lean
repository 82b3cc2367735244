/-
  PoolWithout: for every p, id and other the law PoolWithout answers true: what is taken out is not found, all others stay, and a pool that may be still may. No condition.
-/
import Derived.Test.YtbejhkodfkcbpaaRows
import Derived.Test.YtbejhkodfkcbpaaStp
import Derived.Test.YtbejhkodfkcbpaaWkB
import Derived.ProofKit
import Derived.OpenShut
import Derived.ChangeMaps5
namespace Go.Proofs.Ytbejhkodfkcbpaa
open Go.ChangeShapes Go.WideShapes Go.ChangeAt Go.RowKit Go.Shelf
open Go.ChangeMaps (open_string shut_string)
open Pol Rgn

set_option maxRecDepth 100000 in
set_option maxHeartbeats 8000000 in
theorem walk_PoolWithout (a0 : Option Addr) (c0 : Nat) (z0 : List Bk) (id other : Int) (w : World) (h0 : Lies w a0 c0 z0) (_g0 : ∀ x ∈ z0, Stp.BkOk x) (_h1 : (Lit.int .i64 id).wf = true) (_h2 : (Lit.int .i64 other).wf = true) :
    Calls Try.prog 5 #[polV a0 c0 z0, .int .i64 id, .int .i64 other] w fun e W' => e = .returned (.bool true) ∧ Below w.heap.size w W' := by
  have H := Lib.hid h0
  clear h0 _g0
  by_cases h60 : 60 < z0.length
  · have d0 : decide ((60 : Int) < (z0.length : Int)) = true := decide_eq_true (by omega)
    have d1 : decide (60 < z0.length) = true := decide_eq_true h60
    go_enter Try.func5, Try.ntmps5
    go_wp2_with fail
    refine (works_any _).mono ?_
    rintro e w1 ⟨rfl, hb⟩
    have B1 := Lib.hid hb
    clear hb
    go_wp2_with fail
    go_ret
    exact ⟨rfl, B1.out⟩
  have d0 : decide ((60 : Int) < (z0.length : Int)) = false := decide_eq_false (by omega)
  have d1 : decide (60 < z0.length) = false := decide_eq_false h60
  have hz : z0.length ≤ 60 := by omega
  obtain ⟨zw, hzw⟩ : ∃ zw, zw = without z0 id := ⟨_, rfl⟩
  have F1 := Lib.hid (show find zw id 0 = -1 by rw [hzw]; exact without_none z0 id)
  have hl := without_length z0 id
  rw [← hzw] at hl
  have d2 : decide (z0.length < zw.length) = false := decide_eq_false (by omega)
  have d3 : decide ((z0.length : Int) < (zw.length : Int)) = false := decide_eq_false (by omega)
  have F2 := Lib.hid (show id ≠ other → (0 ≤ find zw other 0 ↔ 0 ≤ find z0 other 0) by rw [hzw]; intro h; rw [find_pos, find_pos]; exact without_other z0 id other h)
  have F3 := Lib.hid (show without zw id = zw by rw [hzw]; exact without_twice z0 id)
  have F4 := Lib.hid (show chk z0 → chk zw by rw [hzw]; exact without_chk z0 id)
  have HZ := Lib.hid hzw
  clear hzw
  by_cases ho : id = other
  · have e0 : (id != other) = false := by simp [ho]
    clear ho
    by_cases hc : chk z0
    · have hC := Lib.hid hc
      have hC2 := Lib.hid (F4.out hc)
      clear hc F4
      go_enter Try.func5, Try.ntmps5
      go_wp2_with fail
      refine (works_any _).mono ?_
      rintro e w1 ⟨rfl, hb⟩
      have L1 := Lib.hid (H.out.kept hb)
      have B1 := Lib.hid hb
      clear hb
      go_wp2_with fail
      refine (Without_told a0 c0 z0 id w1 L1.out (by omega)).mono ?_
      rintro e w2 ⟨v, rfl, hg, hb⟩
      rw [← HZ.out] at hg
      obtain ⟨aw, cw, rfl, hL⟩ := hg
      have L2 := Lib.hid (L1.out.kept hb)
      have M2 := Lib.hid hL
      have B2 := Lib.hid (below2 B1.out hb)
      clear hb hL L1 B1
      go_wp2_with fail
      refine (Find_told aw cw zw id w2 M2.out).mono ?_
      rintro e w3 ⟨rfl, hb⟩
      have L3 := Lib.hid (L2.out.kept hb)
      have M3 := Lib.hid (M2.out.kept hb)
      have B3 := Lib.hid (below2 B2.out hb)
      clear hb L2 M2 B2
      rw [F1.out]
      go_wp2_with fail
      refine (Check_yes a0 c0 z0 hC.out w3 L3.out).mono ?_
      rintro e w6 ⟨rfl, hb⟩
      have L6 := Lib.hid (L3.out.kept hb)
      have M6 := Lib.hid (M3.out.kept hb)
      have B6 := Lib.hid (below2 B3.out hb)
      clear hb L3 M3 B3
      go_wp2_with fail
      refine (Check_yes aw cw zw hC2.out w6 M6.out).mono ?_
      rintro e w7 ⟨rfl, hb⟩
      have M7 := Lib.hid (M6.out.kept hb)
      have B7 := Lib.hid (below2 B6.out hb)
      clear hb L6 M6 B6
      go_wp2_with fail
      refine (Without_told aw cw zw id w7 M7.out (by omega)).mono ?_
      rintro e w8 ⟨v, rfl, ⟨a8, c8, rfl, hL⟩, hb⟩
      have M8 := Lib.hid (M7.out.kept hb)
      have B8 := Lib.hid (below2 B7.out hb)
      have N8 := Lib.hid hL
      clear hb hL M7 B7
      go_wp2_with fail
      refine (Same_told a8 c8 (without zw id) aw cw zw true (by simp [F3.out]) w8 N8.out M8.out).mono ?_
      rintro e w9 ⟨rfl, hb⟩
      have B9 := Lib.hid (below2 B8.out hb)
      clear hb
      go_wp2_with fail
      go_ret
      exact ⟨rfl, B9.out⟩
    · have hC := Lib.hid hc
      clear hc F4
      go_enter Try.func5, Try.ntmps5
      go_wp2_with fail
      refine (works_any _).mono ?_
      rintro e w1 ⟨rfl, hb⟩
      have L1 := Lib.hid (H.out.kept hb)
      have B1 := Lib.hid hb
      clear hb
      go_wp2_with fail
      refine (Without_told a0 c0 z0 id w1 L1.out (by omega)).mono ?_
      rintro e w2 ⟨v, rfl, hg, hb⟩
      rw [← HZ.out] at hg
      obtain ⟨aw, cw, rfl, hL⟩ := hg
      have L2 := Lib.hid (L1.out.kept hb)
      have M2 := Lib.hid hL
      have B2 := Lib.hid (below2 B1.out hb)
      clear hb hL L1 B1
      go_wp2_with fail
      refine (Find_told aw cw zw id w2 M2.out).mono ?_
      rintro e w3 ⟨rfl, hb⟩
      have L3 := Lib.hid (L2.out.kept hb)
      have M3 := Lib.hid (M2.out.kept hb)
      have B3 := Lib.hid (below2 B2.out hb)
      clear hb L2 M2 B2
      rw [F1.out]
      go_wp2_with fail
      refine (Check_no a0 c0 z0 hC.out w3 L3.out).mono ?_
      rintro e w6 ⟨rfl, hb⟩
      have L6 := Lib.hid (L3.out.kept hb)
      have M6 := Lib.hid (M3.out.kept hb)
      have B6 := Lib.hid (below2 B3.out hb)
      clear hb L3 M3 B3
      go_wp2_with fail
      refine (Without_told aw cw zw id w6 M6.out (by omega)).mono ?_
      rintro e w8 ⟨v, rfl, ⟨a8, c8, rfl, hL⟩, hb⟩
      have M8 := Lib.hid (M6.out.kept hb)
      have B8 := Lib.hid (below2 B6.out hb)
      have N8 := Lib.hid hL
      clear hb hL M6 B6
      go_wp2_with fail
      refine (Same_told a8 c8 (without zw id) aw cw zw true (by simp [F3.out]) w8 N8.out M8.out).mono ?_
      rintro e w9 ⟨rfl, hb⟩
      have B9 := Lib.hid (below2 B8.out hb)
      clear hb
      go_wp2_with fail
      go_ret
      exact ⟨rfl, B9.out⟩
  · have e0 : (id != other) = true := bne_iff_ne.2 ho
    have hF := F2.out ho
    clear ho
    by_cases hc : chk z0
    · have hC := Lib.hid hc
      have hC2 := Lib.hid (F4.out hc)
      clear hc F4
      go_enter Try.func5, Try.ntmps5
      go_wp2_with fail
      refine (works_any _).mono ?_
      rintro e w1 ⟨rfl, hb⟩
      have L1 := Lib.hid (H.out.kept hb)
      have B1 := Lib.hid hb
      clear hb
      go_wp2_with fail
      refine (Without_told a0 c0 z0 id w1 L1.out (by omega)).mono ?_
      rintro e w2 ⟨v, rfl, hg, hb⟩
      rw [← HZ.out] at hg
      obtain ⟨aw, cw, rfl, hL⟩ := hg
      have L2 := Lib.hid (L1.out.kept hb)
      have M2 := Lib.hid hL
      have B2 := Lib.hid (below2 B1.out hb)
      clear hb hL L1 B1
      go_wp2_with fail
      refine (Find_told aw cw zw id w2 M2.out).mono ?_
      rintro e w3 ⟨rfl, hb⟩
      have L3 := Lib.hid (L2.out.kept hb)
      have M3 := Lib.hid (M2.out.kept hb)
      have B3 := Lib.hid (below2 B2.out hb)
      clear hb L2 M2 B2
      rw [F1.out]
      go_wp2_with fail
      refine (Find_told aw cw zw other w3 M3.out).mono ?_
      rintro e w4 ⟨rfl, hb⟩
      have L4 := Lib.hid (L3.out.kept hb)
      have M4 := Lib.hid (M3.out.kept hb)
      have B4 := Lib.hid (below2 B3.out hb)
      clear hb L3 M3 B3
      generalize find zw other 0 = f1 at *
      go_wp2_with fail
      refine (Find_told a0 c0 z0 other w4 L4.out).mono ?_
      rintro e w5 ⟨rfl, hb⟩
      have L5 := Lib.hid (L4.out.kept hb)
      have M5 := Lib.hid (M4.out.kept hb)
      have B5 := Lib.hid (below2 B4.out hb)
      clear hb L4 M4 B4
      generalize find z0 other 0 = f2 at *
      go_wp2_with fail
      refine (Check_yes a0 c0 z0 hC.out w5 L5.out).mono ?_
      rintro e w6 ⟨rfl, hb⟩
      have L6 := Lib.hid (L5.out.kept hb)
      have M6 := Lib.hid (M5.out.kept hb)
      have B6 := Lib.hid (below2 B5.out hb)
      clear hb L5 M5 B5
      go_wp2_with fail
      refine (Check_yes aw cw zw hC2.out w6 M6.out).mono ?_
      rintro e w7 ⟨rfl, hb⟩
      have M7 := Lib.hid (M6.out.kept hb)
      have B7 := Lib.hid (below2 B6.out hb)
      clear hb L6 M6 B6
      go_wp2_with fail
      refine (Without_told aw cw zw id w7 M7.out (by omega)).mono ?_
      rintro e w8 ⟨v, rfl, ⟨a8, c8, rfl, hL⟩, hb⟩
      have M8 := Lib.hid (M7.out.kept hb)
      have B8 := Lib.hid (below2 B7.out hb)
      have N8 := Lib.hid hL
      clear hb hL M7 B7
      go_wp2_with fail
      refine (Same_told a8 c8 (without zw id) aw cw zw true (by simp [F3.out]) w8 N8.out M8.out).mono ?_
      rintro e w9 ⟨rfl, hb⟩
      have B9 := Lib.hid (below2 B8.out hb)
      clear hb
      go_wp2_with fail
      go_ret
      exact ⟨rfl, B9.out⟩
    · have hC := Lib.hid hc
      clear hc F4
      go_enter Try.func5, Try.ntmps5
      go_wp2_with fail
      refine (works_any _).mono ?_
      rintro e w1 ⟨rfl, hb⟩
      have L1 := Lib.hid (H.out.kept hb)
      have B1 := Lib.hid hb
      clear hb
      go_wp2_with fail
      refine (Without_told a0 c0 z0 id w1 L1.out (by omega)).mono ?_
      rintro e w2 ⟨v, rfl, hg, hb⟩
      rw [← HZ.out] at hg
      obtain ⟨aw, cw, rfl, hL⟩ := hg
      have L2 := Lib.hid (L1.out.kept hb)
      have M2 := Lib.hid hL
      have B2 := Lib.hid (below2 B1.out hb)
      clear hb hL L1 B1
      go_wp2_with fail
      refine (Find_told aw cw zw id w2 M2.out).mono ?_
      rintro e w3 ⟨rfl, hb⟩
      have L3 := Lib.hid (L2.out.kept hb)
      have M3 := Lib.hid (M2.out.kept hb)
      have B3 := Lib.hid (below2 B2.out hb)
      clear hb L2 M2 B2
      rw [F1.out]
      go_wp2_with fail
      refine (Find_told aw cw zw other w3 M3.out).mono ?_
      rintro e w4 ⟨rfl, hb⟩
      have L4 := Lib.hid (L3.out.kept hb)
      have M4 := Lib.hid (M3.out.kept hb)
      have B4 := Lib.hid (below2 B3.out hb)
      clear hb L3 M3 B3
      generalize find zw other 0 = f1 at *
      go_wp2_with fail
      refine (Find_told a0 c0 z0 other w4 L4.out).mono ?_
      rintro e w5 ⟨rfl, hb⟩
      have L5 := Lib.hid (L4.out.kept hb)
      have M5 := Lib.hid (M4.out.kept hb)
      have B5 := Lib.hid (below2 B4.out hb)
      clear hb L4 M4 B4
      generalize find z0 other 0 = f2 at *
      go_wp2_with fail
      refine (Check_no a0 c0 z0 hC.out w5 L5.out).mono ?_
      rintro e w6 ⟨rfl, hb⟩
      have L6 := Lib.hid (L5.out.kept hb)
      have M6 := Lib.hid (M5.out.kept hb)
      have B6 := Lib.hid (below2 B5.out hb)
      clear hb L5 M5 B5
      go_wp2_with fail
      refine (Without_told aw cw zw id w6 M6.out (by omega)).mono ?_
      rintro e w8 ⟨v, rfl, ⟨a8, c8, rfl, hL⟩, hb⟩
      have M8 := Lib.hid (M6.out.kept hb)
      have B8 := Lib.hid (below2 B6.out hb)
      have N8 := Lib.hid hL
      clear hb hL M6 B6
      go_wp2_with fail
      refine (Same_told a8 c8 (without zw id) aw cw zw true (by simp [F3.out]) w8 N8.out M8.out).mono ?_
      rintro e w9 ⟨rfl, hb⟩
      have B9 := Lib.hid (below2 B8.out hb)
      clear hb
      go_wp2_with fail
      go_ret
      exact ⟨rfl, B9.out⟩

theorem own_PoolWithout : ownKnob Try.prog.godebug = none := by kernel_rfl
set_option maxRecDepth 100000 in
set_option maxHeartbeats 800000 in
theorem lifted_PoolWithout (os : Os) (started : os.Started) (H : Type) (enc : TypeId × Value → H) :
    ReturnsInHanded {} Try.checked os 5 .any (Rows.poolWithoutSpec.pre6 enc Try.prog Try.f5 Rows.poolWithoutRow.domain false) (Rows.poolWithoutSpec.post enc Try.prog Try.f5 false true false false) := by
  refine returnsInHanded_of_change (C := Try.checked) own_PoolWithout started (by kernel_rfl) Try.func5
    (ChangeSpec.witness6 (enc := enc) (C := Try.checked) false ⟨#[], #[.slice none 0 0, .int .i64 0, .int .i64 0], []⟩ 8 (by kernel_rfl) (by kernel_rfl) (by kernel_rfl) (by kernel_rfl)) ?_
  intro W base args ds gs before hval0 hW _ _
  have hval : ∀ (j : Nat) t v, Try.f5.params[j]? = some t → args[j]? = some v → Value.okWide Try.prog W .any base t v := hval0
  have hW' := hW
  obtain ⟨p, q, hA0, hV, rfl, _, _⟩ := hW
  have hA : DataW.TrodAll enc Try.prog W 0 (fun _ => true) true Try.f5.params.toList args.toList ds p := hA0
  rw [Try.params5] at hA hval
  obtain ⟨v0, vs0, d0, ds0, p0, q0, ha0, rfl, rfl, t0, r0⟩ := trodAll_cons hA
  obtain ⟨v1, vs1, d1, ds1, p1, q1, ha1, rfl, rfl, t1, r1⟩ := trodAll_cons r0
  obtain ⟨v2, vs2, d2, ds2, p2, q2, ha2, rfl, rfl, t2, r2⟩ := trodAll_cons r1
  obtain ⟨rfl, rfl, rfl⟩ := trodAll_nil r2
  subst ha2
  subst ha1
  obtain rfl : args = #[v0, v1, v2] := by cases args; simp_all
  obtain ⟨rfl, rfl⟩ := trodVars_none hV
  have k0 := t0
  have lt0 : ∀ x ∈ p0, x.block < W.heap.size := by obtain ⟨m, hm⟩ := k0; exact DataW.trod_lt m _ _ _ hm
  obtain ⟨a0, c0, z0, rfl, h0, g0⟩ := Stp.open_pool (hval 0 22 v0 rfl rfl) t0
  obtain ⟨a1, rfl, rfl, rfl, h1⟩ := open_int Try.underlying3 (hval 1 3 v1 rfl rfl) t1
  obtain ⟨a2, rfl, rfl, rfl, h2⟩ := open_int Try.underlying3 (hval 2 3 v2 rfl rfl) t2
  clear hA0 hval0
  refine (walk_PoolWithout a0 c0 z0 a1 a2 W h0 g0 h1 h2).mono fun e W' ⟨he, hnx⟩ => ?_
  subst he
  exact ⟨_, rfl, ⟨_, _, _, [], _, [], hW', trodAll_cons_mk (shut_bool Try.underlying4 _) trodAll_mk0, (trodAll_cons_mk (Below.trod Stp.laidOut (by kernel_rfl) (of_decide_eq_true (by kernel_rfl)) k0 hnx lt0) (trodAll_cons_mk (shut_int Try.underlying3 h1) (trodAll_cons_mk (shut_int Try.underlying3 h2) trodAll_mk0))), rfl, hnx.frame _, fun h => by cases h⟩⟩

theorem poolWithout_holds : Rows.PoolWithoutSaid :=
  OpenClaim.holds_of_wide 5 Try.f5 rfl rfl rfl rfl rfl rfl rfl ⟨rfl, rfl, rfl, rfl, rfl⟩ rfl rfl rfl rfl rfl (by kernel_rfl) Try.func5 (by kernel_rfl)
    (of_decide_eq_true (by kernel_rfl)) (by unfold Func.isWrapper; first | (rw [if_pos (by decide +kernel)]; kernel_rfl) | (rw [if_neg (by decide +kernel)]; exact ⟨rfl, rfl⟩))
    (fun os started H enc _ => lifted_PoolWithout os started H enc)

#print axioms poolWithout_holds
end Go.Proofs.Ytbejhkodfkcbpaa
