/-
  PortBack: for every proto, from, to, flags and behind the law PortBack answers true: what is put is parsed, whatever stands behind it. No condition.
-/
import Derived.Test.YthfhaoiengbhgaaRows
import Derived.Test.YthfhaoiengbhgaaPrtW
import Derived.ProofKit
import Derived.OpenShut
import Derived.ChangeMaps5
namespace Go.Proofs.Ythfhaoiengbhgaa
open Go.ChangeShapes Go.WideShapes Go.ChangeAt Go.RowKit
open Go.ChangeMaps (open_string shut_string)
open Prt Txt

set_option maxRecDepth 100000 in
set_option maxHeartbeats 3200000 in
theorem walk_PortBack (a0 a1 a2 a3 : Int) (a4 : ByteArray) (h0 : (Lit.int .i64 a0).wf = true) (_h1 : (Lit.int .i64 a1).wf = true) (_h2 : (Lit.int .i64 a2).wf = true) (_h3 : (Lit.int .i64 a3).wf = true) (_h4 : a4.size ≤ maxLen) (w : World) :
    Calls Try.prog 5 #[.int .i64 a0, .int .i64 a1, .int .i64 a2, .int .i64 a3, .string a4] w fun e W' => e = .returned (.bool true) ∧ Below w.heap.size w W' := by
  by_cases g4 : (300 : Int) < (a4.size : Int)
  · have d4 : decide ((300 : Int) < (a4.size : Int)) = true := by simpa using g4
    go_enter Try.func5, Try.ntmps5
    go_wp2_with fail
    refine (works_any _).mono ?_
    rintro e w1 ⟨rfl, hb1⟩
    go_wp2_with fail
    go_ret
    exact ⟨rfl, hb1⟩
  have d4 : decide ((300 : Int) < (a4.size : Int)) = false := by simpa using g4
  by_cases hf : fit a0 a1 a2 a3
  case neg =>
    have hP := fun W => Lib.hid (Put_bad a0 h0 a1 a2 a3 hf W)
    have hn : (errP a0 != 0) = true := bne_iff_ne.2 (errP_ne a0)
    clear hf
    go_enter Try.func5, Try.ntmps5
    go_wp2_with fail
    refine (works_any _).mono ?_
    rintro e w1 ⟨rfl, hb1⟩
    go_wp2_with fail
    refine (hP _).out.mono ?_
    rintro e w2 ⟨rfl, hb2⟩
    have B2 := Lib.hid (below2 (below2 hb1 (below_alloc w1 _)) hb2)
    clear hb1 hb2 hP
    go_wp2_with fail
    go_ret
    exact ⟨rfl, B2.out⟩
  have hm : most a0 ≤ 20 := by unfold most; split <;> omega
  go_enter Try.func5, Try.ntmps5
  go_wp2_with fail
  refine (works_any _).mono ?_
  rintro e w1 ⟨rfl, hb1⟩
  go_wp2_with fail
  refine (Put_named a0 a1 a2 a3 hf _).mono ?_
  rintro e w2 ⟨S, rfl, hz, HS, hb2⟩
  have H2 := Lib.hid ((headed_new w1 a1 a2 a3).kept hb2)
  have B2 := Lib.hid (below2 (below2 hb1 (below_alloc w1 _)) hb2)
  have hz2 : S.size ≤ 20 := by omega
  clear hb2 hb1 hz hm
  have hP := fun W => Lib.hid (Parse_put S a4 a0 a1 a2 a3 hf (by omega) HS W)
  clear hf
  go_wp2_with fail
  refine (hP _).out.mono ?_
  rintro e w3 ⟨rfl, hb3⟩
  obtain ⟨c0, c1, c2⟩ := ((H2.out.kept hb3).alloc (.cells #[.int .i64 a1, .int .i64 a2, .int .i64 a3] 24)).cells
  have B3 := Lib.hid (below2 (below2 B2.out hb3) (below_alloc w3 (.cells #[.int .i64 a1, .int .i64 a2, .int .i64 a3] 24)))
  clear hb3 H2 B2
  go_wp2_with fail
  go_ret
  exact ⟨rfl, B3.out⟩

theorem own_PortBack : ownKnob Try.prog.godebug = none := by kernel_rfl
set_option maxRecDepth 100000 in
set_option maxHeartbeats 800000 in
theorem lifted_PortBack (os : Os) (started : os.Started) (H : Type) (enc : TypeId × Value → H) :
    ReturnsInHanded {} Try.checked os 5 .any (Rows.portBackSpec.pre6 enc Try.prog Try.f5 Rows.portBackRow.domain false) (Rows.portBackSpec.post enc Try.prog Try.f5 false true false false) := by
  refine returnsInHanded_of_change (C := Try.checked) own_PortBack started (by kernel_rfl) Try.func5
    (ChangeSpec.witness6 (enc := enc) (C := Try.checked) false ⟨#[], #[.int .i64 0, .int .i64 0, .int .i64 0, .int .i64 0, .string ⟨#[]⟩], []⟩ 8 (by kernel_rfl) (by kernel_rfl) (by kernel_rfl) (by kernel_rfl)) ?_
  intro W base args ds gs before hval0 hW _ _
  have hval : ∀ (j : Nat) t v, Try.f5.params[j]? = some t → args[j]? = some v → Value.okWide Try.prog W .any base t v := hval0
  have hW' := hW
  obtain ⟨p, q, hA0, hV, rfl, _, _⟩ := hW
  have hA : DataW.TrodAll enc Try.prog W 0 (fun _ => true) true Try.f5.params.toList args.toList ds p := hA0
  rw [Try.params5] at hA hval
  obtain ⟨v0, vs0, d0, ds0, p0, q0, ha0, rfl, rfl, t0, r0⟩ := trodAll_cons hA
  obtain ⟨v1, vs1, d1, ds1, p1, q1, ha1, rfl, rfl, t1, r1⟩ := trodAll_cons r0
  obtain ⟨v2, vs2, d2, ds2, p2, q2, ha2, rfl, rfl, t2, r2⟩ := trodAll_cons r1
  obtain ⟨v3, vs3, d3, ds3, p3, q3, ha3, rfl, rfl, t3, r3⟩ := trodAll_cons r2
  obtain ⟨v4, vs4, d4, ds4, p4, q4, ha4, rfl, rfl, t4, r4⟩ := trodAll_cons r3
  obtain ⟨rfl, rfl, rfl⟩ := trodAll_nil r4
  subst ha4
  subst ha3
  subst ha2
  subst ha1
  obtain rfl : args = #[v0, v1, v2, v3, v4] := by cases args; simp_all
  obtain ⟨rfl, rfl⟩ := trodVars_none hV
  obtain ⟨a0, rfl, rfl, rfl, h0⟩ := open_int Try.underlying3 (hval 0 3 v0 rfl rfl) t0
  obtain ⟨a1, rfl, rfl, rfl, h1⟩ := open_int Try.underlying3 (hval 1 3 v1 rfl rfl) t1
  obtain ⟨a2, rfl, rfl, rfl, h2⟩ := open_int Try.underlying3 (hval 2 3 v2 rfl rfl) t2
  obtain ⟨a3, rfl, rfl, rfl, h3⟩ := open_int Try.underlying3 (hval 3 3 v3 rfl rfl) t3
  obtain ⟨a4, rfl, rfl, rfl, h4⟩ := open_string Try.underlying9 (hval 4 9 v4 rfl rfl) t4
  clear hA0 hval0
  simp only [List.append_nil] at hW'
  refine (walk_PortBack a0 a1 a2 a3 a4 h0 h1 h2 h3 h4 W).mono fun e W' ⟨he, hnx⟩ => ?_
  subst he
  exact ⟨_, rfl, ⟨_, _, _, [], [], [], hW', trodAll_cons_mk (shut_bool Try.underlying4 _) trodAll_mk0, (trodAll_cons_mk (shut_int Try.underlying3 h0) (trodAll_cons_mk (shut_int Try.underlying3 h1) (trodAll_cons_mk (shut_int Try.underlying3 h2) (trodAll_cons_mk (shut_int Try.underlying3 h3) (trodAll_cons_mk (shut_string Try.underlying9 h4) trodAll_mk0))))), rfl, hnx.frame _, fun h => by cases h⟩⟩

theorem portBack_holds : Rows.PortBackSaid :=
  OpenClaim.holds_of_wide 5 Try.f5 rfl rfl rfl rfl rfl rfl rfl ⟨rfl, rfl, rfl, rfl, rfl⟩ rfl rfl rfl rfl rfl (by kernel_rfl) Try.func5 (by kernel_rfl)
    (of_decide_eq_true (by kernel_rfl)) (by unfold Func.isWrapper; first | (rw [if_pos (by decide +kernel)]; kernel_rfl) | (rw [if_neg (by decide +kernel)]; exact ⟨rfl, rfl⟩))
    (fun os started H enc _ => lifted_PortBack os started H enc)

#print axioms portBack_holds
end Go.Proofs.Ythfhaoiengbhgaa
