/-
  Ip6Cut: for every src, dst, proto, rest and n the law Ip6Cut answers true: what is cut is refused. No condition.
-/
import Derived.Test.YtbkfbkanbjojbaaRows
import Derived.Test.YtbkfbkanbjojbaaIp6W
import Derived.ProofKit
import Derived.OpenShut
import Derived.ChangeMaps5
namespace Go.Proofs.Ytbkfbkanbjojbaa
open Go.ChangeShapes Go.WideShapes Go.ChangeAt Go.RowKit
open Go.ChangeMaps (open_string shut_string)
open Ip6 Txt

set_option maxRecDepth 100000 in
set_option maxHeartbeats 3200000 in
theorem walk_Ip6Cut (a0 a1 : ByteArray) (a2 : Int) (a3 : ByteArray) (a4 : Int) (_h0 : a0.size ≤ maxLen) (_h1 : a1.size ≤ maxLen) (h2 : (Lit.int .i64 a2).wf = true) (_h3 : a3.size ≤ maxLen) (h4 : (Lit.int .i64 a4).wf = true) (w : World) :
    Calls Try.prog 7 #[.string a0, .string a1, .int .i64 a2, .string a3, .int .i64 a4] w fun e W' => e = .returned (.bool true) ∧ Below w.heap.size w W' := by
  have b2 := bounds_i64 h2
  have b4 := bounds_i64 h4
  clear h2 h4
  by_cases g0 : (300 : Int) < (a0.size : Int)
  · have d0 : decide ((300 : Int) < (a0.size : Int)) = true := by simpa using g0
    go_enter Try.func7, Try.ntmps7
    go_wp2_with fail
    refine (works_any _).mono ?_
    rintro e w1 ⟨rfl, hb1⟩
    go_wp2_with fail
    go_ret
    exact ⟨rfl, hb1⟩
  have d0 : decide ((300 : Int) < (a0.size : Int)) = false := by simpa using g0
  by_cases g1 : (300 : Int) < (a1.size : Int)
  · have d1 : decide ((300 : Int) < (a1.size : Int)) = true := by simpa using g1
    go_enter Try.func7, Try.ntmps7
    go_wp2_with fail
    refine (works_any _).mono ?_
    rintro e w1 ⟨rfl, hb1⟩
    go_wp2_with fail
    go_ret
    exact ⟨rfl, hb1⟩
  have d1 : decide ((300 : Int) < (a1.size : Int)) = false := by simpa using g1
  by_cases g3 : (300 : Int) < (a3.size : Int)
  · have d3 : decide ((300 : Int) < (a3.size : Int)) = true := by simpa using g3
    go_enter Try.func7, Try.ntmps7
    go_wp2_with fail
    refine (works_any _).mono ?_
    rintro e w1 ⟨rfl, hb1⟩
    go_wp2_with fail
    go_ret
    exact ⟨rfl, hb1⟩
  have d3 : decide ((300 : Int) < (a3.size : Int)) = false := by simpa using g3
  by_cases hbad : a0.size ≠ 16 ∨ a1.size ≠ 16 ∨ a2 < 0 ∨ 255 < a2
  · have hP := Lib.hid hbad
    clear hbad
    go_enter Try.func7, Try.ntmps7
    go_wp2_with fail
    refine (works_any _).mono ?_
    rintro e w1 ⟨rfl, hb1⟩
    go_wp2_with fail
    refine (Put_arg a0 a1 a2 a3 hP.out _).mono ?_
    rintro e w2 ⟨rfl, hb2⟩
    go_wp2_with fail
    go_ret
    exact ⟨rfl, below2 hb1 hb2⟩
  have hx : a0.size = 16 := by omega
  have hy : a1.size = 16 := by omega
  by_cases k0 : a4 < 0
  case pos =>
    have d5 : decide (a4 < 0) = true := decide_eq_true k0
    go_enter Try.func7, Try.ntmps7
    go_wp2_with fail
    refine (works_any _).mono ?_
    rintro e w1 ⟨rfl, hb1⟩
    go_wp2_with fail
    refine (Put_named a0 a1 a2 a3 hx hy (by omega) (by omega) _).mono ?_
    rintro e w2 ⟨S, rfl, hz, HS, hb2⟩
    go_wp2_with fail
    go_ret
    exact ⟨rfl, below2 hb1 hb2⟩
  have d5 : decide (a4 < 0) = false := decide_eq_false k0
  by_cases k1 : 40 + (a3.size : Int) ≤ a4
  case pos =>
    go_enter Try.func7, Try.ntmps7
    go_wp2_with fail
    refine (works_any _).mono ?_
    rintro e w1 ⟨rfl, hb1⟩
    go_wp2_with fail
    refine (Put_named a0 a1 a2 a3 hx hy (by omega) (by omega) _).mono ?_
    rintro e w2 ⟨S, rfl, hz, HS, hb2⟩
    have d6 : decide ((S.size : Int) ≤ a4) = true := decide_eq_true (by omega)
    go_wp2_with fail
    go_ret
    exact ⟨rfl, below2 hb1 hb2⟩
  obtain ⟨n, rfl⟩ := Int.eq_ofNat_of_zero_le (show 0 ≤ a4 by omega)
  by_cases k2 : n < 40
  case pos =>
    have d7 : decide ((n : Int) < 40) = true := decide_eq_true (by omega)
    go_enter Try.func7, Try.ntmps7
    go_wp2_with fail
    refine (works_any _).mono ?_
    rintro e w1 ⟨rfl, hb1⟩
    go_wp2_with fail
    refine (Put_named a0 a1 a2 a3 hx hy (by omega) (by omega) _).mono ?_
    rintro e w2 ⟨S, rfl, hz, HS, hb2⟩
    have d6 : decide ((S.size : Int) ≤ (n : Int)) = false := decide_eq_false (by omega)
    have i1 : (n : Int) ≤ (S.size : Int) := by omega
    have C := fun W => Lib.hid (Parse_cut S a0 a1 a2 a3 n hx hy (by omega) (by omega) HS (by omega) W)
    rw [if_pos k2] at C
    go_wp2_with fail
    refine (C _).out.mono ?_
    rintro e w3 ⟨rfl, hb3⟩
    go_wp2_with fail
    go_ret
    exact ⟨rfl, below2 (below2 (below2 hb1 hb2) hb3) (below_alloc w3 _)⟩
  have d7 : decide ((n : Int) < 40) = false := decide_eq_false (by omega)
  go_enter Try.func7, Try.ntmps7
  go_wp2_with fail
  refine (works_any _).mono ?_
  rintro e w1 ⟨rfl, hb1⟩
  go_wp2_with fail
  refine (Put_named a0 a1 a2 a3 hx hy (by omega) (by omega) _).mono ?_
  rintro e w2 ⟨S, rfl, hz, HS, hb2⟩
  have d6 : decide ((S.size : Int) ≤ (n : Int)) = false := decide_eq_false (by omega)
  have i1 : (n : Int) ≤ (S.size : Int) := by omega
  have C := fun W => Lib.hid (Parse_cut S a0 a1 a2 a3 n hx hy (by omega) (by omega) HS (by omega) W)
  rw [if_neg k2] at C
  go_wp2_with fail
  refine (C _).out.mono ?_
  rintro e w3 ⟨rfl, hb3⟩
  go_wp2_with fail
  go_ret
  exact ⟨rfl, below2 (below2 (below2 hb1 hb2) hb3) (below_alloc w3 _)⟩

theorem own_Ip6Cut : ownKnob Try.prog.godebug = none := by kernel_rfl
set_option maxRecDepth 100000 in
set_option maxHeartbeats 800000 in
theorem lifted_Ip6Cut (os : Os) (started : os.Started) (H : Type) (enc : TypeId × Value → H) :
    ReturnsInHanded {} Try.checked os 7 .any (Rows.ip6CutSpec.pre6 enc Try.prog Try.f7 Rows.ip6CutRow.domain false) (Rows.ip6CutSpec.post enc Try.prog Try.f7 false true false false) := by
  refine returnsInHanded_of_change (C := Try.checked) own_Ip6Cut started (by kernel_rfl) Try.func7
    (ChangeSpec.witness6 (enc := enc) (C := Try.checked) false ⟨#[], #[.string ⟨#[]⟩, .string ⟨#[]⟩, .int .i64 0, .string ⟨#[]⟩, .int .i64 0], []⟩ 8 (by kernel_rfl) (by kernel_rfl) (by kernel_rfl) (by kernel_rfl)) ?_
  intro W base args ds gs before hval0 hW _ _
  have hval : ∀ (j : Nat) t v, Try.f7.params[j]? = some t → args[j]? = some v → Value.okWide Try.prog W .any base t v := hval0
  have hW' := hW
  obtain ⟨p, q, hA0, hV, rfl, _, _⟩ := hW
  have hA : DataW.TrodAll enc Try.prog W 0 (fun _ => true) true Try.f7.params.toList args.toList ds p := hA0
  rw [Try.params7] at hA hval
  obtain ⟨v0, vs0, d0, ds0, p0, q0, ha0, rfl, rfl, t0, r0⟩ := trodAll_cons hA
  obtain ⟨v1, vs1, d1, ds1, p1, q1, ha1, rfl, rfl, t1, r1⟩ := trodAll_cons r0
  obtain ⟨v2, vs2, d2, ds2, p2, q2, ha2, rfl, rfl, t2, r2⟩ := trodAll_cons r1
  obtain ⟨v3, vs3, d3, ds3, p3, q3, ha3, rfl, rfl, t3, r3⟩ := trodAll_cons r2
  obtain ⟨v4, vs4, d4, ds4, p4, q4, ha4, rfl, rfl, t4, r4⟩ := trodAll_cons r3
  obtain ⟨rfl, rfl, rfl⟩ := trodAll_nil r4
  subst ha4
  subst ha3
  subst ha2
  subst ha1
  obtain rfl : args = #[v0, v1, v2, v3, v4] := by cases args; simp_all
  obtain ⟨rfl, rfl⟩ := trodVars_none hV
  obtain ⟨a0, rfl, rfl, rfl, h0⟩ := open_string Try.underlying9 (hval 0 9 v0 rfl rfl) t0
  obtain ⟨a1, rfl, rfl, rfl, h1⟩ := open_string Try.underlying9 (hval 1 9 v1 rfl rfl) t1
  obtain ⟨a2, rfl, rfl, rfl, h2⟩ := open_int Try.underlying3 (hval 2 3 v2 rfl rfl) t2
  obtain ⟨a3, rfl, rfl, rfl, h3⟩ := open_string Try.underlying9 (hval 3 9 v3 rfl rfl) t3
  obtain ⟨a4, rfl, rfl, rfl, h4⟩ := open_int Try.underlying3 (hval 4 3 v4 rfl rfl) t4
  clear hA0 hval0
  simp only [List.append_nil] at hW'
  refine (walk_Ip6Cut a0 a1 a2 a3 a4 h0 h1 h2 h3 h4 W).mono fun e W' ⟨he, hnx⟩ => ?_
  subst he
  exact ⟨_, rfl, ⟨_, _, _, [], [], [], hW', trodAll_cons_mk (shut_bool Try.underlying4 _) trodAll_mk0, (trodAll_cons_mk (shut_string Try.underlying9 h0) (trodAll_cons_mk (shut_string Try.underlying9 h1) (trodAll_cons_mk (shut_int Try.underlying3 h2) (trodAll_cons_mk (shut_string Try.underlying9 h3) (trodAll_cons_mk (shut_int Try.underlying3 h4) trodAll_mk0))))), rfl, hnx.frame _, fun h => by cases h⟩⟩

theorem ip6Cut_holds : Rows.Ip6CutSaid :=
  OpenClaim.holds_of_wide 7 Try.f7 rfl rfl rfl rfl rfl rfl rfl ⟨rfl, rfl, rfl, rfl, rfl⟩ rfl rfl rfl rfl rfl (by kernel_rfl) Try.func7 (by kernel_rfl)
    (of_decide_eq_true (by kernel_rfl)) (by unfold Func.isWrapper; first | (rw [if_pos (by decide +kernel)]; kernel_rfl) | (rw [if_neg (by decide +kernel)]; exact ⟨rfl, rfl⟩))
    (fun os started H enc _ => lifted_Ip6Cut os started H enc)

#print axioms ip6Cut_holds
end Go.Proofs.Ytbkfbkanbjojbaa
