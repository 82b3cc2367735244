/-
  Ip6Parses: for every s the law Ip6Parses answers true: the head, what it holds and the error are what the document says. No condition.
-/
import Derived.Test.YtbkfbkanbjojbaaRows
import Derived.Test.YtbkfbkanbjojbaaIp6W
import Derived.Test.YtbkfbkanbjojbaaIp6F
import Derived.ProofKit
import Derived.OpenShut
import Derived.ChangeMaps5
namespace Go.Proofs.Ytbkfbkanbjojbaa
open Go.ChangeShapes Go.WideShapes Go.ChangeAt Go.RowKit
open Go.ChangeMaps (open_string shut_string)
open Ip6 Txt

set_option maxRecDepth 100000 in
set_option maxHeartbeats 1600000 in
theorem walk_Ip6Parses (a0 : ByteArray) (h0 : a0.size ≤ maxLen) (w : World) :
    Calls Try.prog 3 #[.string a0] w fun e W' => e = .returned (.bool true) ∧ Below w.heap.size w W' := by
  unfold maxLen at h0
  by_cases g0 : (300 : Int) < (a0.size : Int)
  · have d0 : decide ((300 : Int) < (a0.size : Int)) = true := by simpa using g0
    go_enter Try.func3, Try.ntmps3
    go_wp2_with fail
    refine (works_any _).mono ?_
    rintro e w1 ⟨rfl, hb1⟩
    go_wp2_with fail
    go_ret
    exact ⟨rfl, hb1⟩
  have d0 : decide ((300 : Int) < (a0.size : Int)) = false := by simpa using g0
  by_cases h1 : a0.size < 40
  · have hP := Parse_short a0 h1
    have hR := refParse_short a0 h1
    go_enter Try.func3, Try.ntmps3
    go_wp2_with fail
    refine (works_any _).mono ?_
    rintro e w1 ⟨rfl, hb1⟩
    go_wp2_with fail
    refine (hP _).mono ?_
    rintro e w2 ⟨rfl, hb2⟩
    go_wp2_with fail
    refine (hR _).mono ?_
    rintro e w3 ⟨rfl, hb3⟩
    obtain ⟨c0, c1, c2⟩ := (((headed_new w2 _ _ _).kept hb3).alloc (.cells #[.string ⟨#[]⟩, .string ⟨#[]⟩, .int .i64 0] 28)).cells
    have B3 := Lib.hid (below2 (below2 (below2 (below2 hb1 hb2) (below_alloc w2 _)) hb3) (below_alloc w3 (.cells #[.string ⟨#[]⟩, .string ⟨#[]⟩, .int .i64 0] 28)))
    clear hb1 hb2 hb3 hP hR
    go_wp2_with fail
    go_ret
    exact ⟨rfl, B3.out⟩
  have hP := Parse_long a0 (by omega) (by omega)
  have hR := refParse_long a0 (by omega) (by omega)
  by_cases h2 : ver a0 = 6
  case neg =>
    rw [longV_version h2] at hP hR
    go_enter Try.func3, Try.ntmps3
    go_wp2_with fail
    refine (works_any _).mono ?_
    rintro e w1 ⟨rfl, hb1⟩
    go_wp2_with fail
    refine (hP _).mono ?_
    rintro e w2 ⟨rfl, hb2⟩
    go_wp2_with fail
    refine (hR _).mono ?_
    rintro e w3 ⟨rfl, hb3⟩
    obtain ⟨c0, c1, c2⟩ := (((headed_new w2 _ _ _).kept hb3).alloc (.cells #[.string ⟨#[]⟩, .string ⟨#[]⟩, .int .i64 0] 28)).cells
    have B3 := Lib.hid (below2 (below2 (below2 (below2 hb1 hb2) (below_alloc w2 _)) hb3) (below_alloc w3 (.cells #[.string ⟨#[]⟩, .string ⟨#[]⟩, .int .i64 0] 28)))
    clear hb1 hb2 hb3 hP hR
    go_wp2_with fail
    go_ret
    exact ⟨rfl, B3.out⟩
  by_cases h3 : a0.size < 40 + len a0
  case pos =>
    rw [longV_length h2 h3] at hP hR
    go_enter Try.func3, Try.ntmps3
    go_wp2_with fail
    refine (works_any _).mono ?_
    rintro e w1 ⟨rfl, hb1⟩
    go_wp2_with fail
    refine (hP _).mono ?_
    rintro e w2 ⟨rfl, hb2⟩
    go_wp2_with fail
    refine (hR _).mono ?_
    rintro e w3 ⟨rfl, hb3⟩
    obtain ⟨c0, c1, c2⟩ := (((headed_new w2 _ _ _).kept hb3).alloc (.cells #[.string ⟨#[]⟩, .string ⟨#[]⟩, .int .i64 0] 28)).cells
    have B3 := Lib.hid (below2 (below2 (below2 (below2 hb1 hb2) (below_alloc w2 _)) hb3) (below_alloc w3 (.cells #[.string ⟨#[]⟩, .string ⟨#[]⟩, .int .i64 0] 28)))
    clear hb1 hb2 hb3 hP hR
    go_wp2_with fail
    go_ret
    exact ⟨rfl, B3.out⟩
  rw [longV_ok h2 h3] at hP hR
  unfold okV at hP hR
  generalize a0.extract 8 24 = x at *
  generalize a0.extract 24 40 = y at *
  generalize gv a0 6 1 = p at *
  generalize a0.extract 40 (40 + len a0) = r at *
  clear h1 h2 h3
  go_enter Try.func3, Try.ntmps3
  go_wp2_with fail
  refine (works_any _).mono ?_
  rintro e w1 ⟨rfl, hb1⟩
  go_wp2_with fail
  refine (hP _).mono ?_
  rintro e w2 ⟨rfl, hb2⟩
  go_wp2_with fail
  refine (hR _).mono ?_
  rintro e w3 ⟨rfl, hb3⟩
  obtain ⟨c0, c1, c2⟩ := (((headed_new w2 _ _ _).kept hb3).alloc (.cells #[.string x, .string y, .int .i64 (p : Nat)] 28)).cells
  have B3 := Lib.hid (below2 (below2 (below2 (below2 hb1 hb2) (below_alloc w2 _)) hb3) (below_alloc w3 (.cells #[.string x, .string y, .int .i64 (p : Nat)] 28)))
  clear hb1 hb2 hb3 hP hR
  go_wp2_with fail
  go_ret
  exact ⟨rfl, B3.out⟩

theorem own_Ip6Parses : ownKnob Try.prog.godebug = none := by kernel_rfl
set_option maxRecDepth 100000 in
set_option maxHeartbeats 800000 in
theorem lifted_Ip6Parses (os : Os) (started : os.Started) (H : Type) (enc : TypeId × Value → H) :
    ReturnsInHanded {} Try.checked os 3 .any (Rows.ip6ParsesSpec.pre6 enc Try.prog Try.f3 Rows.ip6ParsesRow.domain false) (Rows.ip6ParsesSpec.post enc Try.prog Try.f3 false true false false) := by
  refine returnsInHanded_of_change (C := Try.checked) own_Ip6Parses started (by kernel_rfl) Try.func3
    (ChangeSpec.witness6 (enc := enc) (C := Try.checked) false ⟨#[], #[.string ⟨#[]⟩], []⟩ 8 (by kernel_rfl) (by kernel_rfl) (by kernel_rfl) (by kernel_rfl)) ?_
  intro W base args ds gs before hval0 hW _ _
  have hval : ∀ (j : Nat) t v, Try.f3.params[j]? = some t → args[j]? = some v → Value.okWide Try.prog W .any base t v := hval0
  have hW' := hW
  obtain ⟨p, q, hA0, hV, rfl, _, _⟩ := hW
  have hA : DataW.TrodAll enc Try.prog W 0 (fun _ => true) true Try.f3.params.toList args.toList ds p := hA0
  rw [Try.params3] at hA hval
  obtain ⟨v0, vs0, d0, ds0, p0, q0, ha0, rfl, rfl, t0, r0⟩ := trodAll_cons hA
  obtain ⟨rfl, rfl, rfl⟩ := trodAll_nil r0
  obtain rfl : args = #[v0] := by cases args; simp_all
  obtain ⟨rfl, rfl⟩ := trodVars_none hV
  obtain ⟨a0, rfl, rfl, rfl, h0⟩ := open_string Try.underlying9 (hval 0 9 v0 rfl rfl) t0
  clear hA0 hval0
  simp only [List.append_nil] at hW'
  refine (walk_Ip6Parses a0 h0 W).mono fun e W' ⟨he, hnx⟩ => ?_
  subst he
  exact ⟨_, rfl, ⟨_, _, _, [], [], [], hW', trodAll_cons_mk (shut_bool Try.underlying4 _) trodAll_mk0, (trodAll_cons_mk (shut_string Try.underlying9 h0) trodAll_mk0), rfl, hnx.frame _, fun h => by cases h⟩⟩

theorem ip6Parses_holds : Rows.Ip6ParsesSaid :=
  OpenClaim.holds_of_wide 3 Try.f3 rfl rfl rfl rfl rfl rfl rfl ⟨rfl, rfl, rfl, rfl, rfl⟩ rfl rfl rfl rfl rfl (by kernel_rfl) Try.func3 (by kernel_rfl)
    (of_decide_eq_true (by kernel_rfl)) (by unfold Func.isWrapper; first | (rw [if_pos (by decide +kernel)]; kernel_rfl) | (rw [if_neg (by decide +kernel)]; exact ⟨rfl, rfl⟩))
    (fun os started H enc _ => lifted_Ip6Parses os started H enc)

#print axioms ip6Parses_holds
end Go.Proofs.Ytbkfbkanbjojbaa
