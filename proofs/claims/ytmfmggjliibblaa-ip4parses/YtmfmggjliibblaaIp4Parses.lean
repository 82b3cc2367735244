/-
  Ip4Parses: for every s the law Ip4Parses answers true: the head, what it holds and the error are what the document says. No condition.
-/
import Derived.Test.YtmfmggjliibblaaRows
import Derived.Test.YtmfmggjliibblaaIp4F
import Derived.ProofKit
import Derived.OpenShut
import Derived.ChangeMaps5
namespace Go.Proofs.Ytmfmggjliibblaa
open Go.ChangeShapes Go.WideShapes Go.ChangeAt Go.RowKit
open Go.ChangeMaps (open_string shut_string)
open Ip4

set_option maxRecDepth 100000 in
set_option maxHeartbeats 1600000 in
theorem walk_Ip4Parses (a0 : ByteArray) (h0 : a0.size ≤ maxLen) (w : World) :
    Calls Try.prog 3 #[.string a0] w fun e W' => e = .returned (.bool true) ∧ Below w.heap.size w W' := by
  unfold maxLen at h0
  by_cases g0 : (300 : Int) < (a0.size : Int)
  · have d0 : decide ((300 : Int) < (a0.size : Int)) = true := by simpa using g0
    go_enter Try.func3, Try.ntmps3
    go_wp2_with fail
    refine (works_any _).mono ?_
    rintro e w1 ⟨rfl, hb1⟩
    go_wp2_with fail
    go_ret
    exact ⟨rfl, hb1⟩
  have d0 : decide ((300 : Int) < (a0.size : Int)) = false := by simpa using g0
  obtain ⟨c, hc, hno, hyes⟩ := first_fault a0
  by_cases hc6 : c < 6
  · have hP := Lib.hid (Parse_bad a0 (by omega) c hc6 hno (hyes hc6))
    have hR := Lib.hid (refParse_any a0 (by omega) c hc hno hyes)
    rw [show parseV a0 c = badV (code c) from if_pos hc6] at hR
    clear hno hyes
    go_enter Try.func3, Try.ntmps3
    go_wp2_with fail
    refine (works_any _).mono ?_
    rintro e w1 ⟨rfl, hb1⟩
    go_wp2_with fail
    refine (hP.out _).mono ?_
    rintro e w2 ⟨rfl, hb2⟩
    go_wp2_with fail
    refine (hR.out _).mono ?_
    rintro e w3 ⟨rfl, hb3⟩
    obtain ⟨c0, c1, c2⟩ := (((headed_new w2 _ _ _).kept hb3).alloc (.cells #[.string ⟨#[]⟩, .string ⟨#[]⟩, .int .i64 0] 28)).cells
    have B3 := Lib.hid (below2 (below2 (below2 (below2 hb1 hb2) (below_alloc w2 _)) hb3) (below_alloc w3 (.cells #[.string ⟨#[]⟩, .string ⟨#[]⟩, .int .i64 0] 28)))
    clear hb1 hb2 hb3 hP hR
    go_wp2_with fail
    go_ret
    exact ⟨rfl, B3.out⟩
  · obtain rfl : c = 6 := by omega
    have hP := Lib.hid (Parse_good a0 (by omega) hno)
    have hR := Lib.hid (refParse_any a0 (by omega) 6 hc hno hyes)
    rw [show parseV a0 6 = .tuple #[.agg #[.string (a0.extract 12 16), .string (a0.extract 16 20), .int .i64 (gv a0 9 1 : Nat)], .string (a0.extract (siz a0) (len a0)), .int .i64 0] from if_neg hc6] at hP hR
    generalize a0.extract 12 16 = x at *
    generalize a0.extract 16 20 = y at *
    generalize gv a0 9 1 = p at *
    generalize a0.extract (siz a0) (len a0) = r at *
    clear hno hyes
    go_enter Try.func3, Try.ntmps3
    go_wp2_with fail
    refine (works_any _).mono ?_
    rintro e w1 ⟨rfl, hb1⟩
    go_wp2_with fail
    refine (hP.out _).mono ?_
    rintro e w2 ⟨rfl, hb2⟩
    go_wp2_with fail
    refine (hR.out _).mono ?_
    rintro e w3 ⟨rfl, hb3⟩
    obtain ⟨c0, c1, c2⟩ := (((headed_new w2 _ _ _).kept hb3).alloc (.cells #[.string x, .string y, .int .i64 (p : Nat)] 28)).cells
    have B3 := Lib.hid (below2 (below2 (below2 (below2 hb1 hb2) (below_alloc w2 _)) hb3) (below_alloc w3 (.cells #[.string x, .string y, .int .i64 (p : Nat)] 28)))
    clear hb1 hb2 hb3 hP hR
    go_wp2_with fail
    go_ret
    exact ⟨rfl, B3.out⟩

theorem own_Ip4Parses : ownKnob Try.prog.godebug = none := by kernel_rfl
set_option maxRecDepth 100000 in
set_option maxHeartbeats 800000 in
theorem lifted_Ip4Parses (os : Os) (started : os.Started) (H : Type) (enc : TypeId × Value → H) :
    ReturnsInHanded {} Try.checked os 3 .any (Rows.ip4ParsesSpec.pre6 enc Try.prog Try.f3 Rows.ip4ParsesRow.domain false) (Rows.ip4ParsesSpec.post enc Try.prog Try.f3 false true false false) := by
  refine returnsInHanded_of_change (C := Try.checked) own_Ip4Parses started (by kernel_rfl) Try.func3
    (ChangeSpec.witness6 (enc := enc) (C := Try.checked) false ⟨#[], #[.string ⟨#[]⟩], []⟩ 8 (by kernel_rfl) (by kernel_rfl) (by kernel_rfl) (by kernel_rfl)) ?_
  intro W base args ds gs before hval0 hW _ _
  have hval : ∀ (j : Nat) t v, Try.f3.params[j]? = some t → args[j]? = some v → Value.okWide Try.prog W .any base t v := hval0
  have hW' := hW
  obtain ⟨p, q, hA0, hV, rfl, _, _⟩ := hW
  have hA : DataW.TrodAll enc Try.prog W 0 (fun _ => true) true Try.f3.params.toList args.toList ds p := hA0
  rw [Try.params3] at hA hval
  obtain ⟨v0, vs0, d0, ds0, p0, q0, ha0, rfl, rfl, t0, r0⟩ := trodAll_cons hA
  obtain ⟨rfl, rfl, rfl⟩ := trodAll_nil r0
  obtain rfl : args = #[v0] := by cases args; simp_all
  obtain ⟨rfl, rfl⟩ := trodVars_none hV
  obtain ⟨a0, rfl, rfl, rfl, h0⟩ := open_string Try.underlying9 (hval 0 9 v0 rfl rfl) t0
  clear hA0 hval0
  simp only [List.append_nil] at hW'
  refine (walk_Ip4Parses a0 h0 W).mono fun e W' ⟨he, hnx⟩ => ?_
  subst he
  exact ⟨_, rfl, ⟨_, _, _, [], [], [], hW', trodAll_cons_mk (shut_bool Try.underlying4 _) trodAll_mk0, (trodAll_cons_mk (shut_string Try.underlying9 h0) trodAll_mk0), rfl, hnx.frame _, fun h => by cases h⟩⟩

theorem ip4Parses_holds : Rows.Ip4ParsesSaid :=
  OpenClaim.holds_of_wide 3 Try.f3 rfl rfl rfl rfl rfl rfl rfl ⟨rfl, rfl, rfl, rfl, rfl⟩ rfl rfl rfl rfl rfl (by kernel_rfl) Try.func3 (by kernel_rfl)
    (of_decide_eq_true (by kernel_rfl)) (by unfold Func.isWrapper; first | (rw [if_pos (by decide +kernel)]; kernel_rfl) | (rw [if_neg (by decide +kernel)]; exact ⟨rfl, rfl⟩))
    (fun os started H enc _ => lifted_Ip4Parses os started H enc)

#print axioms ip4Parses_holds
end Go.Proofs.Ytmfmggjliibblaa
