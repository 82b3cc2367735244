/-
  PortParses: for every proto and s the law PortParses answers true: the ports, the flags and the error are what the document says. No condition.
-/
import Derived.Test.YthfhaoiengbhgaaRows
import Derived.Test.YthfhaoiengbhgaaPrtW
import Derived.Test.YthfhaoiengbhgaaPrtF
import Derived.ProofKit
import Derived.OpenShut
import Derived.ChangeMaps5
namespace Go.Proofs.Ythfhaoiengbhgaa
open Go.ChangeShapes Go.WideShapes Go.ChangeAt Go.RowKit
open Go.ChangeMaps (open_string shut_string)
open Prt Txt

set_option maxRecDepth 100000 in
set_option maxHeartbeats 3200000 in
theorem walk_PortParses (a0 : Int) (a1 : ByteArray) (h0 : (Lit.int .i64 a0).wf = true) (_h1 : a1.size ≤ maxLen) (w : World) :
    Calls Try.prog 3 #[.int .i64 a0, .string a1] w fun e W' => e = .returned (.bool true) ∧ Below w.heap.size w W' := by
  by_cases g1 : (300 : Int) < (a1.size : Int)
  · have d1 : decide ((300 : Int) < (a1.size : Int)) = true := by simpa using g1
    go_enter Try.func3, Try.ntmps3
    go_wp2_with fail
    refine (works_any _).mono ?_
    rintro e w1 ⟨rfl, hb1⟩
    go_wp2_with fail
    go_ret
    exact ⟨rfl, hb1⟩
  have d1 : decide ((300 : Int) < (a1.size : Int)) = false := by simpa using g1
  by_cases hgd : good a0 a1
  case neg =>
    have hP := fun W => Lib.hid (Parse_bad a0 h0 a1 (by omega) hgd W)
    have hR := fun W => Lib.hid (refParse_bad a0 a1 (by omega) hgd W)
    generalize errOf a0 a1 = c at *
    clear hgd h0
    go_enter Try.func3, Try.ntmps3
    go_wp2_with fail
    refine (works_any _).mono ?_
    rintro e w1 ⟨rfl, hb1⟩
    go_wp2_with fail
    refine (hP _).out.mono ?_
    rintro e w2 ⟨rfl, hb2⟩
    go_wp2_with fail
    refine (hR _).out.mono ?_
    rintro e w3 ⟨rfl, hb3⟩
    obtain ⟨c0, c1, c2⟩ := (((headed_new w2 0 0 0).kept hb3).alloc (.cells #[.int .i64 0, .int .i64 0, .int .i64 0] 28)).cells
    have B3 := Lib.hid (below2 (below2 (below2 (below2 hb1 hb2) (below_alloc w2 (.cells #[.int .i64 0, .int .i64 0, .int .i64 0] 24))) hb3) (below_alloc w3 (.cells #[.int .i64 0, .int .i64 0, .int .i64 0] 28)))
    clear hb1 hb2 hb3
    go_wp2_with fail
    go_ret
    exact ⟨rfl, B3.out⟩
  have hP := fun W => Lib.hid (Parse_good a0 a1 (by omega) hgd W)
  have hR := fun W => Lib.hid (refParse_good a0 a1 (by omega) hgd W)
  generalize gv a1 0 2 = x at *
  generalize gv a1 2 2 = y at *
  generalize flagsOf a0 a1 = z at *
  clear hgd h0
  go_enter Try.func3, Try.ntmps3
  go_wp2_with fail
  refine (works_any _).mono ?_
  rintro e w1 ⟨rfl, hb1⟩
  go_wp2_with fail
  refine (hP _).out.mono ?_
  rintro e w2 ⟨rfl, hb2⟩
  go_wp2_with fail
  refine (hR _).out.mono ?_
  rintro e w3 ⟨rfl, hb3⟩
  obtain ⟨c0, c1, c2⟩ := (((headed_new w2 (x : Nat) (y : Nat) (z : Nat)).kept hb3).alloc (.cells #[.int .i64 (x : Nat), .int .i64 (y : Nat), .int .i64 (z : Nat)] 28)).cells
  have B3 := Lib.hid (below2 (below2 (below2 (below2 hb1 hb2) (below_alloc w2 (.cells #[.int .i64 (x : Nat), .int .i64 (y : Nat), .int .i64 (z : Nat)] 24))) hb3) (below_alloc w3 (.cells #[.int .i64 (x : Nat), .int .i64 (y : Nat), .int .i64 (z : Nat)] 28)))
  clear hb1 hb2 hb3
  go_wp2_with fail
  go_ret
  exact ⟨rfl, B3.out⟩

theorem own_PortParses : ownKnob Try.prog.godebug = none := by kernel_rfl
set_option maxRecDepth 100000 in
set_option maxHeartbeats 800000 in
theorem lifted_PortParses (os : Os) (started : os.Started) (H : Type) (enc : TypeId × Value → H) :
    ReturnsInHanded {} Try.checked os 3 .any (Rows.portParsesSpec.pre6 enc Try.prog Try.f3 Rows.portParsesRow.domain false) (Rows.portParsesSpec.post enc Try.prog Try.f3 false true false false) := by
  refine returnsInHanded_of_change (C := Try.checked) own_PortParses started (by kernel_rfl) Try.func3
    (ChangeSpec.witness6 (enc := enc) (C := Try.checked) false ⟨#[], #[.int .i64 0, .string ⟨#[]⟩], []⟩ 8 (by kernel_rfl) (by kernel_rfl) (by kernel_rfl) (by kernel_rfl)) ?_
  intro W base args ds gs before hval0 hW _ _
  have hval : ∀ (j : Nat) t v, Try.f3.params[j]? = some t → args[j]? = some v → Value.okWide Try.prog W .any base t v := hval0
  have hW' := hW
  obtain ⟨p, q, hA0, hV, rfl, _, _⟩ := hW
  have hA : DataW.TrodAll enc Try.prog W 0 (fun _ => true) true Try.f3.params.toList args.toList ds p := hA0
  rw [Try.params3] at hA hval
  obtain ⟨v0, vs0, d0, ds0, p0, q0, ha0, rfl, rfl, t0, r0⟩ := trodAll_cons hA
  obtain ⟨v1, vs1, d1, ds1, p1, q1, ha1, rfl, rfl, t1, r1⟩ := trodAll_cons r0
  obtain ⟨rfl, rfl, rfl⟩ := trodAll_nil r1
  subst ha1
  obtain rfl : args = #[v0, v1] := by cases args; simp_all
  obtain ⟨rfl, rfl⟩ := trodVars_none hV
  obtain ⟨a0, rfl, rfl, rfl, h0⟩ := open_int Try.underlying3 (hval 0 3 v0 rfl rfl) t0
  obtain ⟨a1, rfl, rfl, rfl, h1⟩ := open_string Try.underlying9 (hval 1 9 v1 rfl rfl) t1
  clear hA0 hval0
  simp only [List.append_nil] at hW'
  refine (walk_PortParses a0 a1 h0 h1 W).mono fun e W' ⟨he, hnx⟩ => ?_
  subst he
  exact ⟨_, rfl, ⟨_, _, _, [], [], [], hW', trodAll_cons_mk (shut_bool Try.underlying4 _) trodAll_mk0, (trodAll_cons_mk (shut_int Try.underlying3 h0) (trodAll_cons_mk (shut_string Try.underlying9 h1) trodAll_mk0)), rfl, hnx.frame _, fun h => by cases h⟩⟩

theorem portParses_holds : Rows.PortParsesSaid :=
  OpenClaim.holds_of_wide 3 Try.f3 rfl rfl rfl rfl rfl rfl rfl ⟨rfl, rfl, rfl, rfl, rfl⟩ rfl rfl rfl rfl rfl (by kernel_rfl) Try.func3 (by kernel_rfl)
    (of_decide_eq_true (by kernel_rfl)) (by unfold Func.isWrapper; first | (rw [if_pos (by decide +kernel)]; kernel_rfl) | (rw [if_neg (by decide +kernel)]; exact ⟨rfl, rfl⟩))
    (fun os started H enc _ => lifted_PortParses os started H enc)

#print axioms portParses_holds
end Go.Proofs.Ythfhaoiengbhgaa
