/-
  PortHeld: for every proto, s and behind the law PortHeld answers true: what is parsed is put, and parsed again; what stands behind makes no difference. No condition.
-/
import Derived.Test.YthfhaoiengbhgaaRows
import Derived.Test.YthfhaoiengbhgaaPrtW
import Derived.ProofKit
import Derived.OpenShut
import Derived.ChangeMaps5
namespace Go.Proofs.Ythfhaoiengbhgaa
open Go.ChangeShapes Go.WideShapes Go.ChangeAt Go.RowKit
open Go.ChangeMaps (open_string shut_string)
open Prt Txt

set_option maxRecDepth 100000 in
set_option maxHeartbeats 3200000 in
theorem walk_PortHeld (a0 : Int) (a1 a2 : ByteArray) (h0 : (Lit.int .i64 a0).wf = true) (_h1 : a1.size ≤ maxLen) (_h2 : a2.size ≤ maxLen) (w : World) :
    Calls Try.prog 6 #[.int .i64 a0, .string a1, .string a2] w fun e W' => e = .returned (.bool true) ∧ Below w.heap.size w W' := by
  by_cases g1 : (300 : Int) < (a1.size : Int)
  · have d1 : decide ((300 : Int) < (a1.size : Int)) = true := by simpa using g1
    go_enter Try.func6, Try.ntmps6
    go_wp2_with fail
    refine (works_any _).mono ?_
    rintro e w1 ⟨rfl, hb1⟩
    go_wp2_with fail
    go_ret
    exact ⟨rfl, hb1⟩
  have d1 : decide ((300 : Int) < (a1.size : Int)) = false := by simpa using g1
  by_cases g2 : (300 : Int) < (a2.size : Int)
  · have d2 : decide ((300 : Int) < (a2.size : Int)) = true := by simpa using g2
    go_enter Try.func6, Try.ntmps6
    go_wp2_with fail
    refine (works_any _).mono ?_
    rintro e w1 ⟨rfl, hb1⟩
    go_wp2_with fail
    go_ret
    exact ⟨rfl, hb1⟩
  have d2 : decide ((300 : Int) < (a2.size : Int)) = false := by simpa using g2
  by_cases hgd : good a0 a1
  case neg =>
    have hP := fun W => Lib.hid (Parse_bad a0 h0 a1 (by omega) hgd W)
    have hn : (errOf a0 a1 != 0) = true := bne_iff_ne.2 (errOf_ne a0 a1)
    clear hgd
    go_enter Try.func6, Try.ntmps6
    go_wp2_with fail
    refine (works_any _).mono ?_
    rintro e w1 ⟨rfl, hb1⟩
    go_wp2_with fail
    refine (hP _).out.mono ?_
    rintro e w2 ⟨rfl, hb2⟩
    have B2 := Lib.hid (below2 (below2 hb1 hb2) (below_alloc w2 (.cells #[.int .i64 0, .int .i64 0, .int .i64 0] 24)))
    clear hb1 hb2 hP
    go_wp2_with fail
    go_ret
    exact ⟨rfl, B2.out⟩
  have hP := Parse_good a0 a1 (by omega) hgd
  obtain ⟨hA, e0, e2, e3⟩ := good_app a0 a1 a2 hgd
  have hQ := Parse_good a0 (a1 ++ a2) (by rw [ByteArray.size_append]; omega) hA
  rw [e0, e2, e3] at hQ
  have hF := good_fit a0 a1 hgd
  clear hA e0 e2 e3 hgd
  generalize gv a1 0 2 = x at *
  generalize gv a1 2 2 = y at *
  generalize flagsOf a0 a1 = z at *
  have HP := fun W => Lib.hid (hP W)
  have HQ := fun W => Lib.hid (hQ W)
  have HF := Lib.hid hF
  obtain ⟨k0, k1, k2, k3, k4, k5⟩ := hF
  have n1 : decide ((0 : Int) ≤ (x : Int)) = true := decide_eq_true (by omega)
  have n2 : decide ((x : Int) ≤ 65535) = true := decide_eq_true (by omega)
  have n3 : decide ((0 : Int) ≤ (y : Int)) = true := decide_eq_true (by omega)
  have n4 : decide ((y : Int) ≤ 65535) = true := decide_eq_true (by omega)
  have hm : most a0 ≤ 20 := by unfold most; split <;> omega
  clear hP hQ h0 k1 k2 k3 k4
  rcases k0 with rfl | rfl
  · clear k5 hm
    go_enter Try.func6, Try.ntmps6
    go_wp2_with fail
    refine (works_any _).mono ?_
    rintro e w1 ⟨rfl, hb1⟩
    go_wp2_with fail
    refine (HP _).out.mono ?_
    rintro e w2 ⟨rfl, hb2⟩
    have B2 := Lib.hid (below2 (below2 hb1 hb2) (below_alloc w2 (.cells #[.int .i64 (x : Nat), .int .i64 (y : Nat), .int .i64 (z : Nat)] 24)))
    clear hb1 hb2 HP
    go_wp2_with fail
    refine (HQ _).out.mono ?_
    rintro e w3 ⟨rfl, hb3⟩
    have H3 := Lib.hid (((headed_new w2 (x : Nat) (y : Nat) (z : Nat)).kept hb3).alloc (.cells #[.int .i64 (x : Nat), .int .i64 (y : Nat), .int .i64 (z : Nat)] 24))
    have K3 := Lib.hid (headed_new w3 (x : Nat) (y : Nat) (z : Nat))
    have B3 := Lib.hid (below2 (below2 B2.out hb3) (below_alloc w3 (.cells #[.int .i64 (x : Nat), .int .i64 (y : Nat), .int .i64 (z : Nat)] 24)))
    clear hb3 B2 HQ
    obtain ⟨c0, c1, c2⟩ := H3.out.cells
    go_wp2_with fail
    refine (Put_named 6 (x : Nat) (y : Nat) (z : Nat) HF.out _).mono ?_
    rintro e w4 ⟨S, rfl, hz, HS, hb4⟩
    clear c0 c1 c2 hz
    have H4 := Lib.hid (H3.out.kept hb4)
    have K4 := Lib.hid (K3.out.kept hb4)
    have B4 := Lib.hid (below2 B3.out hb4)
    clear hb4 H3 K3 B3
    go_wp2_with fail
    refine (Parse_put0 S 6 (x : Nat) (y : Nat) (z : Nat) HF.out HS _).mono ?_
    rintro e w5 ⟨rfl, hb5⟩
    obtain ⟨c0, c1, c2⟩ := ((H4.out.kept hb5).alloc (.cells #[.int .i64 (x : Nat), .int .i64 (y : Nat), .int .i64 (z : Nat)] 24)).cells
    obtain ⟨f0, f1, f2⟩ := ((K4.out.kept hb5).alloc (.cells #[.int .i64 (x : Nat), .int .i64 (y : Nat), .int .i64 (z : Nat)] 24)).cells
    have B5 := Lib.hid (below2 (below2 B4.out hb5) (below_alloc w5 (.cells #[.int .i64 (x : Nat), .int .i64 (y : Nat), .int .i64 (z : Nat)] 24)))
    clear hb5 H4 K4 B4
    go_wp2_with fail
    go_ret
    exact ⟨rfl, B5.out⟩
  · obtain rfl : z = 0 := by
      have := k5 rfl
      omega
    clear k5 hm
    replace HP : ∀ W, Hid (Calls Try.prog 9 #[.int .i64 17, .string a1] W fun e W' => e = .returned (okV (x : Nat) (y : Nat) 0) ∧ Below W.heap.size W W') := HP
    replace HQ : ∀ W, Hid (Calls Try.prog 9 #[.int .i64 17, .string (a1 ++ a2)] W fun e W' => e = .returned (okV (x : Nat) (y : Nat) 0) ∧ Below W.heap.size W W') := HQ
    replace HF : Hid (fit 17 (x : Nat) (y : Nat) 0) := HF
    go_enter Try.func6, Try.ntmps6
    go_wp2_with fail
    refine (works_any _).mono ?_
    rintro e w1 ⟨rfl, hb1⟩
    go_wp2_with fail
    refine (HP _).out.mono ?_
    rintro e w2 ⟨rfl, hb2⟩
    have B2 := Lib.hid (below2 (below2 hb1 hb2) (below_alloc w2 (.cells #[.int .i64 (x : Nat), .int .i64 (y : Nat), .int .i64 0] 24)))
    clear hb1 hb2 HP
    go_wp2_with fail
    refine (HQ _).out.mono ?_
    rintro e w3 ⟨rfl, hb3⟩
    have H3 := Lib.hid (((headed_new w2 (x : Nat) (y : Nat) 0).kept hb3).alloc (.cells #[.int .i64 (x : Nat), .int .i64 (y : Nat), .int .i64 0] 24))
    have K3 := Lib.hid (headed_new w3 (x : Nat) (y : Nat) 0)
    have B3 := Lib.hid (below2 (below2 B2.out hb3) (below_alloc w3 (.cells #[.int .i64 (x : Nat), .int .i64 (y : Nat), .int .i64 0] 24)))
    clear hb3 B2 HQ
    obtain ⟨c0, c1, c2⟩ := H3.out.cells
    go_wp2_with fail
    refine (Put_named 17 (x : Nat) (y : Nat) 0 HF.out _).mono ?_
    rintro e w4 ⟨S, rfl, hz, HS, hb4⟩
    clear c0 c1 c2 hz
    have H4 := Lib.hid (H3.out.kept hb4)
    have K4 := Lib.hid (K3.out.kept hb4)
    have B4 := Lib.hid (below2 B3.out hb4)
    clear hb4 H3 K3 B3
    go_wp2_with fail
    refine (Parse_put0 S 17 (x : Nat) (y : Nat) 0 HF.out HS _).mono ?_
    rintro e w5 ⟨rfl, hb5⟩
    obtain ⟨c0, c1, c2⟩ := ((H4.out.kept hb5).alloc (.cells #[.int .i64 (x : Nat), .int .i64 (y : Nat), .int .i64 0] 24)).cells
    obtain ⟨f0, f1, f2⟩ := ((K4.out.kept hb5).alloc (.cells #[.int .i64 (x : Nat), .int .i64 (y : Nat), .int .i64 0] 24)).cells
    have B5 := Lib.hid (below2 (below2 B4.out hb5) (below_alloc w5 (.cells #[.int .i64 (x : Nat), .int .i64 (y : Nat), .int .i64 0] 24)))
    clear hb5 H4 K4 B4
    go_wp2_with fail
    go_ret
    exact ⟨rfl, B5.out⟩

theorem own_PortHeld : ownKnob Try.prog.godebug = none := by kernel_rfl
set_option maxRecDepth 100000 in
set_option maxHeartbeats 800000 in
theorem lifted_PortHeld (os : Os) (started : os.Started) (H : Type) (enc : TypeId × Value → H) :
    ReturnsInHanded {} Try.checked os 6 .any (Rows.portHeldSpec.pre6 enc Try.prog Try.f6 Rows.portHeldRow.domain false) (Rows.portHeldSpec.post enc Try.prog Try.f6 false true false false) := by
  refine returnsInHanded_of_change (C := Try.checked) own_PortHeld started (by kernel_rfl) Try.func6
    (ChangeSpec.witness6 (enc := enc) (C := Try.checked) false ⟨#[], #[.int .i64 0, .string ⟨#[]⟩, .string ⟨#[]⟩], []⟩ 8 (by kernel_rfl) (by kernel_rfl) (by kernel_rfl) (by kernel_rfl)) ?_
  intro W base args ds gs before hval0 hW _ _
  have hval : ∀ (j : Nat) t v, Try.f6.params[j]? = some t → args[j]? = some v → Value.okWide Try.prog W .any base t v := hval0
  have hW' := hW
  obtain ⟨p, q, hA0, hV, rfl, _, _⟩ := hW
  have hA : DataW.TrodAll enc Try.prog W 0 (fun _ => true) true Try.f6.params.toList args.toList ds p := hA0
  rw [Try.params6] at hA hval
  obtain ⟨v0, vs0, d0, ds0, p0, q0, ha0, rfl, rfl, t0, r0⟩ := trodAll_cons hA
  obtain ⟨v1, vs1, d1, ds1, p1, q1, ha1, rfl, rfl, t1, r1⟩ := trodAll_cons r0
  obtain ⟨v2, vs2, d2, ds2, p2, q2, ha2, rfl, rfl, t2, r2⟩ := trodAll_cons r1
  obtain ⟨rfl, rfl, rfl⟩ := trodAll_nil r2
  subst ha2
  subst ha1
  obtain rfl : args = #[v0, v1, v2] := by cases args; simp_all
  obtain ⟨rfl, rfl⟩ := trodVars_none hV
  obtain ⟨a0, rfl, rfl, rfl, h0⟩ := open_int Try.underlying3 (hval 0 3 v0 rfl rfl) t0
  obtain ⟨a1, rfl, rfl, rfl, h1⟩ := open_string Try.underlying9 (hval 1 9 v1 rfl rfl) t1
  obtain ⟨a2, rfl, rfl, rfl, h2⟩ := open_string Try.underlying9 (hval 2 9 v2 rfl rfl) t2
  clear hA0 hval0
  simp only [List.append_nil] at hW'
  refine (walk_PortHeld a0 a1 a2 h0 h1 h2 W).mono fun e W' ⟨he, hnx⟩ => ?_
  subst he
  exact ⟨_, rfl, ⟨_, _, _, [], [], [], hW', trodAll_cons_mk (shut_bool Try.underlying4 _) trodAll_mk0, (trodAll_cons_mk (shut_int Try.underlying3 h0) (trodAll_cons_mk (shut_string Try.underlying9 h1) (trodAll_cons_mk (shut_string Try.underlying9 h2) trodAll_mk0))), rfl, hnx.frame _, fun h => by cases h⟩⟩

theorem portHeld_holds : Rows.PortHeldSaid :=
  OpenClaim.holds_of_wide 6 Try.f6 rfl rfl rfl rfl rfl rfl rfl ⟨rfl, rfl, rfl, rfl, rfl⟩ rfl rfl rfl rfl rfl (by kernel_rfl) Try.func6 (by kernel_rfl)
    (of_decide_eq_true (by kernel_rfl)) (by unfold Func.isWrapper; first | (rw [if_pos (by decide +kernel)]; kernel_rfl) | (rw [if_neg (by decide +kernel)]; exact ⟨rfl, rfl⟩))
    (fun os started H enc _ => lifted_PortHeld os started H enc)

#print axioms portHeld_holds
end Go.Proofs.Ythfhaoiengbhgaa
