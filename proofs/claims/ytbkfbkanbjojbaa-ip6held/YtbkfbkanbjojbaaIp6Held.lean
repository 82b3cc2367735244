/-
  Ip6Held: for every s and behind the law Ip6Held answers true: what is parsed is put, and parsed again; what stands behind makes no difference. No condition.
-/
import Derived.Test.YtbkfbkanbjojbaaRows
import Derived.Test.YtbkfbkanbjojbaaIp6W
import Derived.ProofKit
import Derived.OpenShut
import Derived.ChangeMaps5
namespace Go.Proofs.Ytbkfbkanbjojbaa
open Go.ChangeShapes Go.WideShapes Go.ChangeAt Go.RowKit
open Go.ChangeMaps (open_string shut_string)
open Ip6 Txt

set_option maxRecDepth 100000 in
set_option maxHeartbeats 3200000 in
theorem walk_Ip6Held (a0 a1 : ByteArray) (h0 : a0.size ≤ maxLen) (_h1 : a1.size ≤ maxLen) (w : World) :
    Calls Try.prog 6 #[.string a0, .string a1] w fun e W' => e = .returned (.bool true) ∧ Below w.heap.size w W' := by
  unfold maxLen at h0
  by_cases g0 : (300 : Int) < (a0.size : Int)
  · have d0 : decide ((300 : Int) < (a0.size : Int)) = true := by simpa using g0
    go_enter Try.func6, Try.ntmps6
    go_wp2_with fail
    refine (works_any _).mono ?_
    rintro e w1 ⟨rfl, hb1⟩
    go_wp2_with fail
    go_ret
    exact ⟨rfl, hb1⟩
  have d0 : decide ((300 : Int) < (a0.size : Int)) = false := by simpa using g0
  by_cases g1 : (300 : Int) < (a1.size : Int)
  · have d1 : decide ((300 : Int) < (a1.size : Int)) = true := by simpa using g1
    go_enter Try.func6, Try.ntmps6
    go_wp2_with fail
    refine (works_any _).mono ?_
    rintro e w1 ⟨rfl, hb1⟩
    go_wp2_with fail
    go_ret
    exact ⟨rfl, hb1⟩
  have d1 : decide ((300 : Int) < (a1.size : Int)) = false := by simpa using g1
  by_cases hgd : good a0
  case neg =>
    obtain ⟨c, hc, hP⟩ := Parse_bad a0 (by omega) hgd
    have hn : (c != 0) = true := bne_iff_ne.2 (by omega)
    clear hgd hc
    go_enter Try.func6, Try.ntmps6
    go_wp2_with fail
    refine (works_any _).mono ?_
    rintro e w1 ⟨rfl, hb1⟩
    go_wp2_with fail
    refine (hP _).mono ?_
    rintro e w2 ⟨rfl, hb2⟩
    have B2 := Lib.hid (below2 (below2 hb1 hb2) (below_alloc w2 (.cells #[.string ⟨#[]⟩, .string ⟨#[]⟩, .int .i64 0] 24)))
    clear hb1 hb2 hP
    go_wp2_with fail
    go_ret
    exact ⟨rfl, B2.out⟩
  have hP := Parse_good a0 (by omega) hgd
  have hA := good_app a0 a1 hgd
  have hQ := Parse_good (a0 ++ a1) (by rw [ByteArray.size_append]; omega) hA.1
  rw [hA.2] at hQ
  obtain ⟨k0, k1, k2⟩ := hgd
  have hx : (a0.extract 8 24).size = 16 := by rw [ext_size a0 8 24 (by omega)]
  have hy : (a0.extract 24 40).size = 16 := by rw [ext_size a0 24 40 (by omega)]
  have hr : (a0.extract 40 (40 + len a0)).size + 40 ≤ a0.size := by rw [ext_size a0 _ _ (by omega)]; omega
  have hp : gv a0 6 1 ≤ 255 := by
    have h1 := gv_lt a0 6 1 (by omega)
    omega
  unfold okV at hP hQ
  clear k0 k1 k2 hA
  generalize a0.extract 8 24 = x at *
  generalize a0.extract 24 40 = y at *
  generalize gv a0 6 1 = p at *
  generalize a0.extract 40 (40 + len a0) = r at *
  have n1 : ((x.size : Int) == 16) = true := by rw [hx]; rfl
  have n2 : ((y.size : Int) == 16) = true := by rw [hy]; rfl
  have n3 : decide ((0 : Int) ≤ (p : Int)) = true := decide_eq_true (by omega)
  have n4 : decide ((p : Int) ≤ 255) = true := decide_eq_true (by omega)
  have n5 : decide ((r.size : Int) + 40 ≤ (a0.size : Int)) = true := decide_eq_true (by omega)
  have HP := fun W => Lib.hid (hP W)
  have HQ := fun W => Lib.hid (hQ W)
  clear hP hQ
  go_enter Try.func6, Try.ntmps6
  go_wp2_with fail
  refine (works_any _).mono ?_
  rintro e w1 ⟨rfl, hb1⟩
  go_wp2_with fail
  refine (HP _).out.mono ?_
  rintro e w2 ⟨rfl, hb2⟩
  have B2 := Lib.hid (below2 (below2 hb1 hb2) (below_alloc w2 (.cells #[.string x, .string y, .int .i64 (p : Nat)] 24)))
  clear hb1 hb2 HP
  go_wp2_with fail
  refine (HQ _).out.mono ?_
  rintro e w3 ⟨rfl, hb3⟩
  have H3 := Lib.hid (((headed_new w2 _ _ _).kept hb3).alloc (.cells #[.string x, .string y, .int .i64 (p : Nat)] 24))
  have K3 := Lib.hid (headed_new w3 x y (p : Nat))
  have B3 := Lib.hid (below2 (below2 B2.out hb3) (below_alloc w3 (.cells #[.string x, .string y, .int .i64 (p : Nat)] 24)))
  clear hb3 B2 HQ
  obtain ⟨c0, c1, c2⟩ := H3.out.cells
  go_wp2_with fail
  refine (Put_named x y (p : Nat) r hx hy (by omega) (by omega) _).mono ?_
  rintro e w4 ⟨S, rfl, hz, HS, hb4⟩
  clear c0 c1 c2
  have H4 := Lib.hid (H3.out.kept hb4)
  have K4 := Lib.hid (K3.out.kept hb4)
  have B4 := Lib.hid (below2 B3.out hb4)
  clear hb4 H3 K3 B3
  go_wp2_with fail
  refine (Parse_put0 S x y (p : Nat) r hx hy (by omega) (by omega) HS _).mono ?_
  rintro e w5 ⟨rfl, hb5⟩
  obtain ⟨c0, c1, c2⟩ := ((H4.out.kept hb5).alloc (.cells #[.string x, .string y, .int .i64 (p : Nat)] 24)).cells
  obtain ⟨f0, f1, f2⟩ := ((K4.out.kept hb5).alloc (.cells #[.string x, .string y, .int .i64 (p : Nat)] 24)).cells
  have B5 := Lib.hid (below2 (below2 B4.out hb5) (below_alloc w5 (.cells #[.string x, .string y, .int .i64 (p : Nat)] 24)))
  clear hb5 H4 K4 B4
  go_wp2_with fail
  go_ret
  exact ⟨rfl, B5.out⟩

theorem own_Ip6Held : ownKnob Try.prog.godebug = none := by kernel_rfl
set_option maxRecDepth 100000 in
set_option maxHeartbeats 800000 in
theorem lifted_Ip6Held (os : Os) (started : os.Started) (H : Type) (enc : TypeId × Value → H) :
    ReturnsInHanded {} Try.checked os 6 .any (Rows.ip6HeldSpec.pre6 enc Try.prog Try.f6 Rows.ip6HeldRow.domain false) (Rows.ip6HeldSpec.post enc Try.prog Try.f6 false true false false) := by
  refine returnsInHanded_of_change (C := Try.checked) own_Ip6Held started (by kernel_rfl) Try.func6
    (ChangeSpec.witness6 (enc := enc) (C := Try.checked) false ⟨#[], #[.string ⟨#[]⟩, .string ⟨#[]⟩], []⟩ 8 (by kernel_rfl) (by kernel_rfl) (by kernel_rfl) (by kernel_rfl)) ?_
  intro W base args ds gs before hval0 hW _ _
  have hval : ∀ (j : Nat) t v, Try.f6.params[j]? = some t → args[j]? = some v → Value.okWide Try.prog W .any base t v := hval0
  have hW' := hW
  obtain ⟨p, q, hA0, hV, rfl, _, _⟩ := hW
  have hA : DataW.TrodAll enc Try.prog W 0 (fun _ => true) true Try.f6.params.toList args.toList ds p := hA0
  rw [Try.params6] at hA hval
  obtain ⟨v0, vs0, d0, ds0, p0, q0, ha0, rfl, rfl, t0, r0⟩ := trodAll_cons hA
  obtain ⟨v1, vs1, d1, ds1, p1, q1, ha1, rfl, rfl, t1, r1⟩ := trodAll_cons r0
  obtain ⟨rfl, rfl, rfl⟩ := trodAll_nil r1
  subst ha1
  obtain rfl : args = #[v0, v1] := by cases args; simp_all
  obtain ⟨rfl, rfl⟩ := trodVars_none hV
  obtain ⟨a0, rfl, rfl, rfl, h0⟩ := open_string Try.underlying9 (hval 0 9 v0 rfl rfl) t0
  obtain ⟨a1, rfl, rfl, rfl, h1⟩ := open_string Try.underlying9 (hval 1 9 v1 rfl rfl) t1
  clear hA0 hval0
  simp only [List.append_nil] at hW'
  refine (walk_Ip6Held a0 a1 h0 h1 W).mono fun e W' ⟨he, hnx⟩ => ?_
  subst he
  exact ⟨_, rfl, ⟨_, _, _, [], [], [], hW', trodAll_cons_mk (shut_bool Try.underlying4 _) trodAll_mk0, (trodAll_cons_mk (shut_string Try.underlying9 h0) (trodAll_cons_mk (shut_string Try.underlying9 h1) trodAll_mk0)), rfl, hnx.frame _, fun h => by cases h⟩⟩

theorem ip6Held_holds : Rows.Ip6HeldSaid :=
  OpenClaim.holds_of_wide 6 Try.f6 rfl rfl rfl rfl rfl rfl rfl ⟨rfl, rfl, rfl, rfl, rfl⟩ rfl rfl rfl rfl rfl (by kernel_rfl) Try.func6 (by kernel_rfl)
    (of_decide_eq_true (by kernel_rfl)) (by unfold Func.isWrapper; first | (rw [if_pos (by decide +kernel)]; kernel_rfl) | (rw [if_neg (by decide +kernel)]; exact ⟨rfl, rfl⟩))
    (fun os started H enc _ => lifted_Ip6Held os started H enc)

#print axioms ip6Held_holds
end Go.Proofs.Ytbkfbkanbjojbaa
