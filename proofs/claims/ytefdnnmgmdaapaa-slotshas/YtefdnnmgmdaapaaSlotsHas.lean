/-
  SlotsHas: for every p, id and h the law SlotsHas answers true: a hash goes to a backend that the pool has. No condition.
-/
import Derived.Test.YtefdnnmgmdaapaaRows
import Derived.Test.YtefdnnmgmdaapaaBPol
import Derived.Test.YtefdnnmgmdaapaaSts
import Derived.Test.YtefdnnmgmdaapaaSlsV
import Derived.BigQuiet
import Derived.WalkSmall
import Derived.ProofKit
import Derived.OpenShut
import Derived.ChangeMaps5
namespace Go.Proofs.Ytefdnnmgmdaapaa
open Go.ChangeShapes Go.WideShapes Go.ChangeAt Go.RowKit Go.Shelf
open Go.ChangeMaps (open_string shut_string)
open Sls Slo
open Pol (Bk polV chk chkV)
open Pts (ofL hsh)
open Rin (succL)

set_option maxRecDepth 100000 in
set_option maxHeartbeats 2000000 in
theorem walk_SlotsHas (a0 : Option Addr) (c0 : Nat) (z0 : List Bk) (id h : Int) (w : World) (h0 : Pol.Lies w a0 c0 z0) (_g0 : ∀ x ∈ z0, Stp.BkOk x) (_h1 : (Lit.int .i64 id).wf = true) (_h2 : (Lit.int .u64 h).wf = true) :
    Calls Try.prog 4 #[polV a0 c0 z0, .int .i64 id, .int .u64 h] w fun e W' => e = .returned (.bool true) ∧ Below w.heap.size w W' := by
  have H0 := Lib.hid h0
  have hC0 := h0.len
  have hM0 := h0.max
  unfold maxLen at hM0
  clear h0
  by_cases g0 : 8 < z0.length
  · have d4 : decide ((8 : Int) < (z0.length : Int)) = true := decide_eq_true (by omega)
    have d5 : decide (8 < z0.length) = true := decide_eq_true g0
    go_enter Try.func4, Try.ntmps4
    go_wp2_with fail
    refine (works_any _).mono ?_
    rintro e w1 ⟨rfl, hb⟩
    have B1 := Lib.hid hb
    clear hb
    go_wp2_with fail
    go_ret
    exact ⟨rfl, B1.out⟩
  have d4 : decide ((8 : Int) < (z0.length : Int)) = false := decide_eq_false (by omega)
  have d5 : decide (8 < z0.length) = false := decide_eq_false g0
  cases hr : rightB z0 with
  | false =>
    go_enter Try.func4, Try.ntmps4
    go_wp2_with fail
    refine (works_any _).mono ?_
    rintro e w1 ⟨rfl, hb⟩
    have B1 := Lib.hid hb
    clear hb
    have K1 := Lib.hid (check_at a0 c0 z0 false hr w1 (H0.out.kept B1.out))
    go_wp2_with fail
    refine K1.out.mono ?_
    rintro e w2 ⟨rfl, hb⟩
    have B2 := Lib.hid (RowG.below2 B1.out hb)
    simp only [chkV]
    clear hb K1 B1
    go_wp2_with fail
    go_ret
    exact ⟨rfl, B2.out⟩
  | true =>
    have hc := (right_iff z0).2 hr
    have FB := Lib.hid (show Slo.fill rightB [.built] 0 z0 = ([.ready z0], true) by
      show (if rightB z0 = true then _ else _) = _
      rw [if_pos hr]; rfl)
    have NP := Lib.hid (show pickOf [.ready z0] 0 h = (succL (ofL hsh z0) h, true) from rfl)
    have NH := fun x => (show hasOf [.ready z0] 0 x = (hasB z0 x, true) from rfl)
    obtain ⟨th, ht⟩ : ∃ th, decide (0 < z0.length) = th := ⟨_, rfl⟩
    have HT := Lib.hid (show hasB z0 (succL (ofL hsh z0) h) = th by rw [has_in hc, ht])
    have ht2 : decide ((0 : Int) < (z0.length : Int)) = th := by rw [← ht]; exact decide_eq_decide.2 (by omega)
    clear hc
    go_enter Try.func4, Try.ntmps4
    go_wp2_with fail
    refine (works_any _).mono ?_
    rintro e w1 ⟨rfl, hb⟩
    have B1 := Lib.hid hb
    clear hb
    have K1 := Lib.hid (check_at a0 c0 z0 true hr w1 (H0.out.kept B1.out))
    go_wp2_with fail
    refine K1.out.mono ?_
    rintro e w2 ⟨rfl, hb⟩
    have B2 := Lib.hid (RowG.below2 B1.out hb)
    simp only [chkV]
    have C := Lib.hid (new_stand 1 w w2 B2.out)
    rw [new1] at C
    clear hb K1 B1
    go_wp2_with fail
    refine C.out.mono ?_
    rintro e w3 ⟨f, rfl, S3⟩
    have D3 := Lib.hid (begin_stand S3 0)
    rw [begin1] at D3
    clear C B2
    go_wp2_with fail
    refine D3.out.mono ?_
    rintro e w4 ⟨rfl, S4⟩
    have D4 := Lib.hid (fill_stand S4 0 a0 c0 z0 H0.out)
    rw [FB.out] at D4
    clear D3 S3
    go_wp2_with fail
    refine D4.out.mono ?_
    rintro e w5 ⟨rfl, S5⟩
    have D5 := Lib.hid (has_stand S5 0 id)
    rw [NH id] at D5
    clear D4 S4
    go_wp2_with fail
    refine D5.out.mono ?_
    rintro e w6 ⟨rfl, S6⟩
    have D6 := Lib.hid (pick_stand S6 0 h)
    rw [NP.out] at D6
    clear D5 S5
    go_wp2_with fail
    refine D6.out.mono ?_
    rintro e w7 ⟨rfl, S7⟩
    have D7 := Lib.hid (has_stand S7 0 (succL (ofL hsh z0) h))
    rw [NH _, HT.out] at D7
    generalize succL (ofL hsh z0) h = to at *
    clear D6 S6
    go_wp2_with fail
    refine D7.out.mono ?_
    rintro e w8 ⟨rfl, S8⟩
    have F8 := Lib.hid (Pol.Find_told a0 c0 z0 id w8 (H0.out.kept S8.below))
    have B8 := Lib.hid S8.below
    have q0 : decide (0 ≤ Pol.find z0 id 0) = hasB z0 id := rfl
    generalize hasB z0 id = q at *
    generalize Pol.find z0 id 0 = k at *
    clear D7 S7 S8 NH NP HT FB hr
    go_wp2_with fail
    refine F8.out.mono ?_
    rintro e w9 ⟨rfl, hb⟩
    have B9 := Lib.hid (RowG.below2 B8.out hb)
    clear hb F8 B8
    go_wp2_with fail
    go_ret
    exact ⟨rfl, B9.out⟩

theorem own_SlotsHas : ownKnob Try.prog.godebug = none := by kernel_rfl
set_option maxRecDepth 100000 in
set_option maxHeartbeats 800000 in
theorem lifted_SlotsHas (os : Os) (started : os.Started) (H : Type) (enc : TypeId × Value → H) :
    ReturnsInHanded {} Try.checked os 4 .any (Rows.slotsHasSpec.pre6 enc Try.prog Try.f4 Rows.slotsHasRow.domain false) (Rows.slotsHasSpec.post enc Try.prog Try.f4 false true false false) := by
  refine returnsInHanded_of_change (C := Try.checked) own_SlotsHas started (by kernel_rfl) Try.func4
    (ChangeSpec.witness6 (enc := enc) (C := Try.checked) false ⟨#[], #[.slice none 0 0, .int .i64 0, .int .u64 0], []⟩ 8 (by kernel_rfl) (by kernel_rfl) (by kernel_rfl) (by kernel_rfl)) ?_
  intro W base args ds gs before hval0 hW _ _
  have hval : ∀ (j : Nat) t v, Try.f4.params[j]? = some t → args[j]? = some v → Value.okWide Try.prog W .any base t v := hval0
  have hW' := hW
  obtain ⟨p, q, hA0, hV, rfl, _, _⟩ := hW
  have hA : DataW.TrodAll enc Try.prog W 0 (fun _ => true) true Try.f4.params.toList args.toList ds p := hA0
  rw [Try.params4] at hA hval
  obtain ⟨v0, vs0, d0, ds0, p0, q0, ha0, rfl, rfl, t0, r0⟩ := trodAll_cons hA
  obtain ⟨v1, vs1, d1, ds1, p1, q1, ha1, rfl, rfl, t1, r1⟩ := trodAll_cons r0
  obtain ⟨v2, vs2, d2, ds2, p2, q2, ha2, rfl, rfl, t2, r2⟩ := trodAll_cons r1
  obtain ⟨rfl, rfl, rfl⟩ := trodAll_nil r2
  subst ha2
  subst ha1
  obtain rfl : args = #[v0, v1, v2] := by cases args; simp_all
  obtain ⟨rfl, rfl⟩ := trodVars_none hV
  have k0 := t0
  have lt0 : ∀ x ∈ p0, x.block < W.heap.size := by obtain ⟨m, hm⟩ := k0; exact DataW.trod_lt m _ _ _ hm
  obtain ⟨a0, c0, z0, rfl, h0, g0⟩ := Stp.open_pool (hval 0 23 v0 rfl rfl) t0
  obtain ⟨a1, rfl, rfl, rfl, h1⟩ := open_int Try.underlying3 (hval 1 3 v1 rfl rfl) t1
  obtain ⟨a2, rfl, rfl, rfl, h2⟩ := open_int Try.underlying24 (hval 2 24 v2 rfl rfl) t2
  clear hA0 hval0
  refine (walk_SlotsHas a0 c0 z0 a1 a2 W h0 g0 h1 h2).mono fun e W' ⟨he, hnx⟩ => ?_
  subst he
  exact ⟨_, rfl, ⟨_, _, _, [], _, [], hW', trodAll_cons_mk (shut_bool Try.underlying4 _) trodAll_mk0, (trodAll_cons_mk (Below.trod Stp.laidOut (by kernel_rfl) (of_decide_eq_true (by kernel_rfl)) k0 hnx lt0) (trodAll_cons_mk (shut_int Try.underlying3 h1) (trodAll_cons_mk (shut_int Try.underlying24 h2) trodAll_mk0))), rfl, hnx.frame _, fun h => by cases h⟩⟩

theorem slotsHas_holds : Rows.SlotsHasSaid :=
  OpenClaim.holds_of_wide 4 Try.f4 rfl rfl rfl rfl rfl rfl rfl ⟨rfl, rfl, rfl, rfl, rfl⟩ rfl rfl rfl rfl rfl (by kernel_rfl) Try.func4 (by kernel_rfl)
    (of_decide_eq_true (by kernel_rfl)) (by unfold Func.isWrapper; first | (rw [if_pos (by decide +kernel)]; kernel_rfl) | (rw [if_neg (by decide +kernel)]; exact ⟨rfl, rfl⟩))
    (fun os started H enc _ => lifted_SlotsHas os started H enc)

#print axioms slotsHas_holds
end Go.Proofs.Ytefdnnmgmdaapaa
