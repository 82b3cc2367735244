/-
  RingSucc: for every l and h the law RingSucc answers true: where a hash goes to, on a ring of points, is just what the document says; on points that are no ring it is one of them. No condition.
-/
import Derived.Test.YtppbbhijlkfioaaRows
import Derived.Test.YtppbbhijlkfioaaBPol
import Derived.Test.YtppbbhijlkfioaaBPtr
import Derived.Test.YtppbbhijlkfioaaRinW
import Derived.Test.YtppbbhijlkfioaaPtsU
import Derived.BigQuiet
import Derived.WalkSmall
import Derived.ProofKit
import Derived.OpenShut
import Derived.ChangeMaps5
namespace Go.Proofs.Ytppbbhijlkfioaa
open Go.ChangeShapes Go.WideShapes Go.ChangeAt Go.RowKit Go.Shelf
open Go.ChangeMaps (open_string shut_string)
open Rin Rgn
open Pts (Pt ptV ptsV Lies Rise ofL hsh ofL_rise Of_told Check_yes Check_no)
open Pol (below2 below_alloc Bk polV intsV chk)
open Num (LiesN numsV)

set_option maxRecDepth 100000 in
set_option maxHeartbeats 1000000 in
theorem walk_RingSucc (a0 : Option Addr) (c0 : Nat) (z0 : List Pt) (h : Int) (w : World) (h0 : Lies w a0 c0 z0) (_g0 : ∀ x ∈ z0, Stq.PtOk x) (_h1 : (Lit.int .u64 h).wf = true) :
    Calls Try.prog 3 #[ptsV a0 c0 z0, .int .u64 h] w fun e W' => e = .returned (.bool true) ∧ Below w.heap.size w W' := by
  have H0 := Lib.hid h0
  have hC0 := h0.len
  have hM0 := h0.max
  unfold maxLen at hM0
  clear h0
  by_cases g0 : 300 < z0.length
  · have d0 : decide ((300 : Int) < (z0.length : Int)) = true := decide_eq_true (by omega)
    have d0n : decide (300 < z0.length) = true := decide_eq_true g0
    go_enter Try.func3, Try.ntmps3
    go_wp2_with fail
    refine (works_any _).mono ?_
    rintro e w1 ⟨rfl, hb⟩
    have B1 := Lib.hid hb
    clear hb
    go_wp2_with fail
    go_ret
    exact ⟨rfl, B1.out⟩
  have d0 : decide ((300 : Int) < (z0.length : Int)) = false := decide_eq_false (by omega)
  have d0n : decide (300 < z0.length) = false := decide_eq_false g0
  have l0 : z0.length ≤ 300 := by omega
  go_enter Try.func3, Try.ntmps3
  go_wp2_with fail
  refine (works_any _).mono ?_
  rintro e w1 ⟨rfl, hb⟩
  have L1 := Lib.hid (H0.out.kept hb)
  have B1 := Lib.hid hb
  clear hb
  go_wp2_with fail
  refine (Succ_told a0 c0 z0 h w1 L1.out).mono ?_
  rintro e w1 ⟨⟨r, rfl, ht⟩, rfl⟩
  have HT := Lib.hid ht
  clear ht
  go_wp2_with fail
  refine (refRises_any a0 c0 z0 w1 L1.out).mono ?_
  rintro e w2 ⟨⟨c, rfl, hc⟩, hb⟩
  have HC := Lib.hid hc
  have L2 := Lib.hid (L1.out.kept hb)
  have B2 := Lib.hid (below2 B1.out hb)
  clear hc hb L1 B1
  cases c with
  | true =>
    obtain rfl := told_rise HT.out (HC.out.2 rfl)
    go_wp2_with fail
    refine (refSucc_any a0 c0 z0 h w2 L2.out).mono ?_
    rintro e w3 ⟨rfl, rfl⟩
    go_wp2_with fail
    go_ret
    exact ⟨rfl, B2.out⟩
  | false =>
    have hne : z0 ≠ [] := fun e => by
      have := HC.out.1 (by rw [e]; exact List.Pairwise.nil)
      cases this
    obtain ⟨p, hp, hrp⟩ := HT.out.2.1 hne
    have HP := Lib.hid (show ∃ j, ∃ hj : j < z0.length, z0[j].2 = r from by
      obtain ⟨j, hj, e⟩ := List.getElem_of_mem hp
      exact ⟨j, hj, by rw [e, hrp]⟩)
    clear hne hrp hp HT HC
    go_wp2_with fail
    go_loop [8, 9] (fun c i => ∃ (k : Nat) (b : Bool), k ≤ z0.length ∧ i = .int .i64 k ∧ c = .bool b ∧ (b = false → ∀ j (hj : j < z0.length), j < k → z0[j].2 ≠ r)) (fun _ i => z0.length - (intOf i).toNat)
    case atStart => exact ⟨0, false, Nat.zero_le _, rfl, rfl, fun _ j _ h => absurd h (by omega)⟩
    case round =>
      obtain ⟨k, b, hk, rfl, rfl, hno⟩ := hrel
      have HN := Lib.hid hno
      clear hno
      by_cases hlt : k < z0.length
      · have dlt : decide (k < z0.length) = true := decide_eq_true hlt
        obtain ⟨g, off, rfl, x0, x1⟩ := L2.out.at hlt
        cases b with
        | true =>
          clear x0 x1
          go_wp2
          refine ⟨⟨k + 1, true, by omega, by go_num, rfl, fun e => by cases e⟩, by simp [intOf]; omega⟩
        | false =>
          by_cases hx : z0[k].2 = r
          · have dx : (z0[k].2 == r) = true := beq_iff_eq.2 hx
            clear hx
            generalize z0[k] = x at *
            go_wp2
            refine ⟨⟨k + 1, true, by omega, by go_num, rfl, fun e => by cases e⟩, by simp [intOf]; omega⟩
          · have dx : (z0[k].2 == r) = false := beq_false_of_ne hx
            have HM := Lib.hid (show ∀ j (hj : j < z0.length), j < k + 1 → z0[j].2 ≠ r from fun j hj hjk => by
              rcases Nat.lt_or_ge j k with h' | h'
              · exact HN.out rfl j hj h'
              · have : j = k := by omega
                subst this; exact hx)
            clear hx
            generalize z0[k] = x at *
            go_wp2
            refine ⟨⟨k + 1, false, by omega, by go_num, rfl, fun _ => HM.out⟩, by simp [intOf]; omega⟩
      · have dlt : decide (k < z0.length) = false := decide_eq_false hlt
        have hb : b = true := by
          cases b with
          | true => rfl
          | false =>
            obtain ⟨j, hj, e⟩ := HP.out
            exact absurd e (HN.out rfl j hj (by omega))
        subst hb
        go_wp2
        go_ret
        exact ⟨rfl, B2.out⟩

theorem own_RingSucc : ownKnob Try.prog.godebug = none := by kernel_rfl
set_option maxRecDepth 100000 in
set_option maxHeartbeats 800000 in
theorem lifted_RingSucc (os : Os) (started : os.Started) (H : Type) (enc : TypeId × Value → H) :
    ReturnsInHanded {} Try.checked os 3 .any (Rows.ringSuccSpec.pre6 enc Try.prog Try.f3 Rows.ringSuccRow.domain false) (Rows.ringSuccSpec.post enc Try.prog Try.f3 false true false false) := by
  refine returnsInHanded_of_change (C := Try.checked) own_RingSucc started (by kernel_rfl) Try.func3
    (ChangeSpec.witness6 (enc := enc) (C := Try.checked) false ⟨#[], #[.slice none 0 0, .int .u64 0], []⟩ 8 (by kernel_rfl) (by kernel_rfl) (by kernel_rfl) (by kernel_rfl)) ?_
  intro W base args ds gs before hval0 hW _ _
  have hval : ∀ (j : Nat) t v, Try.f3.params[j]? = some t → args[j]? = some v → Value.okWide Try.prog W .any base t v := hval0
  have hW' := hW
  obtain ⟨p, q, hA0, hV, rfl, _, _⟩ := hW
  have hA : DataW.TrodAll enc Try.prog W 0 (fun _ => true) true Try.f3.params.toList args.toList ds p := hA0
  rw [Try.params3] at hA hval
  obtain ⟨v0, vs0, d0, ds0, p0, q0, ha0, rfl, rfl, t0, r0⟩ := trodAll_cons hA
  obtain ⟨v1, vs1, d1, ds1, p1, q1, ha1, rfl, rfl, t1, r1⟩ := trodAll_cons r0
  obtain ⟨rfl, rfl, rfl⟩ := trodAll_nil r1
  subst ha1
  obtain rfl : args = #[v0, v1] := by cases args; simp_all
  obtain ⟨rfl, rfl⟩ := trodVars_none hV
  have k0 := t0
  have lt0 : ∀ x ∈ p0, x.block < W.heap.size := by obtain ⟨m, hm⟩ := k0; exact DataW.trod_lt m _ _ _ hm
  obtain ⟨a0, c0, z0, rfl, h0, g0⟩ := Stq.open_points (hval 0 22 v0 rfl rfl) t0
  obtain ⟨a1, rfl, rfl, rfl, h1⟩ := open_int Try.underlying23 (hval 1 23 v1 rfl rfl) t1
  clear hA0 hval0
  refine (walk_RingSucc a0 c0 z0 a1 W h0 g0 h1).mono fun e W' ⟨he, hnx⟩ => ?_
  subst he
  exact ⟨_, rfl, ⟨_, _, _, [], _, [], hW', trodAll_cons_mk (shut_bool Try.underlying4 _) trodAll_mk0, (trodAll_cons_mk (Below.trod Stq.laidOut (by kernel_rfl) (of_decide_eq_true (by kernel_rfl)) k0 hnx lt0) (trodAll_cons_mk (shut_int Try.underlying23 h1) trodAll_mk0)), rfl, hnx.frame _, fun h => by cases h⟩⟩

theorem ringSucc_holds : Rows.RingSuccSaid :=
  OpenClaim.holds_of_wide 3 Try.f3 rfl rfl rfl rfl rfl rfl rfl ⟨rfl, rfl, rfl, rfl, rfl⟩ rfl rfl rfl rfl rfl (by kernel_rfl) Try.func3 (by kernel_rfl)
    (of_decide_eq_true (by kernel_rfl)) (by unfold Func.isWrapper; first | (rw [if_pos (by decide +kernel)]; kernel_rfl) | (rw [if_neg (by decide +kernel)]; exact ⟨rfl, rfl⟩))
    (fun os started H enc _ => lifted_RingSucc os started H enc)

#print axioms ringSucc_holds
end Go.Proofs.Ytppbbhijlkfioaa
