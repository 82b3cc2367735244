/-
  RingArc: for every p, h and k the law RingArc answers true: two hashes between which there is no point go to the same backend. No condition.
-/
import Derived.Test.YtppbbhijlkfioaaRows
import Derived.Test.YtppbbhijlkfioaaBPol
import Derived.Test.YtppbbhijlkfioaaBPtr
import Derived.Test.YtppbbhijlkfioaaRinW
import Derived.Test.YtppbbhijlkfioaaPtsU
import Derived.BigQuiet
import Derived.WalkSmall
import Derived.ProofKit
import Derived.OpenShut
import Derived.ChangeMaps5
namespace Go.Proofs.Ytppbbhijlkfioaa
open Go.ChangeShapes Go.WideShapes Go.ChangeAt Go.RowKit Go.Shelf
open Go.ChangeMaps (open_string shut_string)
open Rin Rgn
open Pts (Pt ptV ptsV Lies Rise ofL hsh ofL_rise Of_told Check_yes Check_no)
open Pol (below2 below_alloc Bk polV intsV chk)
open Num (LiesN numsV)

set_option maxRecDepth 100000 in
set_option maxHeartbeats 1000000 in
theorem walk_RingArc (a0 : Option Addr) (c0 : Nat) (z0 : List Bk) (h k : Int) (w : World) (h0 : Pol.Lies w a0 c0 z0) (_g0 : ∀ x ∈ z0, Stp.BkOk x) (_h1 : (Lit.int .u64 h).wf = true) (_h2 : (Lit.int .u64 k).wf = true) :
    Calls Try.prog 8 #[polV a0 c0 z0, .int .u64 h, .int .u64 k] w fun e W' => e = .returned (.bool true) ∧ Below w.heap.size w W' := by
  have H0 := Lib.hid h0
  have hC0 := h0.len
  have hM0 := h0.max
  unfold maxLen at hM0
  clear h0
  by_cases g0 : 8 < z0.length
  · have d0 : decide ((8 : Int) < (z0.length : Int)) = true := decide_eq_true (by omega)
    have d0n : decide (8 < z0.length) = true := decide_eq_true g0
    go_enter Try.func8, Try.ntmps8
    go_wp2_with fail
    refine (works_any _).mono ?_
    rintro e w1 ⟨rfl, hb⟩
    have B1 := Lib.hid hb
    clear hb
    go_wp2_with fail
    go_ret
    exact ⟨rfl, B1.out⟩
  have d0 : decide ((8 : Int) < (z0.length : Int)) = false := decide_eq_false (by omega)
  have d0n : decide (8 < z0.length) = false := decide_eq_false g0
  have l0 : z0.length ≤ 8 := by omega
  by_cases hc : ¬ chk z0
  · go_enter Try.func8, Try.ntmps8
    go_wp2_with fail
    refine (works_any _).mono ?_
    rintro e w1 ⟨rfl, hb⟩
    have L1 := Lib.hid (H0.out.kept hb)
    have B1 := Lib.hid hb
    clear hb
    go_wp2_with fail
    refine (Check_no a0 c0 z0 hc w1 L1.out).mono ?_
    rintro e w2 ⟨rfl, hb⟩
    have B2 := Lib.hid (below2 B1.out hb)
    clear hb B1 L1
    go_wp2_with fail
    go_ret
    exact ⟨rfl, B2.out⟩
  replace hc := Classical.not_not.1 hc
  by_cases hk : k < h
  · have dk : decide (k < h) = true := decide_eq_true hk
    go_enter Try.func8, Try.ntmps8
    go_wp2_with fail
    refine (works_any _).mono ?_
    rintro e w1 ⟨rfl, hb⟩
    have L1 := Lib.hid (H0.out.kept hb)
    have B1 := Lib.hid hb
    clear hb
    go_wp2_with fail
    refine (Check_yes a0 c0 z0 hc w1 L1.out).mono ?_
    rintro e w2 ⟨rfl, hb⟩
    have L2 := Lib.hid (L1.out.kept hb)
    have B2 := Lib.hid (below2 B1.out hb)
    clear hb B1 L1
    go_wp2_with fail
    go_ret
    exact ⟨rfl, B2.out⟩
  have dk : decide (k < h) = false := decide_eq_false hk
  have HK := Lib.hid (Int.not_lt.1 hk)
  have HR := Lib.hid (ofL_rise hsh z0)
  clear hk
  go_enter Try.func8, Try.ntmps8
  go_wp2_with fail
  refine (works_any _).mono ?_
  rintro e w1 ⟨rfl, hb⟩
  have L1 := Lib.hid (H0.out.kept hb)
  have B1 := Lib.hid hb
  clear hb
  go_wp2_with fail
  refine (Check_yes a0 c0 z0 hc w1 L1.out).mono ?_
  rintro e w2 ⟨rfl, hb⟩
  have L2 := Lib.hid (L1.out.kept hb)
  have B2 := Lib.hid (below2 B1.out hb)
  clear hb B1 L1
  clear hc
  go_wp2_with fail
  refine (Of_told a0 c0 z0 w2 L2.out (by omega)).mono ?_
  rintro e w3 ⟨v, rfl, ⟨aP, cP, rfl, hP⟩, hb⟩
  have PK := fun W hW x => Pick_told a0 c0 z0 x W hW (by omega)
  generalize ofL hsh z0 = L at *
  have L3 := Lib.hid (L2.out.kept hb)
  have P3 := Lib.hid hP
  have B3 := Lib.hid (below2 B2.out hb)
  have hPl := hP.len
  have hPm := hP.max
  unfold maxLen at hPm
  clear hb hP L2 B2
  have HPK := Lib.hid PK
  clear PK
  go_wp2_with fail
  go_loop [9] (fun i => ∃ m : Nat, m ≤ L.length ∧ i = .int .i64 m ∧ ∀ j (hj : j < L.length), j < m → ¬ (h ≤ L[j].1 ∧ L[j].1 < k)) (fun i => L.length - (intOf i).toNat)
  case atStart => exact ⟨0, Nat.zero_le _, rfl, fun j _ h => absurd h (by omega)⟩
  case round =>
    obtain ⟨m, hm, rfl, hno⟩ := hrel
    have HN := Lib.hid hno
    clear hno
    by_cases hlt : m < L.length
    · have dlt : decide (m < L.length) = true := decide_eq_true hlt
      obtain ⟨g, off, rfl, x0, x1⟩ := P3.out.at hlt
      by_cases hx : h ≤ L[m].1
      · have dx : decide (h ≤ L[m].1) = true := decide_eq_true hx
        by_cases hy : L[m].1 < k
        · have dy : decide (L[m].1 < k) = true := decide_eq_true hy
          clear hx hy
          generalize L[m] = x at *
          go_wp2_with fail
          go_ret
          exact ⟨rfl, B3.out⟩
        · have dy : decide (L[m].1 < k) = false := decide_eq_false hy
          have HM := Lib.hid (show ∀ j (hj : j < L.length), j < m + 1 → ¬ (h ≤ L[j].1 ∧ L[j].1 < k) from fun j hj hjk => by
            rcases Nat.lt_or_ge j m with h' | h'
            · exact HN.out j hj h'
            · have : j = m := by omega
              subst this; exact fun e => hy e.2)
          clear hx hy
          generalize L[m] = x at *
          go_wp2_with fail
          refine ⟨⟨m + 1, by omega, by go_num, HM.out⟩, by simp [intOf]; omega⟩
      · have dx : decide (h ≤ L[m].1) = false := decide_eq_false hx
        have HM := Lib.hid (show ∀ j (hj : j < L.length), j < m + 1 → ¬ (h ≤ L[j].1 ∧ L[j].1 < k) from fun j hj hjk => by
          rcases Nat.lt_or_ge j m with h' | h'
          · exact HN.out j hj h'
          · have : j = m := by omega
            subst this; exact fun e => hx e.1)
        clear hx
        generalize L[m] = x at *
        go_wp2_with fail
        refine ⟨⟨m + 1, by omega, by go_num, HM.out⟩, by simp [intOf]; omega⟩
    · have dlt : decide (m < L.length) = false := decide_eq_false hlt
      have HE := Lib.hid (show succL L h = succL L k from succL_arc L h k HK.out fun p hp => by
        obtain ⟨j, hj, rfl⟩ := List.getElem_of_mem hp
        exact HN.out j hj (by omega))
      go_wp2_with fail
      refine (HPK.out w3 L3.out h).mono ?_
      rintro e w4 ⟨rfl, hb⟩
      have L4 := Lib.hid (L3.out.kept hb)
      have P4 := Lib.hid (P3.out.kept hb)
      have B4 := Lib.hid (below2 B3.out hb)
      clear hb L3 P3 B3
      go_wp2_with fail
      refine (HPK.out w4 L4.out k).mono ?_
      rintro e w5 ⟨rfl, hb⟩
      have L5 := Lib.hid (L4.out.kept hb)
      have P5 := Lib.hid (P4.out.kept hb)
      have B5 := Lib.hid (below2 B4.out hb)
      clear hb L4 P4 B4
      rw [← HE.out]
      go_wp2_with fail
      refine (Succ_told aP cP L h w5 P5.out).mono ?_
      rintro e w5 ⟨⟨r, rfl, ht⟩, rfl⟩
      obtain rfl := told_rise ht HR.out
      clear ht
      go_wp2_with fail
      refine (HPK.out w5 L5.out h).mono ?_
      rintro e w6 ⟨rfl, hb⟩
      have B6 := Lib.hid (below2 B5.out hb)
      clear hb L5 P5 B5
      go_wp2_with fail
      go_ret
      exact ⟨rfl, B6.out⟩

theorem own_RingArc : ownKnob Try.prog.godebug = none := by kernel_rfl
set_option maxRecDepth 100000 in
set_option maxHeartbeats 800000 in
theorem lifted_RingArc (os : Os) (started : os.Started) (H : Type) (enc : TypeId × Value → H) :
    ReturnsInHanded {} Try.checked os 8 .any (Rows.ringArcSpec.pre6 enc Try.prog Try.f8 Rows.ringArcRow.domain false) (Rows.ringArcSpec.post enc Try.prog Try.f8 false true false false) := by
  refine returnsInHanded_of_change (C := Try.checked) own_RingArc started (by kernel_rfl) Try.func8
    (ChangeSpec.witness6 (enc := enc) (C := Try.checked) false ⟨#[], #[.slice none 0 0, .int .u64 0, .int .u64 0], []⟩ 8 (by kernel_rfl) (by kernel_rfl) (by kernel_rfl) (by kernel_rfl)) ?_
  intro W base args ds gs before hval0 hW _ _
  have hval : ∀ (j : Nat) t v, Try.f8.params[j]? = some t → args[j]? = some v → Value.okWide Try.prog W .any base t v := hval0
  have hW' := hW
  obtain ⟨p, q, hA0, hV, rfl, _, _⟩ := hW
  have hA : DataW.TrodAll enc Try.prog W 0 (fun _ => true) true Try.f8.params.toList args.toList ds p := hA0
  rw [Try.params8] at hA hval
  obtain ⟨v0, vs0, d0, ds0, p0, q0, ha0, rfl, rfl, t0, r0⟩ := trodAll_cons hA
  obtain ⟨v1, vs1, d1, ds1, p1, q1, ha1, rfl, rfl, t1, r1⟩ := trodAll_cons r0
  obtain ⟨v2, vs2, d2, ds2, p2, q2, ha2, rfl, rfl, t2, r2⟩ := trodAll_cons r1
  obtain ⟨rfl, rfl, rfl⟩ := trodAll_nil r2
  subst ha2
  subst ha1
  obtain rfl : args = #[v0, v1, v2] := by cases args; simp_all
  obtain ⟨rfl, rfl⟩ := trodVars_none hV
  have k0 := t0
  have lt0 : ∀ x ∈ p0, x.block < W.heap.size := by obtain ⟨m, hm⟩ := k0; exact DataW.trod_lt m _ _ _ hm
  obtain ⟨a0, c0, z0, rfl, h0, g0⟩ := Stp.open_pool (hval 0 30 v0 rfl rfl) t0
  obtain ⟨a1, rfl, rfl, rfl, h1⟩ := open_int Try.underlying23 (hval 1 23 v1 rfl rfl) t1
  obtain ⟨a2, rfl, rfl, rfl, h2⟩ := open_int Try.underlying23 (hval 2 23 v2 rfl rfl) t2
  clear hA0 hval0
  refine (walk_RingArc a0 c0 z0 a1 a2 W h0 g0 h1 h2).mono fun e W' ⟨he, hnx⟩ => ?_
  subst he
  exact ⟨_, rfl, ⟨_, _, _, [], _, [], hW', trodAll_cons_mk (shut_bool Try.underlying4 _) trodAll_mk0, (trodAll_cons_mk (Below.trod Stp.laidOut (by kernel_rfl) (of_decide_eq_true (by kernel_rfl)) k0 hnx lt0) (trodAll_cons_mk (shut_int Try.underlying23 h1) (trodAll_cons_mk (shut_int Try.underlying23 h2) trodAll_mk0))), rfl, hnx.frame _, fun h => by cases h⟩⟩

theorem ringArc_holds : Rows.RingArcSaid :=
  OpenClaim.holds_of_wide 8 Try.f8 rfl rfl rfl rfl rfl rfl rfl ⟨rfl, rfl, rfl, rfl, rfl⟩ rfl rfl rfl rfl rfl (by kernel_rfl) Try.func8 (by kernel_rfl)
    (of_decide_eq_true (by kernel_rfl)) (by unfold Func.isWrapper; first | (rw [if_pos (by decide +kernel)]; kernel_rfl) | (rw [if_neg (by decide +kernel)]; exact ⟨rfl, rfl⟩))
    (fun os started H enc _ => lifted_RingArc os started H enc)

#print axioms ringArc_holds
end Go.Proofs.Ytppbbhijlkfioaa
