/-
  EpochPins: for every n, row of acts and row of pins the law EpochPins answers true: what is ripe hangs on the lowest pin alone. No condition.
-/
import Derived.Test.YthokjkllmflgkaaRows
import Derived.Test.YthokjkllmflgkaaSten
import Derived.Test.YthokjkllmflgkaaKepX
import Derived.Test.YthokjkllmflgkaaStn
import Derived.ProofKit
import Derived.OpenShut
import Derived.ChangeMaps5
import Derived.BigQuiet
import Derived.WalkSmall
namespace Go.Proofs.Ythokjkllmflgkaa
open Go.ChangeShapes Go.WideShapes Go.ChangeAt Go.RowKit Go.Shelf
open Go.ChangeMaps (open_string shut_string)
open RowG Trn Kep Epo

set_option maxRecDepth 100000 in
set_option maxHeartbeats 4000000 in
theorem walk_EpochPins (a0 : Int) (a1 : Option Addr) (c1 : Nat) (z1 : List ActM) (a2 : Option Addr) (c2 : Nat) (z2 : List Int) (w : World) (_h0 : (Lit.int .i64 a0).wf = true) (h1 : Lies actM w a1 c1 z1) (g1 : ∀ x ∈ z1, Epo.ActOk w x) (h2 : Lies numK w a2 c2 z2) (_g2 : ∀ x ∈ z2, (Lit.int .i64 x).wf = true) :
    Calls Try.prog 7 #[.int .i64 a0, rowV a1 c1 z1, rowV a2 c2 z2] w fun e W' => e = .returned (.bool true) ∧ Below w.heap.size w W' := by
  have H1 := Lib.hid h1
  have G1 := Lib.hid g1
  have hC1 := h1.len
  have hM1 := h1.max
  unfold maxLen at hM1
  clear h1 g1
  have H2 := Lib.hid h2
  have hC2 := h2.len
  have hM2 := h2.max
  unfold maxLen at hM2
  clear h2
  go_enter Try.func7, Try.ntmps7
  go_wp2_with fail
  refine (works_any _).mono ?_
  rintro e w1 ⟨rfl, hb⟩
  have B1 := Lib.hid hb
  have L1 := Lib.hid (H1.out.kept hb)
  have K1 := Lib.hid (fun x hx => ok_kept (G1.out x hx) hb)
  have P1 := Lib.hid (H2.out.kept hb)
  clear hb H1 G1 H2
  go_wp2_with fail
  refine (few_any _ _ _ _ L1.out).mono ?_
  rintro e w1' ⟨rfl, e1⟩
  subst e1
  by_cases g0 : fewE z1
  case neg =>
    rw [decide_eq_false g0]
    go_wp2_with fail
    go_ret
    exact ⟨rfl, B1.out⟩
  rw [decide_eq_true g0]
  have hz1 : z1.length ≤ 60 := g0.1
  by_cases g1 : 60 < z2.length
  case pos =>
    have dg10 : decide ((60 : Int) < (z2.length : Int)) = true := decide_eq_true (by omega)
    have dg11 : decide (60 < z2.length) = true := decide_eq_true g1
    go_wp2_with fail
    go_ret
    exact ⟨rfl, B1.out⟩
  have dg10 : decide ((60 : Int) < (z2.length : Int)) = false := decide_eq_false (by omega)
  have dg11 : decide (60 < z2.length) = false := decide_eq_false g1
  go_wp2_with fail
  refine (New_told a0 _).mono ?_
  rintro e w2 ⟨rfl, hk, hb⟩
  have HP := Lib.hid (show w.heap.size ≤ w1'.heap.size from B1.out.size)
  have BN := Lib.hid (below2 B1.out hb)
  have BW := Lib.hid hb
  rw [← after_zero a0 z1] at hk
  have H0 := Lib.hid hk
  have hp := hk.1.lt
  generalize hpp : w1'.heap.size = p at *
  have HPP := Lib.hid hpp
  clear hb hk hpp
  go_wp2_with fail
  go_loopw [9] (fun i W => ∃ j : Nat, j ≤ z1.length ∧ i = .int .i64 j ∧ Keeps W p (after a0 z1 j) ∧ Turned (fun k => k = p) w2 W) (fun i _ => z1.length - (intOf i).toNat)
  case atStart => exact ⟨0, Nat.zero_le _, rfl, H0.out, Turned.refl _ _⟩
  case round =>
    obtain ⟨j, hj, rfl, hh, ht⟩ := hrel
    have BB := Lib.hid (Turned.below BW.out ht (by omega) (fun k hk => by omega))
    have H := Lib.hid hh
    have T := Lib.hid ht
    clear hh ht H0
    by_cases hlt : j < z1.length
    case pos =>
      obtain ⟨bz, oz, rfl, y0, y1, y2, y3⟩ := lies_actM (L1.out.kept (HPP.out ▸ BB.out)) hlt
      have HR := Lib.hid (after_next a0 z1 hlt)
      have C := Lib.hid (do_any z1[j] (ok_kept (K1.out _ (List.getElem_mem hlt)) (HPP.out ▸ BB.out)) H.out)
      generalize z1[j] = y at *
      go_wp2_with fail
      refine C.out.mono ?_
      rintro e w3 ⟨rfl, hh, ht⟩
      have H3 := Lib.hid hh
      have T3 := Lib.hid (T.out.trans ht)
      clear hh ht
      go_wp2_with fail
      refine ⟨⟨j + 1, by omega, by go_num, by rw [HR.out]; exact H3.out, T3.out⟩, by simp [intOf]; omega⟩
    case neg =>
      obtain rfl : j = z1.length := by omega
      have P2 := Lib.hid (P1.out.kept (HPP.out ▸ BB.out))
      generalize after a0 z1 z1.length = s at *
      clear L1 K1 P1
      have FIN : ∀ W, Turned (fun k => k = p) w2 W → Below w.heap.size w W := fun W ht => Turned.below BN.out ht BN.out.size (fun k hk => by have := HP.out; omega)
      generalize hw0 : wr = W0 at *
      clear hw0
      go_wp2_with fail
      go_loopw [10, 11, 12] (fun lv sv i W => ∃ k : Nat, k ≤ z2.length ∧ i = .int .i64 k ∧ lv = .int .i64 (low (z2.take k)).1 ∧ sv = .bool (low (z2.take k)).2 ∧ W = W0) (fun _ _ i _ => z2.length - (intOf i).toNat)
      case atStart => exact ⟨0, Nat.zero_le _, rfl, rfl, rfl, rfl⟩
      case round =>
        obtain ⟨k, hk, rfl, rfl, rfl, rfl⟩ := hrel
        by_cases hk2 : k < z2.length
        case pos =>
          obtain ⟨bp, op, rfl, q0⟩ := P2.out.num hk2
          have HL := Lib.hid (low_take hk2)
          have hk1 : k + 1 ≤ z2.length := hk2
          have hk3 : (k : Int) < (z2.length : Int) := by omega
          generalize z2[k] = y at *
          generalize low (z2.take k) = ls at *
          obtain ⟨lo, so⟩ := ls
          dsimp only at HL ⊢
          by_cases y0 : y = 0
          · have e0 : (y != 0) = false := by simpa using y0
            have HE := Lib.hid (HL.out.trans (if_neg fun h => h.1 y0))
            clear HL y0
            go_wp2_with fail
            refine ⟨⟨k + 1, hk1, by go_num, by rw [HE.out], by rw [HE.out], trivial⟩, by simp [intOf]; omega⟩
          have e0 : (y != 0) = true := by simpa using y0
          cases so with
          | false =>
            have HE := Lib.hid (HL.out.trans (if_pos ⟨y0, .inl rfl⟩))
            clear HL y0
            go_wp2_with fail
            refine ⟨⟨k + 1, hk1, by go_num, by rw [HE.out], by rw [HE.out], trivial⟩, by simp [intOf]; omega⟩
          | true =>
            by_cases hy : y < lo
            · have e1 : decide (y < lo) = true := decide_eq_true hy
              have HE := Lib.hid (HL.out.trans (if_pos ⟨y0, .inr hy⟩))
              clear HL y0 hy
              go_wp2_with fail
              refine ⟨⟨k + 1, hk1, by go_num, by rw [HE.out], by rw [HE.out], trivial⟩, by simp [intOf]; omega⟩
            · have e1 : decide (y < lo) = false := decide_eq_false hy
              have HE := Lib.hid (HL.out.trans (if_neg fun h => h.2.elim (fun h => by cases h) hy))
              clear HL y0 hy
              go_wp2_with fail
              refine ⟨⟨k + 1, hk1, by go_num, by rw [HE.out], by rw [HE.out], trivial⟩, by simp [intOf]; omega⟩
        case neg =>
          obtain rfl : k = z2.length := by omega
          rw [List.take_length]
          have RL := Lib.hid (ripe_low s z2)
          have RN := Lib.hid (fun h => ripe_no s (p := z2) h)
          generalize low z2 = ls at *
          obtain ⟨lo, so⟩ := ls
          dsimp only at RL RN ⊢
          have C := Lib.hid (Ripe_told H.out P2.out)
          have CL := Lib.hid (fun W (hb : Below wr.heap.size wr W) => Ripe_told (keeps_kept (keeps_kept H.out hb) (nums_below W #[.int .i64 lo])) (lies_one W lo))
          have BL := Lib.hid (fun W => nums_below W #[.int .i64 lo])
          rw [← RL.out] at CL
          generalize hr : ripe s z2 = r at *
          have HR := Lib.hid hr
          clear hr RL
          go_wp2_with fail
          refine C.out.mono ?_
          rintro e w3 ⟨rfl, hb3⟩
          have HB3 := Lib.hid hb3
          have C3 := Lib.hid (CL.out w3 hb3)
          clear hb3 C
          go_wp2_with fail
          refine C3.out.mono ?_
          rintro e w4 ⟨rfl, hb4⟩
          have HB4 := Lib.hid (below2 HB3.out (below2 (BL.out w3) hb4))
          clear hb4 C3 CL BL HB3
          cases so with
          | true =>
            go_wp2_with fail
            go_ret
            exact ⟨rfl, FIN _ (T.out.trans (Turned.of_below HB4.out))⟩
          | false =>
            have C4 := Lib.hid (Ripe_told (keeps_kept H.out HB4.out) (P2.out.kept HB4.out))
            rw [HR.out] at C4
            go_wp2_with fail
            refine C4.out.mono ?_
            rintro e w5 ⟨rfl, hb5⟩
            have HB5 := Lib.hid (below2 HB4.out hb5)
            clear hb5 C4 HB4
            have C5 := Lib.hid (Ripe_told (P := []) (keeps_kept H.out HB5.out) (lies_nil w5))
            rw [← RN.out (by first | rfl | trivial)] at C5
            go_wp2_with fail
            refine C5.out.mono ?_
            rintro e w6 ⟨rfl, hb6⟩
            have HB6 := Lib.hid (below2 HB5.out hb6)
            clear hb6 C5 HB5
            go_wp2_with fail
            go_ret
            exact ⟨rfl, FIN _ (T.out.trans (Turned.of_below HB6.out))⟩
theorem own_EpochPins : ownKnob Try.prog.godebug = none := by kernel_rfl
set_option maxRecDepth 100000 in
set_option maxHeartbeats 800000 in
theorem lifted_EpochPins (os : Os) (started : os.Started) (H : Type) (enc : TypeId × Value → H) :
    ReturnsInHanded {} Try.checked os 7 .any (Rows.epochPinsSpec.pre6 enc Try.prog Try.f7 Rows.epochPinsRow.domain false) (Rows.epochPinsSpec.post enc Try.prog Try.f7 false true false false) := by
  refine returnsInHanded_of_change (C := Try.checked) own_EpochPins started (by kernel_rfl) Try.func7
    (ChangeSpec.witness6 (enc := enc) (C := Try.checked) false ⟨#[], #[.int .i64 0, .slice none 0 0, .slice none 0 0], []⟩ 8 (by kernel_rfl) (by kernel_rfl) (by kernel_rfl) (by kernel_rfl)) ?_
  intro W base args ds gs before hval0 hW _ _
  have hval : ∀ (j : Nat) t v, Try.f7.params[j]? = some t → args[j]? = some v → Value.okWide Try.prog W .any base t v := hval0
  have hW' := hW
  obtain ⟨p, q, hA0, hV, rfl, _, _⟩ := hW
  have hA : DataW.TrodAll enc Try.prog W 0 (fun _ => true) true Try.f7.params.toList args.toList ds p := hA0
  rw [Try.params7] at hA hval
  obtain ⟨v0, vs0, d0, ds0, p0, q0, ha0, rfl, rfl, t0, r0⟩ := trodAll_cons hA
  obtain ⟨v1, vs1, d1, ds1, p1, q1, ha1, rfl, rfl, t1, r1⟩ := trodAll_cons r0
  obtain ⟨v2, vs2, d2, ds2, p2, q2, ha2, rfl, rfl, t2, r2⟩ := trodAll_cons r1
  obtain ⟨rfl, rfl, rfl⟩ := trodAll_nil r2
  subst ha2
  subst ha1
  obtain rfl : args = #[v0, v1, v2] := by cases args; simp_all
  obtain ⟨rfl, rfl⟩ := trodVars_none hV
  obtain ⟨a0, rfl, rfl, rfl, h0⟩ := open_int Try.underlying3 (hval 0 3 v0 rfl rfl) t0
  have k1 := t1
  have lt1 : ∀ x ∈ p1, x.block < W.heap.size := by obtain ⟨m, hm⟩ := k1; exact DataW.trod_lt m _ _ _ hm
  obtain ⟨a1, c1, z1, rfl, h1, g1⟩ := Sten.open_eacts (hval 1 22 v1 rfl rfl) t1
  have k2 := t2
  have lt2 : ∀ x ∈ p2, x.block < W.heap.size := by obtain ⟨m, hm⟩ := k2; exact DataW.trod_lt m _ _ _ hm
  obtain ⟨a2, c2, z2, rfl, h2, g2⟩ := Stn.open_nums (hval 2 30 v2 rfl rfl) t2
  clear hA0 hval0
  refine (walk_EpochPins a0 a1 c1 z1 a2 c2 z2 W h0 h1 g1 h2 g2).mono fun e W' ⟨he, hnx⟩ => ?_
  subst he
  exact ⟨_, rfl, ⟨_, _, _, [], _, [], hW', trodAll_cons_mk (shut_bool Try.underlying4 _) trodAll_mk0, (trodAll_cons_mk (shut_int Try.underlying3 h0) (trodAll_cons_mk (Below.trod Sten.laidOut (by kernel_rfl) (of_decide_eq_true (by kernel_rfl)) k1 hnx lt1) (trodAll_cons_mk (Below.trod Stn.laidOut (by kernel_rfl) (of_decide_eq_true (by kernel_rfl)) k2 hnx lt2) trodAll_mk0))), rfl, hnx.frame _, fun h => by cases h⟩⟩

theorem epochPins_holds : Rows.EpochPinsSaid :=
  OpenClaim.holds_of_wide 7 Try.f7 rfl rfl rfl rfl rfl rfl rfl ⟨rfl, rfl, rfl, rfl, rfl⟩ rfl rfl rfl rfl rfl (by kernel_rfl) Try.func7 (by kernel_rfl)
    (of_decide_eq_true (by kernel_rfl)) (by unfold Func.isWrapper; first | (rw [if_pos (by decide +kernel)]; kernel_rfl) | (rw [if_neg (by decide +kernel)]; exact ⟨rfl, rfl⟩))
    (fun os started H enc _ => lifted_EpochPins os started H enc)

#print axioms epochPins_holds
end Go.Proofs.Ythokjkllmflgkaa
