/-
  EpochAll: for every n, at and pin the law EpochAll answers true: all slots may be taken and retired, and used again. No condition.
-/
import Derived.Test.YthokjkllmflgkaaRows
import Derived.Test.YthokjkllmflgkaaKepW
import Derived.ProofKit
import Derived.OpenShut
import Derived.ChangeMaps5
import Derived.BigQuiet
import Derived.WalkSmall
namespace Go.Proofs.Ythokjkllmflgkaa
open Go.ChangeShapes Go.WideShapes Go.ChangeAt Go.RowKit Go.Shelf
open Go.ChangeMaps (open_string shut_string)
open RowG Trn Kep Epo

theorem retire_yes {n j : Nat} (a : Int) (h : j < n) : retire ((some' n j a).set j ⟨1, 0⟩) (j : Int) a = (some' n (j + 1) a, true) := by
  have hl : j < ((some' n j a).set j ⟨1, 0⟩).length := by rw [List.length_set, some_length a (by omega)]; exact h
  unfold retire
  rw [state_nat hl, List.getElem_set_self, if_pos rfl, Int.toNat_natCast, some_next a h]
theorem retire_no {n j : Nat} (a : Int) (h : j < n) : retire (some' n (j + 1) a) (j : Int) a = (some' n (j + 1) a, false) := by
  have hl : j < (some' n (j + 1) a).length := by rw [some_length a (by omega)]; exact h
  unfold retire
  rw [state_nat hl, some_lt (by omega) (by omega), if_neg (by simp)]
theorem keeps_kept {W W' : World} {p : Nat} {l : List Slot} (h : Keeps W p l) (hb : Below W.heap.size W W') : Keeps W' p l := ⟨h.1.kept hb, h.2⟩

set_option maxRecDepth 100000 in
set_option maxHeartbeats 2000000 in
theorem walk_EpochAll (a0 : Int) (a1 : Int) (a2 : Int) (_h0 : (Lit.int .i64 a0).wf = true) (_h1 : (Lit.int .i64 a1).wf = true) (_h2 : (Lit.int .i64 a2).wf = true) (w : World) :
    Calls Try.prog 6 #[.int .i64 a0, .int .i64 a1, .int .i64 a2] w fun e W' => e = .returned (.bool true) ∧ Below w.heap.size w W' := by
  go_enter Try.func6, Try.ntmps6
  go_wp2_with fail
  refine (works_any _).mono ?_
  rintro e w1 ⟨rfl, hb⟩
  have B1 := Lib.hid hb
  clear hb
  by_cases g0 : a0 < 1
  · have d0 : decide (a0 < 1) = true := decide_eq_true g0
    go_wp2_with fail
    go_ret
    exact ⟨rfl, B1.out⟩
  have d0 : decide (a0 < 1) = false := decide_eq_false g0
  by_cases g1 : 8 < a0
  · have d1 : decide (8 < a0) = true := decide_eq_true g1
    go_wp2_with fail
    go_ret
    exact ⟨rfl, B1.out⟩
  have d1 : decide (8 < a0) = false := decide_eq_false g1
  obtain ⟨n, rfl⟩ := Int.eq_ofNat_of_zero_le (show 0 ≤ a0 by omega)
  have hn1 : 1 ≤ n := by omega
  have hn8 : n ≤ 8 := by omega
  have dn : decide (8 < n) = false := decide_eq_false (by omega)
  have dn1 : decide (n < 1) = false := decide_eq_false (by omega)
  go_wp2_with fail
  refine (New_told (n : Int) _).mono ?_
  rintro e w2 ⟨rfl, hk, hb⟩
  rw [some_new a1 hn8] at hk
  have HP := Lib.hid (show w.heap.size ≤ w1.heap.size from B1.out.size)
  have B2 := Lib.hid (below2 B1.out hb)
  have H0 := Lib.hid hk
  have hp := hk.1.lt
  clear hb hk g0 g1
  generalize w1.heap.size = p at *
  go_wp2_with fail
  go_loopw [9] (fun i W => ∃ j : Nat, j ≤ n ∧ i = .int .i64 j ∧ Keeps W p (some' n j a1) ∧ Turned (fun k => k = p) w2 W) (fun i _ => n - (intOf i).toNat)
  case atStart => exact ⟨0, Nat.zero_le _, rfl, H0.out, Turned.refl _ _⟩
  case round =>
    obtain ⟨j, hj, rfl, hh, ht⟩ := hrel
    have H := Lib.hid hh
    have T := Lib.hid ht
    clear hh ht H0
    by_cases hlt : j < n
    case pos =>
      have C := Lib.hid (Take_told H.out)
      rw [some_take a1 hlt] at C
      have HY := Lib.hid (retire_yes a1 hlt)
      have HN := Lib.hid (retire_no a1 hlt)
      generalize some' n j a1 = l0 at *
      generalize hl1 : some' n (j + 1) a1 = l1 at *
      have HL1 := Lib.hid hl1
      clear hl1
      generalize l0.set j ⟨1, 0⟩ = l2 at *
      go_wp2_with fail
      refine C.out.mono ?_
      rintro e w3 ⟨rfl, hh, ht⟩
      have C3 := Lib.hid (Retire_told hh (j : Int) a1)
      rw [HY.out] at C3
      have T3 := Lib.hid (T.out.trans ht)
      clear hh ht C H T
      go_wp2_with fail
      refine C3.out.mono ?_
      rintro e w4 ⟨rfl, hh, ht⟩
      have C4 := Lib.hid (Retire_told hh (j : Int) a1)
      rw [HN.out] at C4
      have T4 := Lib.hid (T3.out.trans ht)
      clear hh ht C3 T3
      go_wp2_with fail
      refine C4.out.mono ?_
      rintro e w5 ⟨rfl, hh, ht⟩
      have H5 := Lib.hid hh
      have T5 := Lib.hid (T4.out.trans ht)
      clear hh ht C4 T4
      go_wp2_with fail
      refine ⟨⟨j + 1, by omega, by go_num, by rw [HL1.out]; exact H5.out, T5.out⟩, by simp [intOf]; omega⟩
    case neg =>
      obtain rfl : j = n := by omega
      obtain ⟨m, hm⟩ : ∃ m, j = m + 1 := ⟨j - 1, by omega⟩
      have HM := Lib.hid hm
      have hw : IntKind.i64.wrap ((j : Int) - 1) = (m : Int) := by rw [IntKind.wrap_i64]; omega
      have C1 := Lib.hid (Take_told H.out)
      rw [some_full] at C1
      have R0 := Lib.hid (fun W (K : Keeps W p (some' j j a1)) => Ripe_told (P := []) K (lies_nil W))
      rw [some_ripe (by omega), if_pos (show above [] a1 = true from rfl)] at R0
      have F0 := Lib.hid (show free (some' j j a1) (m : Int) = ((some' j j a1).set m slot0, true) by
        have := some_free (n := j) (by omega) a1
        rwa [show ((j : Int) - 1) = (m : Int) by omega, show j - 1 = m by omega] at this)
      have K0 := Lib.hid (show take ((some' j j a1).set m slot0) = (((some' j j a1).set m slot0).set m ⟨1, 0⟩, (m : Int)) by
        have := some_last (n := j) (by omega) a1
        rwa [show j - 1 = m by omega] at this)
      have hl : (((some' j j a1).set m slot0).set m ⟨1, 0⟩).length = j := by rw [List.length_set, List.length_set, some_length a1 (Nat.le_refl _)]
      have S1 := Lib.hid (show state (((some' j j a1).set m slot0).set m ⟨1, 0⟩) (m : Int) = 1 by
        rw [state_nat (by rw [hl]; omega), List.getElem_set_self])
      have S2 := Lib.hid (show state (((some' j j a1).set m slot0).set m ⟨1, 0⟩) (j : Int) = -1 from state_out (by rw [hl]; omega))
      have RP := Lib.hid (show ripe (some' j j a1) [a2] = if above [a2] a1 = true then 0 else -1 from some_ripe (by omega) a1 _)
      have AO := Lib.hid (above_one a2 a1)
      clear hl hm
      generalize ((some' j j a1).set m slot0).set m ⟨1, 0⟩ = l4 at *
      generalize (some' j j a1).set m slot0 = l3 at *
      generalize some' j j a1 = l1 at *
      go_wp2_with fail
      refine C1.out.mono ?_
      rintro e w3 ⟨rfl, hh, ht⟩
      have T3 := Lib.hid (T.out.trans ht)
      have H3 := Lib.hid hh
      have C := Lib.hid (R0.out _ hh)
      clear hh ht C1 H T
      go_wp2_with fail
      refine C.out.mono ?_
      rintro e w4 ⟨rfl, hb⟩
      have T4 := Lib.hid (T3.out.trans (Turned.of_below hb))
      have H4 := Lib.hid (keeps_kept H3.out hb)
      clear hb C H3 T3 R0
      obtain ⟨want, hwant, hrip⟩ : ∃ want : Int, (want = if above [a2] a1 = true then 0 else -1) ∧ ripe l1 [a2] = want := ⟨_, rfl, RP.out⟩
      have al := nums_below w4 #[.int .i64 a2]
      have C := Lib.hid (Ripe_told (keeps_kept H4.out al) (lies_one w4 a2))
      rw [hrip] at C
      have AL := Lib.hid al
      have done : ∀ (W : World), Keeps W p l1 → Turned (fun k => k = p) w2 W → Hid (Calls Try.prog 19 #[.pointer (some ⟨p, 0, none⟩), .int .i64 (m : Int)] W (Acts p l3 (.bool true) W)) := fun W K _ => Lib.hid (by
        have := Free_told K (m : Int)
        rwa [F0.out] at this)
      clear al hrip F0 RP
      by_cases g2 : a2 = 0
      · have dg : (a2 == 0) = true := by simpa using g2
        have hw0 : want = 0 := by rw [hwant, if_pos (AO.out.2 (.inl g2))]
        subst hw0
        clear hwant AO g2
        go_wp2_with fail
        refine C.out.mono ?_
        rintro e w5 ⟨rfl, hb⟩
        have hb2 := below2 AL.out hb
        have T5 := Lib.hid (T4.out.trans (Turned.of_below hb2))
        have D := done _ (keeps_kept H4.out hb2) T5.out
        clear hb hb2 C H4 T4 AL done
        go_wp2_with fail
        refine D.out.mono ?_
        rintro e w6 ⟨rfl, hh, ht⟩
        have T6 := Lib.hid (T5.out.trans ht)
        have D2 := Lib.hid (Take_told hh)
        rw [K0.out] at D2
        clear hh ht D T5
        go_wp2_with fail
        refine D2.out.mono ?_
        rintro e w7 ⟨rfl, hh, ht⟩
        have T7 := Lib.hid (T6.out.trans ht)
        have D3 := Lib.hid (State_told hh.1 (m : Int))
        rw [S1.out] at D3
        have H7 := Lib.hid hh
        clear hh ht D2 T6
        go_wp2_with fail
        refine D3.out.mono ?_
        rintro e w8 ⟨rfl, hb⟩
        have D4 := Lib.hid (State_told (H7.out.1.kept hb) (j : Int))
        rw [S2.out] at D4
        have T8 := Lib.hid (T7.out.trans (Turned.of_below hb))
        clear hb D3 T7
        go_wp2_with fail
        refine D4.out.mono ?_
        rintro e w9 ⟨rfl, hb⟩
        have T9 := Lib.hid (T8.out.trans (Turned.of_below hb))
        clear hb D4 T8
        go_wp2_with fail
        go_ret
        exact ⟨rfl, Turned.below B2.out T9.out B2.out.size (fun k hk => by have := HP.out; omega)⟩
      · have dg : (a2 == 0) = false := by simpa using g2
        by_cases g3 : a1 < a2
        · have dg3 : decide (a1 < a2) = true := decide_eq_true g3
          have hw0 : want = 0 := by rw [hwant, if_pos (AO.out.2 (.inr g3))]
          subst hw0
          clear hwant AO g2 g3
          go_wp2_with fail
          refine C.out.mono ?_
          rintro e w5 ⟨rfl, hb⟩
          have hb2 := below2 AL.out hb
          have T5 := Lib.hid (T4.out.trans (Turned.of_below hb2))
          have D := done _ (keeps_kept H4.out hb2) T5.out
          clear hb hb2 C H4 T4 AL done
          go_wp2_with fail
          refine D.out.mono ?_
          rintro e w6 ⟨rfl, hh, ht⟩
          have T6 := Lib.hid (T5.out.trans ht)
          have D2 := Lib.hid (Take_told hh)
          rw [K0.out] at D2
          clear hh ht D T5
          go_wp2_with fail
          refine D2.out.mono ?_
          rintro e w7 ⟨rfl, hh, ht⟩
          have T7 := Lib.hid (T6.out.trans ht)
          have D3 := Lib.hid (State_told hh.1 (m : Int))
          rw [S1.out] at D3
          have H7 := Lib.hid hh
          clear hh ht D2 T6
          go_wp2_with fail
          refine D3.out.mono ?_
          rintro e w8 ⟨rfl, hb⟩
          have D4 := Lib.hid (State_told (H7.out.1.kept hb) (j : Int))
          rw [S2.out] at D4
          have T8 := Lib.hid (T7.out.trans (Turned.of_below hb))
          clear hb D3 T7
          go_wp2_with fail
          refine D4.out.mono ?_
          rintro e w9 ⟨rfl, hb⟩
          have T9 := Lib.hid (T8.out.trans (Turned.of_below hb))
          clear hb D4 T8
          go_wp2_with fail
          go_ret
          exact ⟨rfl, Turned.below B2.out T9.out B2.out.size (fun k hk => by have := HP.out; omega)⟩
        · have dg3 : decide (a1 < a2) = false := decide_eq_false g3
          have hw0 : want = -1 := by rw [hwant, if_neg (fun h => (AO.out.1 h).elim g2 g3)]
          subst hw0
          clear hwant AO g2 g3
          go_wp2_with fail
          refine C.out.mono ?_
          rintro e w5 ⟨rfl, hb⟩
          have hb2 := below2 AL.out hb
          have T5 := Lib.hid (T4.out.trans (Turned.of_below hb2))
          have D := done _ (keeps_kept H4.out hb2) T5.out
          clear hb hb2 C H4 T4 AL done
          go_wp2_with fail
          refine D.out.mono ?_
          rintro e w6 ⟨rfl, hh, ht⟩
          have T6 := Lib.hid (T5.out.trans ht)
          have D2 := Lib.hid (Take_told hh)
          rw [K0.out] at D2
          clear hh ht D T5
          go_wp2_with fail
          refine D2.out.mono ?_
          rintro e w7 ⟨rfl, hh, ht⟩
          have T7 := Lib.hid (T6.out.trans ht)
          have D3 := Lib.hid (State_told hh.1 (m : Int))
          rw [S1.out] at D3
          have H7 := Lib.hid hh
          clear hh ht D2 T6
          go_wp2_with fail
          refine D3.out.mono ?_
          rintro e w8 ⟨rfl, hb⟩
          have D4 := Lib.hid (State_told (H7.out.1.kept hb) (j : Int))
          rw [S2.out] at D4
          have T8 := Lib.hid (T7.out.trans (Turned.of_below hb))
          clear hb D3 T7
          go_wp2_with fail
          refine D4.out.mono ?_
          rintro e w9 ⟨rfl, hb⟩
          have T9 := Lib.hid (T8.out.trans (Turned.of_below hb))
          clear hb D4 T8
          go_wp2_with fail
          go_ret
          exact ⟨rfl, Turned.below B2.out T9.out B2.out.size (fun k hk => by have := HP.out; omega)⟩
theorem own_EpochAll : ownKnob Try.prog.godebug = none := by kernel_rfl
set_option maxRecDepth 100000 in
set_option maxHeartbeats 800000 in
theorem lifted_EpochAll (os : Os) (started : os.Started) (H : Type) (enc : TypeId × Value → H) :
    ReturnsInHanded {} Try.checked os 6 .any (Rows.epochAllSpec.pre6 enc Try.prog Try.f6 Rows.epochAllRow.domain false) (Rows.epochAllSpec.post enc Try.prog Try.f6 false true false false) := by
  refine returnsInHanded_of_change (C := Try.checked) own_EpochAll started (by kernel_rfl) Try.func6
    (ChangeSpec.witness6 (enc := enc) (C := Try.checked) false ⟨#[], #[.int .i64 0, .int .i64 0, .int .i64 0], []⟩ 8 (by kernel_rfl) (by kernel_rfl) (by kernel_rfl) (by kernel_rfl)) ?_
  intro W base args ds gs before hval0 hW _ _
  have hval : ∀ (j : Nat) t v, Try.f6.params[j]? = some t → args[j]? = some v → Value.okWide Try.prog W .any base t v := hval0
  have hW' := hW
  obtain ⟨p, q, hA0, hV, rfl, _, _⟩ := hW
  have hA : DataW.TrodAll enc Try.prog W 0 (fun _ => true) true Try.f6.params.toList args.toList ds p := hA0
  rw [Try.params6] at hA hval
  obtain ⟨v0, vs0, d0, ds0, p0, q0, ha0, rfl, rfl, t0, r0⟩ := trodAll_cons hA
  obtain ⟨v1, vs1, d1, ds1, p1, q1, ha1, rfl, rfl, t1, r1⟩ := trodAll_cons r0
  obtain ⟨v2, vs2, d2, ds2, p2, q2, ha2, rfl, rfl, t2, r2⟩ := trodAll_cons r1
  obtain ⟨rfl, rfl, rfl⟩ := trodAll_nil r2
  subst ha2
  subst ha1
  obtain rfl : args = #[v0, v1, v2] := by cases args; simp_all
  obtain ⟨rfl, rfl⟩ := trodVars_none hV
  obtain ⟨a0, rfl, rfl, rfl, h0⟩ := open_int Try.underlying3 (hval 0 3 v0 rfl rfl) t0
  obtain ⟨a1, rfl, rfl, rfl, h1⟩ := open_int Try.underlying3 (hval 1 3 v1 rfl rfl) t1
  obtain ⟨a2, rfl, rfl, rfl, h2⟩ := open_int Try.underlying3 (hval 2 3 v2 rfl rfl) t2
  clear hA0 hval0
  simp only [List.append_nil] at hW'
  refine (walk_EpochAll a0 a1 a2 h0 h1 h2 W).mono fun e W' ⟨he, hnx⟩ => ?_
  subst he
  exact ⟨_, rfl, ⟨_, _, _, [], [], [], hW', trodAll_cons_mk (shut_bool Try.underlying4 _) trodAll_mk0, (trodAll_cons_mk (shut_int Try.underlying3 h0) (trodAll_cons_mk (shut_int Try.underlying3 h1) (trodAll_cons_mk (shut_int Try.underlying3 h2) trodAll_mk0))), rfl, hnx.frame _, fun h => by cases h⟩⟩

theorem epochAll_holds : Rows.EpochAllSaid :=
  OpenClaim.holds_of_wide 6 Try.f6 rfl rfl rfl rfl rfl rfl rfl ⟨rfl, rfl, rfl, rfl, rfl⟩ rfl rfl rfl rfl rfl (by kernel_rfl) Try.func6 (by kernel_rfl)
    (of_decide_eq_true (by kernel_rfl)) (by unfold Func.isWrapper; first | (rw [if_pos (by decide +kernel)]; kernel_rfl) | (rw [if_neg (by decide +kernel)]; exact ⟨rfl, rfl⟩))
    (fun os started H enc _ => lifted_EpochAll os started H enc)

#print axioms epochAll_holds
end Go.Proofs.Ythokjkllmflgkaa
