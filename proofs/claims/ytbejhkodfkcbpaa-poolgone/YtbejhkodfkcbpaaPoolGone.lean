/-
  PoolGone: for every p, q and id the law PoolGone answers true: what is gone is just what is in the one pool, and not in the other. No condition.
-/
import Derived.Test.YtbejhkodfkcbpaaRows
import Derived.Test.YtbejhkodfkcbpaaStp
import Derived.Test.YtbejhkodfkcbpaaWkB
import Derived.BigQuiet
import Derived.WalkSmall
import Derived.ProofKit
import Derived.OpenShut
import Derived.ChangeMaps5
namespace Go.Proofs.Ytbejhkodfkcbpaa
open Go.ChangeShapes Go.WideShapes Go.ChangeAt Go.RowKit Go.Shelf
open Go.ChangeMaps (open_string shut_string)
open Pol Rgn

set_option maxRecDepth 100000 in
set_option maxHeartbeats 8000000 in
theorem walk_PoolGone (a0 : Option Addr) (c0 : Nat) (z0 : List Bk) (a1 : Option Addr) (c1 : Nat) (z1 : List Bk) (id : Int) (w : World) (h0 : Lies w a0 c0 z0) (g0 : ∀ x ∈ z0, Stp.BkOk x) (h1 : Lies w a1 c1 z1) (g1 : ∀ x ∈ z1, Stp.BkOk x) (_h2 : (Lit.int .i64 id).wf = true) :
    Calls Try.prog 7 #[polV a0 c0 z0, polV a1 c1 z1, .int .i64 id] w fun e W' => e = .returned (.bool true) ∧ Below w.heap.size w W' := by
  have H := Lib.hid h0
  have H' := Lib.hid h1
  have K0 := Lib.hid (show ∀ x ∈ z0, (Lit.int .i64 x.1).wf = true from fun x hx => (g0 x hx).1)
  have K1 := Lib.hid (show ∀ x ∈ z1, (Lit.int .i64 x.1).wf = true from fun x hx => (g1 x hx).1)
  clear h0 g0 h1 g1
  by_cases h60 : 60 < z0.length
  · have d0 : decide ((60 : Int) < (z0.length : Int)) = true := decide_eq_true (by omega)
    have d1 : decide (60 < z0.length) = true := decide_eq_true h60
    go_enter Try.func7, Try.ntmps7
    go_wp2_with fail
    refine (works_any _).mono ?_
    rintro e w1 ⟨rfl, hb⟩
    have B1 := Lib.hid hb
    clear hb
    go_wp2_with fail
    go_ret
    exact ⟨rfl, B1.out⟩
  have d0 : decide ((60 : Int) < (z0.length : Int)) = false := decide_eq_false (by omega)
  have d1 : decide (60 < z0.length) = false := decide_eq_false h60
  by_cases h61 : 60 < z1.length
  · have d2 : decide ((60 : Int) < (z1.length : Int)) = true := decide_eq_true (by omega)
    have d3 : decide (60 < z1.length) = true := decide_eq_true h61
    go_enter Try.func7, Try.ntmps7
    go_wp2_with fail
    refine (works_any _).mono ?_
    rintro e w1 ⟨rfl, hb⟩
    have B1 := Lib.hid hb
    clear hb
    go_wp2_with fail
    go_ret
    exact ⟨rfl, B1.out⟩
  have d2 : decide ((60 : Int) < (z1.length : Int)) = false := decide_eq_false (by omega)
  have d3 : decide (60 < z1.length) = false := decide_eq_false h61
  have hz : z0.length ≤ 60 := by omega
  obtain ⟨G, hG⟩ : ∃ G, G = gone z0 z1 := ⟨_, rfl⟩
  have R1 := Lib.hid (show G.Pairwise (· < ·) by rw [hG]; exact gone_rises z0 z1)
  have M1 := Lib.hid (show id ∈ G ↔ 0 ≤ find z0 id 0 ∧ find z1 id 0 < 0 by rw [hG]; exact gone_mem z0 z1 id)
  have hGl := gone_length z0 z1
  rw [← hG] at hGl
  have E0 := Lib.hid (gone_self z0)
  have HG := Lib.hid hG
  clear hG
  go_enter Try.func7, Try.ntmps7
  go_wp2_with fail
  refine (works_any _).mono ?_
  rintro e w1 ⟨rfl, hb⟩
  have L1 := Lib.hid (H.out.kept hb)
  have L1' := Lib.hid (H'.out.kept hb)
  have B1 := Lib.hid hb
  clear hb
  go_wp2_with fail
  refine (Gone_told a0 c0 z0 a1 c1 z1 w1 L1.out L1'.out (by omega) K0.out K1.out).mono ?_
  rintro e w2 ⟨v, rfl, hg, hb⟩
  rw [← HG.out] at hg
  obtain ⟨ag, cg, rfl, hLG⟩ := hg
  have L2 := Lib.hid (L1.out.kept hb)
  have L2' := Lib.hid (L1'.out.kept hb)
  have B2 := Lib.hid (below2 B1.out hb)
  have G2 := Lib.hid hLG
  have hgm := hLG.len
  have hgx := hLG.max
  unfold maxLen at hgx
  clear hb hLG L1 L1' B1 H H'
  go_wp2_with fail
  go_loopw [9, 10] (fun v i W => ∃ k : Nat, k ≤ G.length ∧ v = .bool (decide (id ∈ G.take k)) ∧ i = .int .i64 k ∧ Below w2.heap.size w2 W) (fun _ i _ => G.length - iN i)
  case atStart => exact ⟨0, Nat.zero_le _, by simp, rfl, Below.refl _ _⟩
  case round =>
    obtain ⟨k, hk, rfl, rfl, hBW⟩ := hrel
    have BW := Lib.hid hBW
    clear hBW
    by_cases hlt : k < G.length
    · obtain ⟨b, off, rfl, c0'⟩ := (G2.out.kept BW.out).at hlt
      have hin : decide (id ∈ G.take (k + 1)) = (decide (id ∈ G.take k) || (G[k] == id)) := by
        rw [List.take_succ_eq_append_getElem hlt]
        simp only [List.mem_append, List.mem_singleton, Bool.decide_or]
        congr 1
        rw [Bool.eq_iff_iff, decide_eq_true_iff, beq_iff_eq]
        exact eq_comm
      have HIn := Lib.hid hin
      clear hin
      generalize hcin : decide (id ∈ G.take k) = cin at *
      clear hcin
      have hfin : ∀ (W : World) (hb : Below w2.heap.size w2 W), True := fun _ _ => trivial
      clear hfin
      rcases Nat.eq_zero_or_pos k with hk0 | hk0
      · have dk : decide ((0 : Int) < (k : Int)) = false := decide_eq_false (by omega)
        have dk' : decide (0 < k) = false := decide_eq_false (by omega)
        clear hk0
        generalize G[k] = x at *
        go_wp2_with fail
        go_quiet (fail)
        have HB2 := Lib.hid (below_drewN BW.out nq)
        cases cin with
        | true =>
          go_wp2_with fail
          go_roundw
          case rel => exact ⟨k + 1, by omega, by rw [HIn.out]; rfl, by go_num, HB2.out⟩
          case measure => simp [iN]; omega
        | false =>
          go_wp2_with fail
          go_roundw
          case rel => exact ⟨k + 1, by omega, by rw [HIn.out]; simp, by go_num, HB2.out⟩
          case measure => simp [iN]; omega
      · have dk : decide ((0 : Int) < (k : Int)) = true := decide_eq_true (by omega)
        have dk' : decide (0 < k) = true := decide_eq_true hk0
        obtain ⟨j, hj⟩ : ∃ j, j + 1 = k := ⟨k - 1, by omega⟩
        have hjl : j < G.length := by omega
        obtain ⟨b', off', he, c1'⟩ := (G2.out.kept BW.out).at hjl
        cases he
        have hrise : G[j] < G[k] := List.pairwise_iff_getElem.1 R1.out j k hjl hlt (by omega)
        have s1 : IntKind.i64.wrap ((k : Int) - 1) = (j : Int) := by rw [IntKind.wrap_i64]; omega
        generalize G[j] = xj at *
        generalize G[k] = x at *
        have dr : decide (x ≤ xj) = false := decide_eq_false (by omega)
        have HJ := Lib.hid hj
        clear hj hk0 hrise
        go_wp2_with fail
        go_quiet (fail)
        have HB2 := Lib.hid (below_drewN BW.out nq)
        cases cin with
        | true =>
          go_wp2_with fail
          go_roundw
          case rel => exact ⟨k + 1, by omega, by rw [HIn.out]; rfl, by go_num, HB2.out⟩
          case measure => simp [iN]; omega
        | false =>
          go_wp2_with fail
          go_roundw
          case rel => exact ⟨k + 1, by omega, by rw [HIn.out]; simp, by go_num, HB2.out⟩
          case measure => simp [iN]; omega
    · have HT := Lib.hid (show decide (id ∈ G.take k) = decide (id ∈ G) by rw [List.take_of_length_le (by omega)])
      rw [HT.out]
      have L3 := Lib.hid (L2.out.kept BW.out)
      have L3' := Lib.hid (L2'.out.kept BW.out)
      have B3 := Lib.hid (below2 B2.out BW.out)
      clear L2 L2' B2 BW HT R1
      have hM : decide (id ∈ G) = (decide (0 ≤ find z0 id 0) && decide (find z1 id 0 < 0)) := by rw [← Bool.decide_and]; exact decide_eq_decide.2 M1.out
      rw [hM]
      clear hM M1
      go_wp2_with fail
      refine (Find_told a0 c0 z0 id wr L3.out).mono ?_
      rintro e w4 ⟨rfl, hb⟩
      have L4 := Lib.hid (L3.out.kept hb)
      have L4' := Lib.hid (L3'.out.kept hb)
      have B4 := Lib.hid (below2 B3.out hb)
      clear hb L3 L3' B3
      generalize find z0 id 0 = f1 at *
      by_cases hf1 : 0 ≤ f1
      · have df : decide (0 ≤ f1) = true := decide_eq_true hf1
        rw [df]
        go_wp2_with fail
        refine (Find_told a1 c1 z1 id w4 L4'.out).mono ?_
        rintro e w5 ⟨rfl, hb⟩
        have L5 := Lib.hid (L4.out.kept hb)
        have B5 := Lib.hid (below2 B4.out hb)
        clear hb L4 L4' B4
        generalize find z1 id 0 = f2 at *
        by_cases hf2 : f2 < 0
        · have df2 : decide (f2 < 0) = true := decide_eq_true hf2
          rw [df2]
          go_wp2_with fail
          refine (Gone_told a0 c0 z0 a0 c0 z0 w5 L5.out L5.out (by omega) K0.out K0.out).mono ?_
          rintro e w6 ⟨v, rfl, hg, hb⟩
          rw [E0.out] at hg
          obtain ⟨ag6, cg6, rfl, _⟩ := hg
          have B6 := Lib.hid (below2 B5.out hb)
          clear hb
          go_wp2_with fail
          go_ret
          exact ⟨rfl, B6.out⟩
        · have df2 : decide (f2 < 0) = false := decide_eq_false hf2
          rw [df2]
          go_wp2_with fail
          refine (Gone_told a0 c0 z0 a0 c0 z0 w5 L5.out L5.out (by omega) K0.out K0.out).mono ?_
          rintro e w6 ⟨v, rfl, hg, hb⟩
          rw [E0.out] at hg
          obtain ⟨ag6, cg6, rfl, _⟩ := hg
          have B6 := Lib.hid (below2 B5.out hb)
          clear hb
          go_wp2_with fail
          go_ret
          exact ⟨rfl, B6.out⟩
      · have df : decide (0 ≤ f1) = false := decide_eq_false hf1
        rw [df]
        go_wp2_with fail
        refine (Gone_told a0 c0 z0 a0 c0 z0 w4 L4.out L4.out (by omega) K0.out K0.out).mono ?_
        rintro e w6 ⟨v, rfl, hg, hb⟩
        rw [E0.out] at hg
        obtain ⟨ag6, cg6, rfl, _⟩ := hg
        have B6 := Lib.hid (below2 B4.out hb)
        clear hb
        go_wp2_with fail
        go_ret
        exact ⟨rfl, B6.out⟩

theorem own_PoolGone : ownKnob Try.prog.godebug = none := by kernel_rfl
set_option maxRecDepth 100000 in
set_option maxHeartbeats 800000 in
theorem lifted_PoolGone (os : Os) (started : os.Started) (H : Type) (enc : TypeId × Value → H) :
    ReturnsInHanded {} Try.checked os 7 .any (Rows.poolGoneSpec.pre6 enc Try.prog Try.f7 Rows.poolGoneRow.domain false) (Rows.poolGoneSpec.post enc Try.prog Try.f7 false true false false) := by
  refine returnsInHanded_of_change (C := Try.checked) own_PoolGone started (by kernel_rfl) Try.func7
    (ChangeSpec.witness6 (enc := enc) (C := Try.checked) false ⟨#[], #[.slice none 0 0, .slice none 0 0, .int .i64 0], []⟩ 8 (by kernel_rfl) (by kernel_rfl) (by kernel_rfl) (by kernel_rfl)) ?_
  intro W base args ds gs before hval0 hW _ _
  have hval : ∀ (j : Nat) t v, Try.f7.params[j]? = some t → args[j]? = some v → Value.okWide Try.prog W .any base t v := hval0
  have hW' := hW
  obtain ⟨p, q, hA0, hV, rfl, _, _⟩ := hW
  have hA : DataW.TrodAll enc Try.prog W 0 (fun _ => true) true Try.f7.params.toList args.toList ds p := hA0
  rw [Try.params7] at hA hval
  obtain ⟨v0, vs0, d0, ds0, p0, q0, ha0, rfl, rfl, t0, r0⟩ := trodAll_cons hA
  obtain ⟨v1, vs1, d1, ds1, p1, q1, ha1, rfl, rfl, t1, r1⟩ := trodAll_cons r0
  obtain ⟨v2, vs2, d2, ds2, p2, q2, ha2, rfl, rfl, t2, r2⟩ := trodAll_cons r1
  obtain ⟨rfl, rfl, rfl⟩ := trodAll_nil r2
  subst ha2
  subst ha1
  obtain rfl : args = #[v0, v1, v2] := by cases args; simp_all
  obtain ⟨rfl, rfl⟩ := trodVars_none hV
  have k0 := t0
  have lt0 : ∀ x ∈ p0, x.block < W.heap.size := by obtain ⟨m, hm⟩ := k0; exact DataW.trod_lt m _ _ _ hm
  obtain ⟨a0, c0, z0, rfl, h0, g0⟩ := Stp.open_pool (hval 0 22 v0 rfl rfl) t0
  have k1 := t1
  have lt1 : ∀ x ∈ p1, x.block < W.heap.size := by obtain ⟨m, hm⟩ := k1; exact DataW.trod_lt m _ _ _ hm
  obtain ⟨a1, c1, z1, rfl, h1, g1⟩ := Stp.open_pool (hval 1 22 v1 rfl rfl) t1
  obtain ⟨a2, rfl, rfl, rfl, h2⟩ := open_int Try.underlying3 (hval 2 3 v2 rfl rfl) t2
  clear hA0 hval0
  refine (walk_PoolGone a0 c0 z0 a1 c1 z1 a2 W h0 g0 h1 g1 h2).mono fun e W' ⟨he, hnx⟩ => ?_
  subst he
  exact ⟨_, rfl, ⟨_, _, _, [], _, [], hW', trodAll_cons_mk (shut_bool Try.underlying4 _) trodAll_mk0, (trodAll_cons_mk (Below.trod Stp.laidOut (by kernel_rfl) (of_decide_eq_true (by kernel_rfl)) k0 hnx lt0) (trodAll_cons_mk (Below.trod Stp.laidOut (by kernel_rfl) (of_decide_eq_true (by kernel_rfl)) k1 hnx lt1) (trodAll_cons_mk (shut_int Try.underlying3 h2) trodAll_mk0))), rfl, hnx.frame _, fun h => by cases h⟩⟩

theorem poolGone_holds : Rows.PoolGoneSaid :=
  OpenClaim.holds_of_wide 7 Try.f7 rfl rfl rfl rfl rfl rfl rfl ⟨rfl, rfl, rfl, rfl, rfl⟩ rfl rfl rfl rfl rfl (by kernel_rfl) Try.func7 (by kernel_rfl)
    (of_decide_eq_true (by kernel_rfl)) (by unfold Func.isWrapper; first | (rw [if_pos (by decide +kernel)]; kernel_rfl) | (rw [if_neg (by decide +kernel)]; exact ⟨rfl, rfl⟩))
    (fun os started H enc _ => lifted_PoolGone os started H enc)

#print axioms poolGone_holds
end Go.Proofs.Ytbejhkodfkcbpaa
