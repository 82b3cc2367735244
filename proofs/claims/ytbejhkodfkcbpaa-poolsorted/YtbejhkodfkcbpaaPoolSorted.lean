/-
  PoolSorted: for every p and id the law PoolSorted answers true: what is sorted rises, and has just the same backends. No condition.
-/
import Derived.Test.YtbejhkodfkcbpaaRows
import Derived.Test.YtbejhkodfkcbpaaStp
import Derived.Test.YtbejhkodfkcbpaaWkB
import Derived.BigQuiet
import Derived.WalkSmall
import Derived.ProofKit
import Derived.OpenShut
import Derived.ChangeMaps5
namespace Go.Proofs.Ytbejhkodfkcbpaa
open Go.ChangeShapes Go.WideShapes Go.ChangeAt Go.RowKit Go.Shelf
open Go.ChangeMaps (open_string shut_string)
open Pol Rgn

set_option maxRecDepth 100000 in
set_option maxHeartbeats 8000000 in
theorem walk_PoolSorted (a0 : Option Addr) (c0 : Nat) (z0 : List Bk) (id : Int) (w : World) (h0 : Lies w a0 c0 z0) (_g0 : ∀ x ∈ z0, Stp.BkOk x) (_h1 : (Lit.int .i64 id).wf = true) :
    Calls Try.prog 6 #[polV a0 c0 z0, .int .i64 id] w fun e W' => e = .returned (.bool true) ∧ Below w.heap.size w W' := by
  have H := Lib.hid h0
  have hC0 := h0.len
  have hM0 := h0.max
  unfold maxLen at hM0
  clear h0 _g0
  by_cases h60 : 60 < z0.length
  · have d0 : decide ((60 : Int) < (z0.length : Int)) = true := decide_eq_true (by omega)
    have d1 : decide (60 < z0.length) = true := decide_eq_true h60
    go_enter Try.func6, Try.ntmps6
    go_wp2_with fail
    refine (works_any _).mono ?_
    rintro e w1 ⟨rfl, hb⟩
    have B1 := Lib.hid hb
    clear hb
    go_wp2_with fail
    go_ret
    exact ⟨rfl, B1.out⟩
  have d0 : decide ((60 : Int) < (z0.length : Int)) = false := decide_eq_false (by omega)
  have d1 : decide (60 < z0.length) = false := decide_eq_false h60
  have hz : z0.length ≤ 60 := by omega
  obtain ⟨zs, hzs⟩ : ∃ zs, zs = sorted z0 := ⟨_, rfl⟩
  have R1 := Lib.hid (show Rises zs by rw [hzs]; exact sorted_rises z0)
  have LN := Lib.hid (show zs.length = z0.length by rw [hzs]; exact sorted_length z0)
  have hln : zs.length ≤ 60 := by rw [LN.out]; exact hz
  have eln : ((zs.length : Int) == (z0.length : Int)) = true := by rw [LN.out]; simp
  have F1 := Lib.hid (show first zs id = first z0 id by rw [hzs]; exact sorted_first z0 id)
  have F2 := Lib.hid (show 0 ≤ find zs id 0 ↔ 0 ≤ find z0 id 0 by rw [hzs, find_pos, find_pos]; exact sorted_mem z0 id)
  have F3 := Lib.hid (show chk zs ↔ chk z0 by rw [hzs]; exact sorted_chk z0)
  have F4 := Lib.hid (show sorted zs = zs by rw [hzs]; exact sorted_twice z0)
  have HZ := Lib.hid hzs
  clear hzs
  go_enter Try.func6, Try.ntmps6
  go_wp2_with fail
  refine (works_any _).mono ?_
  rintro e w1 ⟨rfl, hb⟩
  have L1 := Lib.hid (H.out.kept hb)
  have B1 := Lib.hid hb
  clear hb H
  go_wp2_with fail
  refine (Sorted_told a0 c0 z0 w1 L1.out (by omega)).mono ?_
  rintro e w2 ⟨v, rfl, hg, hb⟩
  rw [← HZ.out] at hg
  obtain ⟨aS, cs, rfl, hLs⟩ := hg
  have L2 := Lib.hid (L1.out.kept hb)
  have M2 := Lib.hid hLs
  have B2 := Lib.hid (below2 B1.out hb)
  have hCs := hLs.len
  have hMs := hLs.max
  unfold maxLen at hMs
  clear hb hLs L1 B1
  go_wp2_with fail
  go_loopw [7] (fun i W => ∃ k : Nat, 1 ≤ k ∧ k ≤ 61 ∧ i = .int .i64 k ∧ Below w2.heap.size w2 W) (fun i _ => zs.length - iN i)
  case atStart => exact ⟨1, Nat.le_refl _, by omega, rfl, Below.refl _ _⟩
  case round =>
    obtain ⟨k, hk1, hk2, rfl, hBW⟩ := hrel
    have BW := Lib.hid hBW
    clear hBW
    by_cases hlt : k < zs.length
    · obtain ⟨j, hj⟩ : ∃ j, j + 1 = k := ⟨k - 1, by omega⟩
      have hjl : j < zs.length := by omega
      obtain ⟨b, off, rfl, x0, x1⟩ := (M2.out.kept BW.out).at hlt
      obtain ⟨b', off', he, y0, y1⟩ := (M2.out.kept BW.out).at hjl
      cases he
      have hrise : zs[j].1 ≤ zs[k].1 := List.pairwise_iff_getElem.1 R1.out j k hjl hlt (by omega)
      have s1 : IntKind.i64.wrap ((k : Int) - 1) = (j : Int) := by rw [IntKind.wrap_i64]; omega
      generalize zs[j] = y at *
      generalize zs[k] = x at *
      have dr : decide (x.1 < y.1) = false := decide_eq_false (by omega)
      have HJ := Lib.hid hj
      clear hj hrise
      go_wp2_with fail
      go_quiet (fail)
      have HB2 := Lib.hid (below_drewN BW.out nq)
      go_wp2_with fail
      go_roundw
      case rel => exact ⟨k + 1, by omega, by omega, by go_num, HB2.out⟩
      case measure => simp [iN]; omega
    · have L3 := Lib.hid (L2.out.kept BW.out)
      have M3 := Lib.hid (M2.out.kept BW.out)
      have B3 := Lib.hid (below2 B2.out BW.out)
      clear L2 M2 B2 BW R1
      go_wp2_with fail
      refine (Find_told a0 c0 z0 id wr L3.out).mono ?_
      rintro e w4 ⟨rfl, hb⟩
      have L4 := Lib.hid (L3.out.kept hb)
      have M4 := Lib.hid (M3.out.kept hb)
      have B4 := Lib.hid (below2 B3.out hb)
      clear hb L3 M3 B3
      go_wp2_with fail
      refine (Find_told aS cs zs id w4 M4.out).mono ?_
      rintro e w5 ⟨rfl, hb⟩
      have L5 := Lib.hid (L4.out.kept hb)
      have M5 := Lib.hid (M4.out.kept hb)
      have B5 := Lib.hid (below2 B4.out hb)
      clear hb L4 M4 B4
      by_cases hf : 0 ≤ find z0 id 0
      · obtain ⟨k1, x1, e1, l1, g1, _⟩ := find_is z0 id hf
        obtain ⟨k2, x2, e2, l2, g2, _⟩ := find_is zs id (F2.out.2 hf)
        have hx : x2 = x1 := by
          have h1 := find_first z0 id k1 e1
          have h2 := find_first zs id k2 e2
          rw [F1.out, h1, g1, g2] at h2
          exact (Option.some.inj h2).symm
        rw [hx] at g2
        obtain ⟨hl1, ex1⟩ := List.getElem?_eq_some_iff.1 g1
        obtain ⟨hl2, ex2⟩ := List.getElem?_eq_some_iff.1 g2
        obtain ⟨b1, o1, rfl, p0, p1⟩ := L5.out.at hl1
        obtain ⟨b2, o2, rfl, q0, q1⟩ := M5.out.at hl2
        rw [ex1] at p0 p1
        rw [ex2] at q0 q1
        rw [e1, e2]
        have CC := bk_cmp x1 x1 true (by simp)
        clear e1 e2 g1 g2 ex1 ex2 hx F1 F2 hf hlt hk1 hk2
        have n1 : decide ((z0.length : Int) ≤ (k1 : Int)) = false := decide_eq_false (by omega)
        have n1' : decide (z0.length ≤ k1) = false := decide_eq_false (by omega)
        have n2 : decide ((zs.length : Int) ≤ (k2 : Int)) = false := decide_eq_false (by omega)
        have n2' : decide (zs.length ≤ k2) = false := decide_eq_false (by omega)
        have n3 : decide ((k1 : Int) < 0) = false := decide_eq_false (by omega)
        have n4 : decide ((k2 : Int) < 0) = false := decide_eq_false (by omega)
        have n5 : decide ((0 : Int) ≤ (k1 : Int)) = true := decide_eq_true (by omega)
        go_wp2_with fail
        go_quiet (fail)
        have L6 := Lib.hid (show Lies (w5.drewN nq) _ c0 z0 from L5.out.kept (below_drewN (Below.refl _ _) nq))
        have M6 := Lib.hid (show Lies (w5.drewN nq) _ cs zs from M5.out.kept (below_drewN (Below.refl _ _) nq))
        have B6 := Lib.hid (below_drewN B5.out nq)
        clear L5 M5 B5
        by_cases hc : chk z0
        · have hC := Lib.hid hc
          have hCs2 := Lib.hid (F3.out.2 hc)
          clear hc F3
          go_wp2_with fail
          refine (Check_yes _ cs zs hCs2.out _ M6.out).mono ?_
          rintro e w7 ⟨rfl, hb⟩
          have L7 := Lib.hid (L6.out.kept hb)
          have M7 := Lib.hid (M6.out.kept hb)
          have B7 := Lib.hid (below2 B6.out hb)
          clear hb L6 M6 B6
          go_wp2_with fail
          refine (Check_yes _ c0 z0 hC.out w7 L7.out).mono ?_
          rintro e w8 ⟨rfl, hb⟩
          have M8 := Lib.hid (M7.out.kept hb)
          have B8 := Lib.hid (below2 B7.out hb)
          clear hb L7 M7 B7
          go_wp2_with fail
          refine (Sorted_told _ cs zs w8 M8.out (by omega)).mono ?_
          rintro e w9 ⟨v, rfl, ⟨a9, c9, rfl, hL9⟩, hb⟩
          have M9 := Lib.hid (M8.out.kept hb)
          have N9 := Lib.hid hL9
          have B9 := Lib.hid (below2 B8.out hb)
          clear hb hL9 M8 B8
          go_wp2_with fail
          refine (Same_told a9 c9 (sorted zs) _ cs zs true (by simp [F4.out]) w9 N9.out M9.out).mono ?_
          rintro e w10 ⟨rfl, hb⟩
          have B10 := Lib.hid (below2 B9.out hb)
          clear hb
          go_wp2_with fail
          go_ret
          exact ⟨rfl, B10.out⟩
        · have hC := Lib.hid hc
          have hCs2 := Lib.hid (show ¬ chk zs from fun h => hc (F3.out.1 h))
          clear hc F3
          go_wp2_with fail
          refine (Check_no _ cs zs hCs2.out _ M6.out).mono ?_
          rintro e w7 ⟨rfl, hb⟩
          have L7 := Lib.hid (L6.out.kept hb)
          have M7 := Lib.hid (M6.out.kept hb)
          have B7 := Lib.hid (below2 B6.out hb)
          clear hb L6 M6 B6
          go_wp2_with fail
          refine (Check_no _ c0 z0 hC.out w7 L7.out).mono ?_
          rintro e w8 ⟨rfl, hb⟩
          have M8 := Lib.hid (M7.out.kept hb)
          have B8 := Lib.hid (below2 B7.out hb)
          clear hb L7 M7 B7
          go_wp2_with fail
          refine (Sorted_told _ cs zs w8 M8.out (by omega)).mono ?_
          rintro e w9 ⟨v, rfl, ⟨a9, c9, rfl, hL9⟩, hb⟩
          have M9 := Lib.hid (M8.out.kept hb)
          have N9 := Lib.hid hL9
          have B9 := Lib.hid (below2 B8.out hb)
          clear hb hL9 M8 B8
          go_wp2_with fail
          refine (Same_told a9 c9 (sorted zs) _ cs zs true (by simp [F4.out]) w9 N9.out M9.out).mono ?_
          rintro e w10 ⟨rfl, hb⟩
          have B10 := Lib.hid (below2 B9.out hb)
          clear hb
          go_wp2_with fail
          go_ret
          exact ⟨rfl, B10.out⟩
      · have e1 : find z0 id 0 = -1 := by
          rcases find_cases id z0 0 with ⟨h, _⟩ | ⟨k, _, h, _⟩
          · exact h
          · rw [h] at hf; exact absurd (by omega) hf
        have e2 : find zs id 0 = -1 := by
          rcases find_cases id zs 0 with ⟨h, _⟩ | ⟨k, _, h, _⟩
          · exact h
          · exact absurd (F2.out.1 (by rw [h]; omega)) hf
        rw [e1, e2]
        clear e1 e2 F1 F2 hf hlt hk1 hk2
        have n1 : decide ((z0.length : Int) ≤ -1) = false := decide_eq_false (by omega)
        have n2 : decide ((zs.length : Int) ≤ -1) = false := decide_eq_false (by omega)
        go_wp2_with fail
        go_quiet (fail)
        have L6 := Lib.hid (show Lies (w5.drewN nq) _ c0 z0 from L5.out.kept (below_drewN (Below.refl _ _) nq))
        have M6 := Lib.hid (show Lies (w5.drewN nq) _ cs zs from M5.out.kept (below_drewN (Below.refl _ _) nq))
        have B6 := Lib.hid (below_drewN B5.out nq)
        clear L5 M5 B5
        by_cases hc : chk z0
        · have hC := Lib.hid hc
          have hCs2 := Lib.hid (F3.out.2 hc)
          clear hc F3
          go_wp2_with fail
          refine (Check_yes _ cs zs hCs2.out _ M6.out).mono ?_
          rintro e w7 ⟨rfl, hb⟩
          have L7 := Lib.hid (L6.out.kept hb)
          have M7 := Lib.hid (M6.out.kept hb)
          have B7 := Lib.hid (below2 B6.out hb)
          clear hb L6 M6 B6
          go_wp2_with fail
          refine (Check_yes _ c0 z0 hC.out w7 L7.out).mono ?_
          rintro e w8 ⟨rfl, hb⟩
          have M8 := Lib.hid (M7.out.kept hb)
          have B8 := Lib.hid (below2 B7.out hb)
          clear hb L7 M7 B7
          go_wp2_with fail
          refine (Sorted_told _ cs zs w8 M8.out (by omega)).mono ?_
          rintro e w9 ⟨v, rfl, ⟨a9, c9, rfl, hL9⟩, hb⟩
          have M9 := Lib.hid (M8.out.kept hb)
          have N9 := Lib.hid hL9
          have B9 := Lib.hid (below2 B8.out hb)
          clear hb hL9 M8 B8
          go_wp2_with fail
          refine (Same_told a9 c9 (sorted zs) _ cs zs true (by simp [F4.out]) w9 N9.out M9.out).mono ?_
          rintro e w10 ⟨rfl, hb⟩
          have B10 := Lib.hid (below2 B9.out hb)
          clear hb
          go_wp2_with fail
          go_ret
          exact ⟨rfl, B10.out⟩
        · have hC := Lib.hid hc
          have hCs2 := Lib.hid (show ¬ chk zs from fun h => hc (F3.out.1 h))
          clear hc F3
          go_wp2_with fail
          refine (Check_no _ cs zs hCs2.out _ M6.out).mono ?_
          rintro e w7 ⟨rfl, hb⟩
          have L7 := Lib.hid (L6.out.kept hb)
          have M7 := Lib.hid (M6.out.kept hb)
          have B7 := Lib.hid (below2 B6.out hb)
          clear hb L6 M6 B6
          go_wp2_with fail
          refine (Check_no _ c0 z0 hC.out w7 L7.out).mono ?_
          rintro e w8 ⟨rfl, hb⟩
          have M8 := Lib.hid (M7.out.kept hb)
          have B8 := Lib.hid (below2 B7.out hb)
          clear hb L7 M7 B7
          go_wp2_with fail
          refine (Sorted_told _ cs zs w8 M8.out (by omega)).mono ?_
          rintro e w9 ⟨v, rfl, ⟨a9, c9, rfl, hL9⟩, hb⟩
          have M9 := Lib.hid (M8.out.kept hb)
          have N9 := Lib.hid hL9
          have B9 := Lib.hid (below2 B8.out hb)
          clear hb hL9 M8 B8
          go_wp2_with fail
          refine (Same_told a9 c9 (sorted zs) _ cs zs true (by simp [F4.out]) w9 N9.out M9.out).mono ?_
          rintro e w10 ⟨rfl, hb⟩
          have B10 := Lib.hid (below2 B9.out hb)
          clear hb
          go_wp2_with fail
          go_ret
          exact ⟨rfl, B10.out⟩

theorem own_PoolSorted : ownKnob Try.prog.godebug = none := by kernel_rfl
set_option maxRecDepth 100000 in
set_option maxHeartbeats 800000 in
theorem lifted_PoolSorted (os : Os) (started : os.Started) (H : Type) (enc : TypeId × Value → H) :
    ReturnsInHanded {} Try.checked os 6 .any (Rows.poolSortedSpec.pre6 enc Try.prog Try.f6 Rows.poolSortedRow.domain false) (Rows.poolSortedSpec.post enc Try.prog Try.f6 false true false false) := by
  refine returnsInHanded_of_change (C := Try.checked) own_PoolSorted started (by kernel_rfl) Try.func6
    (ChangeSpec.witness6 (enc := enc) (C := Try.checked) false ⟨#[], #[.slice none 0 0, .int .i64 0], []⟩ 8 (by kernel_rfl) (by kernel_rfl) (by kernel_rfl) (by kernel_rfl)) ?_
  intro W base args ds gs before hval0 hW _ _
  have hval : ∀ (j : Nat) t v, Try.f6.params[j]? = some t → args[j]? = some v → Value.okWide Try.prog W .any base t v := hval0
  have hW' := hW
  obtain ⟨p, q, hA0, hV, rfl, _, _⟩ := hW
  have hA : DataW.TrodAll enc Try.prog W 0 (fun _ => true) true Try.f6.params.toList args.toList ds p := hA0
  rw [Try.params6] at hA hval
  obtain ⟨v0, vs0, d0, ds0, p0, q0, ha0, rfl, rfl, t0, r0⟩ := trodAll_cons hA
  obtain ⟨v1, vs1, d1, ds1, p1, q1, ha1, rfl, rfl, t1, r1⟩ := trodAll_cons r0
  obtain ⟨rfl, rfl, rfl⟩ := trodAll_nil r1
  subst ha1
  obtain rfl : args = #[v0, v1] := by cases args; simp_all
  obtain ⟨rfl, rfl⟩ := trodVars_none hV
  have k0 := t0
  have lt0 : ∀ x ∈ p0, x.block < W.heap.size := by obtain ⟨m, hm⟩ := k0; exact DataW.trod_lt m _ _ _ hm
  obtain ⟨a0, c0, z0, rfl, h0, g0⟩ := Stp.open_pool (hval 0 22 v0 rfl rfl) t0
  obtain ⟨a1, rfl, rfl, rfl, h1⟩ := open_int Try.underlying3 (hval 1 3 v1 rfl rfl) t1
  clear hA0 hval0
  refine (walk_PoolSorted a0 c0 z0 a1 W h0 g0 h1).mono fun e W' ⟨he, hnx⟩ => ?_
  subst he
  exact ⟨_, rfl, ⟨_, _, _, [], _, [], hW', trodAll_cons_mk (shut_bool Try.underlying4 _) trodAll_mk0, (trodAll_cons_mk (Below.trod Stp.laidOut (by kernel_rfl) (of_decide_eq_true (by kernel_rfl)) k0 hnx lt0) (trodAll_cons_mk (shut_int Try.underlying3 h1) trodAll_mk0)), rfl, hnx.frame _, fun h => by cases h⟩⟩

theorem poolSorted_holds : Rows.PoolSortedSaid :=
  OpenClaim.holds_of_wide 6 Try.f6 rfl rfl rfl rfl rfl rfl rfl ⟨rfl, rfl, rfl, rfl, rfl⟩ rfl rfl rfl rfl rfl (by kernel_rfl) Try.func6 (by kernel_rfl)
    (of_decide_eq_true (by kernel_rfl)) (by unfold Func.isWrapper; first | (rw [if_pos (by decide +kernel)]; kernel_rfl) | (rw [if_neg (by decide +kernel)]; exact ⟨rfl, rfl⟩))
    (fun os started H enc _ => lifted_PoolSorted os started H enc)

#print axioms poolSorted_holds
end Go.Proofs.Ytbejhkodfkcbpaa
