/-
  PointsEach: for all p, id and n the law PointsEach answers true: each backend has its own points, the same in every pool. No condition.
-/
import Derived.Test.YtfjpdoamalbpjaaRows
import Derived.Test.YtfjpdoamalbpjaaStp
import Derived.Test.YtfjpdoamalbpjaaStq
import Derived.Test.YtfjpdoamalbpjaaPtsW
import Derived.Test.YtfjpdoamalbpjaaPtsU
import Derived.BigQuiet
import Derived.WalkSmall
import Derived.ProofKit
import Derived.OpenShut
import Derived.ChangeMaps5
namespace Go.Proofs.Ytfjpdoamalbpjaa
open Go.ChangeShapes Go.WideShapes Go.ChangeAt Go.RowKit Go.Shelf
open Go.ChangeMaps (open_string shut_string)
open Pts Rgn
open Pol (below2 below_alloc Bk polV)

set_option maxRecDepth 100000 in
set_option maxHeartbeats 2000000 in
theorem walk_PointsEach (a0 : Option Addr) (c0 : Nat) (z0 : List Bk) (id n : Int) (w : World) (h0 : Pol.Lies w a0 c0 z0) (_g0 : ∀ x ∈ z0, Stp.BkOk x) (_h1 : (Lit.int .i64 id).wf = true) (h2 : (Lit.int .i64 n).wf = true) :
    Calls Try.prog 6 #[polV a0 c0 z0, .int .i64 id, .int .i64 n] w fun e W' => e = .returned (.bool true) ∧ Below w.heap.size w W' := by
  have H := Lib.hid h0
  have hC0 := h0.len
  have hM0 := h0.max
  unfold maxLen at hM0
  clear h0 _g0
  by_cases h8 : 8 < z0.length
  · have d0 : decide ((8 : Int) < (z0.length : Int)) = true := decide_eq_true (by omega)
    have d1 : decide (8 < z0.length) = true := decide_eq_true h8
    go_enter Try.func6, Try.ntmps6
    go_wp2_with fail
    refine (works_any _).mono ?_
    rintro e w1 ⟨rfl, hb⟩
    have B1 := Lib.hid hb
    clear hb
    go_wp2_with fail
    go_ret
    exact ⟨rfl, B1.out⟩
  have d0 : decide ((8 : Int) < (z0.length : Int)) = false := decide_eq_false (by omega)
  have d1 : decide (8 < z0.length) = false := decide_eq_false h8
  have hz : z0.length ≤ 8 := by omega
  by_cases hc : Pol.chk z0
  case neg =>
    have HC := Lib.hid hc
    clear hc
    go_enter Try.func6, Try.ntmps6
    go_wp2_with fail
    refine (works_any _).mono ?_
    rintro e w1 ⟨rfl, hb⟩
    have L1 := Lib.hid (H.out.kept hb)
    have B1 := Lib.hid hb
    clear hb
    go_wp2_with fail
    refine (Check_no a0 c0 z0 HC.out w1 L1.out).mono ?_
    rintro e w2 ⟨rfl, hb⟩
    have B2 := Lib.hid (below2 B1.out hb)
    clear hb
    go_wp2_with fail
    go_ret
    exact ⟨rfl, B2.out⟩
  have HC := Lib.hid hc
  clear hc
  have F1 := Lib.hid (fun x hx => count_one z0 HC.out x hx)
  have F2 := Lib.hid (fun id h => count_none z0 id h)
  have F3 := Lib.hid (fun x hx m h h1 => there_one z0 x hx m h h1)
  have hLl : (ofL hsh z0).length ≤ 1024 := by have := pts_short z0; unfold ofL; rw [psort_length]; omega
  go_enter Try.func6, Try.ntmps6
  go_wp2_with fail
  refine (works_any _).mono ?_
  rintro e w1 ⟨rfl, hb⟩
  have L0 := Lib.hid (H.out.kept hb)
  have B1 := Lib.hid hb
  clear hb
  go_wp2_with fail
  refine (Check_yes a0 c0 z0 HC.out w1 L0.out).mono ?_
  rintro e w1' ⟨rfl, hb⟩
  have L1 := Lib.hid (L0.out.kept hb)
  have B1' := Lib.hid (below2 B1.out hb)
  clear hb L0 B1
  go_wp2_with fail
  refine (Of_told a0 c0 z0 w1' L1.out (by omega)).mono ?_
  rintro e w2 ⟨v, rfl, ⟨aP, cP, rfl, hP⟩, hb⟩
  generalize ofL hsh z0 = L at *
  have L2 := Lib.hid (L1.out.kept hb)
  have P2 := Lib.hid hP
  have B2 := Lib.hid (below2 B1'.out hb)
  have hPl := hP.len
  have hPm := hP.max
  unfold maxLen at hPm
  clear hb hP L1 B1'
  go_wp2_with fail
  go_loopw [9, 10] (fun s i W => ∃ k : Nat, k ≤ L.length ∧ i = .int .i64 k ∧ s = .int .i64 ((((L.take k).filter fun p => p.2 == id).length : Nat)) ∧ ((L.take k).filter fun p => p.2 == id).length ≤ k ∧ Below w2.heap.size w2 W) (fun _ i _ => L.length - (intOf i).toNat)
  case atStart => exact ⟨0, Nat.zero_le _, rfl, by simp, by simp, Below.refl _ _⟩
  case round =>
    obtain ⟨k, hk, rfl, rfl, hs, hBW⟩ := hrel
    have BW := Lib.hid hBW
    clear hBW
    by_cases hlt : k < L.length
    · have dlt : decide (k < L.length) = true := decide_eq_true hlt
      obtain ⟨b, off, rfl, x0, x1⟩ := (P2.out.kept BW.out).at hlt
      have HX := Lib.hid (show (L.take (k + 1)).filter (fun p => p.2 == id) = ((L.take k).filter fun p => p.2 == id) ++ ([L[k]].filter fun p => p.2 == id) by rw [List.take_succ_eq_append_getElem hlt, List.filter_append])
      generalize L[k] = x at *
      generalize ((L.take k).filter fun p => p.2 == id) = out at *
      by_cases hx : x.2 = id
      · have dx : (x.2 == id) = true := beq_iff_eq.2 hx
        have HY := Lib.hid (show ((L.take (k + 1)).filter (fun p => p.2 == id)).length = out.length + 1 by rw [HX.out]; simp [hx])
        clear hx HX
        go_wp2_with fail
        go_roundw
        case rel => exact ⟨k + 1, by omega, by go_num, by rw [HY.out]; go_num, by rw [HY.out]; omega, BW.out⟩
        case measure => simp [intOf]; omega
      · have dx : (x.2 == id) = false := beq_false_of_ne hx
        have HY := Lib.hid (show ((L.take (k + 1)).filter (fun p => p.2 == id)).length = out.length by rw [HX.out]; simp [hx])
        clear hx HX
        go_wp2_with fail
        go_roundw
        case rel => exact ⟨k + 1, by omega, by go_num, by rw [HY.out], by rw [HY.out]; omega, BW.out⟩
        case measure => simp [intOf]; omega
    · obtain rfl : k = L.length := by omega
      rw [List.take_length] at hs
      have HT := Lib.hid (show (L.take L.length).filter (fun p => p.2 == id) = L.filter (fun p => p.2 == id) by rw [List.take_length])
      rw [HT.out]
      have B3 := Lib.hid (below2 B2.out BW.out)
      have L3 := Lib.hid (L2.out.kept BW.out)
      have P3 := Lib.hid (P2.out.kept BW.out)
      clear B2 BW L2 P2 hlt hk HT
      generalize wr = w3 at *
      go_wp2_with fail
      refine (Pol.Find_told a0 c0 z0 id w3 L3.out).mono ?_
      rintro e w4 ⟨rfl, hb⟩
      have B4 := Lib.hid (below2 B3.out hb)
      have L4 := Lib.hid (L3.out.kept hb)
      have P4 := Lib.hid (P3.out.kept hb)
      clear hb B3 L3 P3
      by_cases hf : 0 ≤ Pol.find z0 id 0
      case neg =>
        have e1 : Pol.find z0 id 0 = -1 := by
          rcases Pol.find_cases id z0 0 with ⟨h, _⟩ | ⟨k, _, h, _⟩
          · exact h
          · rw [h] at hf; exact absurd (by omega) hf
        have e2 := F2.out id ((Pol.find_neg z0 id).1 (by omega))
        rw [e1, e2]
        clear e1 e2 hf
        go_wp2_with fail
        go_ret
        exact ⟨rfl, B4.out⟩
      obtain ⟨k1, x1, e1, l1, g1, i1⟩ := Pol.find_is z0 id hf
      have hmem := List.mem_of_getElem? g1
      obtain ⟨q1, q2, q3⟩ := F1.out x1 hmem
      rw [i1] at q1
      obtain ⟨hl1, ex1⟩ := List.getElem?_eq_some_iff.1 g1
      obtain ⟨b1, o1, rfl, p0, p1⟩ := L4.out.at hl1
      rw [ex1] at p0 p1
      rw [e1]
      have HEX := Lib.hid ex1
      have HM := Lib.hid hmem
      have HI := Lib.hid i1
      have HQ := Lib.hid q1
      have HIT := Lib.hid F3
      clear e1 g1 ex1 hmem i1 q1 F1 F2 F3 hf hs
      have n1 : decide ((z0.length : Int) ≤ (k1 : Int)) = false := decide_eq_false (by omega)
      have n1' : decide (z0.length ≤ k1) = false := decide_eq_false (by omega)
      have n3 : decide ((k1 : Int) < 0) = false := decide_eq_false (by omega)
      have q4 : ((((L.filter fun p => p.2 == id).length : Nat) : Int) == 8 * x1.2) = true := by rw [HQ.out]; simp
      generalize (L.filter fun p => p.2 == id).length = CN at *
      by_cases hn0 : n < 0
      · have dn : decide (n < 0) = true := decide_eq_true hn0
        go_wp2_with fail
        go_ret
        exact ⟨rfl, B4.out⟩
      have dn : decide (n < 0) = false := decide_eq_false hn0
      by_cases hn1 : 8 * x1.2 ≤ n
      · have dn1 : decide (8 * x1.2 ≤ n) = true := decide_eq_true hn1
        go_wp2_with fail
        go_ret
        exact ⟨rfl, B4.out⟩
      have dn1 : decide (8 * x1.2 ≤ n) = false := decide_eq_false hn1
      obtain ⟨m, rfl⟩ : ∃ m : Nat, n = (m : Int) := ⟨n.toNat, by omega⟩
      have hin : (hashV id m, id) ∈ L := by
        have := HIT.out.out x1 HM.out m (by omega) ⟨q2, q3⟩
        rw [HI.out] at this
        exact this
      have CH := fun W => Hash_told id (m : Nat) W
      generalize hashV id (m : Nat) = hh at *
      have HIN := Lib.hid hin
      clear hin
      go_wp2_with fail
      go_loopw [12, 13] (fun t i W => ∃ (k : Nat) (c : Bool), k ≤ L.length ∧ i = .int .i64 k ∧ t = .bool c ∧ ((hh, id) ∈ L.take k ↔ c = true) ∧ Below w4.heap.size w4 W) (fun _ i _ => L.length - (intOf i).toNat)
      case atStart => exact ⟨0, false, Nat.zero_le _, rfl, rfl, by simp, Below.refl _ _⟩
      case round =>
        obtain ⟨k, c, hk, rfl, rfl, hc, hBW⟩ := hrel
        have BW := Lib.hid hBW
        have HCM := Lib.hid hc
        clear hBW hc
        by_cases hlt : k < L.length
        · have dlt : decide (k < L.length) = true := decide_eq_true hlt
          obtain ⟨b, off, rfl, y0, y1⟩ := (P4.out.kept BW.out).at hlt
          have HX := Lib.hid (show L.take (k + 1) = L.take k ++ [L[k]] from List.take_succ_eq_append_getElem hlt)
          generalize L[k] = x at *
          cases c with
          | true =>
            have HY := Lib.hid (show (hh, id) ∈ L.take (k + 1) by rw [HX.out]; exact List.mem_append_left _ (HCM.out.2 rfl))
            clear HX HCM
            go_wp2_with fail
            go_quiet (fail)
            have BW2 := Lib.hid (below_drewN BW.out nq)
            go_wp2_with fail
            go_roundw
            case rel => exact ⟨k + 1, true, by omega, by go_num, rfl, ⟨fun _ => rfl, fun _ => HY.out⟩, BW2.out⟩
            case measure => simp [intOf]; omega
          | false =>
            have hno : (hh, id) ∉ L.take k := fun h => by have := HCM.out.1 h; cases this
            obtain ⟨c', hc'⟩ : ∃ c' : Bool, x = (hh, id) ↔ c' = true := by
              by_cases h : x = (hh, id)
              · exact ⟨true, by simp [h]⟩
              · exact ⟨false, by simp [h]⟩
            have HY := Lib.hid (show (hh, id) ∈ L.take (k + 1) ↔ c' = true by
              rw [HX.out, ← hc', List.mem_append, List.mem_singleton]
              exact ⟨fun h => h.elim (fun h => absurd h hno) (fun h => h.symm), fun h => .inr h.symm⟩)
            have CC := pt_cmp x (hh, id) c' hc'
            dsimp only at CC
            clear HX HCM hno hc'
            go_wp2_with fail
            go_region_held3 (fun W => Below wr.heap.size wr W ∧ W.cell? ⟨b, off + k * 2, none⟩ = some (.int .u64 x.1) ∧ W.cell? ⟨b, off + k * 2 + 1, none⟩ = some (.int .i64 x.2) ∧ W.cell? ⟨b, off + k * 2, none⟩ = some (.int .u64 x.1) ∧ W.cell? ⟨b, off + k * 2 + 1, none⟩ = some (.int .i64 x.2)) (first | exact ⟨(Below.refl _ wr).drew, y0, y1, y0, y1⟩ | exact two_keep (by assumption) hb)
              (first | (go_at_call 14; (with_reducible refine (CH _).mono ?_); rintro e w5 ⟨rfl, hb⟩))
            rename_i hHeld
            have BW2 := Lib.hid (BW.out.trans (hHeld.1.mono BW.out.size))
            clear hHeld
            go_wp2_with fail
            go_roundw
            case rel => exact ⟨k + 1, c', by omega, by go_num, rfl, HY.out, BW2.out⟩
            case measure => simp [intOf]; omega
        · obtain rfl : k = L.length := by omega
          have e3 : c = true := HCM.out.1 (by rw [List.take_length]; exact HIN.out)
          subst e3
          obtain ⟨b1', o1', e', p0', p1'⟩ := (L4.out.kept BW.out).at hl1
          cases e'
          have ex1 : z0[k1] = x1 := HEX.out
          rw [ex1] at p0' p1'
          have B5 := Lib.hid (below2 B4.out BW.out)
          clear BW B4 HCM ex1
          go_wp2_with fail
          go_ret
          exact ⟨rfl, B5.out⟩

theorem own_PointsEach : ownKnob Try.prog.godebug = none := by kernel_rfl
set_option maxRecDepth 100000 in
set_option maxHeartbeats 800000 in
theorem lifted_PointsEach (os : Os) (started : os.Started) (H : Type) (enc : TypeId × Value → H) :
    ReturnsInHanded {} Try.checked os 6 .any (Rows.pointsEachSpec.pre6 enc Try.prog Try.f6 Rows.pointsEachRow.domain false) (Rows.pointsEachSpec.post enc Try.prog Try.f6 false true false false) := by
  refine returnsInHanded_of_change (C := Try.checked) own_PointsEach started (by kernel_rfl) Try.func6
    (ChangeSpec.witness6 (enc := enc) (C := Try.checked) false ⟨#[], #[.slice none 0 0, .int .i64 0, .int .i64 0], []⟩ 8 (by kernel_rfl) (by kernel_rfl) (by kernel_rfl) (by kernel_rfl)) ?_
  intro W base args ds gs before hval0 hW _ _
  have hval : ∀ (j : Nat) t v, Try.f6.params[j]? = some t → args[j]? = some v → Value.okWide Try.prog W .any base t v := hval0
  have hW' := hW
  obtain ⟨p, q, hA0, hV, rfl, _, _⟩ := hW
  have hA : DataW.TrodAll enc Try.prog W 0 (fun _ => true) true Try.f6.params.toList args.toList ds p := hA0
  rw [Try.params6] at hA hval
  obtain ⟨v0, vs0, d0, ds0, p0, q0, ha0, rfl, rfl, t0, r0⟩ := trodAll_cons hA
  obtain ⟨v1, vs1, d1, ds1, p1, q1, ha1, rfl, rfl, t1, r1⟩ := trodAll_cons r0
  obtain ⟨v2, vs2, d2, ds2, p2, q2, ha2, rfl, rfl, t2, r2⟩ := trodAll_cons r1
  obtain ⟨rfl, rfl, rfl⟩ := trodAll_nil r2
  subst ha2
  subst ha1
  obtain rfl : args = #[v0, v1, v2] := by cases args; simp_all
  obtain ⟨rfl, rfl⟩ := trodVars_none hV
  have k0 := t0
  have lt0 : ∀ x ∈ p0, x.block < W.heap.size := by obtain ⟨m, hm⟩ := k0; exact DataW.trod_lt m _ _ _ hm
  obtain ⟨a0, c0, z0, rfl, h0, g0⟩ := Stp.open_pool (hval 0 22 v0 rfl rfl) t0
  obtain ⟨a1, rfl, rfl, rfl, h1⟩ := open_int Try.underlying3 (hval 1 3 v1 rfl rfl) t1
  obtain ⟨a2, rfl, rfl, rfl, h2⟩ := open_int Try.underlying3 (hval 2 3 v2 rfl rfl) t2
  clear hA0 hval0
  refine (walk_PointsEach a0 c0 z0 a1 a2 W h0 g0 h1 h2).mono fun e W' ⟨he, hnx⟩ => ?_
  subst he
  exact ⟨_, rfl, ⟨_, _, _, [], _, [], hW', trodAll_cons_mk (shut_bool Try.underlying4 _) trodAll_mk0, (trodAll_cons_mk (Below.trod Stp.laidOut (by kernel_rfl) (of_decide_eq_true (by kernel_rfl)) k0 hnx lt0) (trodAll_cons_mk (shut_int Try.underlying3 h1) (trodAll_cons_mk (shut_int Try.underlying3 h2) trodAll_mk0))), rfl, hnx.frame _, fun h => by cases h⟩⟩

theorem pointsEach_holds : Rows.PointsEachSaid :=
  OpenClaim.holds_of_wide 6 Try.f6 rfl rfl rfl rfl rfl rfl rfl ⟨rfl, rfl, rfl, rfl, rfl⟩ rfl rfl rfl rfl rfl (by kernel_rfl) Try.func6 (by kernel_rfl)
    (of_decide_eq_true (by kernel_rfl)) (by unfold Func.isWrapper; first | (rw [if_pos (by decide +kernel)]; kernel_rfl) | (rw [if_neg (by decide +kernel)]; exact ⟨rfl, rfl⟩))
    (fun os started H enc _ => lifted_PointsEach os started H enc)

#print axioms pointsEach_holds
end Go.Proofs.Ytfjpdoamalbpjaa
