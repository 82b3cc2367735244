/-
  PointsWithout: for every p and id the law PointsWithout answers true: without a backend all other points stay. No condition.
-/
import Derived.Test.YtfjpdoamalbpjaaRows
import Derived.Test.YtfjpdoamalbpjaaStp
import Derived.Test.YtfjpdoamalbpjaaStq
import Derived.Test.YtfjpdoamalbpjaaPtsW
import Derived.Test.YtfjpdoamalbpjaaPolO
import Derived.BigQuiet
import Derived.WalkSmall
import Derived.ProofKit
import Derived.OpenShut
import Derived.ChangeMaps5
namespace Go.Proofs.Ytfjpdoamalbpjaa
open Go.ChangeShapes Go.WideShapes Go.ChangeAt Go.RowKit Go.Shelf
open Go.ChangeMaps (open_string shut_string)
open Pts Rgn
open Pol (below2 below_alloc Bk polV)

set_option maxRecDepth 100000 in
set_option maxHeartbeats 2000000 in
theorem walk_PointsWithout (a0 : Option Addr) (c0 : Nat) (z0 : List Bk) (id : Int) (w : World) (h0 : Pol.Lies w a0 c0 z0) (_g0 : ∀ x ∈ z0, Stp.BkOk x) (_h1 : (Lit.int .i64 id).wf = true) :
    Calls Try.prog 7 #[polV a0 c0 z0, .int .i64 id] w fun e W' => e = .returned (.bool true) ∧ Below w.heap.size w W' := by
  have H := Lib.hid h0
  have hC0 := h0.len
  have hM0 := h0.max
  unfold maxLen at hM0
  clear h0 _g0
  by_cases h8 : 8 < z0.length
  · have d0 : decide ((8 : Int) < (z0.length : Int)) = true := decide_eq_true (by omega)
    have d1 : decide (8 < z0.length) = true := decide_eq_true h8
    go_enter Try.func7, Try.ntmps7
    go_wp2_with fail
    refine (works_any _).mono ?_
    rintro e w1 ⟨rfl, hb⟩
    have B1 := Lib.hid hb
    clear hb
    go_wp2_with fail
    go_ret
    exact ⟨rfl, B1.out⟩
  have d0 : decide ((8 : Int) < (z0.length : Int)) = false := decide_eq_false (by omega)
  have d1 : decide (8 < z0.length) = false := decide_eq_false h8
  have hz : z0.length ≤ 8 := by omega
  have F := Lib.hid (ofL_without hsh z0 id)
  have hLl : (ofL hsh z0).length ≤ 1024 := by have := pts_short z0; unfold ofL; rw [psort_length]; omega
  have hWl := List.length_filter_le (fun x : Bk => x.1 != id) z0
  go_enter Try.func7, Try.ntmps7
  go_wp2_with fail
  refine (works_any _).mono ?_
  rintro e w1 ⟨rfl, hb⟩
  have L1 := Lib.hid (H.out.kept hb)
  have B1 := Lib.hid hb
  clear hb
  go_wp2_with fail
  refine (Of_told a0 c0 z0 w1 L1.out (by omega)).mono ?_
  rintro e w2 ⟨v, rfl, ⟨aP, cP, rfl, hP⟩, hb⟩
  generalize ofL hsh z0 = L at *
  have L2 := Lib.hid (L1.out.kept hb)
  have P2 := Lib.hid hP
  have B2 := Lib.hid (below2 B1.out hb)
  have hPl := hP.len
  have hPm := hP.max
  unfold maxLen at hPm
  clear hb hP L1 B1
  go_wp2_with fail
  go_loopw [7, 8] (fun v i W => ∃ k : Nat, k ≤ L.length ∧ i = .int .i64 k ∧ Pts.Own w2.heap.size W v ((L.take k).filter fun p => p.2 != id) ∧ Below w2.heap.size w2 W) (fun _ i _ => L.length - (intOf i).toNat)
  case atStart => exact ⟨0, Nat.zero_le _, rfl, by simpa using own_nil _ _, Below.refl _ _⟩
  case round =>
    obtain ⟨k, hk, rfl, hO, hBW⟩ := hrel
    have HO := Lib.hid hO
    have BW := Lib.hid hBW
    clear hO hBW
    by_cases hlt : k < L.length
    · have dlt : decide (k < L.length) = true := decide_eq_true hlt
      obtain ⟨b, off, rfl, x0, x1⟩ := (P2.out.kept BW.out).at hlt
      have hfl : ((L.take k).filter fun p => p.2 != id).length ≤ 1024 := by
        have h1 := List.length_filter_le (fun p : Pt => p.2 != id) (L.take k)
        have h2 : (L.take k).length ≤ L.length := by simp; omega
        omega
      have HX := Lib.hid (show (L.take (k + 1)).filter (fun p => p.2 != id) = ((L.take k).filter fun p => p.2 != id) ++ ([L[k]].filter fun p => p.2 != id) by rw [List.take_succ_eq_append_getElem hlt, List.filter_append])
      generalize L[k] = x at *
      generalize ((L.take k).filter fun p => p.2 != id) = out at *
      by_cases hx : x.2 = id
      · have dx : (x.2 != id) = false := by rw [hx]; simp
        have HY := Lib.hid (show (L.take (k + 1)).filter (fun p => p.2 != id) = out by rw [HX.out]; simp [hx])
        clear hx HX
        have HO2 := HO
        have BW2 := BW
        clear HO BW

        go_wp2_with fail
        go_roundw
        case rel => exact ⟨k + 1, by omega, by go_num, by rw [HY.out]; exact HO2.out, BW2.out⟩
        case measure => simp [intOf]; omega
      · have dx : (x.2 != id) = true := bne_iff_ne.2 hx
        have HY := Lib.hid (show (L.take (k + 1)).filter (fun p => p.2 != id) = out ++ [x] by rw [HX.out]; simp [hx])
        clear hx HX
        have HO2 := HO
        have BW2 := BW
        clear HO BW

        generalize wr = w3 at *
        go_wp2_with (at_builtin; refine wpList_more rfl _ _ rfl w2.heap.size w3.heap.size out x _ rfl rfl (HO2.out.kept (below_alloc w3 _)) ?c0 ?c1 ?c2 ?c3 ?_)
        case c0 => simp
        case c1 => simp
        case c2 => omega
        case c3 => have := BW2.out.size; simp; omega
        intro v' w4 ho4 hb4
        have HO4 := Lib.hid ho4.out
        have HB4 := Lib.hid ((BW2.out.alloc BW2.out.size _).trans hb4.out)
        clear hb4 ho4
        go_wp2_with fail
        go_roundw
        case rel => exact ⟨k + 1, by omega, by go_num, by rw [HY.out]; exact HO4.out, HB4.out⟩
        case measure => simp [intOf]; omega
    · obtain rfl : k = L.length := by omega
      have hO3 := HO.out
      rw [List.take_length, ← F.out] at hO3
      obtain ⟨aQ, cQ, rfl, hQ⟩ := hO3.lies
      have Q3 := Lib.hid hQ
      have L3 := Lib.hid (L2.out.kept BW.out)
      have B3 := Lib.hid (below2 B2.out BW.out)
      clear hO3 hQ HO BW L2 B2 P2
      go_wp2_with fail
      refine (Pol.Without_told a0 c0 z0 id wr L3.out (by omega)).mono ?_
      rintro e w4 ⟨v, rfl, ⟨aW, cW, rfl, hW⟩, hb⟩
      have Q4 := Lib.hid (Q3.out.kept hb)
      have W4 := Lib.hid hW
      have B4 := Lib.hid (below2 B3.out hb)
      clear hb hW Q3 L3 B3
      go_wp2_with fail
      refine (Of_told aW cW (Pol.without z0 id) w4 W4.out (by unfold Pol.without; omega)).mono ?_
      rintro e w5 ⟨v, rfl, ⟨aR, cR, rfl, hR⟩, hb⟩
      have Q5 := Lib.hid (Q4.out.kept hb)
      have R5 := Lib.hid hR
      have B5 := Lib.hid (below2 B4.out hb)
      clear hb hR Q4 W4 B4
      go_wp2_with fail
      refine (Same_told aR cR _ aQ cQ _ true (by simp) w5 R5.out Q5.out).mono ?_
      rintro e w6 ⟨rfl, hb⟩
      have B6 := Lib.hid (below2 B5.out hb)
      clear hb Q5 R5 B5
      go_wp2_with fail
      go_ret
      exact ⟨rfl, B6.out⟩

theorem own_PointsWithout : ownKnob Try.prog.godebug = none := by kernel_rfl
set_option maxRecDepth 100000 in
set_option maxHeartbeats 800000 in
theorem lifted_PointsWithout (os : Os) (started : os.Started) (H : Type) (enc : TypeId × Value → H) :
    ReturnsInHanded {} Try.checked os 7 .any (Rows.pointsWithoutSpec.pre6 enc Try.prog Try.f7 Rows.pointsWithoutRow.domain false) (Rows.pointsWithoutSpec.post enc Try.prog Try.f7 false true false false) := by
  refine returnsInHanded_of_change (C := Try.checked) own_PointsWithout started (by kernel_rfl) Try.func7
    (ChangeSpec.witness6 (enc := enc) (C := Try.checked) false ⟨#[], #[.slice none 0 0, .int .i64 0], []⟩ 8 (by kernel_rfl) (by kernel_rfl) (by kernel_rfl) (by kernel_rfl)) ?_
  intro W base args ds gs before hval0 hW _ _
  have hval : ∀ (j : Nat) t v, Try.f7.params[j]? = some t → args[j]? = some v → Value.okWide Try.prog W .any base t v := hval0
  have hW' := hW
  obtain ⟨p, q, hA0, hV, rfl, _, _⟩ := hW
  have hA : DataW.TrodAll enc Try.prog W 0 (fun _ => true) true Try.f7.params.toList args.toList ds p := hA0
  rw [Try.params7] at hA hval
  obtain ⟨v0, vs0, d0, ds0, p0, q0, ha0, rfl, rfl, t0, r0⟩ := trodAll_cons hA
  obtain ⟨v1, vs1, d1, ds1, p1, q1, ha1, rfl, rfl, t1, r1⟩ := trodAll_cons r0
  obtain ⟨rfl, rfl, rfl⟩ := trodAll_nil r1
  subst ha1
  obtain rfl : args = #[v0, v1] := by cases args; simp_all
  obtain ⟨rfl, rfl⟩ := trodVars_none hV
  have k0 := t0
  have lt0 : ∀ x ∈ p0, x.block < W.heap.size := by obtain ⟨m, hm⟩ := k0; exact DataW.trod_lt m _ _ _ hm
  obtain ⟨a0, c0, z0, rfl, h0, g0⟩ := Stp.open_pool (hval 0 22 v0 rfl rfl) t0
  obtain ⟨a1, rfl, rfl, rfl, h1⟩ := open_int Try.underlying3 (hval 1 3 v1 rfl rfl) t1
  clear hA0 hval0
  refine (walk_PointsWithout a0 c0 z0 a1 W h0 g0 h1).mono fun e W' ⟨he, hnx⟩ => ?_
  subst he
  exact ⟨_, rfl, ⟨_, _, _, [], _, [], hW', trodAll_cons_mk (shut_bool Try.underlying4 _) trodAll_mk0, (trodAll_cons_mk (Below.trod Stp.laidOut (by kernel_rfl) (of_decide_eq_true (by kernel_rfl)) k0 hnx lt0) (trodAll_cons_mk (shut_int Try.underlying3 h1) trodAll_mk0)), rfl, hnx.frame _, fun h => by cases h⟩⟩

theorem pointsWithout_holds : Rows.PointsWithoutSaid :=
  OpenClaim.holds_of_wide 7 Try.f7 rfl rfl rfl rfl rfl rfl rfl ⟨rfl, rfl, rfl, rfl, rfl⟩ rfl rfl rfl rfl rfl (by kernel_rfl) Try.func7 (by kernel_rfl)
    (of_decide_eq_true (by kernel_rfl)) (by unfold Func.isWrapper; first | (rw [if_pos (by decide +kernel)]; kernel_rfl) | (rw [if_neg (by decide +kernel)]; exact ⟨rfl, rfl⟩))
    (fun os started H enc _ => lifted_PointsWithout os started H enc)

#print axioms pointsWithout_holds
end Go.Proofs.Ytfjpdoamalbpjaa
