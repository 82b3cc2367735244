/-
  RingPicks: for every p, q, h and hs the law RingPicks answers true: where a hash goes to, of a pool, and which hashes go elsewhere, is just what the document says. No condition.
-/
import Derived.Test.YtppbbhijlkfioaaRows
import Derived.Test.YtppbbhijlkfioaaBPol
import Derived.Test.YtppbbhijlkfioaaBPtr
import Derived.Test.YtppbbhijlkfioaaRinW
import Derived.Test.YtppbbhijlkfioaaPtsU
import Derived.BigQuiet
import Derived.WalkSmall
import Derived.ProofKit
import Derived.OpenShut
import Derived.ChangeMaps5
namespace Go.Proofs.Ytppbbhijlkfioaa
open Go.ChangeShapes Go.WideShapes Go.ChangeAt Go.RowKit Go.Shelf
open Go.ChangeMaps (open_string shut_string)
open Rin Rgn
open Pts (Pt ptV ptsV Lies Rise ofL hsh ofL_rise Of_told Check_yes Check_no)
open Pol (below2 below_alloc Bk polV intsV chk)
open Num (LiesN numsV)

set_option maxRecDepth 100000 in
set_option maxHeartbeats 1000000 in
theorem walk_RingPicks (a0 : Option Addr) (c0 : Nat) (z0 : List Bk) (a1 : Option Addr) (c1 : Nat) (z1 : List Bk) (h : Int) (a3 : Option Addr) (c3 : Nat) (z3 : List Int) (w : World) (h0 : Pol.Lies w a0 c0 z0) (_g0 : ∀ x ∈ z0, Stp.BkOk x) (h1 : Pol.Lies w a1 c1 z1) (_g1 : ∀ x ∈ z1, Stp.BkOk x) (_h2 : (Lit.int .u64 h).wf = true) (h3 : LiesN .u64 w a3 c3 z3) (_g3 : ∀ n ∈ z3, (Lit.int .u64 n).wf = true) :
    Calls Try.prog 4 #[polV a0 c0 z0, polV a1 c1 z1, .int .u64 h, numsV a3 c3 z3] w fun e W' => e = .returned (.bool true) ∧ Below w.heap.size w W' := by
  have H0 := Lib.hid h0
  have hC0 := h0.len
  have hM0 := h0.max
  unfold maxLen at hM0
  clear h0
  have H1 := Lib.hid h1
  have hC1 := h1.len
  have hM1 := h1.max
  unfold maxLen at hM1
  clear h1
  have H3 := Lib.hid h3
  have hC3 := h3.len
  have hM3 := h3.max
  unfold maxLen at hM3
  clear h3
  by_cases g0 : 8 < z0.length
  · have d0 : decide ((8 : Int) < (z0.length : Int)) = true := decide_eq_true (by omega)
    have d0n : decide (8 < z0.length) = true := decide_eq_true g0
    go_enter Try.func4, Try.ntmps4
    go_wp2_with fail
    refine (works_any _).mono ?_
    rintro e w1 ⟨rfl, hb⟩
    have B1 := Lib.hid hb
    clear hb
    go_wp2_with fail
    go_ret
    exact ⟨rfl, B1.out⟩
  have d0 : decide ((8 : Int) < (z0.length : Int)) = false := decide_eq_false (by omega)
  have d0n : decide (8 < z0.length) = false := decide_eq_false g0
  have l0 : z0.length ≤ 8 := by omega
  by_cases g1 : 8 < z1.length
  · have d1 : decide ((8 : Int) < (z1.length : Int)) = true := decide_eq_true (by omega)
    have d1n : decide (8 < z1.length) = true := decide_eq_true g1
    go_enter Try.func4, Try.ntmps4
    go_wp2_with fail
    refine (works_any _).mono ?_
    rintro e w1 ⟨rfl, hb⟩
    have B1 := Lib.hid hb
    clear hb
    go_wp2_with fail
    go_ret
    exact ⟨rfl, B1.out⟩
  have d1 : decide ((8 : Int) < (z1.length : Int)) = false := decide_eq_false (by omega)
  have d1n : decide (8 < z1.length) = false := decide_eq_false g1
  have l1 : z1.length ≤ 8 := by omega
  by_cases g3 : 20 < z3.length
  · have d3 : decide ((20 : Int) < (z3.length : Int)) = true := decide_eq_true (by omega)
    have d3n : decide (20 < z3.length) = true := decide_eq_true g3
    go_enter Try.func4, Try.ntmps4
    go_wp2_with fail
    refine (works_any _).mono ?_
    rintro e w1 ⟨rfl, hb⟩
    have B1 := Lib.hid hb
    clear hb
    go_wp2_with fail
    go_ret
    exact ⟨rfl, B1.out⟩
  have d3 : decide ((20 : Int) < (z3.length : Int)) = false := decide_eq_false (by omega)
  have d3n : decide (20 < z3.length) = false := decide_eq_false g3
  have l3 : z3.length ≤ 20 := by omega
  go_enter Try.func4, Try.ntmps4
  go_wp2_with fail
  refine (works_any _).mono ?_
  rintro e w1 ⟨rfl, hb⟩
  have L1 := Lib.hid (H0.out.kept hb)
  have M1 := Lib.hid (H1.out.kept hb)
  have N1 := Lib.hid (H3.out.kept hb)
  have B1 := Lib.hid hb
  clear hb
  go_wp2_with fail
  refine (Moved_told a0 c0 z0 a1 c1 z1 a3 c3 z3 w1 L1.out (by omega) M1.out (by omega) N1.out (by omega)).mono ?_
  rintro e w2 ⟨v, rfl, ho, hb⟩
  obtain ⟨aI, cI, rfl, hI⟩ := ho.lies
  have L2 := Lib.hid (L1.out.kept hb)
  have M2 := Lib.hid (M1.out.kept hb)
  have N2 := Lib.hid (N1.out.kept hb)
  have I2 := Lib.hid hI
  have B2 := Lib.hid (below2 B1.out hb)
  clear hb ho hI L1 M1 N1 B1
  go_wp2_with fail
  refine (refMoved_any a0 c0 z0 a1 c1 z1 a3 c3 z3 w2 L2.out (by omega) M2.out (by omega) N2.out (by omega)).mono ?_
  rintro e w3 ⟨v, rfl, ho, hb⟩
  obtain ⟨aK, cK, rfl, hK⟩ := ho.lies
  have L3 := Lib.hid (L2.out.kept hb)
  have I3 := Lib.hid (I2.out.kept hb)
  have K3 := Lib.hid hK
  have B3 := Lib.hid (below2 B2.out hb)
  clear hb ho hK L2 M2 N2 I2 B2
  go_wp2_with fail
  refine (Pol.refInts_any aI cI _ aK cK _ true (by simp) w3 I3.out K3.out).mono ?_
  rintro e w4 ⟨rfl, hb⟩
  have L4 := Lib.hid (L3.out.kept hb)
  have B4 := Lib.hid (below2 B3.out hb)
  clear hb I3 K3 L3 B3
  go_wp2_with fail
  refine (Pick_told a0 c0 z0 h w4 L4.out (by omega)).mono ?_
  rintro e w5 ⟨rfl, hb⟩
  have L5 := Lib.hid (L4.out.kept hb)
  have B5 := Lib.hid (below2 B4.out hb)
  clear hb L4 B4
  go_wp2_with fail
  refine (refPick_any a0 c0 z0 h w5 L5.out (by omega)).mono ?_
  rintro e w6 ⟨rfl, hb⟩
  have B6 := Lib.hid (below2 B5.out hb)
  clear hb L5 B5
  go_wp2_with fail
  go_ret
  exact ⟨rfl, B6.out⟩

theorem own_RingPicks : ownKnob Try.prog.godebug = none := by kernel_rfl
set_option maxRecDepth 100000 in
set_option maxHeartbeats 800000 in
theorem lifted_RingPicks (os : Os) (started : os.Started) (H : Type) (enc : TypeId × Value → H) :
    ReturnsInHanded {} Try.checked os 4 .any (Rows.ringPicksSpec.pre6 enc Try.prog Try.f4 Rows.ringPicksRow.domain false) (Rows.ringPicksSpec.post enc Try.prog Try.f4 false true false false) := by
  refine returnsInHanded_of_change (C := Try.checked) own_RingPicks started (by kernel_rfl) Try.func4
    (ChangeSpec.witness6 (enc := enc) (C := Try.checked) false ⟨#[], #[.slice none 0 0, .slice none 0 0, .int .u64 0, .slice none 0 0], []⟩ 8 (by kernel_rfl) (by kernel_rfl) (by kernel_rfl) (by kernel_rfl)) ?_
  intro W base args ds gs before hval0 hW _ _
  have hval : ∀ (j : Nat) t v, Try.f4.params[j]? = some t → args[j]? = some v → Value.okWide Try.prog W .any base t v := hval0
  have hW' := hW
  obtain ⟨p, q, hA0, hV, rfl, _, _⟩ := hW
  have hA : DataW.TrodAll enc Try.prog W 0 (fun _ => true) true Try.f4.params.toList args.toList ds p := hA0
  rw [Try.params4] at hA hval
  obtain ⟨v0, vs0, d0, ds0, p0, q0, ha0, rfl, rfl, t0, r0⟩ := trodAll_cons hA
  obtain ⟨v1, vs1, d1, ds1, p1, q1, ha1, rfl, rfl, t1, r1⟩ := trodAll_cons r0
  obtain ⟨v2, vs2, d2, ds2, p2, q2, ha2, rfl, rfl, t2, r2⟩ := trodAll_cons r1
  obtain ⟨v3, vs3, d3, ds3, p3, q3, ha3, rfl, rfl, t3, r3⟩ := trodAll_cons r2
  obtain ⟨rfl, rfl, rfl⟩ := trodAll_nil r3
  subst ha3
  subst ha2
  subst ha1
  obtain rfl : args = #[v0, v1, v2, v3] := by cases args; simp_all
  obtain ⟨rfl, rfl⟩ := trodVars_none hV
  have k0 := t0
  have lt0 : ∀ x ∈ p0, x.block < W.heap.size := by obtain ⟨m, hm⟩ := k0; exact DataW.trod_lt m _ _ _ hm
  obtain ⟨a0, c0, z0, rfl, h0, g0⟩ := Stp.open_pool (hval 0 30 v0 rfl rfl) t0
  have k1 := t1
  have lt1 : ∀ x ∈ p1, x.block < W.heap.size := by obtain ⟨m, hm⟩ := k1; exact DataW.trod_lt m _ _ _ hm
  obtain ⟨a1, c1, z1, rfl, h1, g1⟩ := Stp.open_pool (hval 1 30 v1 rfl rfl) t1
  obtain ⟨a2, rfl, rfl, rfl, h2⟩ := open_int Try.underlying23 (hval 2 23 v2 rfl rfl) t2
  have k3 := t3
  have lt3 : ∀ x ∈ p3, x.block < W.heap.size := by obtain ⟨m, hm⟩ := k3; exact DataW.trod_lt m _ _ _ hm
  obtain ⟨a3, c3, z3, rfl, h3, g3⟩ := Num.open_nums Try.underlying31 Try.underlying23 (by kernel_rfl) (hval 3 31 v3 rfl rfl) t3
  clear hA0 hval0
  refine (walk_RingPicks a0 c0 z0 a1 c1 z1 a2 a3 c3 z3 W h0 g0 h1 g1 h2 h3 g3).mono fun e W' ⟨he, hnx⟩ => ?_
  subst he
  exact ⟨_, rfl, ⟨_, _, _, [], _, [], hW', trodAll_cons_mk (shut_bool Try.underlying4 _) trodAll_mk0, (trodAll_cons_mk (Below.trod Stp.laidOut (by kernel_rfl) (of_decide_eq_true (by kernel_rfl)) k0 hnx lt0) (trodAll_cons_mk (Below.trod Stp.laidOut (by kernel_rfl) (of_decide_eq_true (by kernel_rfl)) k1 hnx lt1) (trodAll_cons_mk (shut_int Try.underlying23 h2) (trodAll_cons_mk (Below.trod Num.laidOut (by kernel_rfl) (of_decide_eq_true (by kernel_rfl)) k3 hnx lt3) trodAll_mk0)))), rfl, hnx.frame _, fun h => by cases h⟩⟩

theorem ringPicks_holds : Rows.RingPicksSaid :=
  OpenClaim.holds_of_wide 4 Try.f4 rfl rfl rfl rfl rfl rfl rfl ⟨rfl, rfl, rfl, rfl, rfl⟩ rfl rfl rfl rfl rfl (by kernel_rfl) Try.func4 (by kernel_rfl)
    (of_decide_eq_true (by kernel_rfl)) (by unfold Func.isWrapper; first | (rw [if_pos (by decide +kernel)]; kernel_rfl) | (rw [if_neg (by decide +kernel)]; exact ⟨rfl, rfl⟩))
    (fun os started H enc _ => lifted_RingPicks os started H enc)

#print axioms ringPicks_holds
end Go.Proofs.Ytppbbhijlkfioaa
