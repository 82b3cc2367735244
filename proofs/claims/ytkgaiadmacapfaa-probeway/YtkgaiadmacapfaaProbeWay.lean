/-
  ProbeWay: for every key, n and m the law ProbeWay answers true: a way goes on from its home, and around. No condition.
-/
import Derived.Test.YtkgaiadmacapfaaRows
import Derived.Test.YtkgaiadmacapfaaSte
import Derived.Test.YtkgaiadmacapfaaPrbW
import Derived.Test.YtkgaiadmacapfaaPrbF
import Derived.ProofKit
import Derived.OpenShut
import Derived.ChangeMaps5
namespace Go.Proofs.Ytkgaiadmacapfaa
open Go.ChangeShapes Go.WideShapes Go.ChangeAt Go.RowKit Go.Shelf
open Go.ChangeMaps (open_string shut_string)
open Prb RowG Tab

set_option maxRecDepth 100000 in
set_option maxHeartbeats 1000000 in
theorem walk_ProbeWay (a0 : ByteArray) (a1 : Int) (a2 : Int) (h0 : a0.size ≤ maxLen) (h1 : (Lit.int .i64 a1).wf = true) (_h2 : (Lit.int .i64 a2).wf = true) (w : World) :
    Calls Try.prog 7 #[.string a0, .int .i64 a1, .int .i64 a2] w fun e W' => e = .returned (.bool true) ∧ Below w.heap.size w W' := by
  unfold maxLen at h0
  have hr1 : -9223372036854775808 ≤ a1 ∧ a1 ≤ 9223372036854775807 := by simpa [Lit.wf, IntKind.min, IntKind.max, IntKind.signed, IntKind.bits] using h1
  go_enter Try.func7, Try.ntmps7
  go_wp2_with fail
  refine (works_any _).mono ?_
  rintro e w1 ⟨rfl, hb⟩
  have B1 := Lib.hid hb
  clear hb
  by_cases g0 : 60 < a0.size
  · have d0 : decide ((60 : Int) < (a0.size : Int)) = true := decide_eq_true (by omega)
    have d0n : decide (60 < a0.size) = true := decide_eq_true g0
    go_wp2_with fail
    go_ret
    exact ⟨rfl, B1.out⟩
  have d0 : decide ((60 : Int) < (a0.size : Int)) = false := decide_eq_false (by omega)
  have d0n : decide (60 < a0.size) = false := decide_eq_false g0
  by_cases g1 : a1 < 1
  · have d1 : decide (a1 < 1) = true := decide_eq_true g1
    go_wp2_with fail
    go_ret
    exact ⟨rfl, B1.out⟩
  have d1 : decide (a1 < 1) = false := decide_eq_false g1
  by_cases g2 : 64 < a1
  · have d2 : decide (64 < a1) = true := decide_eq_true g2
    go_wp2_with fail
    go_ret
    exact ⟨rfl, B1.out⟩
  have d2 : decide (64 < a1) = false := decide_eq_false g2
  by_cases g3 : a2 < 0
  · have d3 : decide (a2 < 0) = true := decide_eq_true g3
    go_wp2_with fail
    go_ret
    exact ⟨rfl, B1.out⟩
  have d3 : decide (a2 < 0) = false := decide_eq_false g3
  by_cases g4 : a1 ≤ a2
  · have d4 : decide (a1 ≤ a2) = true := decide_eq_true g4
    go_wp2_with fail
    go_ret
    exact ⟨rfl, B1.out⟩
  have d4 : decide (a1 ≤ a2) = false := decide_eq_false g4
  obtain ⟨n, rfl⟩ := Int.eq_ofNat_of_zero_le (show 0 ≤ a1 by omega)
  obtain ⟨m, rfl⟩ := Int.eq_ofNat_of_zero_le (show 0 ≤ a2 by omega)
  have hn0 : 0 < n := by omega
  have hmn : m < n := by omega
  have hn64 : n ≤ 64 := by omega
  have d1n : decide (n < 1) = false := decide_eq_false (by omega)
  have d2n : decide (64 < n) = false := decide_eq_false (by omega)
  have d4n : decide (n ≤ m) = false := decide_eq_false (by omega)
  clear hr1 g1 g2 g3 g4
  have hmk : ∀ W, (Instr.makeSlice 22 (.int .i64 (n : Int)) (.int .i64 (n : Int))).run Try.prog W = .ok (.slice (some ⟨W.heap.size, 0, none⟩) n n) (W.alloc (.cells (madeCells Ste.zeroC (n * 4)) 31)) := fun W => Ste.run_new n (by omega) W
  go_wp2_with fail
  have R0 := Ste.row_new w1 n (by unfold maxLen; omega)
  have b0 := (Below.refl _ w1).alloc (Nat.le_refl _) (.cells (madeCells Ste.zeroC (n * 4)) 31)
  generalize w1.alloc (.cells (madeCells Ste.zeroC (n * 4)) 31) = w2 at *
  have hne : a0 ++ ⟨#[63]⟩ ≠ a0 := fun e => by
    have := congrArg ByteArray.size e
    rw [ByteArray.size_append] at this
    exact absurd this (by show ¬ a0.size + 1 = a0.size; omega)
  have hh := home_lt a0 hn0
  have W0 : wayT n (home a0 n) (live (a0 ++ ⟨#[63]⟩) 0 0) 0 = List.replicate n ent0 := rfl
  have RR := Lib.hid (W0 ▸ R0)
  have BB := Lib.hid (below2 B1.out b0)
  have WR := Lib.hid (fun j (hj : j < n) => wayT_room (home := home) (b := 0) (d := 0) hj hne)
  have WF := Lib.hid (fun j (hj : j < n) => wayT_find (home := home) (b := 0) (d := 0) hj hne)
  have HV := Lib.hid (show ∀ j, rowV (some ⟨w1.heap.size, 0, none⟩) n (wayT n (home a0 n) (live (a0 ++ ⟨#[63]⟩) 0 0) j) = .slice (some ⟨w1.heap.size, 0, none⟩) n n from fun j => by rw [rowV, wayT_length])
  have BH := Lib.hid B1.out.size
  clear R0 b0 hne W0 B1 hmk
  refine (Home_told a0 (n : Int) _ (by omega) h1).mono ?_
  rintro e w3 ⟨rfl, hb⟩
  have RR := Lib.hid (RR.out.kept hb)
  have BB := Lib.hid (below2 BB.out hb)
  clear hb
  rw [homeZ_nat a0 hn0]
  have x1 : decide ((home a0 n : Int) < 0) = false := decide_eq_false (by omega)
  have x2 : decide ((n : Int) ≤ (home a0 n : Int)) = false := decide_eq_false (by omega)
  have x2n : decide (n ≤ home a0 n) = false := decide_eq_false (by omega)
  go_wp2_with fail
  rw [← HV.out 0]
  refine (Room_told _ n _ a0 _ RR.out.lies (by omega)).mono ?_
  rintro e w4 ⟨rfl, hb⟩
  have RR := Lib.hid (RR.out.kept hb)
  have BB := Lib.hid (below2 BB.out hb)
  clear hb
  rw [WR.out 0 hn0, show zOf (some ((home a0 n + 0) % n)) = (home a0 n : Int) by rw [Nat.add_zero, Nat.mod_eq_of_lt hh]; rfl]
  go_wp2_with fail
  refine (Find_told _ n _ a0 _ RR.out.lies (by omega)).mono ?_
  rintro e w5 ⟨rfl, hb⟩
  have RR := Lib.hid (RR.out.kept hb)
  have BB := Lib.hid (below2 BB.out hb)
  clear hb
  rw [WF.out 0 hn0, show zOf none = -1 from rfl, HV.out 0]
  go_wp2_with fail
  generalize hE : live (a0 ++ ⟨#[63]⟩) 0 0 = E at *
  have HE := Lib.hid hE
  clear hE
  go_loopw [10] (fun i W => ∃ j : Nat, j ≤ m ∧ i = .int .i64 j ∧ Row entK 31 W w1.heap.size n (wayT n (home a0 n) E j) ∧ Below w.heap.size w W) (fun i _ => m - (intOf i).toNat)
  case atStart => exact ⟨0, Nat.zero_le _, rfl, RR.out, BB.out⟩
  case round =>
    clear RR BB
    obtain ⟨j, hj, rfl, R, hB⟩ := hrel
    by_cases hlt : j < m
    · have dl : decide (j < m) = true := decide_eq_true hlt
      have hql : (home a0 n + j) % n < n := Nat.mod_lt _ hn0
      obtain ⟨e1, e2⟩ := mod_at (home a0 n) j n (by omega)
      have hq2 : (home a0 n + j) % n < (wayT n (home a0 n) E j).length := by rw [wayT_length]; exact hql
      obtain ⟨y0, y1, y2, y3⟩ := R.ent hq2
      have f0 := R.free ((home a0 n + j) % n * 4)
      have f1 := R.free ((home a0 n + j) % n * 4 + 1)
      have f2 := R.free ((home a0 n + j) % n * 4 + 2)
      have f3 := R.free ((home a0 n + j) % n * 4 + 3)
      have RR := Lib.hid (R.put4 hq2 E)
      have B5 := Lib.hid (below_put4 hB BH.out ((home a0 n + j) % n) E)
      have hnz : (n : Int) ≠ 0 := by omega
      have HS := Lib.hid (show wayT n (home a0 n) E (j + 1) = (wayT n (home a0 n) E j).set ((home a0 n + j) % n) E from rfl)
      clear R hB WR WF HV
      generalize hy : (wayT n (home a0 n) E j)[(home a0 n + j) % n] = y at *
      clear hy
      generalize (home a0 n + j) % n = q at *
      go_wp2_with fail
      obtain rfl := HE.out
      exact ⟨⟨j + 1, by omega, by go_num, by rw [HS.out]; exact RR.out, B5.out⟩, by simp [intOf]; omega⟩
    · have dl : decide (j < m) = false := decide_eq_false hlt
      obtain rfl : j = m := by omega
      have hql : (home a0 n + j) % n < n := Nat.mod_lt _ hn0
      obtain ⟨e1, e2⟩ := mod_at (home a0 n) j n (by omega)
      have hq2 : (home a0 n + j) % n < (wayT n (home a0 n) E j).length := by rw [wayT_length]; exact hql
      have hnz : (n : Int) ≠ 0 := by omega
      have RR := Lib.hid R
      have BB := Lib.hid hB
      have hrm := WR.out j hmn
      obtain ⟨t1, -, -⟩ := told_puts 0 0 hrm
      have T1 := Lib.hid t1
      have WR := Lib.hid hrm
      have HVj := Lib.hid (HV.out j)
      have HV2 := Lib.hid (show rowV (some ⟨w1.heap.size, 0, none⟩) n ((wayT n (home a0 n) E j).set ((home a0 n + j) % n) (live a0 0 0)) = .slice (some ⟨w1.heap.size, 0, none⟩) n n by rw [rowV, List.length_set, wayT_length])
      clear R hB hrm t1 WF HV
      generalize wayT n (home a0 n) E j = T at *
      generalize (home a0 n + j) % n = q at *
      go_wp2_with fail
      rw [← HVj.out]
      refine (Room_told _ n _ a0 _ RR.out.lies (by omega)).mono ?_
      rintro e w6 ⟨rfl, hb⟩
      have RR := Lib.hid (RR.out.kept hb)
      have BB := Lib.hid (below2 BB.out hb)
      clear hb
      rw [WR.out, show zOf (some q) = (q : Int) from rfl, HVj.out]
      obtain ⟨y0, y1, y2, y3⟩ := RR.out.ent hq2
      have f0 := RR.out.free (q * 4)
      have f1 := RR.out.free (q * 4 + 1)
      have f2 := RR.out.free (q * 4 + 2)
      have f3 := RR.out.free (q * 4 + 3)
      have R2 := Lib.hid (RR.out.put4 hq2 (live a0 0 0))
      have B2 := Lib.hid (below_put4 BB.out BH.out q (live a0 0 0))
      clear RR BB WR
      generalize hy : T[q] = y at *
      clear hy
      go_wp2_with fail
      change Calls _ _ _ (put4 w6 w1.heap.size q (live a0 0 0)) _
      clear y0 y1 y2 y3 f0 f1 f2 f3
      generalize put4 w6 w1.heap.size q (live a0 0 0) = w7 at *
      rw [← HV2.out]
      refine (Find_told _ n _ a0 _ R2.out.lies (by omega)).mono ?_
      rintro e w8 ⟨rfl, hb⟩
      have B2 := Lib.hid (below2 B2.out hb)
      clear hb
      rw [T1.out, show zOf (some q) = (q : Int) from rfl]
      go_wp2_with fail
      go_ret
      exact ⟨rfl, B2.out⟩

theorem own_ProbeWay : ownKnob Try.prog.godebug = none := by kernel_rfl
set_option maxRecDepth 100000 in
set_option maxHeartbeats 800000 in
theorem lifted_ProbeWay (os : Os) (started : os.Started) (H : Type) (enc : TypeId × Value → H) :
    ReturnsInHanded {} Try.checked os 7 .any (Rows.probeWaySpec.pre6 enc Try.prog Try.f7 Rows.probeWayRow.domain false) (Rows.probeWaySpec.post enc Try.prog Try.f7 false true false false) := by
  refine returnsInHanded_of_change (C := Try.checked) own_ProbeWay started (by kernel_rfl) Try.func7
    (ChangeSpec.witness6 (enc := enc) (C := Try.checked) false ⟨#[], #[.string ⟨#[]⟩, .int .i64 0, .int .i64 0], []⟩ 8 (by kernel_rfl) (by kernel_rfl) (by kernel_rfl) (by kernel_rfl)) ?_
  intro W base args ds gs before hval0 hW _ _
  have hval : ∀ (j : Nat) t v, Try.f7.params[j]? = some t → args[j]? = some v → Value.okWide Try.prog W .any base t v := hval0
  have hW' := hW
  obtain ⟨p, q, hA0, hV, rfl, _, _⟩ := hW
  have hA : DataW.TrodAll enc Try.prog W 0 (fun _ => true) true Try.f7.params.toList args.toList ds p := hA0
  rw [Try.params7] at hA hval
  obtain ⟨v0, vs0, d0, ds0, p0, q0, ha0, rfl, rfl, t0, r0⟩ := trodAll_cons hA
  obtain ⟨v1, vs1, d1, ds1, p1, q1, ha1, rfl, rfl, t1, r1⟩ := trodAll_cons r0
  obtain ⟨v2, vs2, d2, ds2, p2, q2, ha2, rfl, rfl, t2, r2⟩ := trodAll_cons r1
  obtain ⟨rfl, rfl, rfl⟩ := trodAll_nil r2
  subst ha2
  subst ha1
  obtain rfl : args = #[v0, v1, v2] := by cases args; simp_all
  obtain ⟨rfl, rfl⟩ := trodVars_none hV
  obtain ⟨a0, rfl, rfl, rfl, h0⟩ := open_string Try.underlying9 (hval 0 9 v0 rfl rfl) t0
  obtain ⟨a1, rfl, rfl, rfl, h1⟩ := open_int Try.underlying3 (hval 1 3 v1 rfl rfl) t1
  obtain ⟨a2, rfl, rfl, rfl, h2⟩ := open_int Try.underlying3 (hval 2 3 v2 rfl rfl) t2
  clear hA0 hval0
  simp only [List.append_nil] at hW'
  refine (walk_ProbeWay a0 a1 a2 h0 h1 h2 W).mono fun e W' ⟨he, hnx⟩ => ?_
  subst he
  exact ⟨_, rfl, ⟨_, _, _, [], [], [], hW', trodAll_cons_mk (shut_bool Try.underlying4 _) trodAll_mk0, (trodAll_cons_mk (shut_string Try.underlying9 h0) (trodAll_cons_mk (shut_int Try.underlying3 h1) (trodAll_cons_mk (shut_int Try.underlying3 h2) trodAll_mk0))), rfl, hnx.frame _, fun h => by cases h⟩⟩

theorem probeWay_holds : Rows.ProbeWaySaid :=
  OpenClaim.holds_of_wide 7 Try.f7 rfl rfl rfl rfl rfl rfl rfl ⟨rfl, rfl, rfl, rfl, rfl⟩ rfl rfl rfl rfl rfl (by kernel_rfl) Try.func7 (by kernel_rfl)
    (of_decide_eq_true (by kernel_rfl)) (by unfold Func.isWrapper; first | (rw [if_pos (by decide +kernel)]; kernel_rfl) | (rw [if_neg (by decide +kernel)]; exact ⟨rfl, rfl⟩))
    (fun os started H enc _ => lifted_ProbeWay os started H enc)

#print axioms probeWay_holds
end Go.Proofs.Ytkgaiadmacapfaa
