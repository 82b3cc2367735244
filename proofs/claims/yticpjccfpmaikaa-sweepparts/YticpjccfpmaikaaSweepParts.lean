/-
  SweepParts: for every t, from, n, m and now the law SweepParts answers true: in two steps it comes to the same as in one, unless the table is tidied. No condition.
-/
import Derived.Test.YticpjccfpmaikaaRows
import Derived.Test.YticpjccfpmaikaaBTab
import Derived.Test.YticpjccfpmaikaaSwpW
import Derived.Test.YticpjccfpmaikaaSwpP
import Derived.ProofKit
import Derived.OpenShut
import Derived.ChangeMaps5
import Derived.BigQuiet
import Derived.WalkSmall
namespace Go.Proofs.Yticpjccfpmaikaa
open Go.ChangeShapes Go.WideShapes Go.ChangeAt Go.RowKit Go.Shelf
open Go.ChangeMaps (open_string shut_string)
open Prb RowG Tab Flo Swp

set_option maxRecDepth 100000 in
set_option maxHeartbeats 2000000 in
theorem walk_SweepParts (a0 : Option Addr) (c0 : Nat) (z0 : List Ent) (a1 : Int) (a2 : Int) (a3 : Int) (a4 : Int) (w : World) (h0 : Lies entK w a0 c0 z0) (g0 : ∀ x ∈ z0, EntOk x) (_h1 : (Lit.int .i64 a1).wf = true) (_h2 : (Lit.int .i64 a2).wf = true) (_h3 : (Lit.int .i64 a3).wf = true) (_h4 : (Lit.int .i64 a4).wf = true) :
    Calls Try.prog 7 #[rowV a0 c0 z0, .int .i64 a1, .int .i64 a2, .int .i64 a3, .int .i64 a4] w fun e W' => e = .returned (.bool true) ∧ Below w.heap.size w W' := by
  have H0 := Lib.hid h0
  have hC0 := h0.len
  have hM0 := h0.max
  unfold maxLen at hM0 
  clear h0
  go_enter Try.func7, Try.ntmps7
  go_wp2_with fail
  refine (works_any _).mono ?_
  rintro e w1 ⟨rfl, hb⟩
  have B1 := Lib.hid hb
  have L0 := Lib.hid (H0.out.kept hb)
  clear hb H0
  go_wp2_with fail
  refine (few_any a0 c0 z0 _ L0.out g0).mono ?_
  rintro e w2 ⟨rfl, rfl⟩
  by_cases f0 : ¬ few64 z0
  · rw [decide_eq_false f0]
    go_wp2_with fail
    go_ret
    exact ⟨rfl, B1.out⟩
  replace f0 := Decidable.not_not.1 f0
  rw [decide_eq_true f0]
  have hl0 := f0.2
  have S0 := Lib.hid (show Short 60 z0 from f0.1.2)
  clear f0 g0
  by_cases n0 : a2 < 0
  · have d0 : decide (a2 < 0) = true := decide_eq_true n0
    go_wp2_with fail
    go_ret
    exact ⟨rfl, B1.out⟩
  obtain ⟨N, rfl⟩ := Int.eq_ofNat_of_zero_le (show 0 ≤ a2 by omega)
  have dn0 : decide ((N : Int) < 0) = false := decide_eq_false n0
  by_cases m0 : a3 < 0
  · have d0 : decide (a3 < 0) = true := decide_eq_true m0
    go_wp2_with fail
    go_ret
    exact ⟨rfl, B1.out⟩
  obtain ⟨M, rfl⟩ := Int.eq_ofNat_of_zero_le (show 0 ≤ a3 by omega)
  have dm0 : decide ((M : Int) < 0) = false := decide_eq_false m0
  by_cases n1 : 64 < N
  · have d0 : decide ((64 : Int) < (N : Int)) = true := decide_eq_true (by omega)
    have d1 : decide (64 < N) = true := decide_eq_true n1
    go_wp2_with fail
    go_ret
    exact ⟨rfl, B1.out⟩
  have dn1a : decide ((64 : Int) < (N : Int)) = false := decide_eq_false (by omega)
  have dn1b : decide (64 < N) = false := decide_eq_false n1
  by_cases m1 : 64 < M
  · have d0 : decide ((64 : Int) < (M : Int)) = true := decide_eq_true (by omega)
    have d1 : decide (64 < M) = true := decide_eq_true m1
    go_wp2_with fail
    go_ret
    exact ⟨rfl, B1.out⟩
  have dm1a : decide ((64 : Int) < (M : Int)) = false := decide_eq_false (by omega)
  have dm1b : decide (64 < M) = false := decide_eq_false m1
  by_cases s1 : z0.length < N + M
  · have d0 : decide ((z0.length : Int) < (N : Int) + (M : Int)) = true := decide_eq_true (by omega)
    have d1 : decide (z0.length < N + M) = true := decide_eq_true s1
    go_wp2_with fail
    go_ret
    exact ⟨rfl, B1.out⟩
  have ds0 : decide ((z0.length : Int) < (N : Int) + (M : Int)) = false := decide_eq_false (by omega)
  have ds1 : decide (z0.length < N + M) = false := decide_eq_false s1
  go_wp2_with fail
  clear dn0 dm0 dn1a dn1b dm1a dm1b ds0 ds1
  refine (Step_told a0 c0 z0 a1 (N : Int) a4 _ L0.out (S0.out.wide (by omega)) (by omega)).mono ?_
  rintro e w2 ⟨v, rfl, ⟨aA, cA, rfl, hl⟩, hb⟩
  have L0 := Lib.hid (L0.out.kept hb)
  have LA := Lib.hid hl
  have B1 := Lib.hid (below2 B1.out hb)
  clear hb hl
  rw [span_nat (show N ≤ z0.length by omega)] at LA ⊢
  have SA := Lib.hid (step_short (now := a4) S0.out (places z0.length (norm z0.length a1) N))
  have hAl := step_len (now := a4) hl0 (places z0.length (norm z0.length a1) N)
  have hkl := due_le (now := a4) (T := z0) z0.length (norm z0.length a1) N
  generalize hi : nextP z0.length (norm z0.length a1) N = i at *
  have Hi := Lib.hid hi
  clear hi
  generalize hk : dueN a4 (places z0.length (norm z0.length a1) N) z0 = k at *
  have Hk := Lib.hid hk
  clear hk
  generalize hA : stepC a4 (places z0.length (norm z0.length a1) N) z0 = A at *
  have HA := Lib.hid hA
  clear hA
  go_wp2_with fail
  refine (Step_told aA cA A (i : Int) (M : Int) a4 _ LA.out (SA.out.wide (by omega)) (by omega)).mono ?_
  rintro e w3 ⟨v, rfl, ⟨aB, cB, rfl, hl⟩, hb⟩
  have L0 := Lib.hid (L0.out.kept hb)
  have LA := Lib.hid (LA.out.kept hb)
  have LB := Lib.hid hl
  have B1 := Lib.hid (below2 B1.out hb)
  clear hb hl
  rw [span_nat (show M ≤ A.length by omega)] at LB ⊢
  have hll := due_le (now := a4) (T := A) A.length (norm A.length (i : Int)) M
  generalize hj : nextP A.length (norm A.length (i : Int)) M = j at *
  have Hj := Lib.hid hj
  clear hj
  generalize hl : dueN a4 (places A.length (norm A.length (i : Int)) M) A = l at *
  have Hl := Lib.hid hl
  clear hl
  generalize hB : stepC a4 (places A.length (norm A.length (i : Int)) M) A = B at *
  have HB := Lib.hid hB
  clear hB
  go_wp2_with fail
  refine (Step_told a0 c0 z0 a1 ((N : Int) + (M : Int)) a4 _ L0.out (S0.out.wide (by omega)) (by omega)).mono ?_
  rintro e w4 ⟨v, rfl, ⟨aC, cC, rfl, hl⟩, hb⟩
  have L0 := Lib.hid (L0.out.kept hb)
  have LA := Lib.hid (LA.out.kept hb)
  have LB := Lib.hid (LB.out.kept hb)
  have LC := Lib.hid hl
  have B1 := Lib.hid (below2 B1.out hb)
  clear hb hl
  rw [show span ((N : Int) + (M : Int)) z0.length = N + M from span_nat (show N + M ≤ z0.length by omega)] at LC ⊢
  have hpl := due_le (now := a4) (T := z0) z0.length (norm z0.length a1) (N + M)
  generalize ho : nextP z0.length (norm z0.length a1) (N + M) = o at *
  have Ho := Lib.hid ho
  clear ho
  generalize hp : dueN a4 (places z0.length (norm z0.length a1) (N + M)) z0 = p at *
  have Hp := Lib.hid hp
  clear hp
  generalize hC : stepC a4 (places z0.length (norm z0.length a1) (N + M)) z0 = C at *
  have HC := Lib.hid hC
  clear hC
  obtain ⟨q1, q2, q3, q4, q5⟩ := parts (now := a4) hl0 a1 (show N + M ≤ z0.length by omega) Hi.out.symm HA.out.symm HB.out.symm HC.out.symm
  rw [Hj.out, Ho.out] at q4
  rw [Hk.out, Hl.out, Hp.out] at q5
  have Q5 := Lib.hid q5
  subst q4
  clear q1 q2 q3 q5 Hi HA HB HC Hj Ho Hk Hl Hp
  go_wp2_with fail
  refine (Count_told a0 c0 z0 2 _ L0.out).mono ?_
  rintro e w5 ⟨rfl, hb⟩
  have L0 := Lib.hid (L0.out.kept hb)
  have LA := Lib.hid (LA.out.kept hb)
  have LB := Lib.hid (LB.out.kept hb)
  have LC := Lib.hid (LC.out.kept hb)
  have B1 := Lib.hid (below2 B1.out hb)
  clear hb
  have hc2 := count_le 2 z0
  generalize count 2 z0 = c at *
  by_cases ht : z0.length < 2 * c + 2 * p
  · have d0 : decide ((z0.length : Int) < 2 * (c : Int) + 2 * (p : Int)) = true := decide_eq_true (by omega)
    have d1 : decide (z0.length < 2 * c + 2 * p) = true := decide_eq_true ht
    go_wp2_with fail
    go_ret
    exact ⟨rfl, B1.out⟩
  · have d0 : decide ((z0.length : Int) < 2 * (c : Int) + 2 * (p : Int)) = false := decide_eq_false (by omega)
    have d1 : decide (z0.length < 2 * c + 2 * p) = false := decide_eq_false ht
    obtain ⟨e1, e2⟩ := Q5.out (by omega)
    have EB := Lib.hid e2
    have ek : ((k : Int) + (l : Int) == (p : Int)) = true := beq_iff_eq.2 (by omega)
    have ek2 : (k + l == p) = true := beq_iff_eq.2 e1
    have E1 := Lib.hid e1
    clear e1 e2 Q5
    go_wp2_with fail
    refine (Same_told aB cB B aC cC C true (by simp [EB.out]) _ LB.out LC.out).mono ?_
    rintro e w6 ⟨rfl, hb⟩
    have L0 := Lib.hid (L0.out.kept hb)
    have LA := Lib.hid (LA.out.kept hb)
    have LB := Lib.hid (LB.out.kept hb)
    have LC := Lib.hid (LC.out.kept hb)
    have B1 := Lib.hid (below2 B1.out hb)
    clear hb
    go_wp2_with fail
    go_ret
    exact ⟨rfl, B1.out⟩

theorem own_SweepParts : ownKnob Try.prog.godebug = none := by kernel_rfl
set_option maxRecDepth 100000 in
set_option maxHeartbeats 800000 in
theorem lifted_SweepParts (os : Os) (started : os.Started) (H : Type) (enc : TypeId × Value → H) :
    ReturnsInHanded {} Try.checked os 7 .any (Rows.sweepPartsSpec.pre6 enc Try.prog Try.f7 Rows.sweepPartsRow.domain false) (Rows.sweepPartsSpec.post enc Try.prog Try.f7 false true false false) := by
  refine returnsInHanded_of_change (C := Try.checked) own_SweepParts started (by kernel_rfl) Try.func7
    (ChangeSpec.witness6 (enc := enc) (C := Try.checked) false ⟨#[], #[.slice none 0 0, .int .i64 0, .int .i64 0, .int .i64 0, .int .i64 0], []⟩ 8 (by kernel_rfl) (by kernel_rfl) (by kernel_rfl) (by kernel_rfl)) ?_
  intro W base args ds gs before hval0 hW _ _
  have hval : ∀ (j : Nat) t v, Try.f7.params[j]? = some t → args[j]? = some v → Value.okWide Try.prog W .any base t v := hval0
  have hW' := hW
  obtain ⟨p, q, hA0, hV, rfl, _, _⟩ := hW
  have hA : DataW.TrodAll enc Try.prog W 0 (fun _ => true) true Try.f7.params.toList args.toList ds p := hA0
  rw [Try.params7] at hA hval
  obtain ⟨v0, vs0, d0, ds0, p0, q0, ha0, rfl, rfl, t0, r0⟩ := trodAll_cons hA
  obtain ⟨v1, vs1, d1, ds1, p1, q1, ha1, rfl, rfl, t1, r1⟩ := trodAll_cons r0
  obtain ⟨v2, vs2, d2, ds2, p2, q2, ha2, rfl, rfl, t2, r2⟩ := trodAll_cons r1
  obtain ⟨v3, vs3, d3, ds3, p3, q3, ha3, rfl, rfl, t3, r3⟩ := trodAll_cons r2
  obtain ⟨v4, vs4, d4, ds4, p4, q4, ha4, rfl, rfl, t4, r4⟩ := trodAll_cons r3
  obtain ⟨rfl, rfl, rfl⟩ := trodAll_nil r4
  subst ha4
  subst ha3
  subst ha2
  subst ha1
  obtain rfl : args = #[v0, v1, v2, v3, v4] := by cases args; simp_all
  obtain ⟨rfl, rfl⟩ := trodVars_none hV
  have k0 := t0
  have lt0 : ∀ x ∈ p0, x.block < W.heap.size := by obtain ⟨m, hm⟩ := k0; exact DataW.trod_lt m _ _ _ hm
  obtain ⟨a0, c0, z0, rfl, h0, g0⟩ := Ste.open_table (hval 0 22 v0 rfl rfl) t0
  obtain ⟨a1, rfl, rfl, rfl, h1⟩ := open_int Try.underlying3 (hval 1 3 v1 rfl rfl) t1
  obtain ⟨a2, rfl, rfl, rfl, h2⟩ := open_int Try.underlying3 (hval 2 3 v2 rfl rfl) t2
  obtain ⟨a3, rfl, rfl, rfl, h3⟩ := open_int Try.underlying3 (hval 3 3 v3 rfl rfl) t3
  obtain ⟨a4, rfl, rfl, rfl, h4⟩ := open_int Try.underlying3 (hval 4 3 v4 rfl rfl) t4
  clear hA0 hval0
  refine (walk_SweepParts a0 c0 z0 a1 a2 a3 a4 W h0 g0 h1 h2 h3 h4).mono fun e W' ⟨he, hnx⟩ => ?_
  subst he
  exact ⟨_, rfl, ⟨_, _, _, [], _, [], hW', trodAll_cons_mk (shut_bool Try.underlying4 _) trodAll_mk0, (trodAll_cons_mk (Below.trod Ste.laidOut (by kernel_rfl) (of_decide_eq_true (by kernel_rfl)) k0 hnx lt0) (trodAll_cons_mk (shut_int Try.underlying3 h1) (trodAll_cons_mk (shut_int Try.underlying3 h2) (trodAll_cons_mk (shut_int Try.underlying3 h3) (trodAll_cons_mk (shut_int Try.underlying3 h4) trodAll_mk0))))), rfl, hnx.frame _, fun h => by cases h⟩⟩

theorem sweepParts_holds : Rows.SweepPartsSaid :=
  OpenClaim.holds_of_wide 7 Try.f7 rfl rfl rfl rfl rfl rfl rfl ⟨rfl, rfl, rfl, rfl, rfl⟩ rfl rfl rfl rfl rfl (by kernel_rfl) Try.func7 (by kernel_rfl)
    (of_decide_eq_true (by kernel_rfl)) (by unfold Func.isWrapper; first | (rw [if_pos (by decide +kernel)]; kernel_rfl) | (rw [if_neg (by decide +kernel)]; exact ⟨rfl, rfl⟩))
    (fun os started H enc _ => lifted_SweepParts os started H enc)

#print axioms sweepParts_holds
end Go.Proofs.Yticpjccfpmaikaa
