/-
  SweepLater: for every t, now, later and key the law SweepLater answers true: swept now and later, it is as swept later. No condition.
-/
import Derived.Test.YticpjccfpmaikaaRows
import Derived.Test.YticpjccfpmaikaaBTab
import Derived.Test.YticpjccfpmaikaaSwpW
import Derived.Test.YticpjccfpmaikaaSwpP
import Derived.ProofKit
import Derived.OpenShut
import Derived.ChangeMaps5
import Derived.BigQuiet
import Derived.WalkSmall
namespace Go.Proofs.Yticpjccfpmaikaa
open Go.ChangeShapes Go.WideShapes Go.ChangeAt Go.RowKit Go.Shelf
open Go.ChangeMaps (open_string shut_string)
open Prb RowG Tab Flo Swp

set_option maxRecDepth 100000 in
set_option maxHeartbeats 2000000 in
theorem walk_SweepLater (a0 : Option Addr) (c0 : Nat) (z0 : List Ent) (a1 : Int) (a2 : Int) (a3 : ByteArray) (w : World) (h0 : Lies entK w a0 c0 z0) (g0 : ∀ x ∈ z0, EntOk x) (_h1 : (Lit.int .i64 a1).wf = true) (_h2 : (Lit.int .i64 a2).wf = true) (h3 : a3.size ≤ maxLen) :
    Calls Try.prog 8 #[rowV a0 c0 z0, .int .i64 a1, .int .i64 a2, .string a3] w fun e W' => e = .returned (.bool true) ∧ Below w.heap.size w W' := by
  have H0 := Lib.hid h0
  have hC0 := h0.len
  have hM0 := h0.max
  unfold maxLen at hM0 h3
  clear h0
  go_enter Try.func8, Try.ntmps8
  go_wp2_with fail
  refine (works_any _).mono ?_
  rintro e w1 ⟨rfl, hb⟩
  have B1 := Lib.hid hb
  have L0 := Lib.hid (H0.out.kept hb)
  clear hb H0
  go_wp2_with fail
  refine (few_any a0 c0 z0 _ L0.out g0).mono ?_
  rintro e w2 ⟨rfl, rfl⟩
  by_cases f0 : ¬ few64 z0
  · rw [decide_eq_false f0]
    go_wp2_with fail
    go_ret
    exact ⟨rfl, B1.out⟩
  replace f0 := Decidable.not_not.1 f0
  rw [decide_eq_true f0]
  have hl0 := f0.2
  have S0 := Lib.hid (show Short 60 z0 from f0.1.2)
  clear f0 g0
  by_cases b3 : 60 < a3.size
  · have d0 : decide ((60 : Int) < (a3.size : Int)) = true := decide_eq_true (by omega)
    have d0n : decide (60 < a3.size) = true := decide_eq_true b3
    go_wp2_with fail
    go_ret
    exact ⟨rfl, B1.out⟩
  have db3 : decide ((60 : Int) < (a3.size : Int)) = false := decide_eq_false (by omega)
  have eb3 : decide (60 < a3.size) = false := decide_eq_false b3
  go_wp2_with fail
  by_cases r0 : Right home z0
  case neg =>
    refine (Right_told a0 c0 z0 false (by simp [r0]) _ L0.out (S0.out.wide (by omega))).mono ?_
    rintro e w2 ⟨rfl, hb⟩
    have L0 := Lib.hid (L0.out.kept hb)
    have B1 := Lib.hid (below2 B1.out hb)
    clear hb
    go_wp2_with fail
    go_ret
    exact ⟨rfl, B1.out⟩
  refine (Right_told a0 c0 z0 true (by simp [r0]) _ L0.out (S0.out.wide (by omega))).mono ?_
  rintro e w2 ⟨rfl, hb⟩
  have L0 := Lib.hid (L0.out.kept hb)
  have B1 := Lib.hid (below2 B1.out hb)
  clear hb
  by_cases n0 : a2 < a1
  · have d0 : decide (a2 < a1) = true := decide_eq_true n0
    go_wp2_with fail
    go_ret
    exact ⟨rfl, B1.out⟩
  have dn0 : decide (a2 < a1) = false := decide_eq_false n0
  go_wp2_with fail
  clear dn0
  refine (All_told a0 c0 z0 a1 _ L0.out (S0.out.wide (by omega)) (by omega)).mono ?_
  rintro e w3 ⟨v, rfl, ⟨aA, cA, rfl, hl⟩, hb⟩
  have L0 := Lib.hid (L0.out.kept hb)
  have LA := Lib.hid hl
  have B1 := Lib.hid (below2 B1.out hb)
  clear hb hl
  have SA := Lib.hid (step_short (now := a1) S0.out (places z0.length 0 z0.length))
  have hAl := step_len (now := a1) hl0 (places z0.length 0 z0.length)
  have hkl := due_le (now := a1) (T := z0) z0.length 0 z0.length
  generalize hk : dueN a1 (places z0.length 0 z0.length) z0 = k at *
  have Hk := Lib.hid hk
  clear hk
  generalize hA : stepC a1 (places z0.length 0 z0.length) z0 = A at *
  have HA := Lib.hid hA
  clear hA
  go_wp2_with fail
  refine (All_told aA cA A a2 _ LA.out (SA.out.wide (by omega)) (by omega)).mono ?_
  rintro e w4 ⟨v, rfl, ⟨aB, cB, rfl, hl⟩, hb⟩
  have L0 := Lib.hid (L0.out.kept hb)
  have LA := Lib.hid (LA.out.kept hb)
  have LB := Lib.hid hl
  have B1 := Lib.hid (below2 B1.out hb)
  clear hb hl
  have hll := due_le (now := a2) (T := A) A.length 0 A.length
  generalize hl : dueN a2 (places A.length 0 A.length) A = l at *
  have Hl := Lib.hid hl
  clear hl
  generalize hB : stepC a2 (places A.length 0 A.length) A = B at *
  have HB := Lib.hid hB
  clear hB
  go_wp2_with fail
  refine (All_told a0 c0 z0 a2 _ L0.out (S0.out.wide (by omega)) (by omega)).mono ?_
  rintro e w5 ⟨v, rfl, ⟨aC, cC, rfl, hl⟩, hb⟩
  have L0 := Lib.hid (L0.out.kept hb)
  have LA := Lib.hid (LA.out.kept hb)
  have LB := Lib.hid (LB.out.kept hb)
  have LC := Lib.hid hl
  have B1 := Lib.hid (below2 B1.out hb)
  clear hb hl
  generalize hp : dueN a2 (places z0.length 0 z0.length) z0 = p at *
  have Hp := Lib.hid hp
  clear hp
  generalize hC : stepC a2 (places z0.length 0 z0.length) z0 = C at *
  have HC := Lib.hid hC
  clear hC
  obtain ⟨q1, q2, q3, q4⟩ := laters hl0 r0 (show a1 ≤ a2 by omega) HA.out.symm HB.out.symm HC.out.symm
  rw [Hk.out, Hl.out, Hp.out] at q2
  have Q := Lib.hid (q1 a3)
  have ek : ((k : Int) + (l : Int) == (p : Int)) = true := beq_iff_eq.2 (by omega)
  have ek2 : (k + l == p) = true := beq_iff_eq.2 q2
  have E1 := Lib.hid q2
  have hBl := q3
  have hCl := q4
  clear q1 q2 q3 q4 HA HB HC Hk Hl Hp
  go_wp2_with fail
  refine (Find_told aB cB B a3 _ LB.out (by omega)).mono ?_
  rintro e w6 ⟨rfl, hb⟩
  have L0 := Lib.hid (L0.out.kept hb)
  have LA := Lib.hid (LA.out.kept hb)
  have LB := Lib.hid (LB.out.kept hb)
  have LC := Lib.hid (LC.out.kept hb)
  have B1 := Lib.hid (below2 B1.out hb)
  clear hb
  go_wp2_with fail
  refine (Find_told aC cC C a3 _ LC.out (by omega)).mono ?_
  rintro e w7 ⟨rfl, hb⟩
  have L0 := Lib.hid (L0.out.kept hb)
  have LA := Lib.hid (LA.out.kept hb)
  have LB := Lib.hid (LB.out.kept hb)
  have LC := Lib.hid (LC.out.kept hb)
  have B1 := Lib.hid (below2 B1.out hb)
  clear hb
  cases hw : find home B a3 with
  | none =>
    rw [Q.out.1.1 hw, show zOf none = -1 from rfl]
    clear hw Q
    have x1a : decide ((B.length : Int) ≤ -1) = false := decide_eq_false (by omega)
    have x2a : decide ((C.length : Int) ≤ -1) = false := decide_eq_false (by omega)
    have x3a : decide ((z0.length : Int) ≤ -1) = false := decide_eq_false (by omega)
    go_wp2_with fail
    go_quiet (fail)
    have bq := below_drewN (Below.refl w7.heap.size w7) nq
    have L0 := Lib.hid (L0.out.kept bq)
    have LA := Lib.hid (LA.out.kept bq)
    have LB := Lib.hid (LB.out.kept bq)
    have LC := Lib.hid (LC.out.kept bq)
    have B1 := Lib.hid (below2 B1.out bq)
    clear bq
    go_wp2_with fail
    go_ret
    exact ⟨rfl, B1.out⟩
  | some p9 =>
    cases hi : find home C a3 with
    | none => exact absurd (Q.out.1.2 hi) (by rw [hw]; simp)
    | some r =>
      have hpB := (find_some hw).1
      have hrC := (find_some hi).1
      have hsm := Q.out.2 p9 r hw hi
      have hpz : p9 < z0.length := by omega
      have hrz : r < z0.length := by omega
      rw [show zOf (some p9) = (p9 : Int) from rfl, show zOf (some r) = (r : Int) from rfl]
      clear hw hi Q
      have x1a : decide ((B.length : Int) ≤ (p9 : Int)) = false := decide_eq_false (by omega)
      have x1b : decide (B.length ≤ p9) = false := decide_eq_false (by omega)
      have x1c : decide ((p9 : Int) < 0) = false := decide_eq_false (by omega)
      have x1d : decide (0 ≤ (p9 : Int)) = true := decide_eq_true (by omega)
      have x1za : decide ((z0.length : Int) ≤ (p9 : Int)) = false := decide_eq_false (by omega)
      have x1zb : decide (z0.length ≤ p9) = false := decide_eq_false (by omega)
      have x1zc : decide ((p9 : Int) < 0) = false := decide_eq_false (by omega)
      have x1zd : decide (0 ≤ (p9 : Int)) = true := decide_eq_true (by omega)
      have x2a : decide ((C.length : Int) ≤ (r : Int)) = false := decide_eq_false (by omega)
      have x2b : decide (C.length ≤ r) = false := decide_eq_false (by omega)
      have x2c : decide ((r : Int) < 0) = false := decide_eq_false (by omega)
      have x2d : decide (0 ≤ (r : Int)) = true := decide_eq_true (by omega)
      have x2za : decide ((z0.length : Int) ≤ (r : Int)) = false := decide_eq_false (by omega)
      have x2zb : decide (z0.length ≤ r) = false := decide_eq_false (by omega)
      have x2zc : decide ((r : Int) < 0) = false := decide_eq_false (by omega)
      have x2zd : decide (0 ≤ (r : Int)) = true := decide_eq_true (by omega)
      obtain ⟨bby, offy, haby, y0, y1, y2, y3⟩ := LB.out.ent hpB
      cases haby
      rw [← ent_at hpB] at y0 y1 y2 y3
      obtain ⟨bbu, offu, habu, u0, u1, u2, u3⟩ := LC.out.ent hrC
      cases habu
      rw [← ent_at hrC] at u0 u1 u2 u3
      rw [hsm] at y0 y1 y2 y3
      clear hsm
      have CC := ent_cmp (ent C r) (ent C r) true (by simp)
      generalize ent C r = y at *
      go_wp2_with fail
      go_quiet (fail)
      have bq := below_drewN (Below.refl w7.heap.size w7) nq
      have L0 := Lib.hid (L0.out.kept bq)
      have LA := Lib.hid (LA.out.kept bq)
      have LB := Lib.hid (LB.out.kept bq)
      have LC := Lib.hid (LC.out.kept bq)
      have B1 := Lib.hid (below2 B1.out bq)
      clear bq
      go_wp2_with fail
      go_ret
      exact ⟨rfl, B1.out⟩

theorem own_SweepLater : ownKnob Try.prog.godebug = none := by kernel_rfl
set_option maxRecDepth 100000 in
set_option maxHeartbeats 800000 in
theorem lifted_SweepLater (os : Os) (started : os.Started) (H : Type) (enc : TypeId × Value → H) :
    ReturnsInHanded {} Try.checked os 8 .any (Rows.sweepLaterSpec.pre6 enc Try.prog Try.f8 Rows.sweepLaterRow.domain false) (Rows.sweepLaterSpec.post enc Try.prog Try.f8 false true false false) := by
  refine returnsInHanded_of_change (C := Try.checked) own_SweepLater started (by kernel_rfl) Try.func8
    (ChangeSpec.witness6 (enc := enc) (C := Try.checked) false ⟨#[], #[.slice none 0 0, .int .i64 0, .int .i64 0, .string ⟨#[]⟩], []⟩ 8 (by kernel_rfl) (by kernel_rfl) (by kernel_rfl) (by kernel_rfl)) ?_
  intro W base args ds gs before hval0 hW _ _
  have hval : ∀ (j : Nat) t v, Try.f8.params[j]? = some t → args[j]? = some v → Value.okWide Try.prog W .any base t v := hval0
  have hW' := hW
  obtain ⟨p, q, hA0, hV, rfl, _, _⟩ := hW
  have hA : DataW.TrodAll enc Try.prog W 0 (fun _ => true) true Try.f8.params.toList args.toList ds p := hA0
  rw [Try.params8] at hA hval
  obtain ⟨v0, vs0, d0, ds0, p0, q0, ha0, rfl, rfl, t0, r0⟩ := trodAll_cons hA
  obtain ⟨v1, vs1, d1, ds1, p1, q1, ha1, rfl, rfl, t1, r1⟩ := trodAll_cons r0
  obtain ⟨v2, vs2, d2, ds2, p2, q2, ha2, rfl, rfl, t2, r2⟩ := trodAll_cons r1
  obtain ⟨v3, vs3, d3, ds3, p3, q3, ha3, rfl, rfl, t3, r3⟩ := trodAll_cons r2
  obtain ⟨rfl, rfl, rfl⟩ := trodAll_nil r3
  subst ha3
  subst ha2
  subst ha1
  obtain rfl : args = #[v0, v1, v2, v3] := by cases args; simp_all
  obtain ⟨rfl, rfl⟩ := trodVars_none hV
  have k0 := t0
  have lt0 : ∀ x ∈ p0, x.block < W.heap.size := by obtain ⟨m, hm⟩ := k0; exact DataW.trod_lt m _ _ _ hm
  obtain ⟨a0, c0, z0, rfl, h0, g0⟩ := Ste.open_table (hval 0 22 v0 rfl rfl) t0
  obtain ⟨a1, rfl, rfl, rfl, h1⟩ := open_int Try.underlying3 (hval 1 3 v1 rfl rfl) t1
  obtain ⟨a2, rfl, rfl, rfl, h2⟩ := open_int Try.underlying3 (hval 2 3 v2 rfl rfl) t2
  obtain ⟨a3, rfl, rfl, rfl, h3⟩ := open_string Try.underlying9 (hval 3 9 v3 rfl rfl) t3
  clear hA0 hval0
  refine (walk_SweepLater a0 c0 z0 a1 a2 a3 W h0 g0 h1 h2 h3).mono fun e W' ⟨he, hnx⟩ => ?_
  subst he
  exact ⟨_, rfl, ⟨_, _, _, [], _, [], hW', trodAll_cons_mk (shut_bool Try.underlying4 _) trodAll_mk0, (trodAll_cons_mk (Below.trod Ste.laidOut (by kernel_rfl) (of_decide_eq_true (by kernel_rfl)) k0 hnx lt0) (trodAll_cons_mk (shut_int Try.underlying3 h1) (trodAll_cons_mk (shut_int Try.underlying3 h2) (trodAll_cons_mk (shut_string Try.underlying9 h3) trodAll_mk0)))), rfl, hnx.frame _, fun h => by cases h⟩⟩

theorem sweepLater_holds : Rows.SweepLaterSaid :=
  OpenClaim.holds_of_wide 8 Try.f8 rfl rfl rfl rfl rfl rfl rfl ⟨rfl, rfl, rfl, rfl, rfl⟩ rfl rfl rfl rfl rfl (by kernel_rfl) Try.func8 (by kernel_rfl)
    (of_decide_eq_true (by kernel_rfl)) (by unfold Func.isWrapper; first | (rw [if_pos (by decide +kernel)]; kernel_rfl) | (rw [if_neg (by decide +kernel)]; exact ⟨rfl, rfl⟩))
    (fun os started H enc _ => lifted_SweepLater os started H enc)

#print axioms sweepLater_holds
end Go.Proofs.Yticpjccfpmaikaa
