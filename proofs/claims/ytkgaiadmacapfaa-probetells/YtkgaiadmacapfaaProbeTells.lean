/-
  ProbeTells: for every t, u, key, n and state the law ProbeTells answers true: where a way begins, where a key stands, and where it may be put, is just what the document says, in any table. No condition.
-/
import Derived.Test.YtkgaiadmacapfaaRows
import Derived.Test.YtkgaiadmacapfaaSte
import Derived.Test.YtkgaiadmacapfaaPrbW
import Derived.Test.YtkgaiadmacapfaaPrbF
import Derived.ProofKit
import Derived.OpenShut
import Derived.ChangeMaps5
namespace Go.Proofs.Ytkgaiadmacapfaa
open Go.ChangeShapes Go.WideShapes Go.ChangeAt Go.RowKit Go.Shelf
open Go.ChangeMaps (open_string shut_string)
open Prb RowG Tab

set_option maxRecDepth 100000 in
set_option maxHeartbeats 1000000 in
theorem walk_ProbeTells (a0 : Option Addr) (c0 : Nat) (z0 : List Ent) (a1 : Option Addr) (c1 : Nat) (z1 : List Ent) (a2 : ByteArray) (a3 : Int) (a4 : Int) (w : World) (h0 : Lies entK w a0 c0 z0) (g0 : ∀ x ∈ z0, EntOk x) (h1 : Lies entK w a1 c1 z1) (g1 : ∀ x ∈ z1, EntOk x) (h2 : a2.size ≤ maxLen) (h3 : (Lit.int .i64 a3).wf = true) (_h4 : (Lit.int .i64 a4).wf = true) :
    Calls Try.prog 3 #[rowV a0 c0 z0, rowV a1 c1 z1, .string a2, .int .i64 a3, .int .i64 a4] w fun e W' => e = .returned (.bool true) ∧ Below w.heap.size w W' := by
  have H0 := Lib.hid h0
  have H1 := Lib.hid h1
  have hC0 := h0.len
  have hM0 := h0.max
  have hC1 := h1.len
  have hM1 := h1.max
  unfold maxLen at hM0 hM1 h2
  clear h0 h1
  go_enter Try.func3, Try.ntmps3
  go_wp2_with fail
  refine (works_any _).mono ?_
  rintro e w1 ⟨rfl, hb⟩
  have B1 := Lib.hid hb
  have L0 := Lib.hid (H0.out.kept hb)
  have L1 := Lib.hid (H1.out.kept hb)
  clear hb H0 H1
  go_wp2_with fail
  refine (refFew_any a0 c0 z0 _ L0.out g0).mono ?_
  rintro e w2 ⟨rfl, rfl⟩
  by_cases f0 : ¬ few z0
  · rw [decide_eq_false f0]
    go_wp2_with fail
    go_ret
    exact ⟨rfl, B1.out⟩
  replace f0 := Decidable.not_not.1 f0
  rw [decide_eq_true f0]
  go_wp2_with fail
  refine (refFew_any a1 c1 z1 _ L1.out g1).mono ?_
  rintro e w2 ⟨rfl, rfl⟩
  by_cases f1 : ¬ few z1
  · rw [decide_eq_false f1]
    go_wp2_with fail
    go_ret
    exact ⟨rfl, B1.out⟩
  replace f1 := Decidable.not_not.1 f1
  rw [decide_eq_true f1]
  have hl0 := f0.1
  clear f0 f1 g0 g1
  by_cases g2 : 60 < a2.size
  · have d0 : decide ((60 : Int) < (a2.size : Int)) = true := decide_eq_true (by omega)
    have d0n : decide (60 < a2.size) = true := decide_eq_true g2
    go_wp2_with fail
    go_ret
    exact ⟨rfl, B1.out⟩
  have d0 : decide ((60 : Int) < (a2.size : Int)) = false := decide_eq_false (by omega)
  have d0n : decide (60 < a2.size) = false := decide_eq_false g2
  go_wp2_with fail
  refine (refSame_any a0 c0 z0 a1 c1 z1 (decide (z0 = z1)) (by simp) _ L0.out L1.out).mono ?_
  rintro e w2 ⟨rfl, hb⟩
  have L0 := Lib.hid (L0.out.kept hb)
  have L1 := Lib.hid (L1.out.kept hb)
  have B1 := Lib.hid (below2 B1.out hb)
  clear hb
  go_wp2_with fail
  refine (Find_told a0 c0 z0 a2 _ L0.out (by omega)).mono ?_
  rintro e w2 ⟨rfl, hb⟩
  have L0 := Lib.hid (L0.out.kept hb)
  have L1 := Lib.hid (L1.out.kept hb)
  have B1 := Lib.hid (below2 B1.out hb)
  clear hb
  go_wp2_with fail
  refine (refFind_any a0 c0 z0 a2 _ L0.out (by omega) (by omega)).mono ?_
  rintro e w2 ⟨rfl, hb⟩
  subst hb
  go_wp2_with fail
  refine (Room_told a0 c0 z0 a2 _ L0.out (by omega)).mono ?_
  rintro e w2 ⟨rfl, hb⟩
  have L0 := Lib.hid (L0.out.kept hb)
  have L1 := Lib.hid (L1.out.kept hb)
  have B1 := Lib.hid (below2 B1.out hb)
  clear hb
  go_wp2_with fail
  refine (refRoom_any a0 c0 z0 a2 _ L0.out (by omega) (by omega)).mono ?_
  rintro e w2 ⟨rfl, hb⟩
  subst hb
  go_wp2_with fail
  refine (Home_told a2 a3 _ (by omega) h3).mono ?_
  rintro e w2 ⟨rfl, hb⟩
  have L0 := Lib.hid (L0.out.kept hb)
  have L1 := Lib.hid (L1.out.kept hb)
  have B1 := Lib.hid (below2 B1.out hb)
  clear hb
  go_wp2_with fail
  refine (refHome_any a2 a3 _ (by omega) h3).mono ?_
  rintro e w2 ⟨rfl, hb⟩
  subst hb
  go_wp2_with fail
  refine (Count_told a0 c0 z0 a4 _ L0.out).mono ?_
  rintro e w2 ⟨rfl, hb⟩
  have L0 := Lib.hid (L0.out.kept hb)
  have L1 := Lib.hid (L1.out.kept hb)
  have B1 := Lib.hid (below2 B1.out hb)
  clear hb
  go_wp2_with fail
  refine (refCount_any a0 c0 z0 a4 _ L0.out).mono ?_
  rintro e w2 ⟨rfl, hb⟩
  subst hb
  go_wp2_with fail
  refine (Same_told a0 c0 z0 a1 c1 z1 (decide (z0 = z1)) (by simp) _ L0.out L1.out).mono ?_
  rintro e w2 ⟨rfl, hb⟩
  have L0 := Lib.hid (L0.out.kept hb)
  have L1 := Lib.hid (L1.out.kept hb)
  have B1 := Lib.hid (below2 B1.out hb)
  clear hb
  go_wp2_with fail
  go_ret
  exact ⟨rfl, B1.out⟩

theorem own_ProbeTells : ownKnob Try.prog.godebug = none := by kernel_rfl
set_option maxRecDepth 100000 in
set_option maxHeartbeats 800000 in
theorem lifted_ProbeTells (os : Os) (started : os.Started) (H : Type) (enc : TypeId × Value → H) :
    ReturnsInHanded {} Try.checked os 3 .any (Rows.probeTellsSpec.pre6 enc Try.prog Try.f3 Rows.probeTellsRow.domain false) (Rows.probeTellsSpec.post enc Try.prog Try.f3 false true false false) := by
  refine returnsInHanded_of_change (C := Try.checked) own_ProbeTells started (by kernel_rfl) Try.func3
    (ChangeSpec.witness6 (enc := enc) (C := Try.checked) false ⟨#[], #[.slice none 0 0, .slice none 0 0, .string ⟨#[]⟩, .int .i64 0, .int .i64 0], []⟩ 8 (by kernel_rfl) (by kernel_rfl) (by kernel_rfl) (by kernel_rfl)) ?_
  intro W base args ds gs before hval0 hW _ _
  have hval : ∀ (j : Nat) t v, Try.f3.params[j]? = some t → args[j]? = some v → Value.okWide Try.prog W .any base t v := hval0
  have hW' := hW
  obtain ⟨p, q, hA0, hV, rfl, _, _⟩ := hW
  have hA : DataW.TrodAll enc Try.prog W 0 (fun _ => true) true Try.f3.params.toList args.toList ds p := hA0
  rw [Try.params3] at hA hval
  obtain ⟨v0, vs0, d0, ds0, p0, q0, ha0, rfl, rfl, t0, r0⟩ := trodAll_cons hA
  obtain ⟨v1, vs1, d1, ds1, p1, q1, ha1, rfl, rfl, t1, r1⟩ := trodAll_cons r0
  obtain ⟨v2, vs2, d2, ds2, p2, q2, ha2, rfl, rfl, t2, r2⟩ := trodAll_cons r1
  obtain ⟨v3, vs3, d3, ds3, p3, q3, ha3, rfl, rfl, t3, r3⟩ := trodAll_cons r2
  obtain ⟨v4, vs4, d4, ds4, p4, q4, ha4, rfl, rfl, t4, r4⟩ := trodAll_cons r3
  obtain ⟨rfl, rfl, rfl⟩ := trodAll_nil r4
  subst ha4
  subst ha3
  subst ha2
  subst ha1
  obtain rfl : args = #[v0, v1, v2, v3, v4] := by cases args; simp_all
  obtain ⟨rfl, rfl⟩ := trodVars_none hV
  have k0 := t0
  have lt0 : ∀ x ∈ p0, x.block < W.heap.size := by obtain ⟨m, hm⟩ := k0; exact DataW.trod_lt m _ _ _ hm
  obtain ⟨a0, c0, z0, rfl, h0, g0⟩ := Ste.open_table (hval 0 22 v0 rfl rfl) t0
  have k1 := t1
  have lt1 : ∀ x ∈ p1, x.block < W.heap.size := by obtain ⟨m, hm⟩ := k1; exact DataW.trod_lt m _ _ _ hm
  obtain ⟨a1, c1, z1, rfl, h1, g1⟩ := Ste.open_table (hval 1 22 v1 rfl rfl) t1
  obtain ⟨a2, rfl, rfl, rfl, h2⟩ := open_string Try.underlying9 (hval 2 9 v2 rfl rfl) t2
  obtain ⟨a3, rfl, rfl, rfl, h3⟩ := open_int Try.underlying3 (hval 3 3 v3 rfl rfl) t3
  obtain ⟨a4, rfl, rfl, rfl, h4⟩ := open_int Try.underlying3 (hval 4 3 v4 rfl rfl) t4
  clear hA0 hval0
  refine (walk_ProbeTells a0 c0 z0 a1 c1 z1 a2 a3 a4 W h0 g0 h1 g1 h2 h3 h4).mono fun e W' ⟨he, hnx⟩ => ?_
  subst he
  exact ⟨_, rfl, ⟨_, _, _, [], _, [], hW', trodAll_cons_mk (shut_bool Try.underlying4 _) trodAll_mk0, (trodAll_cons_mk (Below.trod Ste.laidOut (by kernel_rfl) (of_decide_eq_true (by kernel_rfl)) k0 hnx lt0) (trodAll_cons_mk (Below.trod Ste.laidOut (by kernel_rfl) (of_decide_eq_true (by kernel_rfl)) k1 hnx lt1) (trodAll_cons_mk (shut_string Try.underlying9 h2) (trodAll_cons_mk (shut_int Try.underlying3 h3) (trodAll_cons_mk (shut_int Try.underlying3 h4) trodAll_mk0))))), rfl, hnx.frame _, fun h => by cases h⟩⟩

theorem probeTells_holds : Rows.ProbeTellsSaid :=
  OpenClaim.holds_of_wide 3 Try.f3 rfl rfl rfl rfl rfl rfl rfl ⟨rfl, rfl, rfl, rfl, rfl⟩ rfl rfl rfl rfl rfl (by kernel_rfl) Try.func3 (by kernel_rfl)
    (of_decide_eq_true (by kernel_rfl)) (by unfold Func.isWrapper; first | (rw [if_pos (by decide +kernel)]; kernel_rfl) | (rw [if_neg (by decide +kernel)]; exact ⟨rfl, rfl⟩))
    (fun os started H enc _ => lifted_ProbeTells os started H enc)

#print axioms probeTells_holds
end Go.Proofs.Ytkgaiadmacapfaa
