/-
  FlowsDelete: for every t, key and other the law FlowsDelete answers true: what is deleted is not found, all else is; there are never tombs in more than half of the places. No condition.
-/
import Derived.Test.YtbflnhoifkdooaaRows
import Derived.Test.YtbflnhoifkdooaaBTab
import Derived.Test.YtbflnhoifkdooaaFloW
import Derived.Test.YtbflnhoifkdooaaBFlp
import Derived.ProofKit
import Derived.OpenShut
import Derived.ChangeMaps5
import Derived.BigQuiet
import Derived.WalkSmall
namespace Go.Proofs.Ytbflnhoifkdooaa
open Go.ChangeShapes Go.WideShapes Go.ChangeAt Go.RowKit Go.Shelf
open Go.ChangeMaps (open_string shut_string)
open Prb RowG Tab Flo

set_option maxRecDepth 100000 in
set_option maxHeartbeats 1000000 in
theorem walk_FlowsDelete (a0 : Option Addr) (c0 : Nat) (z0 : List Ent) (a1 : ByteArray) (a2 : ByteArray) (w : World) (h0 : Lies entK w a0 c0 z0) (g0 : ∀ x ∈ z0, EntOk x) (h1 : a1.size ≤ maxLen) (h2 : a2.size ≤ maxLen) :
    Calls Try.prog 5 #[rowV a0 c0 z0, .string a1, .string a2] w fun e W' => e = .returned (.bool true) ∧ Below w.heap.size w W' := by
  have H0 := Lib.hid h0
  have hC0 := h0.len
  have hM0 := h0.max
  unfold maxLen at hM0 h1 h2
  clear h0
  go_enter Try.func5, Try.ntmps5
  go_wp2_with fail
  refine (works_any _).mono ?_
  rintro e w1 ⟨rfl, hb⟩
  have B1 := Lib.hid hb
  have L0 := Lib.hid (H0.out.kept hb)
  clear hb H0
  go_wp2_with fail
  refine (few_any a0 c0 z0 _ L0.out g0).mono ?_
  rintro e w2 ⟨rfl, rfl⟩
  by_cases f0 : ¬ few64 z0
  · rw [decide_eq_false f0]
    go_wp2_with fail
    go_ret
    exact ⟨rfl, B1.out⟩
  replace f0 := Decidable.not_not.1 f0
  rw [decide_eq_true f0]
  have hl0 := f0.2
  have S0 := Lib.hid (show Short 60 z0 from f0.1.2)
  clear f0 g0
  by_cases b1 : 60 < a1.size
  · have d0 : decide ((60 : Int) < (a1.size : Int)) = true := decide_eq_true (by omega)
    have d0n : decide (60 < a1.size) = true := decide_eq_true b1
    go_wp2_with fail
    go_ret
    exact ⟨rfl, B1.out⟩
  have db1 : decide ((60 : Int) < (a1.size : Int)) = false := decide_eq_false (by omega)
  have eb1 : decide (60 < a1.size) = false := decide_eq_false b1
  by_cases b2 : 60 < a2.size
  · have d0 : decide ((60 : Int) < (a2.size : Int)) = true := decide_eq_true (by omega)
    have d0n : decide (60 < a2.size) = true := decide_eq_true b2
    go_wp2_with fail
    go_ret
    exact ⟨rfl, B1.out⟩
  have db2 : decide ((60 : Int) < (a2.size : Int)) = false := decide_eq_false (by omega)
  have eb2 : decide (60 < a2.size) = false := decide_eq_false b2
  go_wp2_with fail
  by_cases r0 : Right home z0
  case neg =>
    refine (Right_told a0 c0 z0 false (by simp [r0]) _ L0.out (S0.out.wide (by omega))).mono ?_
    rintro e w2 ⟨rfl, hb⟩
    have L0 := Lib.hid (L0.out.kept hb)
    have B1 := Lib.hid (below2 B1.out hb)
    clear hb
    go_wp2_with fail
    go_ret
    exact ⟨rfl, B1.out⟩
  refine (Right_told a0 c0 z0 true (by simp [r0]) _ L0.out (S0.out.wide (by omega))).mono ?_
  rintro e w2 ⟨rfl, hb⟩
  have L0 := Lib.hid (L0.out.kept hb)
  have B1 := Lib.hid (below2 B1.out hb)
  clear hb
  go_wp2_with fail
  refine (Delete_told a0 c0 z0 a1 _ L0.out (by omega) (S0.out.wide (by omega)) (by omega)).mono ?_
  rintro e w3 ⟨v, rfl, ⟨aU, cU, rfl, hl⟩, hb⟩
  have L0 := Lib.hid (L0.out.kept hb)
  have LU := Lib.hid hl
  have B1 := Lib.hid (below2 B1.out hb)
  clear hb hl
  cases hf : find home z0 a1 with
  | none =>
    have hd : delT z0 a1 = z0 := by unfold delT; rw [hf]
    rw [hd] at LU ⊢
    rw [show (none : Option Nat).isSome = false from rfl]
    clear hd
    go_wp2_with fail
    refine (Find_told a0 c0 z0 a1 _ L0.out (by omega)).mono ?_
    rintro e w4 ⟨rfl, hb⟩
    have L0 := Lib.hid (L0.out.kept hb)
    have LU := Lib.hid (LU.out.kept hb)
    have B1 := Lib.hid (below2 B1.out hb)
    clear hb
    rw [hf, show zOf none = -1 from rfl]
    go_wp2_with fail
    refine (Same_told aU cU z0 a0 c0 z0 true (by simp) _ LU.out L0.out).mono ?_
    rintro e w5 ⟨rfl, hb⟩
    have L0 := Lib.hid (L0.out.kept hb)
    have LU := Lib.hid (LU.out.kept hb)
    have B1 := Lib.hid (below2 B1.out hb)
    clear hb
    go_wp2_with fail
    go_ret
    exact ⟨rfl, B1.out⟩
  | some q =>
    have D := Lib.hid (del_less hl0 r0 hf)
    have hq := (find_some hf).1
    have hlU := D.out.len
    have SU := Lib.hid (short_del (k := a1) S0.out)
    rw [show (some q).isSome = true from rfl]
    generalize delT z0 a1 = U at *
    go_wp2_with fail
    refine (Find_told aU cU U a1 _ LU.out (by omega)).mono ?_
    rintro e w4 ⟨rfl, hb⟩
    have L0 := Lib.hid (L0.out.kept hb)
    have LU := Lib.hid (LU.out.kept hb)
    have B1 := Lib.hid (below2 B1.out hb)
    clear hb
    rw [D.out.gone, show zOf none = -1 from rfl]
    go_wp2_with fail
    refine (Right_told aU cU U true (by simp [D.out.right]) _ LU.out (SU.out.wide (by omega))).mono ?_
    rintro e w5 ⟨rfl, hb⟩
    have L0 := Lib.hid (L0.out.kept hb)
    have LU := Lib.hid (LU.out.kept hb)
    have B1 := Lib.hid (below2 B1.out hb)
    clear hb
    go_wp2_with fail
    refine (Count_told aU cU U 1 _ LU.out).mono ?_
    rintro e w6 ⟨rfl, hb⟩
    have L0 := Lib.hid (L0.out.kept hb)
    have LU := Lib.hid (LU.out.kept hb)
    have B1 := Lib.hid (below2 B1.out hb)
    clear hb
    go_wp2_with fail
    refine (Count_told a0 c0 z0 1 _ L0.out).mono ?_
    rintro e w7 ⟨rfl, hb⟩
    have L0 := Lib.hid (L0.out.kept hb)
    have LU := Lib.hid (LU.out.kept hb)
    have B1 := Lib.hid (below2 B1.out hb)
    clear hb
    rw [← D.out.cnt]
    have hn1 := count_le 1 U
    have hn2 := D.out.tombs
    generalize count 1 U = n at *
    have en : IntKind.i64.wrap (((n + 1 : Nat) : Int) - 1) = (n : Int) := by rw [show ((n + 1 : Nat) : Int) - 1 = (n : Int) by omega]; exact IntWalk.i64_in _ (by omega)
    go_wp2_with fail
    refine (Count_told aU cU U 2 _ LU.out).mono ?_
    rintro e w8 ⟨rfl, hb⟩
    have L0 := Lib.hid (L0.out.kept hb)
    have LU := Lib.hid (LU.out.kept hb)
    have B1 := Lib.hid (below2 B1.out hb)
    clear hb
    generalize count 2 U = m at *
    have dm : decide ((U.length : Int) < 2 * (m : Int)) = false := decide_eq_false (by omega)
    go_wp2_with fail
    clear dm en hn1 hn2
    refine (Find_told a0 c0 z0 a2 _ L0.out (by omega)).mono ?_
    rintro e w9 ⟨rfl, hb⟩
    have L0 := Lib.hid (L0.out.kept hb)
    have LU := Lib.hid (LU.out.kept hb)
    have B1 := Lib.hid (below2 B1.out hb)
    clear hb
    go_wp2_with fail
    refine (Find_told aU cU U a2 _ LU.out (by omega)).mono ?_
    rintro e w10 ⟨rfl, hb⟩
    have L0 := Lib.hid (L0.out.kept hb)
    have LU := Lib.hid (LU.out.kept hb)
    have B1 := Lib.hid (below2 B1.out hb)
    clear hb
    by_cases hk : a1 = a2
    · have dk : (a1.toList == a2.toList) = true := by rw [text_cmp]; exact decide_eq_true hk
      have e1 : find home U a2 = none := hk ▸ D.out.gone
      have e2 : find home z0 a2 = some q := hk ▸ hf
      rw [e1, e2, show zOf (some q) = (q : Int) from rfl, show zOf none = -1 from rfl]
      clear hk e1 e2 hf
      have x1a : decide ((z0.length : Int) ≤ (q : Int)) = false := decide_eq_false (by omega)
      have x1b : decide (z0.length ≤ q) = false := decide_eq_false (by omega)
      have x1c : decide ((q : Int) < 0) = false := decide_eq_false (by omega)
      have x1d : decide (0 ≤ (q : Int)) = true := decide_eq_true (by omega)
      have x2a : decide ((U.length : Int) ≤ -1) = false := decide_eq_false (by omega)
      go_wp2_with fail
      go_ret
      exact ⟨rfl, B1.out⟩
    · have dk : (a1.toList == a2.toList) = false := by rw [text_cmp]; exact decide_eq_false hk
      cases hw : find home z0 a2 with
      | none =>
        rw [(D.out.none a2 hk).1 hw, show zOf none = -1 from rfl]
        clear hw hk hf
        have x1a : decide ((z0.length : Int) ≤ -1) = false := decide_eq_false (by omega)
        have x2a : decide ((U.length : Int) ≤ -1) = false := decide_eq_false (by omega)
        go_wp2_with fail
        go_ret
        exact ⟨rfl, B1.out⟩
      | some p =>
        cases hi : find home U a2 with
        | none => exact absurd ((D.out.none a2 hk).2 hi) (by rw [hw]; simp)
        | some r =>
          have hpl := (find_some hw).1
          have hrl := (find_some hi).1
          have hsm := D.out.same a2 hk p r hw hi
          rw [show zOf (some p) = (p : Int) from rfl, show zOf (some r) = (r : Int) from rfl]
          clear hw hi hk hf
          have x1a : decide ((z0.length : Int) ≤ (p : Int)) = false := decide_eq_false (by omega)
          have x1b : decide (z0.length ≤ p) = false := decide_eq_false (by omega)
          have x1c : decide ((p : Int) < 0) = false := decide_eq_false (by omega)
          have x1d : decide (0 ≤ (p : Int)) = true := decide_eq_true (by omega)
          have x2a : decide ((U.length : Int) ≤ (r : Int)) = false := decide_eq_false (by omega)
          have x2b : decide (U.length ≤ r) = false := decide_eq_false (by omega)
          have x2c : decide ((r : Int) < 0) = false := decide_eq_false (by omega)
          have x2d : decide (0 ≤ (r : Int)) = true := decide_eq_true (by omega)
          have x2za : decide ((z0.length : Int) ≤ (r : Int)) = false := decide_eq_false (by omega)
          have x2zb : decide (z0.length ≤ r) = false := decide_eq_false (by omega)
          have x2zc : decide ((r : Int) < 0) = false := decide_eq_false (by omega)
          have x2zd : decide (0 ≤ (r : Int)) = true := decide_eq_true (by omega)
          obtain ⟨bby, offy, haby, y0, y1, y2, y3⟩ := LU.out.ent hrl
          cases haby
          rw [← ent_at hrl] at y0 y1 y2 y3
          obtain ⟨bbu, offu, habu, u0, u1, u2, u3⟩ := L0.out.ent hpl
          cases habu
          rw [← ent_at hpl] at u0 u1 u2 u3
          rw [hsm] at y0 y1 y2 y3
          clear hsm
          have CC := ent_cmp (ent z0 p) (ent z0 p) true (by simp)
          generalize ent z0 p = y at *
          go_wp2_with fail
          go_quiet (fail)
          have bq := below_drewN (Below.refl w10.heap.size w10) nq
          have L0 := Lib.hid (L0.out.kept bq)
          have LU := Lib.hid (LU.out.kept bq)
          have B1 := Lib.hid (below2 B1.out bq)
          clear bq
          go_wp2_with fail
          go_ret
          exact ⟨rfl, B1.out⟩

theorem own_FlowsDelete : ownKnob Try.prog.godebug = none := by kernel_rfl
set_option maxRecDepth 100000 in
set_option maxHeartbeats 800000 in
theorem lifted_FlowsDelete (os : Os) (started : os.Started) (H : Type) (enc : TypeId × Value → H) :
    ReturnsInHanded {} Try.checked os 5 .any (Rows.flowsDeleteSpec.pre6 enc Try.prog Try.f5 Rows.flowsDeleteRow.domain false) (Rows.flowsDeleteSpec.post enc Try.prog Try.f5 false true false false) := by
  refine returnsInHanded_of_change (C := Try.checked) own_FlowsDelete started (by kernel_rfl) Try.func5
    (ChangeSpec.witness6 (enc := enc) (C := Try.checked) false ⟨#[], #[.slice none 0 0, .string ⟨#[]⟩, .string ⟨#[]⟩], []⟩ 8 (by kernel_rfl) (by kernel_rfl) (by kernel_rfl) (by kernel_rfl)) ?_
  intro W base args ds gs before hval0 hW _ _
  have hval : ∀ (j : Nat) t v, Try.f5.params[j]? = some t → args[j]? = some v → Value.okWide Try.prog W .any base t v := hval0
  have hW' := hW
  obtain ⟨p, q, hA0, hV, rfl, _, _⟩ := hW
  have hA : DataW.TrodAll enc Try.prog W 0 (fun _ => true) true Try.f5.params.toList args.toList ds p := hA0
  rw [Try.params5] at hA hval
  obtain ⟨v0, vs0, d0, ds0, p0, q0, ha0, rfl, rfl, t0, r0⟩ := trodAll_cons hA
  obtain ⟨v1, vs1, d1, ds1, p1, q1, ha1, rfl, rfl, t1, r1⟩ := trodAll_cons r0
  obtain ⟨v2, vs2, d2, ds2, p2, q2, ha2, rfl, rfl, t2, r2⟩ := trodAll_cons r1
  obtain ⟨rfl, rfl, rfl⟩ := trodAll_nil r2
  subst ha2
  subst ha1
  obtain rfl : args = #[v0, v1, v2] := by cases args; simp_all
  obtain ⟨rfl, rfl⟩ := trodVars_none hV
  have k0 := t0
  have lt0 : ∀ x ∈ p0, x.block < W.heap.size := by obtain ⟨m, hm⟩ := k0; exact DataW.trod_lt m _ _ _ hm
  obtain ⟨a0, c0, z0, rfl, h0, g0⟩ := Ste.open_table (hval 0 22 v0 rfl rfl) t0
  obtain ⟨a1, rfl, rfl, rfl, h1⟩ := open_string Try.underlying9 (hval 1 9 v1 rfl rfl) t1
  obtain ⟨a2, rfl, rfl, rfl, h2⟩ := open_string Try.underlying9 (hval 2 9 v2 rfl rfl) t2
  clear hA0 hval0
  refine (walk_FlowsDelete a0 c0 z0 a1 a2 W h0 g0 h1 h2).mono fun e W' ⟨he, hnx⟩ => ?_
  subst he
  exact ⟨_, rfl, ⟨_, _, _, [], _, [], hW', trodAll_cons_mk (shut_bool Try.underlying4 _) trodAll_mk0, (trodAll_cons_mk (Below.trod Ste.laidOut (by kernel_rfl) (of_decide_eq_true (by kernel_rfl)) k0 hnx lt0) (trodAll_cons_mk (shut_string Try.underlying9 h1) (trodAll_cons_mk (shut_string Try.underlying9 h2) trodAll_mk0))), rfl, hnx.frame _, fun h => by cases h⟩⟩

theorem flowsDelete_holds : Rows.FlowsDeleteSaid :=
  OpenClaim.holds_of_wide 5 Try.f5 rfl rfl rfl rfl rfl rfl rfl ⟨rfl, rfl, rfl, rfl, rfl⟩ rfl rfl rfl rfl rfl (by kernel_rfl) Try.func5 (by kernel_rfl)
    (of_decide_eq_true (by kernel_rfl)) (by unfold Func.isWrapper; first | (rw [if_pos (by decide +kernel)]; kernel_rfl) | (rw [if_neg (by decide +kernel)]; exact ⟨rfl, rfl⟩))
    (fun os started H enc _ => lifted_FlowsDelete os started H enc)

#print axioms flowsDelete_holds
end Go.Proofs.Ytbflnhoifkdooaa
