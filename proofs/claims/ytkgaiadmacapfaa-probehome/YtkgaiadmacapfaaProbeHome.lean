/-
  ProbeHome: for every key and n the law ProbeHome answers true: a home is a place of its table, and hangs on the key alone. No condition.
-/
import Derived.Test.YtkgaiadmacapfaaRows
import Derived.Test.YtkgaiadmacapfaaSte
import Derived.Test.YtkgaiadmacapfaaPrbW
import Derived.Test.YtkgaiadmacapfaaPrbF
import Derived.ProofKit
import Derived.OpenShut
import Derived.ChangeMaps5
namespace Go.Proofs.Ytkgaiadmacapfaa
open Go.ChangeShapes Go.WideShapes Go.ChangeAt Go.RowKit Go.Shelf
open Go.ChangeMaps (open_string shut_string)
open Prb RowG Tab

set_option maxRecDepth 100000 in
set_option maxHeartbeats 1000000 in
theorem walk_ProbeHome (a0 : ByteArray) (a1 : Int) (h0 : a0.size ≤ maxLen) (h1 : (Lit.int .i64 a1).wf = true) (w : World) :
    Calls Try.prog 8 #[.string a0, .int .i64 a1] w fun e W' => e = .returned (.bool true) ∧ Below w.heap.size w W' := by
  unfold maxLen at h0
  by_cases g0 : 60 < a0.size
  · have d0 : decide ((60 : Int) < (a0.size : Int)) = true := decide_eq_true (by omega)
    have d0n : decide (60 < a0.size) = true := decide_eq_true g0
    go_enter Try.func8, Try.ntmps8
    go_wp2_with fail
    refine (works_any _).mono ?_
    rintro e w1 ⟨rfl, hb⟩
    have B1 := Lib.hid hb
    go_wp2_with fail
    go_ret
    exact ⟨rfl, B1.out⟩
  have d0 : decide ((60 : Int) < (a0.size : Int)) = false := decide_eq_false (by omega)
  have d0n : decide (60 < a0.size) = false := decide_eq_false g0
  have hr : -9223372036854775808 ≤ a1 ∧ a1 ≤ 9223372036854775807 := by simpa [Lit.wf, IntKind.min, IntKind.max, IntKind.signed, IntKind.bits] using h1
  go_enter Try.func8, Try.ntmps8
  go_wp2_with fail
  refine (works_any _).mono ?_
  rintro e w1 ⟨rfl, hb⟩
  have B1 := Lib.hid hb
  go_wp2_with fail
  refine (Home_told a0 a1 _ (by omega) h1).mono ?_
  rintro e w2 ⟨rfl, hb2⟩
  have B2 := Lib.hid (below2 hb hb2)
  clear hb hb2 B1
  by_cases g1 : a1 < 1
  · have d1 : decide (a1 < 1) = true := decide_eq_true g1
    rw [homeZ_low a0 g1]
    go_wp2_with fail
    go_ret
    exact ⟨rfl, B2.out⟩
  · have d1 : decide (a1 < 1) = false := decide_eq_false g1
    obtain ⟨m, rfl⟩ := Int.eq_ofNat_of_zero_le (show 0 ≤ a1 by omega)
    have hm0 : 0 < m := by omega
    rw [homeZ_nat a0 hm0]
    have hl := home_lt a0 hm0
    obtain ⟨e2, -⟩ := sum_mod (Fnv.jn 14695981039346656037 a0.data.toList) m hm0 (by omega)
    have e3 : IntKind.u64.wrap ((home a0 m : Nat) : Int) = ((home a0 m : Nat) : Int) := by rw [Fnv.u64_mod, Nat.mod_eq_of_lt (by omega)]
    have hne : (m : Int) ≠ 0 := by omega
    have hE : ((Fnv.jn 14695981039346656037 a0.data.toList : Int) % (m : Int) == ((home a0 m : Nat) : Int)) = true := by
      unfold home; simp
    have hmm : ((Fnv.jn 14695981039346656037 a0.data.toList % m : Nat) : Int) = ((home a0 m : Nat) : Int) := rfl
    generalize home a0 m = q at *
    go_wp2_with fail
    refine (Fnv.Sum_any a0 _ (by omega)).mono ?_
    rintro e w3 ⟨rfl, hb3⟩
    have B3 := Lib.hid (below2 B2.out hb3)
    clear hb3
    go_wp2_with fail
    go_ret
    exact ⟨rfl, B3.out⟩

theorem own_ProbeHome : ownKnob Try.prog.godebug = none := by kernel_rfl
set_option maxRecDepth 100000 in
set_option maxHeartbeats 800000 in
theorem lifted_ProbeHome (os : Os) (started : os.Started) (H : Type) (enc : TypeId × Value → H) :
    ReturnsInHanded {} Try.checked os 8 .any (Rows.probeHomeSpec.pre6 enc Try.prog Try.f8 Rows.probeHomeRow.domain false) (Rows.probeHomeSpec.post enc Try.prog Try.f8 false true false false) := by
  refine returnsInHanded_of_change (C := Try.checked) own_ProbeHome started (by kernel_rfl) Try.func8
    (ChangeSpec.witness6 (enc := enc) (C := Try.checked) false ⟨#[], #[.string ⟨#[]⟩, .int .i64 0], []⟩ 8 (by kernel_rfl) (by kernel_rfl) (by kernel_rfl) (by kernel_rfl)) ?_
  intro W base args ds gs before hval0 hW _ _
  have hval : ∀ (j : Nat) t v, Try.f8.params[j]? = some t → args[j]? = some v → Value.okWide Try.prog W .any base t v := hval0
  have hW' := hW
  obtain ⟨p, q, hA0, hV, rfl, _, _⟩ := hW
  have hA : DataW.TrodAll enc Try.prog W 0 (fun _ => true) true Try.f8.params.toList args.toList ds p := hA0
  rw [Try.params8] at hA hval
  obtain ⟨v0, vs0, d0, ds0, p0, q0, ha0, rfl, rfl, t0, r0⟩ := trodAll_cons hA
  obtain ⟨v1, vs1, d1, ds1, p1, q1, ha1, rfl, rfl, t1, r1⟩ := trodAll_cons r0
  obtain ⟨rfl, rfl, rfl⟩ := trodAll_nil r1
  subst ha1
  obtain rfl : args = #[v0, v1] := by cases args; simp_all
  obtain ⟨rfl, rfl⟩ := trodVars_none hV
  obtain ⟨a0, rfl, rfl, rfl, h0⟩ := open_string Try.underlying9 (hval 0 9 v0 rfl rfl) t0
  obtain ⟨a1, rfl, rfl, rfl, h1⟩ := open_int Try.underlying3 (hval 1 3 v1 rfl rfl) t1
  clear hA0 hval0
  simp only [List.append_nil] at hW'
  refine (walk_ProbeHome a0 a1 h0 h1 W).mono fun e W' ⟨he, hnx⟩ => ?_
  subst he
  exact ⟨_, rfl, ⟨_, _, _, [], [], [], hW', trodAll_cons_mk (shut_bool Try.underlying4 _) trodAll_mk0, (trodAll_cons_mk (shut_string Try.underlying9 h0) (trodAll_cons_mk (shut_int Try.underlying3 h1) trodAll_mk0)), rfl, hnx.frame _, fun h => by cases h⟩⟩

theorem probeHome_holds : Rows.ProbeHomeSaid :=
  OpenClaim.holds_of_wide 8 Try.f8 rfl rfl rfl rfl rfl rfl rfl ⟨rfl, rfl, rfl, rfl, rfl⟩ rfl rfl rfl rfl rfl (by kernel_rfl) Try.func8 (by kernel_rfl)
    (of_decide_eq_true (by kernel_rfl)) (by unfold Func.isWrapper; first | (rw [if_pos (by decide +kernel)]; kernel_rfl) | (rw [if_neg (by decide +kernel)]; exact ⟨rfl, rfl⟩))
    (fun os started H enc _ => lifted_ProbeHome os started H enc)

#print axioms probeHome_holds
end Go.Proofs.Ytkgaiadmacapfaa
