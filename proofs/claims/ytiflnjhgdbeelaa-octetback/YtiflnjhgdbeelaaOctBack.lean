/-
  OctetBack: for every v, n and texts ahead and behind the law OctetBack answers true: what is put is got, as far as it goes, whatever stands around it. No condition.
-/
import Derived.Test.YtiflnjhgdbeelaaRows
import Derived.Test.YtiflnjhgdbeelaaOctE
import Derived.ProofKit
import Derived.OpenShut
import Derived.ChangeMaps5
namespace Go.Proofs.Ytiflnjhgdbeelaa
open Go.ChangeShapes Go.WideShapes Go.ChangeAt Go.RowKit
open Go.ChangeMaps (open_string shut_string)
open Oct

set_option maxRecDepth 100000 in
set_option maxHeartbeats 800000 in
theorem walk_OctetBack (a0 a1 : Int) (a2 a3 : ByteArray) (h0 : (Lit.int .u64 a0).wf = true) (h1 : (Lit.int .i64 a1).wf = true) (h2 : a2.size ≤ maxLen) (h3 : a3.size ≤ maxLen) (w : World) :
    Calls Try.prog 4 #[.int .u64 a0, .int .i64 a1, .string a2, .string a3] w fun e W' => e = .returned (.bool true) ∧ Below w.heap.size w W' := by
  have b0 := bounds_u64 h0
  have b1 := bounds_i64 h1
  unfold maxLen at h2 h3
  clear h0 h1
  by_cases g : (a2.size : Int) ≤ 300 ∧ (a3.size : Int) ≤ 300 ∧ 1 ≤ a1 ∧ a1 ≤ 8
  · obtain ⟨g2, g3, g4, g5⟩ := g
    obtain ⟨v, rfl⟩ := Int.eq_ofNat_of_zero_le b0.1
    obtain ⟨n, rfl⟩ := Int.eq_ofNat_of_zero_le (show 0 ≤ a1 by omega)
    have d1 : decide ((300 : Int) < (a2.size : Int)) = false := by simp; omega
    have d2 : decide ((300 : Int) < (a3.size : Int)) = false := by simp; omega
    have d3 : decide ((n : Int) < 1) = false := by simp; omega
    have d4 : decide ((8 : Int) < (n : Int)) = false := by simp; omega
    go_enter Try.func4, Try.ntmps4
    go_wp2_with fail
    refine (works_any _).mono ?_
    rintro e w1 ⟨rfl, hb1⟩
    go_wp2_with fail
    refine (Put_yes _ _ _ (by omega) (by omega) (by omega)).mono ?_
    rintro e w2 ⟨rfl, hb2⟩
    rw [Int.toNat_natCast, Int.toNat_natCast]
    have hsz : (str (Oct.bytes v n)).size = n := by simp [ByteArray.size, bytes_length]
    have hg := getV_mid a2 a3 v n
    generalize str (Oct.bytes v n) = S at *
    have HZ := Lib.hid hsz
    have HG := Lib.hid hg
    have hS : S.size ≤ 8 := by omega
    have t1 : ((S.size : Int) == (n : Int)) = true := by rw [hsz]; simp
    have t1' : (S.size == n) = true := by rw [hsz]; simp
    clear hsz hg
    go_wp2_with fail
    have HZ2 := Lib.hid (show (a2 ++ S ++ a3).size = a2.size + S.size + a3.size by rw [ByteArray.size_append, ByteArray.size_append])
    refine (Get_yes _ _ _ _ (by have := HZ2.out; omega) (by have := HZ2.out; have := HZ.out; omega)).mono ?_
    rintro e w3 ⟨rfl, hb3⟩
    rw [HG.out]
    by_cases e8 : n = 8
    · subst e8
      have e : v % 256 ^ 8 = v := Nat.mod_eq_of_lt (by omega)
      rw [e]
      clear e
      have t8 : ((S.size : Int) == 8) = true := by rw [HZ.out]; rfl
      go_wp2_with fail
      go_ret
      exact ⟨rfl, below2 (below2 hb1 hb2) hb3⟩
    · have t2 : ((n : Int) == 8) = false := by simp; omega
      have t3 : decide ((n : Int) < 8) = true := by simp; omega
      have HM := Lib.hid (mod_shifts v n (by omega))
      go_wp2_with fail
      go_ret
      exact ⟨by rw [show (((v : Int) % 256 ^ n) == IntKind.u64.wrap ((v : Int) * 2 ^ (64 - 8 * n)) / 2 ^ (64 - 8 * n)) = true from by rw [← HM.out]; simp]; rfl, below2 (below2 hb1 hb2) hb3⟩
  · by_cases g2 : (a2.size : Int) ≤ 300
    · have d1 : decide ((300 : Int) < (a2.size : Int)) = false := by simp; omega
      by_cases g3 : (a3.size : Int) ≤ 300
      · have d2 : decide ((300 : Int) < (a3.size : Int)) = false := by simp; omega
        by_cases g4 : 1 ≤ a1
        · have d3 : decide (a1 < 1) = false := by simp; omega
          have d4 : decide (8 < a1) = true := by simp; omega
          clear g
          go_enter Try.func4, Try.ntmps4
          go_wp2_with fail
          refine (works_any _).mono ?_
          rintro e w1 ⟨rfl, hb1⟩
          go_wp2_with fail
          go_ret
          exact ⟨rfl, hb1⟩
        · have d3 : decide (a1 < 1) = true := by simp; omega
          clear g
          go_enter Try.func4, Try.ntmps4
          go_wp2_with fail
          refine (works_any _).mono ?_
          rintro e w1 ⟨rfl, hb1⟩
          go_wp2_with fail
          go_ret
          exact ⟨rfl, hb1⟩
      · have d2 : decide ((300 : Int) < (a3.size : Int)) = true := by simp; omega
        clear g
        go_enter Try.func4, Try.ntmps4
        go_wp2_with fail
        refine (works_any _).mono ?_
        rintro e w1 ⟨rfl, hb1⟩
        go_wp2_with fail
        go_ret
        exact ⟨rfl, hb1⟩
    · have d1 : decide ((300 : Int) < (a2.size : Int)) = true := by simp; omega
      clear g
      go_enter Try.func4, Try.ntmps4
      go_wp2_with fail
      refine (works_any _).mono ?_
      rintro e w1 ⟨rfl, hb1⟩
      go_wp2_with fail
      go_ret
      exact ⟨rfl, hb1⟩

theorem own_OctetBack : ownKnob Try.prog.godebug = none := by kernel_rfl
set_option maxRecDepth 100000 in
set_option maxHeartbeats 800000 in
theorem lifted_OctetBack (os : Os) (started : os.Started) (H : Type) (enc : TypeId × Value → H) :
    ReturnsInHanded {} Try.checked os 4 .any (Rows.octetBackSpec.pre6 enc Try.prog Try.f4 Rows.octetBackRow.domain false) (Rows.octetBackSpec.post enc Try.prog Try.f4 false true false false) := by
  refine returnsInHanded_of_change (C := Try.checked) own_OctetBack started (by kernel_rfl) Try.func4
    (ChangeSpec.witness6 (enc := enc) (C := Try.checked) false ⟨#[], #[.int .u64 0, .int .i64 0, .string ⟨#[]⟩, .string ⟨#[]⟩], []⟩ 8 (by kernel_rfl) (by kernel_rfl) (by kernel_rfl) (by kernel_rfl)) ?_
  intro W base args ds gs before hval0 hW _ _
  have hval : ∀ (j : Nat) t v, Try.f4.params[j]? = some t → args[j]? = some v → Value.okWide Try.prog W .any base t v := hval0
  have hW' := hW
  obtain ⟨p, q, hA0, hV, rfl, _, _⟩ := hW
  have hA : DataW.TrodAll enc Try.prog W 0 (fun _ => true) true Try.f4.params.toList args.toList ds p := hA0
  rw [Try.params4] at hA hval
  obtain ⟨v0, vs0, d0, ds0, p0, q0, ha0, rfl, rfl, t0, r0⟩ := trodAll_cons hA
  obtain ⟨v1, vs1, d1, ds1, p1, q1, ha1, rfl, rfl, t1, r1⟩ := trodAll_cons r0
  obtain ⟨v2, vs2, d2, ds2, p2, q2, ha2, rfl, rfl, t2, r2⟩ := trodAll_cons r1
  obtain ⟨v3, vs3, d3, ds3, p3, q3, ha3, rfl, rfl, t3, r3⟩ := trodAll_cons r2
  obtain ⟨rfl, rfl, rfl⟩ := trodAll_nil r3
  subst ha3
  subst ha2
  subst ha1
  obtain rfl : args = #[v0, v1, v2, v3] := by cases args; simp_all
  obtain ⟨rfl, rfl⟩ := trodVars_none hV
  obtain ⟨a0, rfl, rfl, rfl, h0⟩ := open_int Try.underlying22 (hval 0 22 v0 rfl rfl) t0
  obtain ⟨a1, rfl, rfl, rfl, h1⟩ := open_int Try.underlying3 (hval 1 3 v1 rfl rfl) t1
  obtain ⟨a2, rfl, rfl, rfl, h2⟩ := open_string Try.underlying9 (hval 2 9 v2 rfl rfl) t2
  obtain ⟨a3, rfl, rfl, rfl, h3⟩ := open_string Try.underlying9 (hval 3 9 v3 rfl rfl) t3
  clear hA0 hval0
  simp only [List.append_nil] at hW'
  refine (walk_OctetBack a0 a1 a2 a3 h0 h1 h2 h3 W).mono fun e W' ⟨he, hnx⟩ => ?_
  subst he
  exact ⟨_, rfl, ⟨_, _, _, [], [], [], hW', trodAll_cons_mk (shut_bool Try.underlying4 _) trodAll_mk0, (trodAll_cons_mk (shut_int Try.underlying22 h0) (trodAll_cons_mk (shut_int Try.underlying3 h1) (trodAll_cons_mk (shut_string Try.underlying9 h2) (trodAll_cons_mk (shut_string Try.underlying9 h3) trodAll_mk0)))), rfl, hnx.frame _, fun h => by cases h⟩⟩

theorem octetBack_holds : Rows.OctetBackSaid :=
  OpenClaim.holds_of_wide 4 Try.f4 rfl rfl rfl rfl rfl rfl rfl ⟨rfl, rfl, rfl, rfl, rfl⟩ rfl rfl rfl rfl rfl (by kernel_rfl) Try.func4 (by kernel_rfl)
    (of_decide_eq_true (by kernel_rfl)) (by unfold Func.isWrapper; first | (rw [if_pos (by decide +kernel)]; kernel_rfl) | (rw [if_neg (by decide +kernel)]; exact ⟨rfl, rfl⟩))
    (fun os started H enc _ => lifted_OctetBack os started H enc)

#print axioms octetBack_holds
end Go.Proofs.Ytiflnjhgdbeelaa
