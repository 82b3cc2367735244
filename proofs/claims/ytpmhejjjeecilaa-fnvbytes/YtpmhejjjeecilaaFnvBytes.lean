/-
  FnvBytes: for every h, b, c and s the law FnvBytes answers true: one byte that is another one makes another hash, whatever stands behind. No condition.
-/
import Derived.Test.YtpmhejjjeecilaaRows
import Derived.Test.YtpmhejjjeecilaaFnvD
import Derived.ProofKit
import Derived.OpenShut
import Derived.ChangeMaps5
namespace Go.Proofs.Ytpmhejjjeecilaa
open Go.ChangeShapes Go.WideShapes Go.ChangeAt Go.RowKit
open Go.ChangeMaps (open_string shut_string)
open Fnv

set_option maxRecDepth 100000 in
set_option maxHeartbeats 800000 in
theorem walk_FnvBytes (a0 a1 a2 : Int) (a3 : ByteArray) (h0 : (Lit.int .u64 a0).wf = true) (h1 : (Lit.int .u8 a1).wf = true) (h2 : (Lit.int .u8 a2).wf = true) (h3 : a3.size ≤ maxLen) (w : World) :
    Calls Try.prog 6 #[.int .u64 a0, .int .u8 a1, .int .u8 a2, .string a3] w fun e W' => e = .returned (.bool true) ∧ Below w.heap.size w W' := by
  have b0 := bounds_u64 h0
  obtain ⟨b, rfl⟩ := byte_of h1
  obtain ⟨c, rfl⟩ := byte_of h2
  clear h0 h1 h2
  unfold maxLen at h3
  by_cases g1 : (300 : Int) < (a3.size : Int)
  · have d1 : decide ((300 : Int) < (a3.size : Int)) = true := by simpa using g1
    go_enter Try.func6, Try.ntmps6
    go_wp2_with fail
    refine (works_any _).mono ?_
    rintro e w1 ⟨rfl, hb1⟩
    go_wp2_with fail
    go_ret
    exact ⟨rfl, hb1⟩
  have d1 : decide ((300 : Int) < (a3.size : Int)) = false := by simpa using g1
  obtain ⟨h, rfl⟩ := Int.eq_ofNat_of_zero_le b0.1
  by_cases hk : b = c
  · subst hk
    go_enter Try.func6, Try.ntmps6
    go_wp2_with fail
    refine (works_any _).mono ?_
    rintro e w1 ⟨rfl, hb1⟩
    go_wp2_with fail
    refine (Next_any h b _ (by omega)).mono ?_
    rintro e w2 ⟨rfl, rfl⟩
    go_wp2_with fail
    refine (Join_any _ a3 _ (by omega) (nx_lt _ _)).mono ?_
    rintro e w3 ⟨rfl, hb3⟩
    go_wp2_with fail
    refine (Next_any h b _ (by omega)).mono ?_
    rintro e w4 ⟨rfl, rfl⟩
    go_wp2_with fail
    refine (Join_any _ a3 _ (by omega) (nx_lt _ _)).mono ?_
    rintro e w5 ⟨rfl, hb5⟩
    go_wp2_with fail
    go_ret
    exact ⟨rfl, below2 (below2 hb1 hb3) hb5⟩
  · have hn : ¬ b.toNat = c.toNat := fun e => hk (UInt8.toNat_inj.1 e)
    have N1 := Lib.hid (show ((b.toNat : Int) == (c.toNat : Int)) = false from beq_false_of_ne (by omega))
    have hj : ¬ jn (nx h b) a3.data.toList = jn (nx h c) a3.data.toList := fun e => hk (nx_byte (by omega) (jn_inj a3.data.toList (nx_lt _ _) (nx_lt _ _) e))
    have N2 := Lib.hid (show (((jn (nx h b) a3.data.toList : Nat) : Int) == ((jn (nx h c) a3.data.toList : Nat) : Int)) = false from beq_false_of_ne (by omega))
    clear hj hk hn
    go_enter Try.func6, Try.ntmps6
    go_wp2_with fail
    refine (works_any _).mono ?_
    rintro e w1 ⟨rfl, hb1⟩
    go_wp2_with fail
    refine (Next_any h b _ (by omega)).mono ?_
    rintro e w2 ⟨rfl, rfl⟩
    go_wp2_with fail
    refine (Join_any _ a3 _ (by omega) (nx_lt _ _)).mono ?_
    rintro e w3 ⟨rfl, hb3⟩
    go_wp2_with fail
    refine (Next_any h c _ (by omega)).mono ?_
    rintro e w4 ⟨rfl, rfl⟩
    go_wp2_with fail
    refine (Join_any _ a3 _ (by omega) (nx_lt _ _)).mono ?_
    rintro e w5 ⟨rfl, hb5⟩
    go_wp2_with fail
    go_ret
    exact ⟨by rw [N1.out, N2.out]; rfl, below2 (below2 hb1 hb3) hb5⟩

theorem own_FnvBytes : ownKnob Try.prog.godebug = none := by kernel_rfl
set_option maxRecDepth 100000 in
set_option maxHeartbeats 800000 in
theorem lifted_FnvBytes (os : Os) (started : os.Started) (H : Type) (enc : TypeId × Value → H) :
    ReturnsInHanded {} Try.checked os 6 .any (Rows.fnvBytesSpec.pre6 enc Try.prog Try.f6 Rows.fnvBytesRow.domain false) (Rows.fnvBytesSpec.post enc Try.prog Try.f6 false true false false) := by
  refine returnsInHanded_of_change (C := Try.checked) own_FnvBytes started (by kernel_rfl) Try.func6
    (ChangeSpec.witness6 (enc := enc) (C := Try.checked) false ⟨#[], #[.int .u64 0, .int .u8 0, .int .u8 0, .string ⟨#[]⟩], []⟩ 8 (by kernel_rfl) (by kernel_rfl) (by kernel_rfl) (by kernel_rfl)) ?_
  intro W base args ds gs before hval0 hW _ _
  have hval : ∀ (j : Nat) t v, Try.f6.params[j]? = some t → args[j]? = some v → Value.okWide Try.prog W .any base t v := hval0
  have hW' := hW
  obtain ⟨p, q, hA0, hV, rfl, _, _⟩ := hW
  have hA : DataW.TrodAll enc Try.prog W 0 (fun _ => true) true Try.f6.params.toList args.toList ds p := hA0
  rw [Try.params6] at hA hval
  obtain ⟨v0, vs0, d0, ds0, p0, q0, ha0, rfl, rfl, t0, r0⟩ := trodAll_cons hA
  obtain ⟨v1, vs1, d1, ds1, p1, q1, ha1, rfl, rfl, t1, r1⟩ := trodAll_cons r0
  obtain ⟨v2, vs2, d2, ds2, p2, q2, ha2, rfl, rfl, t2, r2⟩ := trodAll_cons r1
  obtain ⟨v3, vs3, d3, ds3, p3, q3, ha3, rfl, rfl, t3, r3⟩ := trodAll_cons r2
  obtain ⟨rfl, rfl, rfl⟩ := trodAll_nil r3
  subst ha3
  subst ha2
  subst ha1
  obtain rfl : args = #[v0, v1, v2, v3] := by cases args; simp_all
  obtain ⟨rfl, rfl⟩ := trodVars_none hV
  obtain ⟨a0, rfl, rfl, rfl, h0⟩ := open_int Try.underlying22 (hval 0 22 v0 rfl rfl) t0
  obtain ⟨a1, rfl, rfl, rfl, h1⟩ := open_int Try.underlying5 (hval 1 5 v1 rfl rfl) t1
  obtain ⟨a2, rfl, rfl, rfl, h2⟩ := open_int Try.underlying5 (hval 2 5 v2 rfl rfl) t2
  obtain ⟨a3, rfl, rfl, rfl, h3⟩ := open_string Try.underlying9 (hval 3 9 v3 rfl rfl) t3
  clear hA0 hval0
  simp only [List.append_nil] at hW'
  refine (walk_FnvBytes a0 a1 a2 a3 h0 h1 h2 h3 W).mono fun e W' ⟨he, hnx⟩ => ?_
  subst he
  exact ⟨_, rfl, ⟨_, _, _, [], [], [], hW', trodAll_cons_mk (shut_bool Try.underlying4 _) trodAll_mk0, (trodAll_cons_mk (shut_int Try.underlying22 h0) (trodAll_cons_mk (shut_int Try.underlying5 h1) (trodAll_cons_mk (shut_int Try.underlying5 h2) (trodAll_cons_mk (shut_string Try.underlying9 h3) trodAll_mk0)))), rfl, hnx.frame _, fun h => by cases h⟩⟩

theorem fnvBytes_holds : Rows.FnvBytesSaid :=
  OpenClaim.holds_of_wide 6 Try.f6 rfl rfl rfl rfl rfl rfl rfl ⟨rfl, rfl, rfl, rfl, rfl⟩ rfl rfl rfl rfl rfl (by kernel_rfl) Try.func6 (by kernel_rfl)
    (of_decide_eq_true (by kernel_rfl)) (by unfold Func.isWrapper; first | (rw [if_pos (by decide +kernel)]; kernel_rfl) | (rw [if_neg (by decide +kernel)]; exact ⟨rfl, rfl⟩))
    (fun os started H enc _ => lifted_FnvBytes os started H enc)

#print axioms fnvBytes_holds
end Go.Proofs.Ytpmhejjjeecilaa
