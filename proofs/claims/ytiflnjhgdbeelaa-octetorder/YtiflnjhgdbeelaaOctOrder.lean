/-
  OctetOrder: for every v and w the law OctetOrder answers true: numbers stand in the order of their eight bytes. No condition.
-/
import Derived.Test.YtiflnjhgdbeelaaRows
import Derived.Test.YtiflnjhgdbeelaaOctE
import Derived.ProofKit
import Derived.OpenShut
import Derived.ChangeMaps5
namespace Go.Proofs.Ytiflnjhgdbeelaa
open Go.ChangeShapes Go.WideShapes Go.ChangeAt Go.RowKit
open Go.ChangeMaps (open_string shut_string)
open Oct

theorem num_cons (a : UInt8) (l : List UInt8) : num (a :: l) = a.toNat * 256 ^ l.length + num l := by
  have h := num_append [a] l
  simpa [num] using h
theorem less_num : ∀ l k : List UInt8, l.length = k.length → Op.bytesLess l k = decide (num l < num k)
  | [], [], _ => by simp [Op.bytesLess]
  | [], _ :: _, h => by simp at h
  | _ :: _, [], h => by simp at h
  | a :: l, b :: k, h => by
    have hl : l.length = k.length := by simpa using h
    have ih := less_num l k hl
    have h1 := num_lt l
    have h2 := num_lt k
    rw [← hl] at h2
    rw [Op.bytesLess, ih, num_cons, num_cons, ← hl]
    generalize 256 ^ l.length = M at *
    rcases Nat.lt_trichotomy a.toNat b.toNat with e | e | e
    · have ea : a < b := UInt8.lt_iff_toNat_lt.2 e
      have : a.toNat * M + num l < b.toNat * M + num k := by
        have : (a.toNat + 1) * M ≤ b.toNat * M := Nat.mul_le_mul_right _ e
        rw [Nat.add_mul] at this; omega
      simp [ea, this]
    · have ea : a = b := UInt8.toNat_inj.1 e
      subst ea
      simp
    · have e1 : ¬ a < b := fun hh => by have := UInt8.lt_iff_toNat_lt.1 hh; omega
      have e2 : ¬ a = b := fun hh => by subst hh; omega
      have : ¬ a.toNat * M + num l < b.toNat * M + num k := by
        have : (b.toNat + 1) * M ≤ a.toNat * M := Nat.mul_le_mul_right _ e
        rw [Nat.add_mul] at this; omega
      simp [e1, e2, this]
theorem less8 (v u : Nat) (hv : v < 18446744073709551616) (hu : u < 18446744073709551616) : Op.bytesLess (Oct.bytes v 8) (Oct.bytes u 8) = decide (v < u) := by
  rw [less_num _ _ (by simp [bytes_length]), num_bytes, num_bytes, Nat.mod_eq_of_lt (by simpa using hv), Nat.mod_eq_of_lt (by simpa using hu)]
theorem eq8 (v u : Nat) (hv : v < 18446744073709551616) (hu : u < 18446744073709551616) : (Oct.bytes v 8 == Oct.bytes u 8) = ((v : Int) == (u : Int)) := by
  rw [Bool.eq_iff_iff, beq_iff_eq, beq_iff_eq]
  constructor
  · intro h
    have := congrArg num h
    rw [num_bytes, num_bytes, Nat.mod_eq_of_lt (by simpa using hv), Nat.mod_eq_of_lt (by simpa using hu)] at this
    omega
  · intro h
    rw [show v = u by omega]

set_option maxRecDepth 100000 in
set_option maxHeartbeats 800000 in
theorem walk_OctetOrder (a0 a1 : Int) (h0 : (Lit.int .u64 a0).wf = true) (h1 : (Lit.int .u64 a1).wf = true) (w : World) :
    Calls Try.prog 7 #[.int .u64 a0, .int .u64 a1] w fun e W' => e = .returned (.bool true) ∧ Below w.heap.size w W' := by
  have b0 := bounds_u64 h0
  have b1 := bounds_u64 h1
  clear h0 h1
  obtain ⟨v, rfl⟩ := Int.eq_ofNat_of_zero_le b0.1
  obtain ⟨u, rfl⟩ := Int.eq_ofNat_of_zero_le b1.1
  have HL : Hid (Op.bytesLess (Oct.bytes v 8) (Oct.bytes u 8) = decide (v < u)) := Lib.hid (less8 v u (by omega) (by omega))
  have HE : Hid ((Oct.bytes v 8 == Oct.bytes u 8) = ((v : Int) == (u : Int))) := Lib.hid (eq8 v u (by omega) (by omega))
  go_enter Try.func7, Try.ntmps7
  go_wp2_with fail
  refine (works_any _).mono ?_
  rintro e w1 ⟨rfl, hb1⟩
  go_wp2_with fail
  refine (Put_yes _ _ _ (by omega) (by omega) (by decide)).mono ?_
  rintro e w2 ⟨rfl, hb2⟩
  go_wp2_with fail
  refine (Put_yes _ _ _ (by omega) (by omega) (by decide)).mono ?_
  rintro e w3 ⟨rfl, hb3⟩
  go_wp2_with fail
  go_ret
  exact ⟨by rw [HE.out]; simp, below2 (below2 hb1 hb2) hb3⟩

theorem own_OctetOrder : ownKnob Try.prog.godebug = none := by kernel_rfl
set_option maxRecDepth 100000 in
set_option maxHeartbeats 800000 in
theorem lifted_OctetOrder (os : Os) (started : os.Started) (H : Type) (enc : TypeId × Value → H) :
    ReturnsInHanded {} Try.checked os 7 .any (Rows.octetOrderSpec.pre6 enc Try.prog Try.f7 Rows.octetOrderRow.domain false) (Rows.octetOrderSpec.post enc Try.prog Try.f7 false true false false) := by
  refine returnsInHanded_of_change (C := Try.checked) own_OctetOrder started (by kernel_rfl) Try.func7
    (ChangeSpec.witness6 (enc := enc) (C := Try.checked) false ⟨#[], #[.int .u64 0, .int .u64 0], []⟩ 8 (by kernel_rfl) (by kernel_rfl) (by kernel_rfl) (by kernel_rfl)) ?_
  intro W base args ds gs before hval0 hW _ _
  have hval : ∀ (j : Nat) t v, Try.f7.params[j]? = some t → args[j]? = some v → Value.okWide Try.prog W .any base t v := hval0
  have hW' := hW
  obtain ⟨p, q, hA0, hV, rfl, _, _⟩ := hW
  have hA : DataW.TrodAll enc Try.prog W 0 (fun _ => true) true Try.f7.params.toList args.toList ds p := hA0
  rw [Try.params7] at hA hval
  obtain ⟨v0, vs0, d0, ds0, p0, q0, ha0, rfl, rfl, t0, r0⟩ := trodAll_cons hA
  obtain ⟨v1, vs1, d1, ds1, p1, q1, ha1, rfl, rfl, t1, r1⟩ := trodAll_cons r0
  obtain ⟨rfl, rfl, rfl⟩ := trodAll_nil r1
  subst ha1
  obtain rfl : args = #[v0, v1] := by cases args; simp_all
  obtain ⟨rfl, rfl⟩ := trodVars_none hV
  obtain ⟨a0, rfl, rfl, rfl, h0⟩ := open_int Try.underlying22 (hval 0 22 v0 rfl rfl) t0
  obtain ⟨a1, rfl, rfl, rfl, h1⟩ := open_int Try.underlying22 (hval 1 22 v1 rfl rfl) t1
  clear hA0 hval0
  simp only [List.append_nil] at hW'
  refine (walk_OctetOrder a0 a1 h0 h1 W).mono fun e W' ⟨he, hnx⟩ => ?_
  subst he
  exact ⟨_, rfl, ⟨_, _, _, [], [], [], hW', trodAll_cons_mk (shut_bool Try.underlying4 _) trodAll_mk0, (trodAll_cons_mk (shut_int Try.underlying22 h0) (trodAll_cons_mk (shut_int Try.underlying22 h1) trodAll_mk0)), rfl, hnx.frame _, fun h => by cases h⟩⟩

theorem octetOrder_holds : Rows.OctetOrderSaid :=
  OpenClaim.holds_of_wide 7 Try.f7 rfl rfl rfl rfl rfl rfl rfl ⟨rfl, rfl, rfl, rfl, rfl⟩ rfl rfl rfl rfl rfl (by kernel_rfl) Try.func7 (by kernel_rfl)
    (of_decide_eq_true (by kernel_rfl)) (by unfold Func.isWrapper; first | (rw [if_pos (by decide +kernel)]; kernel_rfl) | (rw [if_neg (by decide +kernel)]; exact ⟨rfl, rfl⟩))
    (fun os started H enc _ => lifted_OctetOrder os started H enc)

#print axioms octetOrder_holds
end Go.Proofs.Ytiflnjhgdbeelaa
