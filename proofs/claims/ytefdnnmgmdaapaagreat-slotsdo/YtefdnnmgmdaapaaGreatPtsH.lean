/-
  Points: where a point is (the document's Hash, package gangplankref09).
-/
import Derived.Test.YtefdnnmgmdaapaaGreatBPtq
import Derived.Test.YtefdnnmgmdaapaaGreatBOct
import Derived.Test.YtefdnnmgmdaapaaGreatBFnv
import Derived.Deep.RegionHeld3
namespace Go.Proofs.YtefdnnmgmdaapaaGreat.Pts
open Go.RowKit Go.Shelf
open Pol (below2 below_alloc)

/-- What is read of the document's Put: a text under a name of its own. -/
theorem refPut_some (v : Int) (k : Nat) (w : World) (hv : 0 ≤ v ∧ v ≤ 18446744073709551615) (h : 1 ≤ k ∧ k ≤ 8) :
    Calls Tryz.prog 54 #[.int .u64 v, .int .i64 (k : Int)] w fun e W' => ∃ S : ByteArray, e = .returned (.string S) ∧ S.size ≤ 8 ∧ Hid (S = Oct.str (Oct.bytes v.toNat k)) ∧ Below w.heap.size w W' := by
  refine (Oct.refPut_yes v k w hv.1 hv.2 (by omega)).mono ?_
  rintro e W' ⟨rfl, hb⟩
  refine ⟨_, rfl, ?_, Lib.hid rfl, hb⟩
  have : (Oct.str (Oct.bytes v.toNat ((k : Int)).toNat)).size = k := by simp [ByteArray.size, Oct.bytes_length]
  omega

set_option maxRecDepth 100000 in
set_option maxHeartbeats 2000000 in
theorem refHash_any (id n : Int) (w : World) :
    Calls Tryz.prog 48 #[.int .i64 id, .int .i64 n] w fun e W' => e = .returned (.int .u64 (hashV id n)) ∧ Below w.heap.size w W' := by
  have u1 := uw_in id
  have u2 := uw_in n
  have hp1 := refPut_some (uw id) 4
  have hp2 := refPut_some (uw n) 2
  unfold uw at hp1 hp2 u1 u2
  go_enter Tryz.func48, Tryz.ntmps48
  go_wp2_with fail
  refine (hp1 _ u1 (by omega)).mono ?_
  rintro e w1 ⟨S, rfl, hS, HS, hb1⟩
  go_wp2_with fail
  refine (hp2 _ u2 (by omega)).mono ?_
  rintro e w2 ⟨R, rfl, hR, HR, hb2⟩
  have a1 : ∀ u : World, (Op.stringOp .add S R).run Tryz.prog u = .ok (.string (S ++ R)) u := fun u => run_string_add_sum u S R (by omega)
  have a2 : ∀ u : World, (Op.stringOp .add (S ++ R) ⟨#[0, 0, 0, 0]⟩).run Tryz.prog u = .ok (.string (S ++ R ++ ⟨#[0, 0, 0, 0]⟩)) u := fun u => run_string_add_sum u _ _ (by
    have h4 : (⟨#[0, 0, 0, 0]⟩ : ByteArray).size = 4 := rfl
    rw [ByteArray.size_append, h4]; omega)
  have hz : (S ++ R ++ ⟨#[0, 0, 0, 0]⟩ : ByteArray).size ≤ 4611686018427387904 := by
    have h4 : (⟨#[0, 0, 0, 0]⟩ : ByteArray).size = 4 := rfl
    rw [ByteArray.size_append, ByteArray.size_append, h4]; omega
  have HZ := Lib.hid (show S ++ R ++ ⟨#[0, 0, 0, 0]⟩ = hashS id n by rw [HS.out, HR.out]; rfl)
  go_wp2_with fail
  refine (Fnv.refSum_any _ _ hz).mono ?_
  rintro e w3 ⟨he, rfl⟩
  have he : e = .returned (.int .u64 (hashV id n)) := by rw [he, HZ.out]; rfl
  subst he
  go_wp2_with fail
  go_ret
  exact ⟨rfl, below2 hb1 hb2⟩
end Go.Proofs.YtefdnnmgmdaapaaGreat.Pts
