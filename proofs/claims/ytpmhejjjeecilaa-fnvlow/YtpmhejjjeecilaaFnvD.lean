/-
  The document's examples of fnv: the laws' 'works' answers true.
-/
import Derived.Test.YtpmhejjjeecilaaFnvB
import Derived.OpenShut
namespace Go.Proofs.Ytpmhejjjeecilaa.Fnv
open Go.RowKit Go.Shelf

/-- What lay when the first began lies as it lay behind the second. -/
theorem below2 {a b c : World} (h : Below a.heap.size a b) (k : Below b.heap.size b c) : Below a.heap.size a c := h.trans (k.mono h.size)

/-- What is a byte is some byte's number. -/
theorem byte_of {x : Int} (h : (Lit.int .u8 x).wf = true) : ∃ b : UInt8, x = (b.toNat : Int) := by
  have hb := bounds_u8 h
  refine ⟨UInt8.ofNat x.toNat, ?_⟩
  rw [UInt8.toNat_ofNat', Nat.mod_eq_of_lt (by omega)]
  omega

set_option maxRecDepth 100000 in
set_option maxHeartbeats 800000 in
theorem works_any (w : World) : Calls Try.prog 9 #[] w fun e W' => e = .returned (.bool true) ∧ Below w.heap.size w W' := by
  have g1 : jn 14695981039346656037 [97] = 12638187200555641996 := by decide +kernel
  have g2 : nx 14695981039346656037 97 = 12638187200555641996 := by decide +kernel
  have G1 := Lib.hid g1
  have G2 := Lib.hid g2
  clear g1 g2
  go_enter Try.func9, Try.ntmps9
  go_wp2_with fail
  refine (Sum_any _ _ (by decide)).mono ?_
  rintro e w1 ⟨rfl, hb1⟩
  rw [show jn 14695981039346656037 (ByteArray.mk #[]).data.toList = 14695981039346656037 from rfl]
  go_wp2_with fail
  refine (Sum_any _ _ (by decide)).mono ?_
  rintro e w2 ⟨rfl, hb2⟩
  rw [show (ByteArray.mk #[97]).data.toList = [97] from rfl, G1.out]
  go_wp2_with fail
  refine (Next_any 14695981039346656037 97 _ (by decide)).mono ?_
  rintro e w3 ⟨rfl, rfl⟩
  rw [G2.out]
  go_wp2_with fail
  refine (Sum_any _ _ (by decide)).mono ?_
  rintro e w4 ⟨rfl, hb4⟩
  rw [show (ByteArray.mk #[97]).data.toList = [97] from rfl, G1.out]
  go_wp2_with fail
  refine (Join_any 14695981039346656037 _ _ (by decide) (by decide)).mono ?_
  rintro e w5 ⟨rfl, hb5⟩
  rw [show (ByteArray.mk #[97]).data.toList = [97] from rfl, G1.out]
  go_wp2_with fail
  refine (Sum_any _ _ (by decide)).mono ?_
  rintro e w6 ⟨rfl, hb6⟩
  rw [show (ByteArray.mk #[97]).data.toList = [97] from rfl, G1.out]
  go_wp2_with fail
  go_ret
  exact ⟨rfl, below2 (below2 (below2 (below2 hb1 hb2) hb4) hb5) hb6⟩
end Go.Proofs.Ytpmhejjjeecilaa.Fnv
