/-
  The document's examples of sum: the laws' 'works' answers true.
-/
import Derived.Test.YtmdidkjdobjbgaaSumB
import Derived.OpenShut
namespace Go.Proofs.Ytmdidkjdobjbgaa.Cks
open Go.RowKit Go.Shelf

/-- What lay when the first began lies as it lay behind the second. -/
theorem below2 {a b c : World} (h : Below a.heap.size a b) (k : Below b.heap.size b c) : Below a.heap.size a c := h.trans (k.mono h.size)

set_option maxRecDepth 100000 in
set_option maxHeartbeats 800000 in
theorem works_any (w : World) : Calls Try.prog 8 #[] w fun e W' => e = .returned (.bool true) ∧ Below w.heap.size w W' := by
  have G1 := Lib.hid (show fc (tot (ByteArray.mk #[255, 255, 0, 1]).data.toList) = 1 by decide)
  have G2 := Lib.hid (show fc (tot (ByteArray.mk #[1, 2]).data.toList) = 258 by decide)
  have G3 := Lib.hid (show fc (tot (ByteArray.mk #[]).data.toList) = 0 by decide)
  have G4 := Lib.hid (show fc (tot (ByteArray.mk #[255, 255]).data.toList) = 65535 by decide)
  have G5 := Lib.hid (show fc (tot (ByteArray.mk #[1]).data.toList) = 256 by decide)
  go_enter Try.func8, Try.ntmps8
  go_wp2_with fail
  refine (Fold_any _ (by decide) _).mono ?_
  rintro e w1 ⟨rfl, hb1⟩
  rw [G1.out]
  go_wp2_with fail
  refine (Sum_any _ (by decide) _).mono ?_
  rintro e w2 ⟨rfl, hb2⟩
  rw [G2.out, show ((65535 : Int) - (258 : Nat)) = 65277 from rfl]
  go_wp2_with fail
  refine (Sum_any _ (by decide) _).mono ?_
  rintro e w3 ⟨rfl, hb3⟩
  rw [G3.out, show ((65535 : Int) - (0 : Nat)) = 65535 from rfl]
  go_wp2_with fail
  refine (Good_any _ (by decide) _).mono ?_
  rintro e w4 ⟨rfl, hb4⟩
  rw [G4.out, show decide ((65535 : Nat) = 65535) = true from rfl]
  go_wp2_with fail
  refine (Good_any _ (by decide) _).mono ?_
  rintro e w5 ⟨rfl, hb5⟩
  rw [G3.out, show decide ((0 : Nat) = 65535) = false from rfl]
  go_wp2_with fail
  refine (Fold_any _ (by decide) _).mono ?_
  rintro e w6 ⟨rfl, hb6⟩
  rw [G5.out]
  go_wp2_with fail
  go_ret
  exact ⟨rfl, below2 (below2 (below2 (below2 (below2 hb1 hb2) hb3) hb4) hb5) hb6⟩

end Go.Proofs.Ytmdidkjdobjbgaa.Cks
