/-
  The document's answer for packet (package gangplankref07): Right.
-/
import Derived.Test.YtcdgcjpdlhknoaaPktR
import Derived.Test.YtcdgcjpdlhknoaaPktG
namespace Go.Proofs.Ytcdgcjpdlhknoaa.Pkt
open Go.RowKit Go.Shelf Txt Rgn

set_option maxRecDepth 100000 in
set_option maxHeartbeats 8000000 in
theorem Right_any (V : Int) (x y : ByteArray) (F T p : Int) (b : Bool) (hb : right V x y F T p ↔ b = true) : Tells 38 #[keyV V x y F T p] (.bool b) := by
  intro w
  have P0 := Lib.hid (keyed_new w V x y F T p)
  have B0 := Lib.hid (below_alloc w (.cells (keyC V x y F T p) 24))
  obtain ⟨k0, k1, k2, k3, k4, k5⟩ := P0.out.cells
  have HB := Lib.hid hb
  clear hb
  go_enter Try.func38, Try.ntmps38
  go_wp2_with fail
  all_goals
    clear k0 k1 k2 k3 k4 k5 P0 B0
    go_ret
    refine ⟨congrArg (fun c => Ending.returned (Value.bool c)) (?_ : _ = b), below_alloc w _⟩
    rw [Bool.eq_iff_iff, ← HB.out]
    clear HB
    unfold right
    first
      | omega
      | (simp only [Bool.or_eq_true, beq_iff_eq]; omega)
      | (simp; omega)
end Go.Proofs.Ytcdgcjpdlhknoaa.Pkt
