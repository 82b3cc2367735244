/-
  Rings: of a pool, where a hash goes to, as the document tells it (package gangplankref10: Pick).
-/
import Derived.Test.YtefdnnmgmdaapaaGreatRinB
import Derived.Test.YtefdnnmgmdaapaaGreatPtsR
import Derived.BigQuiet
import Derived.WalkSmall
import Derived.Deep.RegionHeld3
namespace Go.Proofs.YtefdnnmgmdaapaaGreat.Rin
open Go.RowKit Go.Shelf
open Pts (Pt ptV ptsV Lies Rise less ofL hsh refOf_any ofL_rise)
open Pol (below2 below_alloc Bk polV)

set_option maxHeartbeats 400000 in
theorem refPick_any (a : Option Addr) (cap : Nat) (z : List Bk) (h : Int) (w : World) (hz : Pol.Lies w a cap z) (hl : z.length ≤ 1000000) :
    Calls Tryz.prog 28 #[polV a cap z, .int .u64 h] w fun e W' => e = .returned (.int .i64 (succL (ofL hsh z) h)) ∧ Below w.heap.size w W' := by
  have C := Lib.hid (refOf_any a cap z w hz hl)
  clear hz
  generalize ofL hsh z = L at *
  go_enter Tryz.func28, Tryz.ntmps28
  go_wp2_with fail
  refine C.out.mono ?_
  rintro e w1 ⟨v, rfl, ⟨aP, cP, rfl, hP⟩, hb⟩
  have P1 := Lib.hid hP
  have B1 := Lib.hid hb
  clear hP hb C
  go_wp2_with fail
  refine (refSucc_any aP cP L h w1 P1.out).mono ?_
  rintro e w2 ⟨rfl, rfl⟩
  go_wp2_with fail
  go_ret
  exact ⟨rfl, B1.out⟩
end Go.Proofs.YtefdnnmgmdaapaaGreat.Rin
