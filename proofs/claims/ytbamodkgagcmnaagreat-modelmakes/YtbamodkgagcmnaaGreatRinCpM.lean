/-
  Rings: of a pool, where a hash goes to, as the program tells it (package ring: of, Pick).
-/
import Derived.Test.YtbamodkgagcmnaaGreatBRinM
import Derived.Test.YtbamodkgagcmnaaGreatBPtpM
import Derived.BigQuiet
import Derived.WalkSmall
import Derived.Deep.RegionHeld3
set_option maxRecDepth 100000
namespace Go.Proofs.YtbamodkgagcmnaaGreat.Rin
open Go.RowKit Go.Shelf
open Pts (Pt ptV ptsV Lies Rise less ofL hsh Of_told ofL_rise)
open Pol (below2 below_alloc Bk polV)

/-- A pool's question. -/
abbrev askV (a : Option Addr) (cap : Nat) (L : List Pt) : Value := .func (.func 107) #[ptsV a cap L] #[]
set_option maxHeartbeats 400000 in
theorem of_told (a : Option Addr) (cap : Nat) (z : List Bk) (w : World) (hz : Pol.Lies w a cap z) (hl : z.length ≤ 1000000000) :
    Calls Tryz.prog 72 #[polV a cap z] w fun e W' => ∃ aP cP, e = .returned (askV aP cP (ofL hsh z)) ∧ Lies W' aP cP (ofL hsh z) ∧ Below w.heap.size w W' := by
  have C := Lib.hid (Of_told a cap z w hz hl)
  clear hz
  generalize ofL hsh z = L at *
  go_enter Tryz.func72, Tryz.ntmps72
  go_wp2_with fail
  refine C.out.mono ?_
  rintro e w1 ⟨v, rfl, ⟨aP, cP, rfl, hP⟩, hb⟩
  have P1 := Lib.hid hP
  have B1 := Lib.hid hb
  clear hP hb C
  go_wp2_with fail
  go_ret
  exact ⟨aP, cP, rfl, P1.out, B1.out⟩
set_option maxHeartbeats 400000 in
theorem Pick_told (a : Option Addr) (cap : Nat) (z : List Bk) (h : Int) (w : World) (hz : Pol.Lies w a cap z) (hl : z.length ≤ 1000000000) :
    Calls Tryz.prog 31 #[polV a cap z, .int .u64 h] w fun e W' => e = .returned (.int .i64 (succL (ofL hsh z) h)) ∧ Below w.heap.size w W' := by
  have C := Lib.hid (of_told a cap z w hz hl)
  have HR := Lib.hid (ofL_rise hsh z)
  clear hz
  generalize ofL hsh z = L at *
  go_enter Tryz.func31, Tryz.ntmps31
  go_wp2_with fail
  refine C.out.mono ?_
  rintro e w1 ⟨aP, cP, rfl, hP, hb⟩
  have P1 := Lib.hid hP
  have B1 := Lib.hid hb
  clear hP hb C
  go_wp2_with fail
  refine (succ_told aP cP L h w1 P1.out).mono ?_
  rintro e w2 ⟨⟨r, rfl, ht⟩, rfl⟩
  have HE := Lib.hid (told_rise ht HR.out)
  clear ht
  go_wp2_with fail
  go_ret
  exact ⟨by rw [← HE.out]; rfl, B1.out⟩
end Go.Proofs.YtbamodkgagcmnaaGreat.Rin
