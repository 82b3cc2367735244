/-
  Rings: of a pool, where a hash goes to, as the program tells it and as the document does (package ring: of, Pick; package gangplankref10: Rises, Pick, Moved).
-/
import Derived.Test.YtppbbhijlkfioaaRinB
import Derived.Test.YtppbbhijlkfioaaPolI
import Derived.Test.YtppbbhijlkfioaaNum
import Derived.Test.YtppbbhijlkfioaaBPtp
import Derived.Test.YtppbbhijlkfioaaPtsR
import Derived.BigQuiet
import Derived.WalkSmall
import Derived.Deep.RegionHeld3
namespace Go.Proofs.Ytppbbhijlkfioaa.Rin
open Go.RowKit Go.Shelf
open Pts (Pt ptV ptsV Lies Rise less ofL hsh Of_told refOf_any ofL_rise)
open Pol (below2 below_alloc Bk polV)
open Num (LiesN numsV)

theorem told_rise {L : List Pt} {h r : Int} (ht : Told L h r) (hr : Rise L) : r = succL L h := ht.2.2 hr

theorem rise_not {L : List Pt} {j : Nat} (hj : j + 1 < L.length) (h : less L[j + 1] L[j] = true) : ¬ Rise L := fun hr => by
  have := List.pairwise_iff_getElem.1 hr j (j + 1) (by omega) hj (by omega)
  unfold Pts.le at this
  rw [h] at this; cases this

set_option maxRecDepth 100000 in
set_option maxHeartbeats 1000000 in
theorem refRises_any (a : Option Addr) (cap : Nat) (L : List Pt) (w : World) (hL : Lies w a cap L) :
    Calls Try.prog 11 #[ptsV a cap L] w fun e W' => (∃ c, e = .returned (.bool c) ∧ (Rise L ↔ c = true)) ∧ Below w.heap.size w W' := by
  have H := Lib.hid hL
  have hlen := hL.len
  have hmax := hL.max
  unfold maxLen at hmax
  clear hL
  go_enter Try.func11, Try.ntmps11
  go_wp2
  go_loopw [3] (fun i W => ∃ k : Nat, 1 ≤ k ∧ (k ≤ L.length ∨ k = 1) ∧ i = .int .i64 k ∧ (∀ j (hj : j + 1 < L.length), j + 1 < k → less L[j + 1] L[j] = false) ∧ Below w.heap.size w W) (fun i _ => L.length - (intOf i).toNat)
  case atStart => exact ⟨1, Nat.le_refl _, .inr rfl, rfl, fun j _ h => absurd h (by omega), Below.refl _ _⟩
  case round =>
    obtain ⟨k, hk1, hk2, rfl, hno, hB⟩ := hrel
    have HN := Lib.hid hno
    have HB := Lib.hid hB
    clear hno hB
    by_cases hlt : k < L.length
    · have dlt : decide (k < L.length) = true := decide_eq_true hlt
      obtain ⟨j, hj⟩ : ∃ j, k = j + 1 := ⟨k - 1, by omega⟩
      have hjl : j < L.length := by omega
      obtain ⟨b, off, rfl, c0, c1⟩ := (H.out.kept HB.out).at hlt
      obtain ⟨b', off', e', y0, y1⟩ := (H.out.kept HB.out).at hjl
      cases e'
      have hw1 : IntKind.i64.wrap ((k : Int) - 1) = (j : Int) := by simp only [IntKind.wrap, IntKind.signed, IntKind.bits]; simp; omega
      cases hless : less L[k] L[j] with
      | true =>
        have HR := Lib.hid (show ¬ Rise L by subst hj; exact rise_not hlt hless)
        generalize L[k] = x at *
        generalize L[j] = y at *
        have C := fun W => Pts.refLess_any x y W
        rw [hless] at C
        have HJ := Lib.hid hj
        clear hj hless
        go_wp2_with fail
        go_region_held3 (fun W => Below wr.heap.size wr W ∧ W.cell? ⟨b, off + k * 2, none⟩ = some (.int .u64 x.1) ∧ W.cell? ⟨b, off + k * 2 + 1, none⟩ = some (.int .i64 x.2) ∧ W.cell? ⟨b, off + j * 2, none⟩ = some (.int .u64 y.1) ∧ W.cell? ⟨b, off + j * 2 + 1, none⟩ = some (.int .i64 y.2)) (first | exact ⟨(Below.refl _ wr).drew, c0, c1, y0, y1⟩ | exact Pts.two_keep (by assumption) hb)
          (first | (go_at_call 25; (with_reducible refine (C _).mono ?_); rintro e w3 ⟨rfl, hb⟩))
        rename_i hHeld
        have HB2 := Lib.hid (HB.out.trans (hHeld.1.mono HB.out.size))
        clear hHeld
        go_wp2
        go_ret
        exact ⟨⟨_, rfl, ⟨fun h => absurd h HR.out, fun h => by cases h⟩⟩, HB2.out⟩
      | false =>
        have HR := Lib.hid (show ∀ i (hi : i + 1 < L.length), i + 1 < k + 1 → less L[i + 1] L[i] = false from fun i hi hik => by
          rcases Nat.lt_or_ge (i + 1) k with h' | h'
          · exact HN.out i hi h'
          · have : i = j := by omega
            subst this; subst hj; exact hless)
        generalize L[k] = x at *
        generalize L[j] = y at *
        have C := fun W => Pts.refLess_any x y W
        rw [hless] at C
        have HJ := Lib.hid hj
        clear hj hless
        go_wp2_with fail
        go_region_held3 (fun W => Below wr.heap.size wr W ∧ W.cell? ⟨b, off + k * 2, none⟩ = some (.int .u64 x.1) ∧ W.cell? ⟨b, off + k * 2 + 1, none⟩ = some (.int .i64 x.2) ∧ W.cell? ⟨b, off + j * 2, none⟩ = some (.int .u64 y.1) ∧ W.cell? ⟨b, off + j * 2 + 1, none⟩ = some (.int .i64 y.2)) (first | exact ⟨(Below.refl _ wr).drew, c0, c1, y0, y1⟩ | exact Pts.two_keep (by assumption) hb)
          (first | (go_at_call 25; (with_reducible refine (C _).mono ?_); rintro e w3 ⟨rfl, hb⟩))
        rename_i hHeld
        have HB2 := Lib.hid (HB.out.trans (hHeld.1.mono HB.out.size))
        clear hHeld
        go_wp2
        go_roundw
        case rel => exact ⟨k + 1, by omega, .inl hlt, by go_num, HR.out, HB2.out⟩
        case measure => simp [intOf]; omega
    · have dlt : decide (k < L.length) = false := decide_eq_false hlt
      have HR := Lib.hid (show Rise L from rise_adj L fun i hi => HN.out i hi (by omega))
      go_wp2
      go_ret
      exact ⟨⟨_, rfl, ⟨fun _ => rfl, fun _ => HR.out⟩⟩, HB.out⟩

set_option maxHeartbeats 400000 in
theorem refPick_any (a : Option Addr) (cap : Nat) (z : List Bk) (h : Int) (w : World) (hz : Pol.Lies w a cap z) (hl : z.length ≤ 1000000) :
    Calls Try.prog 17 #[polV a cap z, .int .u64 h] w fun e W' => e = .returned (.int .i64 (succL (ofL hsh z) h)) ∧ Below w.heap.size w W' := by
  have C := Lib.hid (refOf_any a cap z w hz hl)
  clear hz
  generalize ofL hsh z = L at *
  go_enter Try.func17, Try.ntmps17
  go_wp2_with fail
  refine C.out.mono ?_
  rintro e w1 ⟨v, rfl, ⟨aP, cP, rfl, hP⟩, hb⟩
  have P1 := Lib.hid hP
  have B1 := Lib.hid hb
  clear hP hb C
  go_wp2_with fail
  refine (refSucc_any aP cP L h w1 P1.out).mono ?_
  rintro e w2 ⟨rfl, rfl⟩
  go_wp2_with fail
  go_ret
  exact ⟨rfl, B1.out⟩

/-- A pool's question. -/
abbrev askV (a : Option Addr) (cap : Nat) (L : List Pt) : Value := .func (.func 24) #[ptsV a cap L] #[]
set_option maxHeartbeats 400000 in
theorem of_told (a : Option Addr) (cap : Nat) (z : List Bk) (w : World) (hz : Pol.Lies w a cap z) (hl : z.length ≤ 1000000000) :
    Calls Try.prog 27 #[polV a cap z] w fun e W' => ∃ aP cP, e = .returned (askV aP cP (ofL hsh z)) ∧ Lies W' aP cP (ofL hsh z) ∧ Below w.heap.size w W' := by
  have C := Lib.hid (Of_told a cap z w hz hl)
  clear hz
  generalize ofL hsh z = L at *
  go_enter Try.func27, Try.ntmps27
  go_wp2_with fail
  refine C.out.mono ?_
  rintro e w1 ⟨v, rfl, ⟨aP, cP, rfl, hP⟩, hb⟩
  have P1 := Lib.hid hP
  have B1 := Lib.hid hb
  clear hP hb C
  go_wp2_with fail
  go_ret
  exact ⟨aP, cP, rfl, P1.out, B1.out⟩
set_option maxHeartbeats 400000 in
theorem Pick_told (a : Option Addr) (cap : Nat) (z : List Bk) (h : Int) (w : World) (hz : Pol.Lies w a cap z) (hl : z.length ≤ 1000000000) :
    Calls Try.prog 16 #[polV a cap z, .int .u64 h] w fun e W' => e = .returned (.int .i64 (succL (ofL hsh z) h)) ∧ Below w.heap.size w W' := by
  have C := Lib.hid (of_told a cap z w hz hl)
  have HR := Lib.hid (ofL_rise hsh z)
  clear hz
  generalize ofL hsh z = L at *
  go_enter Try.func16, Try.ntmps16
  go_wp2_with fail
  refine C.out.mono ?_
  rintro e w1 ⟨aP, cP, rfl, hP, hb⟩
  have P1 := Lib.hid hP
  have B1 := Lib.hid hb
  clear hP hb C
  go_wp2_with fail
  refine (succ_told aP cP L h w1 P1.out).mono ?_
  rintro e w2 ⟨⟨r, rfl, ht⟩, rfl⟩
  have HE := Lib.hid (told_rise ht HR.out)
  clear ht
  go_wp2_with fail
  go_ret
  exact ⟨by rw [← HE.out]; rfl, B1.out⟩
end Go.Proofs.Ytppbbhijlkfioaa.Rin
