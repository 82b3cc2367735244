/-
  Rings: where a hash goes to, as the document tells it (package gangplankref10: Succ).
-/
import Derived.Test.YtefdnnmgmdaapaaGreatBRin
import Derived.Test.YtefdnnmgmdaapaaGreatPtsC
import Derived.BigQuiet
import Derived.WalkSmall
import Derived.Deep.RegionHeld3
namespace Go.Proofs.YtefdnnmgmdaapaaGreat.Rin
open Go.RowKit Go.Shelf
open Pts (Pt ptV ptsV Lies Rise less)
open Pol (below2 below_alloc)

/-- The first of those that are left. -/
theorem find_skip {L : List Pt} {h : Int} {k : Nat} (hno : ∀ j (hj : j < L.length), j < k → ¬ h ≤ L[j].1) (hk : k < L.length) (hx : h ≤ L[k].1) : succL L h = L[k].2 :=
  succL_some (List.find?_eq_some_iff_getElem.2 ⟨by simpa using hx, k, hk, rfl, fun j hj => by simpa using hno j (by omega) hj⟩)
theorem find_end {L : List Pt} {h : Int} (hno : ∀ j (hj : j < L.length), j < L.length → ¬ h ≤ L[j].1) (hk : 0 < L.length) : succL L h = L[0].2 := by
  cases L with
  | nil => simp at hk
  | cons p L => exact succL_none (List.find?_eq_none.2 fun x hx => by
      obtain ⟨j, hj, rfl⟩ := List.getElem_of_mem hx
      simpa using hno j hj hj)
set_option maxRecDepth 100000 in
set_option maxHeartbeats 1000000 in
theorem refSucc_any (a : Option Addr) (cap : Nat) (L : List Pt) (h : Int) (w : World) (hL : Lies w a cap L) :
    Calls Tryz.prog 42 #[ptsV a cap L, .int .u64 h] w fun e W' => e = .returned (.int .i64 (succL L h)) ∧ W' = w := by
  have H := Lib.hid hL
  have hlen := hL.len
  have hmax := hL.max
  unfold maxLen at hmax
  clear hL
  go_enter Tryz.func42, Tryz.ntmps42
  go_wp2
  go_loop [5] (fun i => ∃ k : Nat, k ≤ L.length ∧ i = .int .i64 k ∧ ∀ j (hj : j < L.length), j < k → ¬ h ≤ L[j].1) (fun i => L.length - (intOf i).toNat)
  case atStart => exact ⟨0, Nat.zero_le _, rfl, fun j _ h => absurd h (by omega)⟩
  case round =>
    obtain ⟨k, hk, rfl, hno⟩ := hrel
    have HN := Lib.hid hno
    clear hno
    by_cases hlt : k < L.length
    · obtain ⟨b, off, rfl, c0, c1⟩ := H.out.at hlt
      by_cases hx : h ≤ L[k].1
      · have dx : decide (h ≤ L[k].1) = true := decide_eq_true hx
        have HV := Lib.hid (find_skip HN.out hlt hx)
        clear hx
        generalize L[k] = x at *
        go_wp2
        go_ret
        exact ⟨by rw [HV.out]; rfl, rfl⟩
      · have dx : decide (h ≤ L[k].1) = false := decide_eq_false hx
        have HV := Lib.hid (show ∀ j (hj : j < L.length), j < k + 1 → ¬ h ≤ L[j].1 from fun j hj hjk => by
          rcases Nat.lt_or_ge j k with h' | h'
          · exact HN.out j hj h'
          · have : j = k := by omega
            subst this; exact hx)
        clear hx
        generalize L[k] = x at *
        go_wp2
        refine ⟨⟨k + 1, by omega, by go_num, HV.out⟩, by simp [intOf]; omega⟩
    · obtain rfl : k = L.length := by omega
      by_cases h0 : L.length = 0
      · obtain rfl : L = [] := List.eq_nil_of_length_eq_zero h0
        go_wp2
        go_ret
        exact ⟨rfl, rfl⟩
      · have d0 : ((L.length : Int) == 0) = false := beq_false_of_ne (by omega)
        have hp : 0 < L.length := by omega
        obtain ⟨b, off, rfl, c0, c1⟩ := H.out.at hp
        have HV := Lib.hid (find_end HN.out hp)
        generalize L[0] = x at *
        go_wp2
        go_ret
        exact ⟨by rw [HV.out]; rfl, rfl⟩
end Go.Proofs.YtefdnnmgmdaapaaGreat.Rin
