/-
  A region that draws its order, by one invariant: operations yield values that are known ahead, and the world is in a state that hangs on which are done.
-/
import Derived.Test.YthokjkllmflgkaaRgn
namespace Go.Proofs.Ythokjkllmflgkaa.Rgn
open Go Go.RowKit

/-- An operation without a guard is done. -/
theorem free_wanted {o : Oper} {y : Nat → Option Bool} (h : o.guard = none) {A B : Prop} (hA : A) : if Region.wanted o y = true then A else B := by
  rw [if_pos (by unfold Region.wanted; rw [h])]; exact hA

/-- Each operation yields its value (the first m), and the world is as J says. -/
structure InvJ (m : Nat) (vals : Nat → Value) (J : (Nat → Bool) → World → Prop) (d : Nat → Bool) (x : Nat → Value) (w : World) : Prop where
  pure : ∀ i, i < m → d i = true → x i = vals i
  st : J d w

section
variable {m : Nat} {vals : Nat → Value} {J : (Nat → Bool) → World → Prop} {d : Nat → Bool} {x : Nat → Value} {w : World}
theorem InvJ.start (x : Nat → Value) (h : J (fun _ => false) w) : InvJ m vals J (fun _ => false) x w := ⟨fun _ _ h => (by cases h), h⟩
/-- One more yields. -/
theorem InvJ.yields (h : InvJ m vals J d x w) (i : Nat) {w' : World} (hJ : J (upd d i) w') : InvJ m vals J (upd d i) (upv x i (vals i)) w' where
  pure j hj hd := by
    by_cases e : j = i
    · subst e; rw [upv_same]
    · rw [upv_other x _ e]; rw [upd_other d e] at hd; exact h.pure j hj hd
  st := hJ
/-- One more is done that yields nothing. -/
theorem InvJ.does (h : InvJ m vals J d x w) (i : Nat) (hi : m ≤ i) {w' : World} (hJ : J (upd d i) w') : InvJ m vals J (upd d i) x w' where
  pure j hj hd := by
    rw [upd_other d (by omega)] at hd; exact h.pure j hj hd
  st := hJ
end
end Go.Proofs.Ythokjkllmflgkaa.Rgn
