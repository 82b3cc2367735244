/-
  A region that draws its order: an operation whose guard was left out is left out too.
-/
import Derived.Test.YthokjkllmflgkaaRgnV
namespace Go.Proofs.Ythokjkllmflgkaa.Rgn
open Go Go.RowKit
theorem wanted_undef {ops : Array Oper} {o : Oper} {a : Act} {j s : Nat} {want : Bool} (hg : o.guard = some (j, want)) (hs : dstAt ops j = some s) (hb : a.tmps[s]?.getD undef = undef) : Region.wanted o (yielded ops a.tmps) = false := by
  unfold Region.wanted yielded
  unfold dstAt at hs
  rw [hg]
  simp only [hs, Option.bind_some]
  cases h : a.tmps[s]? with
  | none => rfl
  | some v =>
    rw [h] at hb
    simp only [Option.getD_some] at hb
    subst hb
    rfl
end Go.Proofs.Ythokjkllmflgkaa.Rgn
