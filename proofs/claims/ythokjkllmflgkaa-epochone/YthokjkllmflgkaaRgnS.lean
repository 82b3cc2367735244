/-
  What slots of a region that draws its order may hold: a value, or anything. (Over any program.)
-/
import Derived.Test.YthokjkllmflgkaaRgnU
namespace Go.Proofs.Ythokjkllmflgkaa.Sps
open Go Go.RowKit
inductive Sp where
  | is (v : Value)
  | any
def Sp.holds : Sp → World → Value → Prop
  | .is v, _, u => u = v
  | .any, _, _ => True
theorem Sp.kept (s : Sp) (w w' : World) (v : Value) (h : s.holds w v) (_ : Below w.heap.size w w') : s.holds w' v := by
  cases s with
  | is _ => exact h
  | any => trivial
/-- What the slots of some operations hold. -/
def spV (l : List Sp) (i : Nat) (w : World) (v : Value) : Prop := (l.getD i .any).holds w v
theorem spV_kept (l : List Sp) : ∀ j w w' v, spV l j w v → Below w.heap.size w w' → spV l j w' v := fun _ w w' v h hb => Sp.kept _ w w' v h hb
end Go.Proofs.Ythokjkllmflgkaa.Sps
