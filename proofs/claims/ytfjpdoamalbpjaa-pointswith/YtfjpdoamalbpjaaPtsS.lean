/-
  Points: what a slot holds, where pools and rows of points stand beside one another.
-/
import Derived.Test.YtfjpdoamalbpjaaPtsA
import Derived.Test.YtfjpdoamalbpjaaRgnV
import Derived.Test.YtfjpdoamalbpjaaPolM
namespace Go.Proofs.Ytfjpdoamalbpjaa.Pts
open Go.RowKit Go.Shelf Rgn
open Pol (below2 below_alloc Bk polV)

/-- What a slot holds. -/
inductive Sq where
  | is (v : Value)
  | bks (bs : List Bk)
  | pts (bs : List Pt)
  | any
def Sq.holds : Sq → World → Value → Prop
  | .is v, _, u => u = v
  | .bks bs, w, u => Pol.Gives w u bs
  | .pts bs, w, u => Gives w u bs
  | .any, _, _ => True
theorem Sq.kept (s : Sq) (w w' : World) (v : Value) (h : s.holds w v) (hb : Below w.heap.size w w') : s.holds w' v := by
  cases s with
  | is _ => exact h
  | bks _ => obtain ⟨p, c, e, hl⟩ := h; exact ⟨p, c, e, hl.kept hb⟩
  | pts _ => obtain ⟨p, c, e, hl⟩ := h; exact ⟨p, c, e, hl.kept hb⟩
  | any => trivial
def sqV (l : List Sq) (i : Nat) (w : World) (v : Value) : Prop := (l.getD i .any).holds w v
theorem sqV_kept (l : List Sq) : ∀ j w w' v, sqV l j w v → Below w.heap.size w w' → sqV l j w' v := fun _ w w' v h hb => Sq.kept _ w w' v h hb
end Go.Proofs.Ytfjpdoamalbpjaa.Pts
