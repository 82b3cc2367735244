/-
  Flows: what slots of a region that draws its order may hold.
-/
import Derived.Test.YtbflnhoifkdooaaBFlo
import Derived.Test.YtbflnhoifkdooaaRgnU
namespace Go.Proofs.Ytbflnhoifkdooaa.Flo
open Go.RowKit Go.Shelf RowG Tab Prb Rgn
abbrev intsV (a : Option Addr) (cap : Nat) (ks : List ByteArray) : Value := rowV a cap ks
abbrev LiesI (W : World) (a : Option Addr) (cap : Nat) (ks : List ByteArray) : Prop := Lies txtK W a cap ks
/-- A value; a row of texts; anything. -/
inductive Sp where
  | is (v : Value)
  | ints (ks : List ByteArray)
  | any
def Sp.holds : Sp → World → Value → Prop
  | .is v, _, u => u = v
  | .ints ks, w, u => ∃ p c, u = intsV p c ks ∧ LiesI w p c ks
  | .any, _, _ => True
theorem Sp.kept (s : Sp) (w w' : World) (v : Value) (h : s.holds w v) (hb : Below w.heap.size w w') : s.holds w' v := by
  cases s with
  | is _ => exact h
  | ints _ => obtain ⟨p, c, e, hl⟩ := h; exact ⟨p, c, e, hl.kept hb⟩
  | any => trivial
/-- What the slots of some operations hold. -/
def spV (l : List Sp) (i : Nat) (w : World) (v : Value) : Prop := (l.getD i .any).holds w v
theorem spV_kept (l : List Sp) : ∀ j w w' v, spV l j w v → Below w.heap.size w w' → spV l j w' v := fun _ w w' v h hb => Sp.kept _ w w' v h hb
end Go.Proofs.Ytbflnhoifkdooaa.Flo
