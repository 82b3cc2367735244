/-
  Pools: the document's Check (package gangplankref08).
-/
import Derived.Test.YtfjpdoamalbpjaaPolB
namespace Go.Proofs.Ytfjpdoamalbpjaa.Pol
open Go.RowKit Go.Shelf Rgn

/-- A backend that may stand at a place of a pool. -/
def fine (bs : List Bk) (i : Nat) (x : Bk) : Prop := 1 ≤ x.1 ∧ x.1 ≤ 65535 ∧ 1 ≤ x.2 ∧ x.2 ≤ 16 ∧ find bs x.1 0 = i
/-- A pool that may be. -/
def chk (bs : List Bk) : Prop := bs.length ≤ 32 ∧ ∀ i x, bs[i]? = some x → fine bs i x
/-- What Check tells. -/
def chkV (c : Bool) : Value := match c with
  | true => .int .i64 0
  | false => .int .i64 10
end Go.Proofs.Ytfjpdoamalbpjaa.Pol
