/-
  No cell of these rows narrows 'for every input' (looked for: loops, veiled, ifaces, maps, wideKeys, modest, calm, conditions, laid).
  DERIVED. THE GIVEN ROWS OF THIS SEAT. 6 by the template 'for every input the law returns true; each argument reads behind the call as it read before'; 0 by the template 'total and deterministic' (their statements: YtppbbhijlkfioaaTotals.lean).
  GIVEN WITH THE SEED: the statements are not yours to turn. If you find one false, say at which input.
  Laid BY PROGRAM, IN A SANDBOX (cutbox-rows.mjs): the forced cells as the released guide's own fill.sh prints them over the translation 4109614cdb4efe72… (all of the seat's roots in one cut). By AI agents, Wed Nov 11 2026. No macro, syntax, notation, axiom, sorry.
-/
import Derived.Test.YtppbbhijlkfioaaChecked
import GoSem.Claim
import GoSem.ClaimJoined
import GoSem.ClaimMapViews
import Derived.JoinedTies
import Derived.KernelRfl
namespace Go.Proofs.Ytppbbhijlkfioaa
/- THE CELL 'sum', in the pinned program and in every row, IS THE sha256 OF THE DUMP (.gsa) THAT YtppbbhijlkfioaaProg.lean LOADS. Nothing in Lean hashes anything: it is a label: what it is worth is what the hold of that sum in a sandbox is worth. -/
noncomputable def Try.pinned : Pinned := { name := "ytppbbhijlkfioaa", sum := "4109614cdb4efe72e2ca7841c062dccc6e8181a1b5f5a09a1d6ee501ea5075c0", checked := Try.checked }
namespace Rows
def none {H : Type} : Left H := { results := [], args := [] }

/-- 'gangplanklaw10.RingSucc': WHATEVER THE INPUT: true; the input reads as it did. -/
def ringSuccSpec : ChangeSpec := { name := "ringSucc", fn := fun _ => fun
  | [d1, d2] => { results := [.lit (.bool true)], args := [d1, d2] }
  | _ => none }
def ringSuccRow : OpenClaim := { program := "ytppbbhijlkfioaa", sum := "4109614cdb4efe72e2ca7841c062dccc6e8181a1b5f5a09a1d6ee501ea5075c0", func := "gangplank/gangplanklaw10.RingSucc", spec := "ringSucc", unfollowed := true, recurses := true, apart := false }
def RingSuccSaid : Prop := ringSuccRow.holds Try.pinned (OpenSpec.ofChange ringSuccSpec)

/-- ITS FALSE NEIGHBOUR: 'it returns false'. Refute it at one input. -/
def ringSuccWrong : ChangeSpec := { name := "ringSucc", fn := fun _ => fun
  | [d1, d2] => { results := [.lit (.bool false)], args := [d1, d2] }
  | _ => none }
def RingSuccWrongFalsely : Prop := ringSuccRow.holds Try.pinned (OpenSpec.ofChange ringSuccWrong)

/-- 'gangplanklaw10.RingPicks': WHATEVER THE INPUT: true; the input reads as it did. -/
def ringPicksSpec : ChangeSpec := { name := "ringPicks", fn := fun _ => fun
  | [d1, d2, d3, d4] => { results := [.lit (.bool true)], args := [d1, d2, d3, d4] }
  | _ => none }
def ringPicksRow : OpenClaim := { program := "ytppbbhijlkfioaa", sum := "4109614cdb4efe72e2ca7841c062dccc6e8181a1b5f5a09a1d6ee501ea5075c0", func := "gangplank/gangplanklaw10.RingPicks", spec := "ringPicks", unfollowed := true, recurses := true, apart := false }
def RingPicksSaid : Prop := ringPicksRow.holds Try.pinned (OpenSpec.ofChange ringPicksSpec)

/-- ITS FALSE NEIGHBOUR: 'it returns false'. Refute it at one input. -/
def ringPicksWrong : ChangeSpec := { name := "ringPicks", fn := fun _ => fun
  | [d1, d2, d3, d4] => { results := [.lit (.bool false)], args := [d1, d2, d3, d4] }
  | _ => none }
def RingPicksWrongFalsely : Prop := ringPicksRow.holds Try.pinned (OpenSpec.ofChange ringPicksWrong)

/-- 'gangplanklaw10.RingWith': WHATEVER THE INPUT: true; the input reads as it did. -/
def ringWithSpec : ChangeSpec := { name := "ringWith", fn := fun _ => fun
  | [d1, d2, d3] => { results := [.lit (.bool true)], args := [d1, d2, d3] }
  | _ => none }
def ringWithRow : OpenClaim := { program := "ytppbbhijlkfioaa", sum := "4109614cdb4efe72e2ca7841c062dccc6e8181a1b5f5a09a1d6ee501ea5075c0", func := "gangplank/gangplanklaw10.RingWith", spec := "ringWith", unfollowed := true, recurses := true, apart := false }
def RingWithSaid : Prop := ringWithRow.holds Try.pinned (OpenSpec.ofChange ringWithSpec)

/-- ITS FALSE NEIGHBOUR: 'it returns false'. Refute it at one input. -/
def ringWithWrong : ChangeSpec := { name := "ringWith", fn := fun _ => fun
  | [d1, d2, d3] => { results := [.lit (.bool false)], args := [d1, d2, d3] }
  | _ => none }
def RingWithWrongFalsely : Prop := ringWithRow.holds Try.pinned (OpenSpec.ofChange ringWithWrong)

/-- 'gangplanklaw10.RingOne': WHATEVER THE INPUT: true; the input reads as it did. -/
def ringOneSpec : ChangeSpec := { name := "ringOne", fn := fun _ => fun
  | [d1, d2, d3] => { results := [.lit (.bool true)], args := [d1, d2, d3] }
  | _ => none }
def ringOneRow : OpenClaim := { program := "ytppbbhijlkfioaa", sum := "4109614cdb4efe72e2ca7841c062dccc6e8181a1b5f5a09a1d6ee501ea5075c0", func := "gangplank/gangplanklaw10.RingOne", spec := "ringOne", unfollowed := true, recurses := true, apart := false }
def RingOneSaid : Prop := ringOneRow.holds Try.pinned (OpenSpec.ofChange ringOneSpec)

/-- ITS FALSE NEIGHBOUR: 'it returns false'. Refute it at one input. -/
def ringOneWrong : ChangeSpec := { name := "ringOne", fn := fun _ => fun
  | [d1, d2, d3] => { results := [.lit (.bool false)], args := [d1, d2, d3] }
  | _ => none }
def RingOneWrongFalsely : Prop := ringOneRow.holds Try.pinned (OpenSpec.ofChange ringOneWrong)

/-- 'gangplanklaw10.RingMoved': WHATEVER THE INPUT: true; the input reads as it did. -/
def ringMovedSpec : ChangeSpec := { name := "ringMoved", fn := fun _ => fun
  | [d1, d2, d3, d4] => { results := [.lit (.bool true)], args := [d1, d2, d3, d4] }
  | _ => none }
def ringMovedRow : OpenClaim := { program := "ytppbbhijlkfioaa", sum := "4109614cdb4efe72e2ca7841c062dccc6e8181a1b5f5a09a1d6ee501ea5075c0", func := "gangplank/gangplanklaw10.RingMoved", spec := "ringMoved", unfollowed := true, recurses := true, apart := false }
def RingMovedSaid : Prop := ringMovedRow.holds Try.pinned (OpenSpec.ofChange ringMovedSpec)

/-- ITS FALSE NEIGHBOUR: 'it returns false'. Refute it at one input. -/
def ringMovedWrong : ChangeSpec := { name := "ringMoved", fn := fun _ => fun
  | [d1, d2, d3, d4] => { results := [.lit (.bool false)], args := [d1, d2, d3, d4] }
  | _ => none }
def RingMovedWrongFalsely : Prop := ringMovedRow.holds Try.pinned (OpenSpec.ofChange ringMovedWrong)

/-- 'gangplanklaw10.RingArc': WHATEVER THE INPUT: true; the input reads as it did. -/
def ringArcSpec : ChangeSpec := { name := "ringArc", fn := fun _ => fun
  | [d1, d2, d3] => { results := [.lit (.bool true)], args := [d1, d2, d3] }
  | _ => none }
def ringArcRow : OpenClaim := { program := "ytppbbhijlkfioaa", sum := "4109614cdb4efe72e2ca7841c062dccc6e8181a1b5f5a09a1d6ee501ea5075c0", func := "gangplank/gangplanklaw10.RingArc", spec := "ringArc", unfollowed := true, recurses := true, apart := false }
def RingArcSaid : Prop := ringArcRow.holds Try.pinned (OpenSpec.ofChange ringArcSpec)

/-- ITS FALSE NEIGHBOUR: 'it returns false'. Refute it at one input. -/
def ringArcWrong : ChangeSpec := { name := "ringArc", fn := fun _ => fun
  | [d1, d2, d3] => { results := [.lit (.bool false)], args := [d1, d2, d3] }
  | _ => none }
def RingArcWrongFalsely : Prop := ringArcRow.holds Try.pinned (OpenSpec.ofChange ringArcWrong)

/- THE SECOND FORM. 'bulk': how many values and letters a reading holds, each counted each time it is reached (what is shared counts as often as it is met; a slice's spare places count too). A statement '..UptoSaid' is the law's where the arguments, and the package variables that the reading takes, are together of bulk at most 1048576: NARROWER than '..Said'. Prove '..Said' where nothing that the law and all that it calls make is longer than what came in: it says more and counts as full. Else prove '..UptoSaid'. A law counts once. -/
mutual
def uptoBulk {H : Type} : DataW H → Nat
  | .lit (.string bytes) => bytes.length + 1
  | .lit _ => 1
  | .nil => 1
  | .ptr d => uptoBulk d + 1
  | .slice elems spare => uptoBulkAll elems + uptoBulkAll spare + 1
  | .agg parts => uptoBulkAll parts + 1
  | .iface _ d => uptoBulk d + 1
  | .map entries => uptoBulkEntries entries + 1
  | .held _ => 1
def uptoBulkAll {H : Type} : List (DataW H) → Nat
  | [] => 0
  | d :: r => uptoBulk d + uptoBulkAll r
def uptoBulkEntries {H : Type} : List (Lit × DataW H) → Nat
  | [] => 0
  | x :: r => uptoBulkEntry x + uptoBulkEntries r
def uptoBulkEntry {H : Type} : Lit × DataW H → Nat
  | (.string bytes, d) => bytes.length + uptoBulk d + 1
  | (_, d) => uptoBulk d + 1
 end
def uptoSmall : (H : Type) → List (DataW H) → Bool := fun _ ds => decide (uptoBulkAll ds ≤ 1048576)
def OpenSpec.upto (s : _root_.Go.ChangeSpec) : _root_.Go.OpenSpec := { _root_.Go.OpenSpec.ofChange s with cond := some uptoSmall }

/-- 'gangplanklaw10.RingSucc', WHERE WHAT IT READS IS OF BULK AT MOST 1048576: true; the input reads as it did. -/
def ringSuccUptoRow : OpenClaim := { program := "ytppbbhijlkfioaa", sum := "4109614cdb4efe72e2ca7841c062dccc6e8181a1b5f5a09a1d6ee501ea5075c0", func := "gangplank/gangplanklaw10.RingSucc", spec := "ringSucc", unfollowed := true, recurses := true, apart := false, narrowed := true }
def RingSuccUptoSaid : Prop := ringSuccUptoRow.holds Try.pinned (OpenSpec.upto ringSuccSpec)

/-- 'gangplanklaw10.RingPicks', WHERE WHAT IT READS IS OF BULK AT MOST 1048576: true; the input reads as it did. -/
def ringPicksUptoRow : OpenClaim := { program := "ytppbbhijlkfioaa", sum := "4109614cdb4efe72e2ca7841c062dccc6e8181a1b5f5a09a1d6ee501ea5075c0", func := "gangplank/gangplanklaw10.RingPicks", spec := "ringPicks", unfollowed := true, recurses := true, apart := false, narrowed := true }
def RingPicksUptoSaid : Prop := ringPicksUptoRow.holds Try.pinned (OpenSpec.upto ringPicksSpec)

/-- 'gangplanklaw10.RingWith', WHERE WHAT IT READS IS OF BULK AT MOST 1048576: true; the input reads as it did. -/
def ringWithUptoRow : OpenClaim := { program := "ytppbbhijlkfioaa", sum := "4109614cdb4efe72e2ca7841c062dccc6e8181a1b5f5a09a1d6ee501ea5075c0", func := "gangplank/gangplanklaw10.RingWith", spec := "ringWith", unfollowed := true, recurses := true, apart := false, narrowed := true }
def RingWithUptoSaid : Prop := ringWithUptoRow.holds Try.pinned (OpenSpec.upto ringWithSpec)

/-- 'gangplanklaw10.RingOne', WHERE WHAT IT READS IS OF BULK AT MOST 1048576: true; the input reads as it did. -/
def ringOneUptoRow : OpenClaim := { program := "ytppbbhijlkfioaa", sum := "4109614cdb4efe72e2ca7841c062dccc6e8181a1b5f5a09a1d6ee501ea5075c0", func := "gangplank/gangplanklaw10.RingOne", spec := "ringOne", unfollowed := true, recurses := true, apart := false, narrowed := true }
def RingOneUptoSaid : Prop := ringOneUptoRow.holds Try.pinned (OpenSpec.upto ringOneSpec)

/-- 'gangplanklaw10.RingMoved', WHERE WHAT IT READS IS OF BULK AT MOST 1048576: true; the input reads as it did. -/
def ringMovedUptoRow : OpenClaim := { program := "ytppbbhijlkfioaa", sum := "4109614cdb4efe72e2ca7841c062dccc6e8181a1b5f5a09a1d6ee501ea5075c0", func := "gangplank/gangplanklaw10.RingMoved", spec := "ringMoved", unfollowed := true, recurses := true, apart := false, narrowed := true }
def RingMovedUptoSaid : Prop := ringMovedUptoRow.holds Try.pinned (OpenSpec.upto ringMovedSpec)

/-- 'gangplanklaw10.RingArc', WHERE WHAT IT READS IS OF BULK AT MOST 1048576: true; the input reads as it did. -/
def ringArcUptoRow : OpenClaim := { program := "ytppbbhijlkfioaa", sum := "4109614cdb4efe72e2ca7841c062dccc6e8181a1b5f5a09a1d6ee501ea5075c0", func := "gangplank/gangplanklaw10.RingArc", spec := "ringArc", unfollowed := true, recurses := true, apart := false, narrowed := true }
def RingArcUptoSaid : Prop := ringArcUptoRow.holds Try.pinned (OpenSpec.upto ringArcSpec)

end Rows
end Go.Proofs.Ytppbbhijlkfioaa
