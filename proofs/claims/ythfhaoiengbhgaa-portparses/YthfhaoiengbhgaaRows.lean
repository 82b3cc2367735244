/-
  No cell of these rows narrows 'for every input' (looked for: loops, veiled, ifaces, maps, wideKeys, modest, calm, conditions, laid).
  DERIVED. THE GIVEN ROWS OF THIS SEAT. 5 by the template 'for every input the law returns true; each argument reads behind the call as it read before'; 0 by the template 'total and deterministic' (their statements: YthfhaoiengbhgaaTotals.lean).
  GIVEN WITH THE SEED: the statements are not yours to turn. If you find one false, say at which input.
  Laid BY PROGRAM, IN A SANDBOX (cutbox-rows.mjs): the forced cells as the released guide's own fill.sh prints them over the translation 0475d749321317d4… (all of the seat's roots in one cut). By AI agents, Wed Nov 11 2026. No macro, syntax, notation, axiom, sorry.
-/
import Derived.Test.YthfhaoiengbhgaaChecked
import GoSem.Claim
import GoSem.ClaimJoined
import GoSem.ClaimMapViews
import Derived.JoinedTies
import Derived.KernelRfl
namespace Go.Proofs.Ythfhaoiengbhgaa
/- THE CELL 'sum', in the pinned program and in every row, IS THE sha256 OF THE DUMP (.gsa) THAT YthfhaoiengbhgaaProg.lean LOADS. Nothing in Lean hashes anything: it is a label: what it is worth is what the hold of that sum in a sandbox is worth. -/
noncomputable def Try.pinned : Pinned := { name := "ythfhaoiengbhgaa", sum := "0475d749321317d47694b5c94d0dff1b23598e0a1bc8578acefd12b115ac448c", checked := Try.checked }
namespace Rows
def none {H : Type} : Left H := { results := [], args := [] }

/-- 'gangplanklaw06.PortParses': WHATEVER THE INPUT: true; the input reads as it did. -/
def portParsesSpec : ChangeSpec := { name := "portParses", fn := fun _ => fun
  | [d1, d2] => { results := [.lit (.bool true)], args := [d1, d2] }
  | _ => none }
def portParsesRow : OpenClaim := { program := "ythfhaoiengbhgaa", sum := "0475d749321317d47694b5c94d0dff1b23598e0a1bc8578acefd12b115ac448c", func := "gangplank/gangplanklaw06.PortParses", spec := "portParses", unfollowed := true, recurses := true, apart := false }
def PortParsesSaid : Prop := portParsesRow.holds Try.pinned (OpenSpec.ofChange portParsesSpec)

/-- ITS FALSE NEIGHBOUR: 'it returns false'. Refute it at one input. -/
def portParsesWrong : ChangeSpec := { name := "portParses", fn := fun _ => fun
  | [d1, d2] => { results := [.lit (.bool false)], args := [d1, d2] }
  | _ => none }
def PortParsesWrongFalsely : Prop := portParsesRow.holds Try.pinned (OpenSpec.ofChange portParsesWrong)

/-- 'gangplanklaw06.PortPuts': WHATEVER THE INPUT: true; the input reads as it did. -/
def portPutsSpec : ChangeSpec := { name := "portPuts", fn := fun _ => fun
  | [d1, d2, d3, d4] => { results := [.lit (.bool true)], args := [d1, d2, d3, d4] }
  | _ => none }
def portPutsRow : OpenClaim := { program := "ythfhaoiengbhgaa", sum := "0475d749321317d47694b5c94d0dff1b23598e0a1bc8578acefd12b115ac448c", func := "gangplank/gangplanklaw06.PortPuts", spec := "portPuts", unfollowed := true, recurses := true, apart := false }
def PortPutsSaid : Prop := portPutsRow.holds Try.pinned (OpenSpec.ofChange portPutsSpec)

/-- ITS FALSE NEIGHBOUR: 'it returns false'. Refute it at one input. -/
def portPutsWrong : ChangeSpec := { name := "portPuts", fn := fun _ => fun
  | [d1, d2, d3, d4] => { results := [.lit (.bool false)], args := [d1, d2, d3, d4] }
  | _ => none }
def PortPutsWrongFalsely : Prop := portPutsRow.holds Try.pinned (OpenSpec.ofChange portPutsWrong)

/-- 'gangplanklaw06.PortBack': WHATEVER THE INPUT: true; the input reads as it did. -/
def portBackSpec : ChangeSpec := { name := "portBack", fn := fun _ => fun
  | [d1, d2, d3, d4, d5] => { results := [.lit (.bool true)], args := [d1, d2, d3, d4, d5] }
  | _ => none }
def portBackRow : OpenClaim := { program := "ythfhaoiengbhgaa", sum := "0475d749321317d47694b5c94d0dff1b23598e0a1bc8578acefd12b115ac448c", func := "gangplank/gangplanklaw06.PortBack", spec := "portBack", unfollowed := true, recurses := true, apart := false }
def PortBackSaid : Prop := portBackRow.holds Try.pinned (OpenSpec.ofChange portBackSpec)

/-- ITS FALSE NEIGHBOUR: 'it returns false'. Refute it at one input. -/
def portBackWrong : ChangeSpec := { name := "portBack", fn := fun _ => fun
  | [d1, d2, d3, d4, d5] => { results := [.lit (.bool false)], args := [d1, d2, d3, d4, d5] }
  | _ => none }
def PortBackWrongFalsely : Prop := portBackRow.holds Try.pinned (OpenSpec.ofChange portBackWrong)

/-- 'gangplanklaw06.PortHeld': WHATEVER THE INPUT: true; the input reads as it did. -/
def portHeldSpec : ChangeSpec := { name := "portHeld", fn := fun _ => fun
  | [d1, d2, d3] => { results := [.lit (.bool true)], args := [d1, d2, d3] }
  | _ => none }
def portHeldRow : OpenClaim := { program := "ythfhaoiengbhgaa", sum := "0475d749321317d47694b5c94d0dff1b23598e0a1bc8578acefd12b115ac448c", func := "gangplank/gangplanklaw06.PortHeld", spec := "portHeld", unfollowed := true, recurses := true, apart := false }
def PortHeldSaid : Prop := portHeldRow.holds Try.pinned (OpenSpec.ofChange portHeldSpec)

/-- ITS FALSE NEIGHBOUR: 'it returns false'. Refute it at one input. -/
def portHeldWrong : ChangeSpec := { name := "portHeld", fn := fun _ => fun
  | [d1, d2, d3] => { results := [.lit (.bool false)], args := [d1, d2, d3] }
  | _ => none }
def PortHeldWrongFalsely : Prop := portHeldRow.holds Try.pinned (OpenSpec.ofChange portHeldWrong)

/-- 'gangplanklaw06.PortCut': WHATEVER THE INPUT: true; the input reads as it did. -/
def portCutSpec : ChangeSpec := { name := "portCut", fn := fun _ => fun
  | [d1, d2, d3, d4, d5] => { results := [.lit (.bool true)], args := [d1, d2, d3, d4, d5] }
  | _ => none }
def portCutRow : OpenClaim := { program := "ythfhaoiengbhgaa", sum := "0475d749321317d47694b5c94d0dff1b23598e0a1bc8578acefd12b115ac448c", func := "gangplank/gangplanklaw06.PortCut", spec := "portCut", unfollowed := true, recurses := true, apart := false }
def PortCutSaid : Prop := portCutRow.holds Try.pinned (OpenSpec.ofChange portCutSpec)

/-- ITS FALSE NEIGHBOUR: 'it returns false'. Refute it at one input. -/
def portCutWrong : ChangeSpec := { name := "portCut", fn := fun _ => fun
  | [d1, d2, d3, d4, d5] => { results := [.lit (.bool false)], args := [d1, d2, d3, d4, d5] }
  | _ => none }
def PortCutWrongFalsely : Prop := portCutRow.holds Try.pinned (OpenSpec.ofChange portCutWrong)

/- THE SECOND FORM. 'bulk': how many values and letters a reading holds, each counted each time it is reached (what is shared counts as often as it is met; a slice's spare places count too). A statement '..UptoSaid' is the law's where the arguments, and the package variables that the reading takes, are together of bulk at most 1048576: NARROWER than '..Said'. Prove '..Said' where nothing that the law and all that it calls make is longer than what came in: it says more and counts as full. Else prove '..UptoSaid'. A law counts once. -/
mutual
def uptoBulk {H : Type} : DataW H → Nat
  | .lit (.string bytes) => bytes.length + 1
  | .lit _ => 1
  | .nil => 1
  | .ptr d => uptoBulk d + 1
  | .slice elems spare => uptoBulkAll elems + uptoBulkAll spare + 1
  | .agg parts => uptoBulkAll parts + 1
  | .iface _ d => uptoBulk d + 1
  | .map entries => uptoBulkEntries entries + 1
  | .held _ => 1
def uptoBulkAll {H : Type} : List (DataW H) → Nat
  | [] => 0
  | d :: r => uptoBulk d + uptoBulkAll r
def uptoBulkEntries {H : Type} : List (Lit × DataW H) → Nat
  | [] => 0
  | x :: r => uptoBulkEntry x + uptoBulkEntries r
def uptoBulkEntry {H : Type} : Lit × DataW H → Nat
  | (.string bytes, d) => bytes.length + uptoBulk d + 1
  | (_, d) => uptoBulk d + 1
 end
def uptoSmall : (H : Type) → List (DataW H) → Bool := fun _ ds => decide (uptoBulkAll ds ≤ 1048576)
def OpenSpec.upto (s : _root_.Go.ChangeSpec) : _root_.Go.OpenSpec := { _root_.Go.OpenSpec.ofChange s with cond := some uptoSmall }

/-- 'gangplanklaw06.PortParses', WHERE WHAT IT READS IS OF BULK AT MOST 1048576: true; the input reads as it did. -/
def portParsesUptoRow : OpenClaim := { program := "ythfhaoiengbhgaa", sum := "0475d749321317d47694b5c94d0dff1b23598e0a1bc8578acefd12b115ac448c", func := "gangplank/gangplanklaw06.PortParses", spec := "portParses", unfollowed := true, recurses := true, apart := false, narrowed := true }
def PortParsesUptoSaid : Prop := portParsesUptoRow.holds Try.pinned (OpenSpec.upto portParsesSpec)

/-- 'gangplanklaw06.PortPuts', WHERE WHAT IT READS IS OF BULK AT MOST 1048576: true; the input reads as it did. -/
def portPutsUptoRow : OpenClaim := { program := "ythfhaoiengbhgaa", sum := "0475d749321317d47694b5c94d0dff1b23598e0a1bc8578acefd12b115ac448c", func := "gangplank/gangplanklaw06.PortPuts", spec := "portPuts", unfollowed := true, recurses := true, apart := false, narrowed := true }
def PortPutsUptoSaid : Prop := portPutsUptoRow.holds Try.pinned (OpenSpec.upto portPutsSpec)

/-- 'gangplanklaw06.PortBack', WHERE WHAT IT READS IS OF BULK AT MOST 1048576: true; the input reads as it did. -/
def portBackUptoRow : OpenClaim := { program := "ythfhaoiengbhgaa", sum := "0475d749321317d47694b5c94d0dff1b23598e0a1bc8578acefd12b115ac448c", func := "gangplank/gangplanklaw06.PortBack", spec := "portBack", unfollowed := true, recurses := true, apart := false, narrowed := true }
def PortBackUptoSaid : Prop := portBackUptoRow.holds Try.pinned (OpenSpec.upto portBackSpec)

/-- 'gangplanklaw06.PortHeld', WHERE WHAT IT READS IS OF BULK AT MOST 1048576: true; the input reads as it did. -/
def portHeldUptoRow : OpenClaim := { program := "ythfhaoiengbhgaa", sum := "0475d749321317d47694b5c94d0dff1b23598e0a1bc8578acefd12b115ac448c", func := "gangplank/gangplanklaw06.PortHeld", spec := "portHeld", unfollowed := true, recurses := true, apart := false, narrowed := true }
def PortHeldUptoSaid : Prop := portHeldUptoRow.holds Try.pinned (OpenSpec.upto portHeldSpec)

/-- 'gangplanklaw06.PortCut', WHERE WHAT IT READS IS OF BULK AT MOST 1048576: true; the input reads as it did. -/
def portCutUptoRow : OpenClaim := { program := "ythfhaoiengbhgaa", sum := "0475d749321317d47694b5c94d0dff1b23598e0a1bc8578acefd12b115ac448c", func := "gangplank/gangplanklaw06.PortCut", spec := "portCut", unfollowed := true, recurses := true, apart := false, narrowed := true }
def PortCutUptoSaid : Prop := portCutUptoRow.holds Try.pinned (OpenSpec.upto portCutSpec)

end Rows
end Go.Proofs.Ythfhaoiengbhgaa
