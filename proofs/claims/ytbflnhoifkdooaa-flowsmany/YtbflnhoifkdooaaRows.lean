/-
  No cell of these rows narrows 'for every input' (looked for: loops, veiled, ifaces, maps, wideKeys, modest, calm, conditions, laid).
  DERIVED. THE GIVEN ROWS OF THIS SEAT. 7 by the template 'for every input the law returns true; each argument reads behind the call as it read before'; 0 by the template 'total and deterministic' (their statements: YtbflnhoifkdooaaTotals.lean).
  GIVEN WITH THE SEED: the statements are not yours to turn. If you find one false, say at which input.
  Laid BY PROGRAM, IN A SANDBOX (cutbox-rows.mjs): the forced cells as the released guide's own fill.sh prints them over the translation 76dc871381b75165… (all of the seat's roots in one cut). By AI agents, Wed Nov 11 2026. No macro, syntax, notation, axiom, sorry.
-/
import Derived.Test.YtbflnhoifkdooaaChecked
import GoSem.Claim
import GoSem.ClaimJoined
import GoSem.ClaimMapViews
import Derived.JoinedTies
import Derived.KernelRfl
namespace Go.Proofs.Ytbflnhoifkdooaa
/- THE CELL 'sum', in the pinned program and in every row, IS THE sha256 OF THE DUMP (.gsa) THAT YtbflnhoifkdooaaProg.lean LOADS. Nothing in Lean hashes anything: it is a label: what it is worth is what the hold of that sum in a sandbox is worth. -/
noncomputable def Try.pinned : Pinned := { name := "ytbflnhoifkdooaa", sum := "76dc871381b751652b63ff7ee93374c5c6655b3950d3d9ede0b0df69d5e16dda", checked := Try.checked }
namespace Rows
def none {H : Type} : Left H := { results := [], args := [] }

/-- 'gangplanklaw12.FlowsTell': WHATEVER THE INPUT: true; the input reads as it did. -/
def flowsTellSpec : ChangeSpec := { name := "flowsTell", fn := fun _ => fun
  | [d1, d2, d3, d4, d5] => { results := [.lit (.bool true)], args := [d1, d2, d3, d4, d5] }
  | _ => none }
def flowsTellRow : OpenClaim := { program := "ytbflnhoifkdooaa", sum := "76dc871381b751652b63ff7ee93374c5c6655b3950d3d9ede0b0df69d5e16dda", func := "gangplank/gangplanklaw12.FlowsTell", spec := "flowsTell", unfollowed := true, recurses := true, apart := false }
def FlowsTellSaid : Prop := flowsTellRow.holds Try.pinned (OpenSpec.ofChange flowsTellSpec)

/-- ITS FALSE NEIGHBOUR: 'it returns false'. Refute it at one input. -/
def flowsTellWrong : ChangeSpec := { name := "flowsTell", fn := fun _ => fun
  | [d1, d2, d3, d4, d5] => { results := [.lit (.bool false)], args := [d1, d2, d3, d4, d5] }
  | _ => none }
def FlowsTellWrongFalsely : Prop := flowsTellRow.holds Try.pinned (OpenSpec.ofChange flowsTellWrong)

/-- 'gangplanklaw12.FlowsPut': WHATEVER THE INPUT: true; the input reads as it did. -/
def flowsPutSpec : ChangeSpec := { name := "flowsPut", fn := fun _ => fun
  | [d1, d2, d3, d4, d5] => { results := [.lit (.bool true)], args := [d1, d2, d3, d4, d5] }
  | _ => none }
def flowsPutRow : OpenClaim := { program := "ytbflnhoifkdooaa", sum := "76dc871381b751652b63ff7ee93374c5c6655b3950d3d9ede0b0df69d5e16dda", func := "gangplank/gangplanklaw12.FlowsPut", spec := "flowsPut", unfollowed := true, recurses := true, apart := false }
def FlowsPutSaid : Prop := flowsPutRow.holds Try.pinned (OpenSpec.ofChange flowsPutSpec)

/-- ITS FALSE NEIGHBOUR: 'it returns false'. Refute it at one input. -/
def flowsPutWrong : ChangeSpec := { name := "flowsPut", fn := fun _ => fun
  | [d1, d2, d3, d4, d5] => { results := [.lit (.bool false)], args := [d1, d2, d3, d4, d5] }
  | _ => none }
def FlowsPutWrongFalsely : Prop := flowsPutRow.holds Try.pinned (OpenSpec.ofChange flowsPutWrong)

/-- 'gangplanklaw12.FlowsDelete': WHATEVER THE INPUT: true; the input reads as it did. -/
def flowsDeleteSpec : ChangeSpec := { name := "flowsDelete", fn := fun _ => fun
  | [d1, d2, d3] => { results := [.lit (.bool true)], args := [d1, d2, d3] }
  | _ => none }
def flowsDeleteRow : OpenClaim := { program := "ytbflnhoifkdooaa", sum := "76dc871381b751652b63ff7ee93374c5c6655b3950d3d9ede0b0df69d5e16dda", func := "gangplank/gangplanklaw12.FlowsDelete", spec := "flowsDelete", unfollowed := true, recurses := true, apart := false }
def FlowsDeleteSaid : Prop := flowsDeleteRow.holds Try.pinned (OpenSpec.ofChange flowsDeleteSpec)

/-- ITS FALSE NEIGHBOUR: 'it returns false'. Refute it at one input. -/
def flowsDeleteWrong : ChangeSpec := { name := "flowsDelete", fn := fun _ => fun
  | [d1, d2, d3] => { results := [.lit (.bool false)], args := [d1, d2, d3] }
  | _ => none }
def FlowsDeleteWrongFalsely : Prop := flowsDeleteRow.holds Try.pinned (OpenSpec.ofChange flowsDeleteWrong)

/-- 'gangplanklaw12.FlowsTidy': WHATEVER THE INPUT: true; the input reads as it did. -/
def flowsTidySpec : ChangeSpec := { name := "flowsTidy", fn := fun _ => fun
  | [d1, d2] => { results := [.lit (.bool true)], args := [d1, d2] }
  | _ => none }
def flowsTidyRow : OpenClaim := { program := "ytbflnhoifkdooaa", sum := "76dc871381b751652b63ff7ee93374c5c6655b3950d3d9ede0b0df69d5e16dda", func := "gangplank/gangplanklaw12.FlowsTidy", spec := "flowsTidy", unfollowed := true, recurses := true, apart := false }
def FlowsTidySaid : Prop := flowsTidyRow.holds Try.pinned (OpenSpec.ofChange flowsTidySpec)

/-- ITS FALSE NEIGHBOUR: 'it returns false'. Refute it at one input. -/
def flowsTidyWrong : ChangeSpec := { name := "flowsTidy", fn := fun _ => fun
  | [d1, d2] => { results := [.lit (.bool false)], args := [d1, d2] }
  | _ => none }
def FlowsTidyWrongFalsely : Prop := flowsTidyRow.holds Try.pinned (OpenSpec.ofChange flowsTidyWrong)

/-- 'gangplanklaw12.FlowsOne': WHATEVER THE INPUT: true; the input reads as it did. -/
def flowsOneSpec : ChangeSpec := { name := "flowsOne", fn := fun _ => fun
  | [d1, d2] => { results := [.lit (.bool true)], args := [d1, d2] }
  | _ => none }
def flowsOneRow : OpenClaim := { program := "ytbflnhoifkdooaa", sum := "76dc871381b751652b63ff7ee93374c5c6655b3950d3d9ede0b0df69d5e16dda", func := "gangplank/gangplanklaw12.FlowsOne", spec := "flowsOne", unfollowed := true, recurses := true, apart := false }
def FlowsOneSaid : Prop := flowsOneRow.holds Try.pinned (OpenSpec.ofChange flowsOneSpec)

/-- ITS FALSE NEIGHBOUR: 'it returns false'. Refute it at one input. -/
def flowsOneWrong : ChangeSpec := { name := "flowsOne", fn := fun _ => fun
  | [d1, d2] => { results := [.lit (.bool false)], args := [d1, d2] }
  | _ => none }
def FlowsOneWrongFalsely : Prop := flowsOneRow.holds Try.pinned (OpenSpec.ofChange flowsOneWrong)

/-- 'gangplanklaw12.FlowsBack': WHATEVER THE INPUT: true; the input reads as it did. -/
def flowsBackSpec : ChangeSpec := { name := "flowsBack", fn := fun _ => fun
  | [d1, d2, d3, d4, d5] => { results := [.lit (.bool true)], args := [d1, d2, d3, d4, d5] }
  | _ => none }
def flowsBackRow : OpenClaim := { program := "ytbflnhoifkdooaa", sum := "76dc871381b751652b63ff7ee93374c5c6655b3950d3d9ede0b0df69d5e16dda", func := "gangplank/gangplanklaw12.FlowsBack", spec := "flowsBack", unfollowed := true, recurses := true, apart := false }
def FlowsBackSaid : Prop := flowsBackRow.holds Try.pinned (OpenSpec.ofChange flowsBackSpec)

/-- ITS FALSE NEIGHBOUR: 'it returns false'. Refute it at one input. -/
def flowsBackWrong : ChangeSpec := { name := "flowsBack", fn := fun _ => fun
  | [d1, d2, d3, d4, d5] => { results := [.lit (.bool false)], args := [d1, d2, d3, d4, d5] }
  | _ => none }
def FlowsBackWrongFalsely : Prop := flowsBackRow.holds Try.pinned (OpenSpec.ofChange flowsBackWrong)

/-- 'gangplanklaw12.FlowsMany': WHATEVER THE INPUT: true; the input reads as it did. -/
def flowsManySpec : ChangeSpec := { name := "flowsMany", fn := fun _ => fun
  | [d1, d2, d3] => { results := [.lit (.bool true)], args := [d1, d2, d3] }
  | _ => none }
def flowsManyRow : OpenClaim := { program := "ytbflnhoifkdooaa", sum := "76dc871381b751652b63ff7ee93374c5c6655b3950d3d9ede0b0df69d5e16dda", func := "gangplank/gangplanklaw12.FlowsMany", spec := "flowsMany", unfollowed := true, recurses := true, apart := false }
def FlowsManySaid : Prop := flowsManyRow.holds Try.pinned (OpenSpec.ofChange flowsManySpec)

/-- ITS FALSE NEIGHBOUR: 'it returns false'. Refute it at one input. -/
def flowsManyWrong : ChangeSpec := { name := "flowsMany", fn := fun _ => fun
  | [d1, d2, d3] => { results := [.lit (.bool false)], args := [d1, d2, d3] }
  | _ => none }
def FlowsManyWrongFalsely : Prop := flowsManyRow.holds Try.pinned (OpenSpec.ofChange flowsManyWrong)

/- THE SECOND FORM. 'bulk': how many values and letters a reading holds, each counted each time it is reached (what is shared counts as often as it is met; a slice's spare places count too). A statement '..UptoSaid' is the law's where the arguments, and the package variables that the reading takes, are together of bulk at most 1048576: NARROWER than '..Said'. Prove '..Said' where nothing that the law and all that it calls make is longer than what came in: it says more and counts as full. Else prove '..UptoSaid'. A law counts once. -/
mutual
def uptoBulk {H : Type} : DataW H → Nat
  | .lit (.string bytes) => bytes.length + 1
  | .lit _ => 1
  | .nil => 1
  | .ptr d => uptoBulk d + 1
  | .slice elems spare => uptoBulkAll elems + uptoBulkAll spare + 1
  | .agg parts => uptoBulkAll parts + 1
  | .iface _ d => uptoBulk d + 1
  | .map entries => uptoBulkEntries entries + 1
  | .held _ => 1
def uptoBulkAll {H : Type} : List (DataW H) → Nat
  | [] => 0
  | d :: r => uptoBulk d + uptoBulkAll r
def uptoBulkEntries {H : Type} : List (Lit × DataW H) → Nat
  | [] => 0
  | x :: r => uptoBulkEntry x + uptoBulkEntries r
def uptoBulkEntry {H : Type} : Lit × DataW H → Nat
  | (.string bytes, d) => bytes.length + uptoBulk d + 1
  | (_, d) => uptoBulk d + 1
 end
def uptoSmall : (H : Type) → List (DataW H) → Bool := fun _ ds => decide (uptoBulkAll ds ≤ 1048576)
def OpenSpec.upto (s : _root_.Go.ChangeSpec) : _root_.Go.OpenSpec := { _root_.Go.OpenSpec.ofChange s with cond := some uptoSmall }

/-- 'gangplanklaw12.FlowsTell', WHERE WHAT IT READS IS OF BULK AT MOST 1048576: true; the input reads as it did. -/
def flowsTellUptoRow : OpenClaim := { program := "ytbflnhoifkdooaa", sum := "76dc871381b751652b63ff7ee93374c5c6655b3950d3d9ede0b0df69d5e16dda", func := "gangplank/gangplanklaw12.FlowsTell", spec := "flowsTell", unfollowed := true, recurses := true, apart := false, narrowed := true }
def FlowsTellUptoSaid : Prop := flowsTellUptoRow.holds Try.pinned (OpenSpec.upto flowsTellSpec)

/-- 'gangplanklaw12.FlowsPut', WHERE WHAT IT READS IS OF BULK AT MOST 1048576: true; the input reads as it did. -/
def flowsPutUptoRow : OpenClaim := { program := "ytbflnhoifkdooaa", sum := "76dc871381b751652b63ff7ee93374c5c6655b3950d3d9ede0b0df69d5e16dda", func := "gangplank/gangplanklaw12.FlowsPut", spec := "flowsPut", unfollowed := true, recurses := true, apart := false, narrowed := true }
def FlowsPutUptoSaid : Prop := flowsPutUptoRow.holds Try.pinned (OpenSpec.upto flowsPutSpec)

/-- 'gangplanklaw12.FlowsDelete', WHERE WHAT IT READS IS OF BULK AT MOST 1048576: true; the input reads as it did. -/
def flowsDeleteUptoRow : OpenClaim := { program := "ytbflnhoifkdooaa", sum := "76dc871381b751652b63ff7ee93374c5c6655b3950d3d9ede0b0df69d5e16dda", func := "gangplank/gangplanklaw12.FlowsDelete", spec := "flowsDelete", unfollowed := true, recurses := true, apart := false, narrowed := true }
def FlowsDeleteUptoSaid : Prop := flowsDeleteUptoRow.holds Try.pinned (OpenSpec.upto flowsDeleteSpec)

/-- 'gangplanklaw12.FlowsTidy', WHERE WHAT IT READS IS OF BULK AT MOST 1048576: true; the input reads as it did. -/
def flowsTidyUptoRow : OpenClaim := { program := "ytbflnhoifkdooaa", sum := "76dc871381b751652b63ff7ee93374c5c6655b3950d3d9ede0b0df69d5e16dda", func := "gangplank/gangplanklaw12.FlowsTidy", spec := "flowsTidy", unfollowed := true, recurses := true, apart := false, narrowed := true }
def FlowsTidyUptoSaid : Prop := flowsTidyUptoRow.holds Try.pinned (OpenSpec.upto flowsTidySpec)

/-- 'gangplanklaw12.FlowsOne', WHERE WHAT IT READS IS OF BULK AT MOST 1048576: true; the input reads as it did. -/
def flowsOneUptoRow : OpenClaim := { program := "ytbflnhoifkdooaa", sum := "76dc871381b751652b63ff7ee93374c5c6655b3950d3d9ede0b0df69d5e16dda", func := "gangplank/gangplanklaw12.FlowsOne", spec := "flowsOne", unfollowed := true, recurses := true, apart := false, narrowed := true }
def FlowsOneUptoSaid : Prop := flowsOneUptoRow.holds Try.pinned (OpenSpec.upto flowsOneSpec)

/-- 'gangplanklaw12.FlowsBack', WHERE WHAT IT READS IS OF BULK AT MOST 1048576: true; the input reads as it did. -/
def flowsBackUptoRow : OpenClaim := { program := "ytbflnhoifkdooaa", sum := "76dc871381b751652b63ff7ee93374c5c6655b3950d3d9ede0b0df69d5e16dda", func := "gangplank/gangplanklaw12.FlowsBack", spec := "flowsBack", unfollowed := true, recurses := true, apart := false, narrowed := true }
def FlowsBackUptoSaid : Prop := flowsBackUptoRow.holds Try.pinned (OpenSpec.upto flowsBackSpec)

/-- 'gangplanklaw12.FlowsMany', WHERE WHAT IT READS IS OF BULK AT MOST 1048576: true; the input reads as it did. -/
def flowsManyUptoRow : OpenClaim := { program := "ytbflnhoifkdooaa", sum := "76dc871381b751652b63ff7ee93374c5c6655b3950d3d9ede0b0df69d5e16dda", func := "gangplank/gangplanklaw12.FlowsMany", spec := "flowsMany", unfollowed := true, recurses := true, apart := false, narrowed := true }
def FlowsManyUptoSaid : Prop := flowsManyUptoRow.holds Try.pinned (OpenSpec.upto flowsManySpec)

end Rows
end Go.Proofs.Ytbflnhoifkdooaa
