/-
  No cell of these rows narrows 'for every input' (looked for: loops, veiled, ifaces, maps, wideKeys, modest, calm, conditions, laid).
  DERIVED. THE GIVEN ROWS OF THIS SEAT. 4 by the template 'for every input the law returns true; each argument reads behind the call as it read before'; 0 by the template 'total and deterministic' (their statements: YtefdnnmgmdaapaaTotals.lean).
  GIVEN WITH THE SEED: the statements are not yours to turn. If you find one false, say at which input.
  Laid BY PROGRAM, IN A SANDBOX (cutbox-rows.mjs): the forced cells as the released guide's own fill.sh prints them over the translation 8ca764ba2ea75543… (all of the seat's roots in one cut). By AI agents, Wed Nov 11 2026. No macro, syntax, notation, axiom, sorry.
-/
import Derived.Test.YtefdnnmgmdaapaaChecked
import GoSem.Claim
import GoSem.ClaimJoined
import GoSem.ClaimMapViews
import Derived.JoinedTies
import Derived.KernelRfl
namespace Go.Proofs.Ytefdnnmgmdaapaa
/- THE CELL 'sum', in the pinned program and in every row, IS THE sha256 OF THE DUMP (.gsa) THAT YtefdnnmgmdaapaaProg.lean LOADS. Nothing in Lean hashes anything: it is a label: what it is worth is what the hold of that sum in a sandbox is worth. -/
noncomputable def Try.pinned : Pinned := { name := "ytefdnnmgmdaapaa", sum := "8ca764ba2ea755433da20a1999cf39fcfa97c6ce76e9238237a369998b06718e", checked := Try.checked }
namespace Rows
def none {H : Type} : Left H := { results := [], args := [] }

/-- 'gangplanklaw16.SlotsReady': WHATEVER THE INPUT: true; the input reads as it did. -/
def slotsReadySpec : ChangeSpec := { name := "slotsReady", fn := fun _ => fun
  | [d1, d2, d3, d4, d5] => { results := [.lit (.bool true)], args := [d1, d2, d3, d4, d5] }
  | _ => none }
def slotsReadyRow : OpenClaim := { program := "ytefdnnmgmdaapaa", sum := "8ca764ba2ea755433da20a1999cf39fcfa97c6ce76e9238237a369998b06718e", func := "gangplank/gangplanklaw16.SlotsReady", spec := "slotsReady", unfollowed := true, recurses := true, apart := false }
def SlotsReadySaid : Prop := slotsReadyRow.holds Try.pinned (OpenSpec.ofChange slotsReadySpec)

/-- ITS FALSE NEIGHBOUR: 'it returns false'. Refute it at one input. -/
def slotsReadyWrong : ChangeSpec := { name := "slotsReady", fn := fun _ => fun
  | [d1, d2, d3, d4, d5] => { results := [.lit (.bool false)], args := [d1, d2, d3, d4, d5] }
  | _ => none }
def SlotsReadyWrongFalsely : Prop := slotsReadyRow.holds Try.pinned (OpenSpec.ofChange slotsReadyWrong)

/-- 'gangplanklaw16.SlotsHas': WHATEVER THE INPUT: true; the input reads as it did. -/
def slotsHasSpec : ChangeSpec := { name := "slotsHas", fn := fun _ => fun
  | [d1, d2, d3] => { results := [.lit (.bool true)], args := [d1, d2, d3] }
  | _ => none }
def slotsHasRow : OpenClaim := { program := "ytefdnnmgmdaapaa", sum := "8ca764ba2ea755433da20a1999cf39fcfa97c6ce76e9238237a369998b06718e", func := "gangplank/gangplanklaw16.SlotsHas", spec := "slotsHas", unfollowed := true, recurses := true, apart := false }
def SlotsHasSaid : Prop := slotsHasRow.holds Try.pinned (OpenSpec.ofChange slotsHasSpec)

/-- ITS FALSE NEIGHBOUR: 'it returns false'. Refute it at one input. -/
def slotsHasWrong : ChangeSpec := { name := "slotsHas", fn := fun _ => fun
  | [d1, d2, d3] => { results := [.lit (.bool false)], args := [d1, d2, d3] }
  | _ => none }
def SlotsHasWrongFalsely : Prop := slotsHasRow.holds Try.pinned (OpenSpec.ofChange slotsHasWrong)

/-- 'gangplanklaw16.SlotsNone': WHATEVER THE INPUT: true; the input reads as it did. -/
def slotsNoneSpec : ChangeSpec := { name := "slotsNone", fn := fun _ => fun
  | [d1, d2, d3, d4, d5] => { results := [.lit (.bool true)], args := [d1, d2, d3, d4, d5] }
  | _ => none }
def slotsNoneRow : OpenClaim := { program := "ytefdnnmgmdaapaa", sum := "8ca764ba2ea755433da20a1999cf39fcfa97c6ce76e9238237a369998b06718e", func := "gangplank/gangplanklaw16.SlotsNone", spec := "slotsNone", unfollowed := true, recurses := true, apart := false }
def SlotsNoneSaid : Prop := slotsNoneRow.holds Try.pinned (OpenSpec.ofChange slotsNoneSpec)

/-- ITS FALSE NEIGHBOUR: 'it returns false'. Refute it at one input. -/
def slotsNoneWrong : ChangeSpec := { name := "slotsNone", fn := fun _ => fun
  | [d1, d2, d3, d4, d5] => { results := [.lit (.bool false)], args := [d1, d2, d3, d4, d5] }
  | _ => none }
def SlotsNoneWrongFalsely : Prop := slotsNoneRow.holds Try.pinned (OpenSpec.ofChange slotsNoneWrong)

/-- 'gangplanklaw16.SlotsAnew': WHATEVER THE INPUT: true; the input reads as it did. -/
def slotsAnewSpec : ChangeSpec := { name := "slotsAnew", fn := fun _ => fun
  | [d1, d2, d3, d4, d5] => { results := [.lit (.bool true)], args := [d1, d2, d3, d4, d5] }
  | _ => none }
def slotsAnewRow : OpenClaim := { program := "ytefdnnmgmdaapaa", sum := "8ca764ba2ea755433da20a1999cf39fcfa97c6ce76e9238237a369998b06718e", func := "gangplank/gangplanklaw16.SlotsAnew", spec := "slotsAnew", unfollowed := true, recurses := true, apart := false }
def SlotsAnewSaid : Prop := slotsAnewRow.holds Try.pinned (OpenSpec.ofChange slotsAnewSpec)

/-- ITS FALSE NEIGHBOUR: 'it returns false'. Refute it at one input. -/
def slotsAnewWrong : ChangeSpec := { name := "slotsAnew", fn := fun _ => fun
  | [d1, d2, d3, d4, d5] => { results := [.lit (.bool false)], args := [d1, d2, d3, d4, d5] }
  | _ => none }
def SlotsAnewWrongFalsely : Prop := slotsAnewRow.holds Try.pinned (OpenSpec.ofChange slotsAnewWrong)

/- THE SECOND FORM. 'bulk': how many values and letters a reading holds, each counted each time it is reached (what is shared counts as often as it is met; a slice's spare places count too). A statement '..UptoSaid' is the law's where the arguments, and the package variables that the reading takes, are together of bulk at most 1048576: NARROWER than '..Said'. Prove '..Said' where nothing that the law and all that it calls make is longer than what came in: it says more and counts as full. Else prove '..UptoSaid'. A law counts once. -/
mutual
def uptoBulk {H : Type} : DataW H → Nat
  | .lit (.string bytes) => bytes.length + 1
  | .lit _ => 1
  | .nil => 1
  | .ptr d => uptoBulk d + 1
  | .slice elems spare => uptoBulkAll elems + uptoBulkAll spare + 1
  | .agg parts => uptoBulkAll parts + 1
  | .iface _ d => uptoBulk d + 1
  | .map entries => uptoBulkEntries entries + 1
  | .held _ => 1
def uptoBulkAll {H : Type} : List (DataW H) → Nat
  | [] => 0
  | d :: r => uptoBulk d + uptoBulkAll r
def uptoBulkEntries {H : Type} : List (Lit × DataW H) → Nat
  | [] => 0
  | x :: r => uptoBulkEntry x + uptoBulkEntries r
def uptoBulkEntry {H : Type} : Lit × DataW H → Nat
  | (.string bytes, d) => bytes.length + uptoBulk d + 1
  | (_, d) => uptoBulk d + 1
 end
def uptoSmall : (H : Type) → List (DataW H) → Bool := fun _ ds => decide (uptoBulkAll ds ≤ 1048576)
def OpenSpec.upto (s : _root_.Go.ChangeSpec) : _root_.Go.OpenSpec := { _root_.Go.OpenSpec.ofChange s with cond := some uptoSmall }

/-- 'gangplanklaw16.SlotsReady', WHERE WHAT IT READS IS OF BULK AT MOST 1048576: true; the input reads as it did. -/
def slotsReadyUptoRow : OpenClaim := { program := "ytefdnnmgmdaapaa", sum := "8ca764ba2ea755433da20a1999cf39fcfa97c6ce76e9238237a369998b06718e", func := "gangplank/gangplanklaw16.SlotsReady", spec := "slotsReady", unfollowed := true, recurses := true, apart := false, narrowed := true }
def SlotsReadyUptoSaid : Prop := slotsReadyUptoRow.holds Try.pinned (OpenSpec.upto slotsReadySpec)

/-- 'gangplanklaw16.SlotsHas', WHERE WHAT IT READS IS OF BULK AT MOST 1048576: true; the input reads as it did. -/
def slotsHasUptoRow : OpenClaim := { program := "ytefdnnmgmdaapaa", sum := "8ca764ba2ea755433da20a1999cf39fcfa97c6ce76e9238237a369998b06718e", func := "gangplank/gangplanklaw16.SlotsHas", spec := "slotsHas", unfollowed := true, recurses := true, apart := false, narrowed := true }
def SlotsHasUptoSaid : Prop := slotsHasUptoRow.holds Try.pinned (OpenSpec.upto slotsHasSpec)

/-- 'gangplanklaw16.SlotsNone', WHERE WHAT IT READS IS OF BULK AT MOST 1048576: true; the input reads as it did. -/
def slotsNoneUptoRow : OpenClaim := { program := "ytefdnnmgmdaapaa", sum := "8ca764ba2ea755433da20a1999cf39fcfa97c6ce76e9238237a369998b06718e", func := "gangplank/gangplanklaw16.SlotsNone", spec := "slotsNone", unfollowed := true, recurses := true, apart := false, narrowed := true }
def SlotsNoneUptoSaid : Prop := slotsNoneUptoRow.holds Try.pinned (OpenSpec.upto slotsNoneSpec)

/-- 'gangplanklaw16.SlotsAnew', WHERE WHAT IT READS IS OF BULK AT MOST 1048576: true; the input reads as it did. -/
def slotsAnewUptoRow : OpenClaim := { program := "ytefdnnmgmdaapaa", sum := "8ca764ba2ea755433da20a1999cf39fcfa97c6ce76e9238237a369998b06718e", func := "gangplank/gangplanklaw16.SlotsAnew", spec := "slotsAnew", unfollowed := true, recurses := true, apart := false, narrowed := true }
def SlotsAnewUptoSaid : Prop := slotsAnewUptoRow.holds Try.pinned (OpenSpec.upto slotsAnewSpec)

end Rows
end Go.Proofs.Ytefdnnmgmdaapaa
