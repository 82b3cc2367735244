/-
  No cell of these rows narrows 'for every input' (looked for: loops, veiled, ifaces, maps, wideKeys, modest, calm, conditions, laid).
  DERIVED. THE GIVEN ROWS OF THIS SEAT. 6 by the template 'for every input the law returns true; each argument reads behind the call as it read before'; 0 by the template 'total and deterministic' (their statements: YtkgaiadmacapfaaTotals.lean).
  GIVEN WITH THE SEED: the statements are not yours to turn. If you find one false, say at which input.
  Laid BY PROGRAM, IN A SANDBOX (cutbox-rows.mjs): the forced cells as the released guide's own fill.sh prints them over the translation ee8c67c47a8f1a89… (all of the seat's roots in one cut). By AI agents, Wed Nov 11 2026. No macro, syntax, notation, axiom, sorry.
-/
import Derived.Test.YtkgaiadmacapfaaChecked
import GoSem.Claim
import GoSem.ClaimJoined
import GoSem.ClaimMapViews
import Derived.JoinedTies
import Derived.KernelRfl
namespace Go.Proofs.Ytkgaiadmacapfaa
/- THE CELL 'sum', in the pinned program and in every row, IS THE sha256 OF THE DUMP (.gsa) THAT YtkgaiadmacapfaaProg.lean LOADS. Nothing in Lean hashes anything: it is a label: what it is worth is what the hold of that sum in a sandbox is worth. -/
noncomputable def Try.pinned : Pinned := { name := "ytkgaiadmacapfaa", sum := "ee8c67c47a8f1a891c973eb8b3e7e1a3c7d241c5577fed7b0764bbfd62edb110", checked := Try.checked }
namespace Rows
def none {H : Type} : Left H := { results := [], args := [] }

/-- 'gangplanklaw11.ProbeTells': WHATEVER THE INPUT: true; the input reads as it did. -/
def probeTellsSpec : ChangeSpec := { name := "probeTells", fn := fun _ => fun
  | [d1, d2, d3, d4, d5] => { results := [.lit (.bool true)], args := [d1, d2, d3, d4, d5] }
  | _ => none }
def probeTellsRow : OpenClaim := { program := "ytkgaiadmacapfaa", sum := "ee8c67c47a8f1a891c973eb8b3e7e1a3c7d241c5577fed7b0764bbfd62edb110", func := "gangplank/gangplanklaw11.ProbeTells", spec := "probeTells", unfollowed := true, recurses := true, apart := false }
def ProbeTellsSaid : Prop := probeTellsRow.holds Try.pinned (OpenSpec.ofChange probeTellsSpec)

/-- ITS FALSE NEIGHBOUR: 'it returns false'. Refute it at one input. -/
def probeTellsWrong : ChangeSpec := { name := "probeTells", fn := fun _ => fun
  | [d1, d2, d3, d4, d5] => { results := [.lit (.bool false)], args := [d1, d2, d3, d4, d5] }
  | _ => none }
def ProbeTellsWrongFalsely : Prop := probeTellsRow.holds Try.pinned (OpenSpec.ofChange probeTellsWrong)

/-- 'gangplanklaw11.ProbeFinds': WHATEVER THE INPUT: true; the input reads as it did. -/
def probeFindsSpec : ChangeSpec := { name := "probeFinds", fn := fun _ => fun
  | [d1, d2] => { results := [.lit (.bool true)], args := [d1, d2] }
  | _ => none }
def probeFindsRow : OpenClaim := { program := "ytkgaiadmacapfaa", sum := "ee8c67c47a8f1a891c973eb8b3e7e1a3c7d241c5577fed7b0764bbfd62edb110", func := "gangplank/gangplanklaw11.ProbeFinds", spec := "probeFinds", unfollowed := true, recurses := true, apart := false }
def ProbeFindsSaid : Prop := probeFindsRow.holds Try.pinned (OpenSpec.ofChange probeFindsSpec)

/-- ITS FALSE NEIGHBOUR: 'it returns false'. Refute it at one input. -/
def probeFindsWrong : ChangeSpec := { name := "probeFinds", fn := fun _ => fun
  | [d1, d2] => { results := [.lit (.bool false)], args := [d1, d2] }
  | _ => none }
def ProbeFindsWrongFalsely : Prop := probeFindsRow.holds Try.pinned (OpenSpec.ofChange probeFindsWrong)

/-- 'gangplanklaw11.ProbePuts': WHATEVER THE INPUT: true; the input reads as it did. -/
def probePutsSpec : ChangeSpec := { name := "probePuts", fn := fun _ => fun
  | [d1, d2, d3] => { results := [.lit (.bool true)], args := [d1, d2, d3] }
  | _ => none }
def probePutsRow : OpenClaim := { program := "ytkgaiadmacapfaa", sum := "ee8c67c47a8f1a891c973eb8b3e7e1a3c7d241c5577fed7b0764bbfd62edb110", func := "gangplank/gangplanklaw11.ProbePuts", spec := "probePuts", unfollowed := true, recurses := true, apart := false }
def ProbePutsSaid : Prop := probePutsRow.holds Try.pinned (OpenSpec.ofChange probePutsSpec)

/-- ITS FALSE NEIGHBOUR: 'it returns false'. Refute it at one input. -/
def probePutsWrong : ChangeSpec := { name := "probePuts", fn := fun _ => fun
  | [d1, d2, d3] => { results := [.lit (.bool false)], args := [d1, d2, d3] }
  | _ => none }
def ProbePutsWrongFalsely : Prop := probePutsRow.holds Try.pinned (OpenSpec.ofChange probePutsWrong)

/-- 'gangplanklaw11.ProbeTombs': WHATEVER THE INPUT: true; the input reads as it did. -/
def probeTombsSpec : ChangeSpec := { name := "probeTombs", fn := fun _ => fun
  | [d1, d2, d3] => { results := [.lit (.bool true)], args := [d1, d2, d3] }
  | _ => none }
def probeTombsRow : OpenClaim := { program := "ytkgaiadmacapfaa", sum := "ee8c67c47a8f1a891c973eb8b3e7e1a3c7d241c5577fed7b0764bbfd62edb110", func := "gangplank/gangplanklaw11.ProbeTombs", spec := "probeTombs", unfollowed := true, recurses := true, apart := false }
def ProbeTombsSaid : Prop := probeTombsRow.holds Try.pinned (OpenSpec.ofChange probeTombsSpec)

/-- ITS FALSE NEIGHBOUR: 'it returns false'. Refute it at one input. -/
def probeTombsWrong : ChangeSpec := { name := "probeTombs", fn := fun _ => fun
  | [d1, d2, d3] => { results := [.lit (.bool false)], args := [d1, d2, d3] }
  | _ => none }
def ProbeTombsWrongFalsely : Prop := probeTombsRow.holds Try.pinned (OpenSpec.ofChange probeTombsWrong)

/-- 'gangplanklaw11.ProbeWay': WHATEVER THE INPUT: true; the input reads as it did. -/
def probeWaySpec : ChangeSpec := { name := "probeWay", fn := fun _ => fun
  | [d1, d2, d3] => { results := [.lit (.bool true)], args := [d1, d2, d3] }
  | _ => none }
def probeWayRow : OpenClaim := { program := "ytkgaiadmacapfaa", sum := "ee8c67c47a8f1a891c973eb8b3e7e1a3c7d241c5577fed7b0764bbfd62edb110", func := "gangplank/gangplanklaw11.ProbeWay", spec := "probeWay", unfollowed := true, recurses := true, apart := false }
def ProbeWaySaid : Prop := probeWayRow.holds Try.pinned (OpenSpec.ofChange probeWaySpec)

/-- ITS FALSE NEIGHBOUR: 'it returns false'. Refute it at one input. -/
def probeWayWrong : ChangeSpec := { name := "probeWay", fn := fun _ => fun
  | [d1, d2, d3] => { results := [.lit (.bool false)], args := [d1, d2, d3] }
  | _ => none }
def ProbeWayWrongFalsely : Prop := probeWayRow.holds Try.pinned (OpenSpec.ofChange probeWayWrong)

/-- 'gangplanklaw11.ProbeHome': WHATEVER THE INPUT: true; the input reads as it did. -/
def probeHomeSpec : ChangeSpec := { name := "probeHome", fn := fun _ => fun
  | [d1, d2] => { results := [.lit (.bool true)], args := [d1, d2] }
  | _ => none }
def probeHomeRow : OpenClaim := { program := "ytkgaiadmacapfaa", sum := "ee8c67c47a8f1a891c973eb8b3e7e1a3c7d241c5577fed7b0764bbfd62edb110", func := "gangplank/gangplanklaw11.ProbeHome", spec := "probeHome", unfollowed := true, recurses := true, apart := false }
def ProbeHomeSaid : Prop := probeHomeRow.holds Try.pinned (OpenSpec.ofChange probeHomeSpec)

/-- ITS FALSE NEIGHBOUR: 'it returns false'. Refute it at one input. -/
def probeHomeWrong : ChangeSpec := { name := "probeHome", fn := fun _ => fun
  | [d1, d2] => { results := [.lit (.bool false)], args := [d1, d2] }
  | _ => none }
def ProbeHomeWrongFalsely : Prop := probeHomeRow.holds Try.pinned (OpenSpec.ofChange probeHomeWrong)

/- THE SECOND FORM. 'bulk': how many values and letters a reading holds, each counted each time it is reached (what is shared counts as often as it is met; a slice's spare places count too). A statement '..UptoSaid' is the law's where the arguments, and the package variables that the reading takes, are together of bulk at most 1048576: NARROWER than '..Said'. Prove '..Said' where nothing that the law and all that it calls make is longer than what came in: it says more and counts as full. Else prove '..UptoSaid'. A law counts once. -/
mutual
def uptoBulk {H : Type} : DataW H → Nat
  | .lit (.string bytes) => bytes.length + 1
  | .lit _ => 1
  | .nil => 1
  | .ptr d => uptoBulk d + 1
  | .slice elems spare => uptoBulkAll elems + uptoBulkAll spare + 1
  | .agg parts => uptoBulkAll parts + 1
  | .iface _ d => uptoBulk d + 1
  | .map entries => uptoBulkEntries entries + 1
  | .held _ => 1
def uptoBulkAll {H : Type} : List (DataW H) → Nat
  | [] => 0
  | d :: r => uptoBulk d + uptoBulkAll r
def uptoBulkEntries {H : Type} : List (Lit × DataW H) → Nat
  | [] => 0
  | x :: r => uptoBulkEntry x + uptoBulkEntries r
def uptoBulkEntry {H : Type} : Lit × DataW H → Nat
  | (.string bytes, d) => bytes.length + uptoBulk d + 1
  | (_, d) => uptoBulk d + 1
 end
def uptoSmall : (H : Type) → List (DataW H) → Bool := fun _ ds => decide (uptoBulkAll ds ≤ 1048576)
def OpenSpec.upto (s : _root_.Go.ChangeSpec) : _root_.Go.OpenSpec := { _root_.Go.OpenSpec.ofChange s with cond := some uptoSmall }

/-- 'gangplanklaw11.ProbeTells', WHERE WHAT IT READS IS OF BULK AT MOST 1048576: true; the input reads as it did. -/
def probeTellsUptoRow : OpenClaim := { program := "ytkgaiadmacapfaa", sum := "ee8c67c47a8f1a891c973eb8b3e7e1a3c7d241c5577fed7b0764bbfd62edb110", func := "gangplank/gangplanklaw11.ProbeTells", spec := "probeTells", unfollowed := true, recurses := true, apart := false, narrowed := true }
def ProbeTellsUptoSaid : Prop := probeTellsUptoRow.holds Try.pinned (OpenSpec.upto probeTellsSpec)

/-- 'gangplanklaw11.ProbeFinds', WHERE WHAT IT READS IS OF BULK AT MOST 1048576: true; the input reads as it did. -/
def probeFindsUptoRow : OpenClaim := { program := "ytkgaiadmacapfaa", sum := "ee8c67c47a8f1a891c973eb8b3e7e1a3c7d241c5577fed7b0764bbfd62edb110", func := "gangplank/gangplanklaw11.ProbeFinds", spec := "probeFinds", unfollowed := true, recurses := true, apart := false, narrowed := true }
def ProbeFindsUptoSaid : Prop := probeFindsUptoRow.holds Try.pinned (OpenSpec.upto probeFindsSpec)

/-- 'gangplanklaw11.ProbePuts', WHERE WHAT IT READS IS OF BULK AT MOST 1048576: true; the input reads as it did. -/
def probePutsUptoRow : OpenClaim := { program := "ytkgaiadmacapfaa", sum := "ee8c67c47a8f1a891c973eb8b3e7e1a3c7d241c5577fed7b0764bbfd62edb110", func := "gangplank/gangplanklaw11.ProbePuts", spec := "probePuts", unfollowed := true, recurses := true, apart := false, narrowed := true }
def ProbePutsUptoSaid : Prop := probePutsUptoRow.holds Try.pinned (OpenSpec.upto probePutsSpec)

/-- 'gangplanklaw11.ProbeTombs', WHERE WHAT IT READS IS OF BULK AT MOST 1048576: true; the input reads as it did. -/
def probeTombsUptoRow : OpenClaim := { program := "ytkgaiadmacapfaa", sum := "ee8c67c47a8f1a891c973eb8b3e7e1a3c7d241c5577fed7b0764bbfd62edb110", func := "gangplank/gangplanklaw11.ProbeTombs", spec := "probeTombs", unfollowed := true, recurses := true, apart := false, narrowed := true }
def ProbeTombsUptoSaid : Prop := probeTombsUptoRow.holds Try.pinned (OpenSpec.upto probeTombsSpec)

/-- 'gangplanklaw11.ProbeWay', WHERE WHAT IT READS IS OF BULK AT MOST 1048576: true; the input reads as it did. -/
def probeWayUptoRow : OpenClaim := { program := "ytkgaiadmacapfaa", sum := "ee8c67c47a8f1a891c973eb8b3e7e1a3c7d241c5577fed7b0764bbfd62edb110", func := "gangplank/gangplanklaw11.ProbeWay", spec := "probeWay", unfollowed := true, recurses := true, apart := false, narrowed := true }
def ProbeWayUptoSaid : Prop := probeWayUptoRow.holds Try.pinned (OpenSpec.upto probeWaySpec)

/-- 'gangplanklaw11.ProbeHome', WHERE WHAT IT READS IS OF BULK AT MOST 1048576: true; the input reads as it did. -/
def probeHomeUptoRow : OpenClaim := { program := "ytkgaiadmacapfaa", sum := "ee8c67c47a8f1a891c973eb8b3e7e1a3c7d241c5577fed7b0764bbfd62edb110", func := "gangplank/gangplanklaw11.ProbeHome", spec := "probeHome", unfollowed := true, recurses := true, apart := false, narrowed := true }
def ProbeHomeUptoSaid : Prop := probeHomeUptoRow.holds Try.pinned (OpenSpec.upto probeHomeSpec)

end Rows
end Go.Proofs.Ytkgaiadmacapfaa
