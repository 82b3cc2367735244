/-
  No cell of these rows narrows 'for every input' (looked for: loops, veiled, ifaces, maps, wideKeys, modest, calm, conditions, laid).
  DERIVED. THE GIVEN ROWS OF THIS SEAT. 6 by the template 'for every input the law returns true; each argument reads behind the call as it read before'; 0 by the template 'total and deterministic' (their statements: YtmfmggjliibblaaTotals.lean).
  GIVEN WITH THE SEED: the statements are not yours to turn. If you find one false, say at which input.
  Laid BY PROGRAM, IN A SANDBOX (cutbox-rows.mjs): the forced cells as the released guide's own fill.sh prints them over the translation a1f40bb193ef469c… (all of the seat's roots in one cut). By AI agents, Wed Nov 11 2026. No macro, syntax, notation, axiom, sorry.
-/
import Derived.Test.YtmfmggjliibblaaChecked
import GoSem.Claim
import GoSem.ClaimJoined
import GoSem.ClaimMapViews
import Derived.JoinedTies
import Derived.KernelRfl
namespace Go.Proofs.Ytmfmggjliibblaa
/- THE CELL 'sum', in the pinned program and in every row, IS THE sha256 OF THE DUMP (.gsa) THAT YtmfmggjliibblaaProg.lean LOADS. Nothing in Lean hashes anything: it is a label: what it is worth is what the hold of that sum in a sandbox is worth. -/
noncomputable def Try.pinned : Pinned := { name := "ytmfmggjliibblaa", sum := "a1f40bb193ef469c6d84d13739afa465690c1a6287450a2a1285818afd72d6ab", checked := Try.checked }
namespace Rows
def none {H : Type} : Left H := { results := [], args := [] }

/-- 'gangplanklaw04.Ip4Parses': WHATEVER THE INPUT: true; the input reads as it did. -/
def ip4ParsesSpec : ChangeSpec := { name := "ip4Parses", fn := fun _ => fun
  | [d] => { results := [.lit (.bool true)], args := [d] }
  | _ => none }
def ip4ParsesRow : OpenClaim := { program := "ytmfmggjliibblaa", sum := "a1f40bb193ef469c6d84d13739afa465690c1a6287450a2a1285818afd72d6ab", func := "gangplank/gangplanklaw04.Ip4Parses", spec := "ip4Parses", unfollowed := true, recurses := true, apart := false }
def Ip4ParsesSaid : Prop := ip4ParsesRow.holds Try.pinned (OpenSpec.ofChange ip4ParsesSpec)

/-- ITS FALSE NEIGHBOUR: 'it returns false'. Refute it at one input. -/
def ip4ParsesWrong : ChangeSpec := { name := "ip4Parses", fn := fun _ => fun
  | [d] => { results := [.lit (.bool false)], args := [d] }
  | _ => none }
def Ip4ParsesWrongFalsely : Prop := ip4ParsesRow.holds Try.pinned (OpenSpec.ofChange ip4ParsesWrong)

/-- 'gangplanklaw04.Ip4Puts': WHATEVER THE INPUT: true; the input reads as it did. -/
def ip4PutsSpec : ChangeSpec := { name := "ip4Puts", fn := fun _ => fun
  | [d1, d2, d3, d4] => { results := [.lit (.bool true)], args := [d1, d2, d3, d4] }
  | _ => none }
def ip4PutsRow : OpenClaim := { program := "ytmfmggjliibblaa", sum := "a1f40bb193ef469c6d84d13739afa465690c1a6287450a2a1285818afd72d6ab", func := "gangplank/gangplanklaw04.Ip4Puts", spec := "ip4Puts", unfollowed := true, recurses := true, apart := false }
def Ip4PutsSaid : Prop := ip4PutsRow.holds Try.pinned (OpenSpec.ofChange ip4PutsSpec)

/-- ITS FALSE NEIGHBOUR: 'it returns false'. Refute it at one input. -/
def ip4PutsWrong : ChangeSpec := { name := "ip4Puts", fn := fun _ => fun
  | [d1, d2, d3, d4] => { results := [.lit (.bool false)], args := [d1, d2, d3, d4] }
  | _ => none }
def Ip4PutsWrongFalsely : Prop := ip4PutsRow.holds Try.pinned (OpenSpec.ofChange ip4PutsWrong)

/-- 'gangplanklaw04.Ip4Back': WHATEVER THE INPUT: true; the input reads as it did. -/
def ip4BackSpec : ChangeSpec := { name := "ip4Back", fn := fun _ => fun
  | [d1, d2, d3, d4, d5] => { results := [.lit (.bool true)], args := [d1, d2, d3, d4, d5] }
  | _ => none }
def ip4BackRow : OpenClaim := { program := "ytmfmggjliibblaa", sum := "a1f40bb193ef469c6d84d13739afa465690c1a6287450a2a1285818afd72d6ab", func := "gangplank/gangplanklaw04.Ip4Back", spec := "ip4Back", unfollowed := true, recurses := true, apart := false }
def Ip4BackSaid : Prop := ip4BackRow.holds Try.pinned (OpenSpec.ofChange ip4BackSpec)

/-- ITS FALSE NEIGHBOUR: 'it returns false'. Refute it at one input. -/
def ip4BackWrong : ChangeSpec := { name := "ip4Back", fn := fun _ => fun
  | [d1, d2, d3, d4, d5] => { results := [.lit (.bool false)], args := [d1, d2, d3, d4, d5] }
  | _ => none }
def Ip4BackWrongFalsely : Prop := ip4BackRow.holds Try.pinned (OpenSpec.ofChange ip4BackWrong)

/-- 'gangplanklaw04.Ip4Word': WHATEVER THE INPUT: true; the input reads as it did. -/
def ip4WordSpec : ChangeSpec := { name := "ip4Word", fn := fun _ => fun
  | [d1, d2, d3, d4, d5, d6] => { results := [.lit (.bool true)], args := [d1, d2, d3, d4, d5, d6] }
  | _ => none }
def ip4WordRow : OpenClaim := { program := "ytmfmggjliibblaa", sum := "a1f40bb193ef469c6d84d13739afa465690c1a6287450a2a1285818afd72d6ab", func := "gangplank/gangplanklaw04.Ip4Word", spec := "ip4Word", unfollowed := true, recurses := true, apart := false }
def Ip4WordSaid : Prop := ip4WordRow.holds Try.pinned (OpenSpec.ofChange ip4WordSpec)

/-- ITS FALSE NEIGHBOUR: 'it returns false'. Refute it at one input. -/
def ip4WordWrong : ChangeSpec := { name := "ip4Word", fn := fun _ => fun
  | [d1, d2, d3, d4, d5, d6] => { results := [.lit (.bool false)], args := [d1, d2, d3, d4, d5, d6] }
  | _ => none }
def Ip4WordWrongFalsely : Prop := ip4WordRow.holds Try.pinned (OpenSpec.ofChange ip4WordWrong)

/-- 'gangplanklaw04.Ip4Held': WHATEVER THE INPUT: true; the input reads as it did. -/
def ip4HeldSpec : ChangeSpec := { name := "ip4Held", fn := fun _ => fun
  | [d1, d2] => { results := [.lit (.bool true)], args := [d1, d2] }
  | _ => none }
def ip4HeldRow : OpenClaim := { program := "ytmfmggjliibblaa", sum := "a1f40bb193ef469c6d84d13739afa465690c1a6287450a2a1285818afd72d6ab", func := "gangplank/gangplanklaw04.Ip4Held", spec := "ip4Held", unfollowed := true, recurses := true, apart := false }
def Ip4HeldSaid : Prop := ip4HeldRow.holds Try.pinned (OpenSpec.ofChange ip4HeldSpec)

/-- ITS FALSE NEIGHBOUR: 'it returns false'. Refute it at one input. -/
def ip4HeldWrong : ChangeSpec := { name := "ip4Held", fn := fun _ => fun
  | [d1, d2] => { results := [.lit (.bool false)], args := [d1, d2] }
  | _ => none }
def Ip4HeldWrongFalsely : Prop := ip4HeldRow.holds Try.pinned (OpenSpec.ofChange ip4HeldWrong)

/-- 'gangplanklaw04.Ip4Cut': WHATEVER THE INPUT: true; the input reads as it did. -/
def ip4CutSpec : ChangeSpec := { name := "ip4Cut", fn := fun _ => fun
  | [d1, d2, d3, d4, d5] => { results := [.lit (.bool true)], args := [d1, d2, d3, d4, d5] }
  | _ => none }
def ip4CutRow : OpenClaim := { program := "ytmfmggjliibblaa", sum := "a1f40bb193ef469c6d84d13739afa465690c1a6287450a2a1285818afd72d6ab", func := "gangplank/gangplanklaw04.Ip4Cut", spec := "ip4Cut", unfollowed := true, recurses := true, apart := false }
def Ip4CutSaid : Prop := ip4CutRow.holds Try.pinned (OpenSpec.ofChange ip4CutSpec)

/-- ITS FALSE NEIGHBOUR: 'it returns false'. Refute it at one input. -/
def ip4CutWrong : ChangeSpec := { name := "ip4Cut", fn := fun _ => fun
  | [d1, d2, d3, d4, d5] => { results := [.lit (.bool false)], args := [d1, d2, d3, d4, d5] }
  | _ => none }
def Ip4CutWrongFalsely : Prop := ip4CutRow.holds Try.pinned (OpenSpec.ofChange ip4CutWrong)

/- THE SECOND FORM. 'bulk': how many values and letters a reading holds, each counted each time it is reached (what is shared counts as often as it is met; a slice's spare places count too). A statement '..UptoSaid' is the law's where the arguments, and the package variables that the reading takes, are together of bulk at most 1048576: NARROWER than '..Said'. Prove '..Said' where nothing that the law and all that it calls make is longer than what came in: it says more and counts as full. Else prove '..UptoSaid'. A law counts once. -/
mutual
def uptoBulk {H : Type} : DataW H → Nat
  | .lit (.string bytes) => bytes.length + 1
  | .lit _ => 1
  | .nil => 1
  | .ptr d => uptoBulk d + 1
  | .slice elems spare => uptoBulkAll elems + uptoBulkAll spare + 1
  | .agg parts => uptoBulkAll parts + 1
  | .iface _ d => uptoBulk d + 1
  | .map entries => uptoBulkEntries entries + 1
  | .held _ => 1
def uptoBulkAll {H : Type} : List (DataW H) → Nat
  | [] => 0
  | d :: r => uptoBulk d + uptoBulkAll r
def uptoBulkEntries {H : Type} : List (Lit × DataW H) → Nat
  | [] => 0
  | x :: r => uptoBulkEntry x + uptoBulkEntries r
def uptoBulkEntry {H : Type} : Lit × DataW H → Nat
  | (.string bytes, d) => bytes.length + uptoBulk d + 1
  | (_, d) => uptoBulk d + 1
 end
def uptoSmall : (H : Type) → List (DataW H) → Bool := fun _ ds => decide (uptoBulkAll ds ≤ 1048576)
def OpenSpec.upto (s : _root_.Go.ChangeSpec) : _root_.Go.OpenSpec := { _root_.Go.OpenSpec.ofChange s with cond := some uptoSmall }

/-- 'gangplanklaw04.Ip4Parses', WHERE WHAT IT READS IS OF BULK AT MOST 1048576: true; the input reads as it did. -/
def ip4ParsesUptoRow : OpenClaim := { program := "ytmfmggjliibblaa", sum := "a1f40bb193ef469c6d84d13739afa465690c1a6287450a2a1285818afd72d6ab", func := "gangplank/gangplanklaw04.Ip4Parses", spec := "ip4Parses", unfollowed := true, recurses := true, apart := false, narrowed := true }
def Ip4ParsesUptoSaid : Prop := ip4ParsesUptoRow.holds Try.pinned (OpenSpec.upto ip4ParsesSpec)

/-- 'gangplanklaw04.Ip4Puts', WHERE WHAT IT READS IS OF BULK AT MOST 1048576: true; the input reads as it did. -/
def ip4PutsUptoRow : OpenClaim := { program := "ytmfmggjliibblaa", sum := "a1f40bb193ef469c6d84d13739afa465690c1a6287450a2a1285818afd72d6ab", func := "gangplank/gangplanklaw04.Ip4Puts", spec := "ip4Puts", unfollowed := true, recurses := true, apart := false, narrowed := true }
def Ip4PutsUptoSaid : Prop := ip4PutsUptoRow.holds Try.pinned (OpenSpec.upto ip4PutsSpec)

/-- 'gangplanklaw04.Ip4Back', WHERE WHAT IT READS IS OF BULK AT MOST 1048576: true; the input reads as it did. -/
def ip4BackUptoRow : OpenClaim := { program := "ytmfmggjliibblaa", sum := "a1f40bb193ef469c6d84d13739afa465690c1a6287450a2a1285818afd72d6ab", func := "gangplank/gangplanklaw04.Ip4Back", spec := "ip4Back", unfollowed := true, recurses := true, apart := false, narrowed := true }
def Ip4BackUptoSaid : Prop := ip4BackUptoRow.holds Try.pinned (OpenSpec.upto ip4BackSpec)

/-- 'gangplanklaw04.Ip4Word', WHERE WHAT IT READS IS OF BULK AT MOST 1048576: true; the input reads as it did. -/
def ip4WordUptoRow : OpenClaim := { program := "ytmfmggjliibblaa", sum := "a1f40bb193ef469c6d84d13739afa465690c1a6287450a2a1285818afd72d6ab", func := "gangplank/gangplanklaw04.Ip4Word", spec := "ip4Word", unfollowed := true, recurses := true, apart := false, narrowed := true }
def Ip4WordUptoSaid : Prop := ip4WordUptoRow.holds Try.pinned (OpenSpec.upto ip4WordSpec)

/-- 'gangplanklaw04.Ip4Held', WHERE WHAT IT READS IS OF BULK AT MOST 1048576: true; the input reads as it did. -/
def ip4HeldUptoRow : OpenClaim := { program := "ytmfmggjliibblaa", sum := "a1f40bb193ef469c6d84d13739afa465690c1a6287450a2a1285818afd72d6ab", func := "gangplank/gangplanklaw04.Ip4Held", spec := "ip4Held", unfollowed := true, recurses := true, apart := false, narrowed := true }
def Ip4HeldUptoSaid : Prop := ip4HeldUptoRow.holds Try.pinned (OpenSpec.upto ip4HeldSpec)

/-- 'gangplanklaw04.Ip4Cut', WHERE WHAT IT READS IS OF BULK AT MOST 1048576: true; the input reads as it did. -/
def ip4CutUptoRow : OpenClaim := { program := "ytmfmggjliibblaa", sum := "a1f40bb193ef469c6d84d13739afa465690c1a6287450a2a1285818afd72d6ab", func := "gangplank/gangplanklaw04.Ip4Cut", spec := "ip4Cut", unfollowed := true, recurses := true, apart := false, narrowed := true }
def Ip4CutUptoSaid : Prop := ip4CutUptoRow.holds Try.pinned (OpenSpec.upto ip4CutSpec)

end Rows
end Go.Proofs.Ytmfmggjliibblaa
