/-
  No cell of these rows narrows 'for every input' (looked for: loops, veiled, ifaces, maps, wideKeys, modest, calm, conditions, laid).
  DERIVED. THE GIVEN ROWS OF THIS SEAT. 5 by the template 'for every input the law returns true; each argument reads behind the call as it read before'; 0 by the template 'total and deterministic' (their statements: YtppjlpihaocdiaaTotals.lean).
  GIVEN WITH THE SEED: the statements are not yours to turn. If you find one false, say at which input.
  Laid BY PROGRAM, IN A SANDBOX (cutbox-rows.mjs): the forced cells as the released guide's own fill.sh prints them over the translation 446ac34e1cea8dd1… (all of the seat's roots in one cut). By AI agents, Wed Nov 11 2026. No macro, syntax, notation, axiom, sorry.
-/
import Derived.Test.YtppjlpihaocdiaaChecked
import GoSem.Claim
import GoSem.ClaimJoined
import GoSem.ClaimMapViews
import Derived.JoinedTies
import Derived.KernelRfl
namespace Go.Proofs.Ytppjlpihaocdiaa
/- THE CELL 'sum', in the pinned program and in every row, IS THE sha256 OF THE DUMP (.gsa) THAT YtppjlpihaocdiaaProg.lean LOADS. Nothing in Lean hashes anything: it is a label: what it is worth is what the hold of that sum in a sandbox is worth. -/
noncomputable def Try.pinned : Pinned := { name := "ytppjlpihaocdiaa", sum := "446ac34e1cea8dd154414dab879ad4274f2258ba24373076d212a1dbf89924f5", checked := Try.checked }
namespace Rows
def none {H : Type} : Left H := { results := [], args := [] }

/-- 'lineworklaw.Patterned': WHATEVER THE INPUT: true; the input reads as it did. -/
def patternedSpec : ChangeSpec := { name := "patterned", fn := fun _ => fun
  | [d] => { results := [.lit (.bool true)], args := [d] }
  | _ => none }
def patternedRow : OpenClaim := { program := "ytppjlpihaocdiaa", sum := "446ac34e1cea8dd154414dab879ad4274f2258ba24373076d212a1dbf89924f5", func := "linework/lineworklaw.Patterned", spec := "patterned", inPlace := ["internal/bytealg.IndexByteString"], recurses := true, apart := false }
def PatternedSaid : Prop := patternedRow.holds Try.pinned (OpenSpec.ofChange patternedSpec)

/-- ITS FALSE NEIGHBOUR: 'it returns false'. Refute it at one input. -/
def patternedWrong : ChangeSpec := { name := "patterned", fn := fun _ => fun
  | [d] => { results := [.lit (.bool false)], args := [d] }
  | _ => none }
def PatternedWrongFalsely : Prop := patternedRow.holds Try.pinned (OpenSpec.ofChange patternedWrong)

/-- 'lineworklaw.Matches': WHATEVER THE INPUT: true; the input reads as it did. -/
def matchesSpec : ChangeSpec := { name := "matches", fn := fun _ => fun
  | [d1, d2] => { results := [.lit (.bool true)], args := [d1, d2] }
  | _ => none }
def matchesRow : OpenClaim := { program := "ytppjlpihaocdiaa", sum := "446ac34e1cea8dd154414dab879ad4274f2258ba24373076d212a1dbf89924f5", func := "linework/lineworklaw.Matches", spec := "matches", inPlace := ["internal/bytealg.IndexByteString"], recurses := true, apart := false }
def MatchesSaid : Prop := matchesRow.holds Try.pinned (OpenSpec.ofChange matchesSpec)

/-- ITS FALSE NEIGHBOUR: 'it returns false'. Refute it at one input. -/
def matchesWrong : ChangeSpec := { name := "matches", fn := fun _ => fun
  | [d1, d2] => { results := [.lit (.bool false)], args := [d1, d2] }
  | _ => none }
def MatchesWrongFalsely : Prop := matchesRow.holds Try.pinned (OpenSpec.ofChange matchesWrong)

/-- 'lineworklaw.Checked': WHATEVER THE INPUT: true; the input reads as it did. -/
def checkedSpec : ChangeSpec := { name := "checked", fn := fun _ => fun
  | [d] => { results := [.lit (.bool true)], args := [d] }
  | _ => none }
def checkedRow : OpenClaim := { program := "ytppjlpihaocdiaa", sum := "446ac34e1cea8dd154414dab879ad4274f2258ba24373076d212a1dbf89924f5", func := "linework/lineworklaw.Checked", spec := "checked", inPlace := ["internal/bytealg.IndexByteString", "internal/bytealg.IndexString", "internal/bytealg.IndexByte"], recurses := true, named := ["internal/bytealg.MaxLen"], apart := false }
def CheckedSaid : Prop := checkedRow.holds Try.pinned (OpenSpec.ofChange checkedSpec)

/-- ITS FALSE NEIGHBOUR: 'it returns false'. Refute it at one input. -/
def checkedWrong : ChangeSpec := { name := "checked", fn := fun _ => fun
  | [d] => { results := [.lit (.bool false)], args := [d] }
  | _ => none }
def CheckedWrongFalsely : Prop := checkedRow.holds Try.pinned (OpenSpec.ofChange checkedWrong)

/-- 'lineworkkeep.Longest': WHATEVER THE INPUT: true; the input reads as it did. -/
def longestSpec : ChangeSpec := { name := "longest", fn := fun _ => fun
  | [d1, d2] => { results := [.lit (.bool true)], args := [d1, d2] }
  | _ => none }
def longestRow : OpenClaim := { program := "ytppjlpihaocdiaa", sum := "446ac34e1cea8dd154414dab879ad4274f2258ba24373076d212a1dbf89924f5", func := "linework/lineworkkeep.Longest", spec := "longest", inPlace := ["internal/bytealg.IndexByteString"], recurses := true, apart := false }
def LongestSaid : Prop := longestRow.holds Try.pinned (OpenSpec.ofChange longestSpec)

/-- ITS FALSE NEIGHBOUR: 'it returns false'. Refute it at one input. -/
def longestWrong : ChangeSpec := { name := "longest", fn := fun _ => fun
  | [d1, d2] => { results := [.lit (.bool false)], args := [d1, d2] }
  | _ => none }
def LongestWrongFalsely : Prop := longestRow.holds Try.pinned (OpenSpec.ofChange longestWrong)

/-- 'lineworkkeep.Starred': WHATEVER THE INPUT: true; the input reads as it did. -/
def starredSpec : ChangeSpec := { name := "starred", fn := fun _ => fun
  | [d1, d2, d3] => { results := [.lit (.bool true)], args := [d1, d2, d3] }
  | _ => none }
def starredRow : OpenClaim := { program := "ytppjlpihaocdiaa", sum := "446ac34e1cea8dd154414dab879ad4274f2258ba24373076d212a1dbf89924f5", func := "linework/lineworkkeep.Starred", spec := "starred", inPlace := ["internal/bytealg.IndexByteString"], recurses := true, apart := false }
def StarredSaid : Prop := starredRow.holds Try.pinned (OpenSpec.ofChange starredSpec)

/-- ITS FALSE NEIGHBOUR: 'it returns false'. Refute it at one input. -/
def starredWrong : ChangeSpec := { name := "starred", fn := fun _ => fun
  | [d1, d2, d3] => { results := [.lit (.bool false)], args := [d1, d2, d3] }
  | _ => none }
def StarredWrongFalsely : Prop := starredRow.holds Try.pinned (OpenSpec.ofChange starredWrong)

/- THE SECOND FORM. 'bulk': how many values and letters a reading holds, each counted each time it is reached (what is shared counts as often as it is met; a slice's spare places count too). A statement '..UptoSaid' is the law's where the arguments, and the package variables that the reading takes, are together of bulk at most 1048576: NARROWER than '..Said'. Prove '..Said' where nothing that the law and all that it calls make is longer than what came in: it says more and counts as full. Else prove '..UptoSaid'. A law counts once. -/
mutual
def uptoBulk {H : Type} : DataW H → Nat
  | .lit (.string bytes) => bytes.length + 1
  | .lit _ => 1
  | .nil => 1
  | .ptr d => uptoBulk d + 1
  | .slice elems spare => uptoBulkAll elems + uptoBulkAll spare + 1
  | .agg parts => uptoBulkAll parts + 1
  | .iface _ d => uptoBulk d + 1
  | .map entries => uptoBulkEntries entries + 1
  | .held _ => 1
def uptoBulkAll {H : Type} : List (DataW H) → Nat
  | [] => 0
  | d :: r => uptoBulk d + uptoBulkAll r
def uptoBulkEntries {H : Type} : List (Lit × DataW H) → Nat
  | [] => 0
  | x :: r => uptoBulkEntry x + uptoBulkEntries r
def uptoBulkEntry {H : Type} : Lit × DataW H → Nat
  | (.string bytes, d) => bytes.length + uptoBulk d + 1
  | (_, d) => uptoBulk d + 1
 end
def uptoSmall : (H : Type) → List (DataW H) → Bool := fun _ ds => decide (uptoBulkAll ds ≤ 1048576)
def OpenSpec.upto (s : _root_.Go.ChangeSpec) : _root_.Go.OpenSpec := { _root_.Go.OpenSpec.ofChange s with cond := some uptoSmall }

/-- 'lineworklaw.Patterned', WHERE WHAT IT READS IS OF BULK AT MOST 1048576: true; the input reads as it did. -/
def patternedUptoRow : OpenClaim := { program := "ytppjlpihaocdiaa", sum := "446ac34e1cea8dd154414dab879ad4274f2258ba24373076d212a1dbf89924f5", func := "linework/lineworklaw.Patterned", spec := "patterned", inPlace := ["internal/bytealg.IndexByteString"], recurses := true, apart := false, narrowed := true }
def PatternedUptoSaid : Prop := patternedUptoRow.holds Try.pinned (OpenSpec.upto patternedSpec)

/-- 'lineworklaw.Matches', WHERE WHAT IT READS IS OF BULK AT MOST 1048576: true; the input reads as it did. -/
def matchesUptoRow : OpenClaim := { program := "ytppjlpihaocdiaa", sum := "446ac34e1cea8dd154414dab879ad4274f2258ba24373076d212a1dbf89924f5", func := "linework/lineworklaw.Matches", spec := "matches", inPlace := ["internal/bytealg.IndexByteString"], recurses := true, apart := false, narrowed := true }
def MatchesUptoSaid : Prop := matchesUptoRow.holds Try.pinned (OpenSpec.upto matchesSpec)

/-- 'lineworklaw.Checked', WHERE WHAT IT READS IS OF BULK AT MOST 1048576: true; the input reads as it did. -/
def checkedUptoRow : OpenClaim := { program := "ytppjlpihaocdiaa", sum := "446ac34e1cea8dd154414dab879ad4274f2258ba24373076d212a1dbf89924f5", func := "linework/lineworklaw.Checked", spec := "checked", inPlace := ["internal/bytealg.IndexByteString", "internal/bytealg.IndexString", "internal/bytealg.IndexByte"], recurses := true, named := ["internal/bytealg.MaxLen"], apart := false, narrowed := true }
def CheckedUptoSaid : Prop := checkedUptoRow.holds Try.pinned (OpenSpec.upto checkedSpec)

/-- 'lineworkkeep.Longest', WHERE WHAT IT READS IS OF BULK AT MOST 1048576: true; the input reads as it did. -/
def longestUptoRow : OpenClaim := { program := "ytppjlpihaocdiaa", sum := "446ac34e1cea8dd154414dab879ad4274f2258ba24373076d212a1dbf89924f5", func := "linework/lineworkkeep.Longest", spec := "longest", inPlace := ["internal/bytealg.IndexByteString"], recurses := true, apart := false, narrowed := true }
def LongestUptoSaid : Prop := longestUptoRow.holds Try.pinned (OpenSpec.upto longestSpec)

/-- 'lineworkkeep.Starred', WHERE WHAT IT READS IS OF BULK AT MOST 1048576: true; the input reads as it did. -/
def starredUptoRow : OpenClaim := { program := "ytppjlpihaocdiaa", sum := "446ac34e1cea8dd154414dab879ad4274f2258ba24373076d212a1dbf89924f5", func := "linework/lineworkkeep.Starred", spec := "starred", inPlace := ["internal/bytealg.IndexByteString"], recurses := true, apart := false, narrowed := true }
def StarredUptoSaid : Prop := starredUptoRow.holds Try.pinned (OpenSpec.upto starredSpec)

end Rows
end Go.Proofs.Ytppjlpihaocdiaa
