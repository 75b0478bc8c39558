/-
  DERIVED. GIVEN WITH THE SEED: THE CARDS: each row of YtppjlpihaocdiabGreatDoorRows.lean that lists a variable, with what it lists TIED to the program's text (the seventh form; the later family's looks); each row that meets fmt, with fmt's text TOLD by the authors' own Lean function (tested against real Go, not proved from fmt's source: count such statements apart). THE CARD IS WHAT COUNTS. Prove the row's statement (the work); the ties are given (YtppjlpihaocdiabGreatDoorTie.lean); close each card by the builder's one call (the guide's Derived/Test/ToyasCard.lean, 'card_holds'). Laid BY PROGRAM, IN A SANDBOX (cutbox-door.mjs). By AI agents, Wed Nov 11 2026. No macro, syntax, notation, axiom, sorry.
-/
import Derived.Test.YtppjlpihaocdiabGreatDoorRows
import GoSem.ClaimSeven
namespace Go.Proofs.YtppjlpihaocdiabGreatDoor
namespace Rows

/-- THE TIED CARD OF 'lineworkkeep.Turned'. -/
def turnedCard : Claim7 := { stood := { row := turnedRow, standIns := [], harness := (true, "3756949ce737328875f6b79b455ba233be61d91f65596f366753851b48499c8c"), looks := false }, kinds := [], alts := [], laidByText := true, laidKinds := [.data, .data, .data], laidTests := true, laidLooks := .later }
def TurnedCardSaid : Prop := Claim7.holds Tryz.pinned (.plain (OpenSpec.ofChange turnedSpec)) turnedCard

/-- THE TIED CARD OF 'lineworkkeep.Replaced'. -/
def replacedCard : Claim7 := { stood := { row := replacedRow, standIns := [], harness := (true, "3756949ce737328875f6b79b455ba233be61d91f65596f366753851b48499c8c"), looks := false }, kinds := [], alts := [], laidByText := true, laidKinds := [.data, .data, .data], laidTests := true, laidLooks := .later }
def ReplacedCardSaid : Prop := Claim7.holds Tryz.pinned (.plain (OpenSpec.ofChange replacedSpec)) replacedCard

/-- THE TIED CARD OF 'lineworkkeep.Bounded'. -/
def boundedCard : Claim7 := { stood := { row := boundedRow, standIns := [], harness := (true, "3756949ce737328875f6b79b455ba233be61d91f65596f366753851b48499c8c"), looks := false }, kinds := [], alts := [], laidByText := true, laidKinds := [.data, .data, .data], laidTests := true, laidLooks := .later }
def BoundedCardSaid : Prop := Claim7.holds Tryz.pinned (.plain (OpenSpec.ofChange boundedSpec)) boundedCard

/-- THE SECOND FORM's CARD OF 'lineworkkeep.Turned'. -/
def turnedUptoCard : Claim7 := { stood := { row := turnedUptoRow, standIns := [], harness := (true, "3756949ce737328875f6b79b455ba233be61d91f65596f366753851b48499c8c"), looks := false }, kinds := [], alts := [], laidByText := true, laidKinds := [.data, .data, .data], laidTests := true, laidLooks := .later }
def TurnedUptoCardSaid : Prop := Claim7.holds Tryz.pinned (.plain (OpenSpec.upto turnedSpec)) turnedUptoCard

/-- THE SECOND FORM's CARD OF 'lineworkkeep.Replaced'. -/
def replacedUptoCard : Claim7 := { stood := { row := replacedUptoRow, standIns := [], harness := (true, "3756949ce737328875f6b79b455ba233be61d91f65596f366753851b48499c8c"), looks := false }, kinds := [], alts := [], laidByText := true, laidKinds := [.data, .data, .data], laidTests := true, laidLooks := .later }
def ReplacedUptoCardSaid : Prop := Claim7.holds Tryz.pinned (.plain (OpenSpec.upto replacedSpec)) replacedUptoCard

/-- THE SECOND FORM's CARD OF 'lineworkkeep.Bounded'. -/
def boundedUptoCard : Claim7 := { stood := { row := boundedUptoRow, standIns := [], harness := (true, "3756949ce737328875f6b79b455ba233be61d91f65596f366753851b48499c8c"), looks := false }, kinds := [], alts := [], laidByText := true, laidKinds := [.data, .data, .data], laidTests := true, laidLooks := .later }
def BoundedUptoCardSaid : Prop := Claim7.holds Tryz.pinned (.plain (OpenSpec.upto boundedSpec)) boundedUptoCard
end Rows
end Go.Proofs.YtppjlpihaocdiabGreatDoor
