/-
  DERIVED. GIVEN WITH THE SEED: THE CARDS: each row of YtppjlpihaocdiaaGreatDoorRows.lean that lists a variable, with what it lists TIED to the program's text (the seventh form; the later family's looks); each row that meets fmt, with fmt's text TOLD by the authors' own Lean function (tested against real Go, not proved from fmt's source: count such statements apart). THE CARD IS WHAT COUNTS. Prove the row's statement (the work); the ties are given (YtppjlpihaocdiaaGreatDoorTie.lean); close each card by the builder's one call (the guide's Derived/Test/ToyasCard.lean, 'card_holds'). Laid BY PROGRAM, IN A SANDBOX (cutbox-door.mjs). By AI agents, Wed Nov 11 2026. No macro, syntax, notation, axiom, sorry.
-/
import Derived.Test.YtppjlpihaocdiaaGreatDoorRows
import GoSem.ClaimSeven
namespace Go.Proofs.YtppjlpihaocdiaaGreatDoor
namespace Rows

/-- THE TIED CARD OF 'lineworklaw.Opened'. -/
def openedCard : Claim7 := { stood := { row := openedRow, standIns := [], harness := (true, "bc7419706c83cedd067ae0c90d80827c4f40cf242e8ad5f89ee9361d40e931ec"), looks := false }, kinds := [], alts := [], laidByText := true, laidKinds := [.data, .data, .data], laidTests := true, laidLooks := .later }
def OpenedCardSaid : Prop := Claim7.holds Tryz.pinned (.plain (OpenSpec.ofChange openedSpec)) openedCard

/-- THE TIED CARD OF 'lineworklaw.Streams'. -/
def streamsCard : Claim7 := { stood := { row := streamsRow, standIns := [], harness := (true, "bc7419706c83cedd067ae0c90d80827c4f40cf242e8ad5f89ee9361d40e931ec"), looks := false }, kinds := [], alts := [], laidByText := true, laidKinds := [.data, .data, .data], laidTests := true, laidLooks := .later }
def StreamsCardSaid : Prop := Claim7.holds Tryz.pinned (.plain (OpenSpec.ofChange streamsSpec)) streamsCard

/-- THE TIED CARD OF 'lineworklaw.All'. -/
def allCard : Claim7 := { stood := { row := allRow, standIns := [], harness := (true, "bc7419706c83cedd067ae0c90d80827c4f40cf242e8ad5f89ee9361d40e931ec"), looks := false }, kinds := [], alts := [], laidByText := true, laidKinds := [.data, .data, .data], laidTests := true, laidLooks := .later }
def AllCardSaid : Prop := Claim7.holds Tryz.pinned (.plain (OpenSpec.ofChange allSpec)) allCard

/-- THE TIED CARD OF 'lineworkkeep.Known'. -/
def knownCard : Claim7 := { stood := { row := knownRow, standIns := [], harness := (true, "bc7419706c83cedd067ae0c90d80827c4f40cf242e8ad5f89ee9361d40e931ec"), looks := false }, kinds := [], alts := [], laidByText := true, laidKinds := [.data, .data, .data], laidTests := true, laidLooks := .later }
def KnownCardSaid : Prop := Claim7.holds Tryz.pinned (.plain (OpenSpec.ofChange knownSpec)) knownCard

/-- THE TIED CARD OF 'lineworkkeep.Chunked'. -/
def chunkedCard : Claim7 := { stood := { row := chunkedRow, standIns := [], harness := (true, "bc7419706c83cedd067ae0c90d80827c4f40cf242e8ad5f89ee9361d40e931ec"), looks := false }, kinds := [], alts := [], laidByText := true, laidKinds := [.data, .data, .data], laidTests := true, laidLooks := .later }
def ChunkedCardSaid : Prop := Claim7.holds Tryz.pinned (.plain (OpenSpec.ofChange chunkedSpec)) chunkedCard

/-- THE TIED CARD OF 'lineworkkeep.Early'. -/
def earlyCard : Claim7 := { stood := { row := earlyRow, standIns := [], harness := (true, "bc7419706c83cedd067ae0c90d80827c4f40cf242e8ad5f89ee9361d40e931ec"), looks := false }, kinds := [], alts := [], laidByText := true, laidKinds := [.data, .data, .data], laidTests := true, laidLooks := .later }
def EarlyCardSaid : Prop := Claim7.holds Tryz.pinned (.plain (OpenSpec.ofChange earlySpec)) earlyCard

/-- THE TIED CARD OF 'lineworkkeep.Same'. -/
def sameCard : Claim7 := { stood := { row := sameRow, standIns := [], harness := (true, "bc7419706c83cedd067ae0c90d80827c4f40cf242e8ad5f89ee9361d40e931ec"), looks := false }, kinds := [], alts := [], laidByText := true, laidKinds := [.data, .data, .data], laidTests := true, laidLooks := .later }
def SameCardSaid : Prop := Claim7.holds Tryz.pinned (.plain (OpenSpec.ofChange sameSpec)) sameCard

/-- THE SECOND FORM's CARD OF 'lineworklaw.Opened'. -/
def openedUptoCard : Claim7 := { stood := { row := openedUptoRow, standIns := [], harness := (true, "bc7419706c83cedd067ae0c90d80827c4f40cf242e8ad5f89ee9361d40e931ec"), looks := false }, kinds := [], alts := [], laidByText := true, laidKinds := [.data, .data, .data], laidTests := true, laidLooks := .later }
def OpenedUptoCardSaid : Prop := Claim7.holds Tryz.pinned (.plain (OpenSpec.upto openedSpec)) openedUptoCard

/-- THE SECOND FORM's CARD OF 'lineworklaw.Streams'. -/
def streamsUptoCard : Claim7 := { stood := { row := streamsUptoRow, standIns := [], harness := (true, "bc7419706c83cedd067ae0c90d80827c4f40cf242e8ad5f89ee9361d40e931ec"), looks := false }, kinds := [], alts := [], laidByText := true, laidKinds := [.data, .data, .data], laidTests := true, laidLooks := .later }
def StreamsUptoCardSaid : Prop := Claim7.holds Tryz.pinned (.plain (OpenSpec.upto streamsSpec)) streamsUptoCard

/-- THE SECOND FORM's CARD OF 'lineworklaw.All'. -/
def allUptoCard : Claim7 := { stood := { row := allUptoRow, standIns := [], harness := (true, "bc7419706c83cedd067ae0c90d80827c4f40cf242e8ad5f89ee9361d40e931ec"), looks := false }, kinds := [], alts := [], laidByText := true, laidKinds := [.data, .data, .data], laidTests := true, laidLooks := .later }
def AllUptoCardSaid : Prop := Claim7.holds Tryz.pinned (.plain (OpenSpec.upto allSpec)) allUptoCard

/-- THE SECOND FORM's CARD OF 'lineworkkeep.Known'. -/
def knownUptoCard : Claim7 := { stood := { row := knownUptoRow, standIns := [], harness := (true, "bc7419706c83cedd067ae0c90d80827c4f40cf242e8ad5f89ee9361d40e931ec"), looks := false }, kinds := [], alts := [], laidByText := true, laidKinds := [.data, .data, .data], laidTests := true, laidLooks := .later }
def KnownUptoCardSaid : Prop := Claim7.holds Tryz.pinned (.plain (OpenSpec.upto knownSpec)) knownUptoCard

/-- THE SECOND FORM's CARD OF 'lineworkkeep.Chunked'. -/
def chunkedUptoCard : Claim7 := { stood := { row := chunkedUptoRow, standIns := [], harness := (true, "bc7419706c83cedd067ae0c90d80827c4f40cf242e8ad5f89ee9361d40e931ec"), looks := false }, kinds := [], alts := [], laidByText := true, laidKinds := [.data, .data, .data], laidTests := true, laidLooks := .later }
def ChunkedUptoCardSaid : Prop := Claim7.holds Tryz.pinned (.plain (OpenSpec.upto chunkedSpec)) chunkedUptoCard

/-- THE SECOND FORM's CARD OF 'lineworkkeep.Early'. -/
def earlyUptoCard : Claim7 := { stood := { row := earlyUptoRow, standIns := [], harness := (true, "bc7419706c83cedd067ae0c90d80827c4f40cf242e8ad5f89ee9361d40e931ec"), looks := false }, kinds := [], alts := [], laidByText := true, laidKinds := [.data, .data, .data], laidTests := true, laidLooks := .later }
def EarlyUptoCardSaid : Prop := Claim7.holds Tryz.pinned (.plain (OpenSpec.upto earlySpec)) earlyUptoCard

/-- THE SECOND FORM's CARD OF 'lineworkkeep.Same'. -/
def sameUptoCard : Claim7 := { stood := { row := sameUptoRow, standIns := [], harness := (true, "bc7419706c83cedd067ae0c90d80827c4f40cf242e8ad5f89ee9361d40e931ec"), looks := false }, kinds := [], alts := [], laidByText := true, laidKinds := [.data, .data, .data], laidTests := true, laidLooks := .later }
def SameUptoCardSaid : Prop := Claim7.holds Tryz.pinned (.plain (OpenSpec.upto sameSpec)) sameUptoCard
end Rows
end Go.Proofs.YtppjlpihaocdiaaGreatDoor
