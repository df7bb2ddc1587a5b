/-
  DERIVED. GIVEN WITH THE SEED: THE CARDS: each row of YtfojninaginnoaaGreatDoorRows.lean that lists a variable, with what it lists TIED to the program's text (the seventh form; the later family's looks); each row that meets fmt, with fmt's text TOLD by the authors' own Lean function (tested against real Go, not proved from fmt's source: count such statements apart). THE CARD IS WHAT COUNTS. Prove the row's statement (the work); the ties are given (YtfojninaginnoaaGreatDoorTie.lean); close each card by the builder's one call (the guide's Derived/Test/ToyasCard.lean, 'card_holds'). Laid BY PROGRAM, IN A SANDBOX (cutbox-door.mjs). By AI agents, Wed Nov 11 2026. No macro, syntax, notation, axiom, sorry.
-/
import Derived.Test.YtfojninaginnoaaGreatDoorRows
import GoSem.ClaimSeven
namespace Go.Proofs.YtfojninaginnoaaGreatDoor
namespace Rows

/-- THE TIED CARD OF 'stockadelaw12.ActPlays'. -/
def actPlaysCard : Claim7 := { stood := { row := actPlaysRow, standIns := [], harness := (true, "f46d5a2a881cd8f21d1dbc5ddfbbb91ba60885070baccdacdff158cc2194b7f2"), looks := true }, kinds := [], alts := [], laidByText := true, laidKinds := [.sentinel, .sentinel, .sentinel, .sentinel, .sentinel, .sentinel, .sentinel, .sentinel, .sentinel, .sentinel, .sentinel, .sentinel, .sentinel, .sentinel, .sentinel, .sentinel, .sentinel], laidTests := true, laidLooks := .later }
def ActPlaysCardSaid : Prop := Claim7.holds Tryz.pinned (.plain (OpenSpec.ofChange actPlaysSpec)) actPlaysCard

/-- THE TIED CARD OF 'stockadelaw12.ActRuns'. -/
def actRunsCard : Claim7 := { stood := { row := actRunsRow, standIns := [], harness := (true, "f46d5a2a881cd8f21d1dbc5ddfbbb91ba60885070baccdacdff158cc2194b7f2"), looks := true }, kinds := [], alts := [], laidByText := true, laidKinds := [.sentinel, .sentinel, .sentinel], laidTests := true, laidLooks := .later }
def ActRunsCardSaid : Prop := Claim7.holds Tryz.pinned (.plain (OpenSpec.ofChange actRunsSpec)) actRunsCard

/-- THE SECOND FORM's CARD OF 'stockadelaw12.ActPlays'. -/
def actPlaysUptoCard : Claim7 := { stood := { row := actPlaysUptoRow, standIns := [], harness := (true, "f46d5a2a881cd8f21d1dbc5ddfbbb91ba60885070baccdacdff158cc2194b7f2"), looks := true }, kinds := [], alts := [], laidByText := true, laidKinds := [.sentinel, .sentinel, .sentinel, .sentinel, .sentinel, .sentinel, .sentinel, .sentinel, .sentinel, .sentinel, .sentinel, .sentinel, .sentinel, .sentinel, .sentinel, .sentinel, .sentinel], laidTests := true, laidLooks := .later }
def ActPlaysUptoCardSaid : Prop := Claim7.holds Tryz.pinned (.plain (OpenSpec.upto actPlaysSpec)) actPlaysUptoCard

/-- THE SECOND FORM's CARD OF 'stockadelaw12.ActRuns'. -/
def actRunsUptoCard : Claim7 := { stood := { row := actRunsUptoRow, standIns := [], harness := (true, "f46d5a2a881cd8f21d1dbc5ddfbbb91ba60885070baccdacdff158cc2194b7f2"), looks := true }, kinds := [], alts := [], laidByText := true, laidKinds := [.sentinel, .sentinel, .sentinel], laidTests := true, laidLooks := .later }
def ActRunsUptoCardSaid : Prop := Claim7.holds Tryz.pinned (.plain (OpenSpec.upto actRunsSpec)) actRunsUptoCard
end Rows
end Go.Proofs.YtfojninaginnoaaGreatDoor
