/-
  DERIVED. GIVEN WITH THE SEED: THE CARDS: each row of YtflokfbdogofmaaDoorRows.lean that lists a variable, with what it lists TIED to the program's text (the seventh form; the later family's looks); each row that meets fmt, with fmt's text TOLD by the authors' own Lean function (tested against real Go, not proved from fmt's source: count such statements apart). THE CARD IS WHAT COUNTS. Prove the row's statement (the work); the ties are given (YtflokfbdogofmaaDoorTie.lean); close each card by the builder's one call (the guide's Derived/Test/ToyasCard.lean, 'card_holds'). Laid BY PROGRAM, IN A SANDBOX (cutbox-door.mjs). By AI agents, Wed Nov 11 2026. No macro, syntax, notation, axiom, sorry.
-/
import Derived.Test.YtflokfbdogofmaaDoorRows
import GoSem.ClaimSeven
namespace Go.Proofs.YtflokfbdogofmaaDoor
namespace Rows

/-- THE TIED CARD OF 'stockadelaw04.DrawPlays'. -/
def drawPlaysCard : Claim7 := { stood := { row := drawPlaysRow, standIns := [], harness := (true, "35fb2227580420ae4f13a2006557073e3d24420daf75bda9bf521f66c84da335"), looks := true }, kinds := [], alts := [], laidByText := true, laidKinds := [.data, .sentinel, .sentinel, .sentinel, .sentinel, .sentinel, .sentinel, .sentinel, .sentinel, .sentinel, .sentinel, .sentinel, .sentinel, .sentinel, .sentinel, .sentinel, .sentinel, .sentinel], laidTests := true, laidLooks := .later }
def DrawPlaysCardSaid : Prop := Claim7.holds Tryd.pinned (.plain (OpenSpec.ofChange drawPlaysSpec)) drawPlaysCard

/-- THE TIED CARD OF 'stockadelaw04.DrawWords'. -/
def drawWordsCard : Claim7 := { stood := { row := drawWordsRow, standIns := [], harness := (true, "35fb2227580420ae4f13a2006557073e3d24420daf75bda9bf521f66c84da335"), looks := true }, kinds := [], alts := [], laidByText := true, laidKinds := [.data, .sentinel, .sentinel, .sentinel, .sentinel, .sentinel, .sentinel, .sentinel, .sentinel, .sentinel, .sentinel, .sentinel, .sentinel, .sentinel, .sentinel, .sentinel, .sentinel, .sentinel], laidTests := true, laidLooks := .later }
def DrawWordsCardSaid : Prop := Claim7.holds Tryd.pinned (.plain (OpenSpec.ofChange drawWordsSpec)) drawWordsCard

/-- THE TIED CARD OF 'stockadelaw04.DrawApart'. -/
def drawApartCard : Claim7 := { stood := { row := drawApartRow, standIns := [], harness := (true, "35fb2227580420ae4f13a2006557073e3d24420daf75bda9bf521f66c84da335"), looks := true }, kinds := [], alts := [], laidByText := true, laidKinds := [.data, .sentinel], laidTests := true, laidLooks := .later }
def DrawApartCardSaid : Prop := Claim7.holds Tryd.pinned (.plain (OpenSpec.ofChange drawApartSpec)) drawApartCard

/-- THE TIED CARD OF 'stockadelaw04.DrawRange'. -/
def drawRangeCard : Claim7 := { stood := { row := drawRangeRow, standIns := [], harness := (true, "35fb2227580420ae4f13a2006557073e3d24420daf75bda9bf521f66c84da335"), looks := true }, kinds := [], alts := [], laidByText := true, laidKinds := [.data, .sentinel, .sentinel, .sentinel, .sentinel, .sentinel, .sentinel, .sentinel, .sentinel, .sentinel, .sentinel, .sentinel, .sentinel, .sentinel, .sentinel, .sentinel, .sentinel, .sentinel], laidTests := true, laidLooks := .later }
def DrawRangeCardSaid : Prop := Claim7.holds Tryd.pinned (.plain (OpenSpec.ofChange drawRangeSpec)) drawRangeCard

/-- THE TIED CARD OF 'stockadelaw04.DrawTicks'. -/
def drawTicksCard : Claim7 := { stood := { row := drawTicksRow, standIns := [], harness := (true, "35fb2227580420ae4f13a2006557073e3d24420daf75bda9bf521f66c84da335"), looks := true }, kinds := [], alts := [], laidByText := true, laidKinds := [.data, .sentinel], laidTests := true, laidLooks := .later }
def DrawTicksCardSaid : Prop := Claim7.holds Tryd.pinned (.plain (OpenSpec.ofChange drawTicksSpec)) drawTicksCard

/-- THE TIED CARD OF 'stockadelaw04.DrawNumbers'. -/
def drawNumbersCard : Claim7 := { stood := { row := drawNumbersRow, standIns := [], harness := (true, "35fb2227580420ae4f13a2006557073e3d24420daf75bda9bf521f66c84da335"), looks := true }, kinds := [], alts := [], laidByText := true, laidKinds := [.data, .sentinel], laidTests := true, laidLooks := .later }
def DrawNumbersCardSaid : Prop := Claim7.holds Tryd.pinned (.plain (OpenSpec.ofChange drawNumbersSpec)) drawNumbersCard

/-- THE SECOND FORM's CARD OF 'stockadelaw04.DrawPlays'. -/
def drawPlaysUptoCard : Claim7 := { stood := { row := drawPlaysUptoRow, standIns := [], harness := (true, "35fb2227580420ae4f13a2006557073e3d24420daf75bda9bf521f66c84da335"), looks := true }, kinds := [], alts := [], laidByText := true, laidKinds := [.data, .sentinel, .sentinel, .sentinel, .sentinel, .sentinel, .sentinel, .sentinel, .sentinel, .sentinel, .sentinel, .sentinel, .sentinel, .sentinel, .sentinel, .sentinel, .sentinel, .sentinel], laidTests := true, laidLooks := .later }
def DrawPlaysUptoCardSaid : Prop := Claim7.holds Tryd.pinned (.plain (OpenSpec.upto drawPlaysSpec)) drawPlaysUptoCard

/-- THE SECOND FORM's CARD OF 'stockadelaw04.DrawWords'. -/
def drawWordsUptoCard : Claim7 := { stood := { row := drawWordsUptoRow, standIns := [], harness := (true, "35fb2227580420ae4f13a2006557073e3d24420daf75bda9bf521f66c84da335"), looks := true }, kinds := [], alts := [], laidByText := true, laidKinds := [.data, .sentinel, .sentinel, .sentinel, .sentinel, .sentinel, .sentinel, .sentinel, .sentinel, .sentinel, .sentinel, .sentinel, .sentinel, .sentinel, .sentinel, .sentinel, .sentinel, .sentinel], laidTests := true, laidLooks := .later }
def DrawWordsUptoCardSaid : Prop := Claim7.holds Tryd.pinned (.plain (OpenSpec.upto drawWordsSpec)) drawWordsUptoCard

/-- THE SECOND FORM's CARD OF 'stockadelaw04.DrawApart'. -/
def drawApartUptoCard : Claim7 := { stood := { row := drawApartUptoRow, standIns := [], harness := (true, "35fb2227580420ae4f13a2006557073e3d24420daf75bda9bf521f66c84da335"), looks := true }, kinds := [], alts := [], laidByText := true, laidKinds := [.data, .sentinel], laidTests := true, laidLooks := .later }
def DrawApartUptoCardSaid : Prop := Claim7.holds Tryd.pinned (.plain (OpenSpec.upto drawApartSpec)) drawApartUptoCard

/-- THE SECOND FORM's CARD OF 'stockadelaw04.DrawRange'. -/
def drawRangeUptoCard : Claim7 := { stood := { row := drawRangeUptoRow, standIns := [], harness := (true, "35fb2227580420ae4f13a2006557073e3d24420daf75bda9bf521f66c84da335"), looks := true }, kinds := [], alts := [], laidByText := true, laidKinds := [.data, .sentinel, .sentinel, .sentinel, .sentinel, .sentinel, .sentinel, .sentinel, .sentinel, .sentinel, .sentinel, .sentinel, .sentinel, .sentinel, .sentinel, .sentinel, .sentinel, .sentinel], laidTests := true, laidLooks := .later }
def DrawRangeUptoCardSaid : Prop := Claim7.holds Tryd.pinned (.plain (OpenSpec.upto drawRangeSpec)) drawRangeUptoCard

/-- THE SECOND FORM's CARD OF 'stockadelaw04.DrawTicks'. -/
def drawTicksUptoCard : Claim7 := { stood := { row := drawTicksUptoRow, standIns := [], harness := (true, "35fb2227580420ae4f13a2006557073e3d24420daf75bda9bf521f66c84da335"), looks := true }, kinds := [], alts := [], laidByText := true, laidKinds := [.data, .sentinel], laidTests := true, laidLooks := .later }
def DrawTicksUptoCardSaid : Prop := Claim7.holds Tryd.pinned (.plain (OpenSpec.upto drawTicksSpec)) drawTicksUptoCard

/-- THE SECOND FORM's CARD OF 'stockadelaw04.DrawNumbers'. -/
def drawNumbersUptoCard : Claim7 := { stood := { row := drawNumbersUptoRow, standIns := [], harness := (true, "35fb2227580420ae4f13a2006557073e3d24420daf75bda9bf521f66c84da335"), looks := true }, kinds := [], alts := [], laidByText := true, laidKinds := [.data, .sentinel], laidTests := true, laidLooks := .later }
def DrawNumbersUptoCardSaid : Prop := Claim7.holds Tryd.pinned (.plain (OpenSpec.upto drawNumbersSpec)) drawNumbersUptoCard
end Rows
end Go.Proofs.YtflokfbdogofmaaDoor
