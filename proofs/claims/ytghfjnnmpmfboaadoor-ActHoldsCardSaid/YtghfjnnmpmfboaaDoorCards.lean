/-
  DERIVED. GIVEN WITH THE SEED: THE CARDS: each row of YtghfjnnmpmfboaaDoorRows.lean that lists a variable, with what it lists TIED to the program's text (the seventh form; the later family's looks); each row that meets fmt, with fmt's text TOLD by the authors' own Lean function (tested against real Go, not proved from fmt's source: count such statements apart). THE CARD IS WHAT COUNTS. Prove the row's statement (the work); the ties are given (YtghfjnnmpmfboaaDoorTie.lean); close each card by the builder's one call (the guide's Derived/Test/ToyasCard.lean, 'card_holds'). Laid BY PROGRAM, IN A SANDBOX (cutbox-door.mjs). By AI agents, Wed Nov 11 2026. No macro, syntax, notation, axiom, sorry.
-/
import Derived.Test.YtghfjnnmpmfboaaDoorRows
import GoSem.ClaimSeven
namespace Go.Proofs.YtghfjnnmpmfboaaDoor
namespace Rows

/-- THE TIED CARD OF 'stockadelaw11.SyncPlays'. -/
def syncPlaysCard : Claim7 := { stood := { row := syncPlaysRow, standIns := [], harness := (true, "c9a2ea41506699e3b586e50d582ab544d619635e9c22ec7c1d6ac3611cada4df"), looks := true }, kinds := [], alts := [], laidByText := true, laidKinds := [.sentinel, .sentinel, .sentinel, .sentinel, .sentinel, .sentinel, .sentinel, .sentinel, .sentinel, .sentinel, .sentinel, .sentinel, .sentinel, .sentinel, .sentinel, .sentinel, .sentinel], laidTests := true, laidLooks := .later }
def SyncPlaysCardSaid : Prop := Claim7.holds Tryd.pinned (.plain (OpenSpec.ofChange syncPlaysSpec)) syncPlaysCard

/-- THE TIED CARD OF 'stockadelaw12.ActHolds'. -/
def actHoldsCard : Claim7 := { stood := { row := actHoldsRow, standIns := [], harness := (true, "c9a2ea41506699e3b586e50d582ab544d619635e9c22ec7c1d6ac3611cada4df"), looks := true }, kinds := [], alts := [], laidByText := true, laidKinds := [.sentinel, .sentinel, .sentinel], laidTests := true, laidLooks := .later }
def ActHoldsCardSaid : Prop := Claim7.holds Tryd.pinned (.plain (OpenSpec.ofChange actHoldsSpec)) actHoldsCard

/-- THE TIED CARD OF 'stockadelaw12.ActFuel'. -/
def actFuelCard : Claim7 := { stood := { row := actFuelRow, standIns := [], harness := (true, "c9a2ea41506699e3b586e50d582ab544d619635e9c22ec7c1d6ac3611cada4df"), looks := true }, kinds := [], alts := [], laidByText := true, laidKinds := [.sentinel, .sentinel, .sentinel], laidTests := true, laidLooks := .later }
def ActFuelCardSaid : Prop := Claim7.holds Tryd.pinned (.plain (OpenSpec.ofChange actFuelSpec)) actFuelCard

/-- THE TIED CARD OF 'stockadelaw12.ActTwins'. -/
def actTwinsCard : Claim7 := { stood := { row := actTwinsRow, standIns := [], harness := (true, "c9a2ea41506699e3b586e50d582ab544d619635e9c22ec7c1d6ac3611cada4df"), looks := true }, kinds := [], alts := [], laidByText := true, laidKinds := [.sentinel, .sentinel, .sentinel], laidTests := true, laidLooks := .later }
def ActTwinsCardSaid : Prop := Claim7.holds Tryd.pinned (.plain (OpenSpec.ofChange actTwinsSpec)) actTwinsCard

/-- THE SECOND FORM's CARD OF 'stockadelaw11.SyncPlays'. -/
def syncPlaysUptoCard : Claim7 := { stood := { row := syncPlaysUptoRow, standIns := [], harness := (true, "c9a2ea41506699e3b586e50d582ab544d619635e9c22ec7c1d6ac3611cada4df"), looks := true }, kinds := [], alts := [], laidByText := true, laidKinds := [.sentinel, .sentinel, .sentinel, .sentinel, .sentinel, .sentinel, .sentinel, .sentinel, .sentinel, .sentinel, .sentinel, .sentinel, .sentinel, .sentinel, .sentinel, .sentinel, .sentinel], laidTests := true, laidLooks := .later }
def SyncPlaysUptoCardSaid : Prop := Claim7.holds Tryd.pinned (.plain (OpenSpec.upto syncPlaysSpec)) syncPlaysUptoCard

/-- THE SECOND FORM's CARD OF 'stockadelaw12.ActHolds'. -/
def actHoldsUptoCard : Claim7 := { stood := { row := actHoldsUptoRow, standIns := [], harness := (true, "c9a2ea41506699e3b586e50d582ab544d619635e9c22ec7c1d6ac3611cada4df"), looks := true }, kinds := [], alts := [], laidByText := true, laidKinds := [.sentinel, .sentinel, .sentinel], laidTests := true, laidLooks := .later }
def ActHoldsUptoCardSaid : Prop := Claim7.holds Tryd.pinned (.plain (OpenSpec.upto actHoldsSpec)) actHoldsUptoCard

/-- THE SECOND FORM's CARD OF 'stockadelaw12.ActFuel'. -/
def actFuelUptoCard : Claim7 := { stood := { row := actFuelUptoRow, standIns := [], harness := (true, "c9a2ea41506699e3b586e50d582ab544d619635e9c22ec7c1d6ac3611cada4df"), looks := true }, kinds := [], alts := [], laidByText := true, laidKinds := [.sentinel, .sentinel, .sentinel], laidTests := true, laidLooks := .later }
def ActFuelUptoCardSaid : Prop := Claim7.holds Tryd.pinned (.plain (OpenSpec.upto actFuelSpec)) actFuelUptoCard

/-- THE SECOND FORM's CARD OF 'stockadelaw12.ActTwins'. -/
def actTwinsUptoCard : Claim7 := { stood := { row := actTwinsUptoRow, standIns := [], harness := (true, "c9a2ea41506699e3b586e50d582ab544d619635e9c22ec7c1d6ac3611cada4df"), looks := true }, kinds := [], alts := [], laidByText := true, laidKinds := [.sentinel, .sentinel, .sentinel], laidTests := true, laidLooks := .later }
def ActTwinsUptoCardSaid : Prop := Claim7.holds Tryd.pinned (.plain (OpenSpec.upto actTwinsSpec)) actTwinsUptoCard
end Rows
end Go.Proofs.YtghfjnnmpmfboaaDoor
