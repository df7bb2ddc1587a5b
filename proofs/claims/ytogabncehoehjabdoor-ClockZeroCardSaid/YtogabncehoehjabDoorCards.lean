/-
  DERIVED. GIVEN WITH THE SEED: THE CARDS: each row of YtogabncehoehjabDoorRows.lean that lists a variable, with what it lists TIED to the program's text (the seventh form; the later family's looks); each row that meets fmt, with fmt's text TOLD by the authors' own Lean function (tested against real Go, not proved from fmt's source: count such statements apart). THE CARD IS WHAT COUNTS. Prove the row's statement (the work); the ties are given (YtogabncehoehjabDoorTie.lean); close each card by the builder's one call (the guide's Derived/Test/ToyasCard.lean, 'card_holds'). Laid BY PROGRAM, IN A SANDBOX (cutbox-door.mjs). By AI agents, Wed Nov 11 2026. No macro, syntax, notation, axiom, sorry.
-/
import Derived.Test.YtogabncehoehjabDoorRows
import GoSem.ClaimSeven
namespace Go.Proofs.YtogabncehoehjabDoor
namespace Rows

/-- THE TIED CARD OF 'stockadelaw01.ClockZero'. -/
def clockZeroCard : Claim7 := { stood := { row := clockZeroRow, standIns := [], harness := (true, "d2dc605f05d4a9a19c27e2ecbd3a33acb278457c804044efba14c780b67e884f"), looks := false }, kinds := [], alts := [], laidByText := true, laidKinds := [.sentinel, .sentinel], laidTests := true, laidLooks := .later }
def ClockZeroCardSaid : Prop := Claim7.holds Tryd.pinned (.plain (OpenSpec.ofChange clockZeroSpec)) clockZeroCard

/-- THE TIED CARD OF 'stockadelaw01.ClockOf'. -/
def clockOfCard : Claim7 := { stood := { row := clockOfRow, standIns := [], harness := (true, "d2dc605f05d4a9a19c27e2ecbd3a33acb278457c804044efba14c780b67e884f"), looks := false }, kinds := [], alts := [], laidByText := true, laidKinds := [.sentinel, .sentinel], laidTests := true, laidLooks := .later }
def ClockOfCardSaid : Prop := Claim7.holds Tryd.pinned (.plain (OpenSpec.ofChange clockOfSpec)) clockOfCard

/-- THE SECOND FORM's CARD OF 'stockadelaw01.ClockZero'. -/
def clockZeroUptoCard : Claim7 := { stood := { row := clockZeroUptoRow, standIns := [], harness := (true, "d2dc605f05d4a9a19c27e2ecbd3a33acb278457c804044efba14c780b67e884f"), looks := false }, kinds := [], alts := [], laidByText := true, laidKinds := [.sentinel, .sentinel], laidTests := true, laidLooks := .later }
def ClockZeroUptoCardSaid : Prop := Claim7.holds Tryd.pinned (.plain (OpenSpec.upto clockZeroSpec)) clockZeroUptoCard

/-- THE SECOND FORM's CARD OF 'stockadelaw01.ClockOf'. -/
def clockOfUptoCard : Claim7 := { stood := { row := clockOfUptoRow, standIns := [], harness := (true, "d2dc605f05d4a9a19c27e2ecbd3a33acb278457c804044efba14c780b67e884f"), looks := false }, kinds := [], alts := [], laidByText := true, laidKinds := [.sentinel, .sentinel], laidTests := true, laidLooks := .later }
def ClockOfUptoCardSaid : Prop := Claim7.holds Tryd.pinned (.plain (OpenSpec.upto clockOfSpec)) clockOfUptoCard
end Rows
end Go.Proofs.YtogabncehoehjabDoor
