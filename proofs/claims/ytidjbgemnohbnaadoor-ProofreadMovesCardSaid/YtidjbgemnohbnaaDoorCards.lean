/-
  DERIVED. GIVEN WITH THE SEED: THE CARDS: each row of YtidjbgemnohbnaaDoorRows.lean that lists a variable, with what it lists TIED to the program's text (the seventh form; the later family's looks); each row that meets fmt, with fmt's text TOLD by the authors' own Lean function (tested against real Go, not proved from fmt's source: count such statements apart). THE CARD IS WHAT COUNTS. Prove the row's statement (the work); the ties are given (YtidjbgemnohbnaaDoorTie.lean); close each card by the builder's one call (the guide's Derived/Test/ToyasCard.lean, 'card_holds'). Laid BY PROGRAM, IN A SANDBOX (cutbox-door.mjs). By AI agents, Wed Nov 11 2026. No macro, syntax, notation, axiom, sorry.
-/
import Derived.Test.YtidjbgemnohbnaaDoorRows
import GoSem.ClaimSeven
namespace Go.Proofs.YtidjbgemnohbnaaDoor
namespace Rows

/-- THE TIED CARD OF 'stockadelaw16.ProofreadCodes'. -/
def proofreadCodesCard : Claim7 := { stood := { row := proofreadCodesRow, standIns := [], harness := (true, "0eb3581745505dc0e5316dc18ad20a6c9a4ebd51cd7fbfa65d93d29d5f087d37"), looks := true }, kinds := [], alts := [], laidByText := true, laidKinds := [.sentinel, .sentinel, .sentinel, .sentinel, .sentinel, .sentinel, .sentinel, .sentinel, .sentinel, .sentinel, .sentinel, .sentinel, .sentinel, .sentinel, .sentinel, .sentinel, .sentinel], laidTests := true, laidLooks := .later }
def ProofreadCodesCardSaid : Prop := Claim7.holds Tryd.pinned (.plain (OpenSpec.ofChange proofreadCodesSpec)) proofreadCodesCard

/-- THE TIED CARD OF 'stockadelaw16.ProofreadMoves'. -/
def proofreadMovesCard : Claim7 := { stood := { row := proofreadMovesRow, standIns := [], harness := (true, "0eb3581745505dc0e5316dc18ad20a6c9a4ebd51cd7fbfa65d93d29d5f087d37"), looks := true }, kinds := [], alts := [], laidByText := true, laidKinds := [.sentinel, .sentinel, .sentinel, .sentinel, .sentinel, .sentinel, .sentinel, .sentinel, .sentinel, .sentinel, .sentinel, .sentinel, .sentinel, .sentinel, .sentinel, .sentinel, .sentinel], laidTests := true, laidLooks := .later }
def ProofreadMovesCardSaid : Prop := Claim7.holds Tryd.pinned (.plain (OpenSpec.ofChange proofreadMovesSpec)) proofreadMovesCard

/-- THE SECOND FORM's CARD OF 'stockadelaw16.ProofreadCodes'. -/
def proofreadCodesUptoCard : Claim7 := { stood := { row := proofreadCodesUptoRow, standIns := [], harness := (true, "0eb3581745505dc0e5316dc18ad20a6c9a4ebd51cd7fbfa65d93d29d5f087d37"), looks := true }, kinds := [], alts := [], laidByText := true, laidKinds := [.sentinel, .sentinel, .sentinel, .sentinel, .sentinel, .sentinel, .sentinel, .sentinel, .sentinel, .sentinel, .sentinel, .sentinel, .sentinel, .sentinel, .sentinel, .sentinel, .sentinel], laidTests := true, laidLooks := .later }
def ProofreadCodesUptoCardSaid : Prop := Claim7.holds Tryd.pinned (.plain (OpenSpec.upto proofreadCodesSpec)) proofreadCodesUptoCard

/-- THE SECOND FORM's CARD OF 'stockadelaw16.ProofreadMoves'. -/
def proofreadMovesUptoCard : Claim7 := { stood := { row := proofreadMovesUptoRow, standIns := [], harness := (true, "0eb3581745505dc0e5316dc18ad20a6c9a4ebd51cd7fbfa65d93d29d5f087d37"), looks := true }, kinds := [], alts := [], laidByText := true, laidKinds := [.sentinel, .sentinel, .sentinel, .sentinel, .sentinel, .sentinel, .sentinel, .sentinel, .sentinel, .sentinel, .sentinel, .sentinel, .sentinel, .sentinel, .sentinel, .sentinel, .sentinel], laidTests := true, laidLooks := .later }
def ProofreadMovesUptoCardSaid : Prop := Claim7.holds Tryd.pinned (.plain (OpenSpec.upto proofreadMovesSpec)) proofreadMovesUptoCard
end Rows
end Go.Proofs.YtidjbgemnohbnaaDoor
