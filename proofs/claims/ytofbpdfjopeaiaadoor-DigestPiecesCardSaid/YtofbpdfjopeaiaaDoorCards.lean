/-
  DERIVED. GIVEN WITH THE SEED: THE CARDS: each row of YtofbpdfjopeaiaaDoorRows.lean that lists a variable, with what it lists TIED to the program's text (the seventh form; the later family's looks); each row that meets fmt, with fmt's text TOLD by the authors' own Lean function (tested against real Go, not proved from fmt's source: count such statements apart). THE CARD IS WHAT COUNTS. Prove the row's statement (the work); the ties are given (YtofbpdfjopeaiaaDoorTie.lean); close each card by the builder's one call (the guide's Derived/Test/ToyasCard.lean, 'card_holds'). Laid BY PROGRAM, IN A SANDBOX (cutbox-door.mjs). By AI agents, Wed Nov 11 2026. No macro, syntax, notation, axiom, sorry.
-/
import Derived.Test.YtofbpdfjopeaiaaDoorRows
import GoSem.ClaimSeven
namespace Go.Proofs.YtofbpdfjopeaiaaDoor
namespace Rows

/-- THE TIED CARD OF 'stockadelaw03.DigestStates'. -/
def digestStatesCard : Claim7 := { stood := { row := digestStatesRow, standIns := [], harness := (true, "aa66452788bc0cf4405f4cc0c0ef8de04d800c2b1c38eaf49bd72819a3546043"), looks := false }, kinds := [], alts := [], laidByText := true, laidKinds := [.data], laidTests := true, laidLooks := .later }
def DigestStatesCardSaid : Prop := Claim7.holds Tryd.pinned (.plain (OpenSpec.ofChange digestStatesSpec)) digestStatesCard

/-- THE TIED CARD OF 'stockadelaw03.DigestTags'. -/
def digestTagsCard : Claim7 := { stood := { row := digestTagsRow, standIns := [], harness := (true, "aa66452788bc0cf4405f4cc0c0ef8de04d800c2b1c38eaf49bd72819a3546043"), looks := false }, kinds := [], alts := [], laidByText := true, laidKinds := [.data], laidTests := true, laidLooks := .later }
def DigestTagsCardSaid : Prop := Claim7.holds Tryd.pinned (.plain (OpenSpec.ofChange digestTagsSpec)) digestTagsCard

/-- THE TIED CARD OF 'stockadelaw03.DigestOf'. -/
def digestOfCard : Claim7 := { stood := { row := digestOfRow, standIns := [], harness := (true, "aa66452788bc0cf4405f4cc0c0ef8de04d800c2b1c38eaf49bd72819a3546043"), looks := false }, kinds := [], alts := [], laidByText := true, laidKinds := [.data], laidTests := true, laidLooks := .later }
def DigestOfCardSaid : Prop := Claim7.holds Tryd.pinned (.plain (OpenSpec.ofChange digestOfSpec)) digestOfCard

/-- THE TIED CARD OF 'stockadelaw03.DigestPieces'. -/
def digestPiecesCard : Claim7 := { stood := { row := digestPiecesRow, standIns := [], harness := (true, "aa66452788bc0cf4405f4cc0c0ef8de04d800c2b1c38eaf49bd72819a3546043"), looks := false }, kinds := [], alts := [], laidByText := true, laidKinds := [.data], laidTests := true, laidLooks := .later }
def DigestPiecesCardSaid : Prop := Claim7.holds Tryd.pinned (.plain (OpenSpec.ofChange digestPiecesSpec)) digestPiecesCard

/-- THE TIED CARD OF 'stockadelaw03.DigestPads'. -/
def digestPadsCard : Claim7 := { stood := { row := digestPadsRow, standIns := [], harness := (true, "aa66452788bc0cf4405f4cc0c0ef8de04d800c2b1c38eaf49bd72819a3546043"), looks := false }, kinds := [], alts := [], laidByText := true, laidKinds := [.data], laidTests := true, laidLooks := .later }
def DigestPadsCardSaid : Prop := Claim7.holds Tryd.pinned (.plain (OpenSpec.ofChange digestPadsSpec)) digestPadsCard

/-- THE TIED CARD OF 'stockadelaw03.DigestEquals'. -/
def digestEqualsCard : Claim7 := { stood := { row := digestEqualsRow, standIns := [], harness := (true, "aa66452788bc0cf4405f4cc0c0ef8de04d800c2b1c38eaf49bd72819a3546043"), looks := false }, kinds := [], alts := [], laidByText := true, laidKinds := [.data], laidTests := true, laidLooks := .later }
def DigestEqualsCardSaid : Prop := Claim7.holds Tryd.pinned (.plain (OpenSpec.ofChange digestEqualsSpec)) digestEqualsCard

/-- THE SECOND FORM's CARD OF 'stockadelaw03.DigestStates'. -/
def digestStatesUptoCard : Claim7 := { stood := { row := digestStatesUptoRow, standIns := [], harness := (true, "aa66452788bc0cf4405f4cc0c0ef8de04d800c2b1c38eaf49bd72819a3546043"), looks := false }, kinds := [], alts := [], laidByText := true, laidKinds := [.data], laidTests := true, laidLooks := .later }
def DigestStatesUptoCardSaid : Prop := Claim7.holds Tryd.pinned (.plain (OpenSpec.upto digestStatesSpec)) digestStatesUptoCard

/-- THE SECOND FORM's CARD OF 'stockadelaw03.DigestTags'. -/
def digestTagsUptoCard : Claim7 := { stood := { row := digestTagsUptoRow, standIns := [], harness := (true, "aa66452788bc0cf4405f4cc0c0ef8de04d800c2b1c38eaf49bd72819a3546043"), looks := false }, kinds := [], alts := [], laidByText := true, laidKinds := [.data], laidTests := true, laidLooks := .later }
def DigestTagsUptoCardSaid : Prop := Claim7.holds Tryd.pinned (.plain (OpenSpec.upto digestTagsSpec)) digestTagsUptoCard

/-- THE SECOND FORM's CARD OF 'stockadelaw03.DigestOf'. -/
def digestOfUptoCard : Claim7 := { stood := { row := digestOfUptoRow, standIns := [], harness := (true, "aa66452788bc0cf4405f4cc0c0ef8de04d800c2b1c38eaf49bd72819a3546043"), looks := false }, kinds := [], alts := [], laidByText := true, laidKinds := [.data], laidTests := true, laidLooks := .later }
def DigestOfUptoCardSaid : Prop := Claim7.holds Tryd.pinned (.plain (OpenSpec.upto digestOfSpec)) digestOfUptoCard

/-- THE SECOND FORM's CARD OF 'stockadelaw03.DigestPieces'. -/
def digestPiecesUptoCard : Claim7 := { stood := { row := digestPiecesUptoRow, standIns := [], harness := (true, "aa66452788bc0cf4405f4cc0c0ef8de04d800c2b1c38eaf49bd72819a3546043"), looks := false }, kinds := [], alts := [], laidByText := true, laidKinds := [.data], laidTests := true, laidLooks := .later }
def DigestPiecesUptoCardSaid : Prop := Claim7.holds Tryd.pinned (.plain (OpenSpec.upto digestPiecesSpec)) digestPiecesUptoCard

/-- THE SECOND FORM's CARD OF 'stockadelaw03.DigestPads'. -/
def digestPadsUptoCard : Claim7 := { stood := { row := digestPadsUptoRow, standIns := [], harness := (true, "aa66452788bc0cf4405f4cc0c0ef8de04d800c2b1c38eaf49bd72819a3546043"), looks := false }, kinds := [], alts := [], laidByText := true, laidKinds := [.data], laidTests := true, laidLooks := .later }
def DigestPadsUptoCardSaid : Prop := Claim7.holds Tryd.pinned (.plain (OpenSpec.upto digestPadsSpec)) digestPadsUptoCard

/-- THE SECOND FORM's CARD OF 'stockadelaw03.DigestEquals'. -/
def digestEqualsUptoCard : Claim7 := { stood := { row := digestEqualsUptoRow, standIns := [], harness := (true, "aa66452788bc0cf4405f4cc0c0ef8de04d800c2b1c38eaf49bd72819a3546043"), looks := false }, kinds := [], alts := [], laidByText := true, laidKinds := [.data], laidTests := true, laidLooks := .later }
def DigestEqualsUptoCardSaid : Prop := Claim7.holds Tryd.pinned (.plain (OpenSpec.upto digestEqualsSpec)) digestEqualsUptoCard
end Rows
end Go.Proofs.YtofbpdfjopeaiaaDoor
