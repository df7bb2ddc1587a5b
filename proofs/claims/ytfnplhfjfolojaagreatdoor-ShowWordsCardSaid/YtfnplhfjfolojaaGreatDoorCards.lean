/-
  DERIVED. GIVEN WITH THE SEED: THE CARDS: each row of YtfnplhfjfolojaaGreatDoorRows.lean that lists a variable, with what it lists TIED to the program's text (the seventh form; the later family's looks); each row that meets fmt, with fmt's text TOLD by the authors' own Lean function (tested against real Go, not proved from fmt's source: count such statements apart). THE CARD IS WHAT COUNTS. Prove the row's statement (the work); the ties are given (YtfnplhfjfolojaaGreatDoorTie.lean); close each card by the builder's one call (the guide's Derived/Test/ToyasCard.lean, 'card_holds'). Laid BY PROGRAM, IN A SANDBOX (cutbox-door.mjs). By AI agents, Wed Nov 11 2026. No macro, syntax, notation, axiom, sorry.
-/
import Derived.Test.YtfnplhfjfolojaaGreatDoorRows
import GoSem.ClaimSeven
namespace Go.Proofs.YtfnplhfjfolojaaGreatDoor
namespace Rows

/-- THE TIED CARD OF 'stockadelaw07.ShowWords'. -/
def showWordsCard : Claim7 := { stood := { row := showWordsRow, standIns := [], harness := (true, "55def9fbb83b1398b76eb4b02cf0bd7002790a1a682fb1f63b98db96fdcbc46b"), looks := true }, kinds := [], alts := [], laidByText := true, laidKinds := [.data, .data, .data, .sentinel, .sentinel, .sentinel, .sentinel, .sentinel, .sentinel, .sentinel], laidTests := true, laidLooks := .later }
def ShowWordsCardSaid : Prop := Claim7.holds Tryz.pinned (.plain (OpenSpec.ofChange showWordsSpec)) showWordsCard

/-- THE TIED CARD OF 'stockadelaw08.ScopePlaces'. -/
def scopePlacesCard : Claim7 := { stood := { row := scopePlacesRow, standIns := [], harness := (true, "55def9fbb83b1398b76eb4b02cf0bd7002790a1a682fb1f63b98db96fdcbc46b"), looks := true }, kinds := [], alts := [], laidByText := true, laidKinds := [.data, .data, .data, .sentinel, .sentinel, .sentinel, .sentinel, .sentinel, .sentinel, .sentinel, .sentinel, .sentinel, .sentinel, .sentinel, .sentinel, .sentinel, .sentinel, .sentinel, .sentinel, .sentinel, .sentinel, .sentinel], laidTests := true, laidLooks := .later }
def ScopePlacesCardSaid : Prop := Claim7.holds Tryz.pinned (.plain (OpenSpec.ofChange scopePlacesSpec)) scopePlacesCard

/-- THE TIED CARD OF 'stockadelaw08.ScopeLocals'. -/
def scopeLocalsCard : Claim7 := { stood := { row := scopeLocalsRow, standIns := [], harness := (true, "55def9fbb83b1398b76eb4b02cf0bd7002790a1a682fb1f63b98db96fdcbc46b"), looks := true }, kinds := [], alts := [], laidByText := true, laidKinds := [.data, .data, .data, .sentinel, .sentinel, .sentinel, .sentinel, .sentinel, .sentinel, .sentinel, .sentinel, .sentinel, .sentinel, .sentinel, .sentinel, .sentinel, .sentinel, .sentinel, .sentinel, .sentinel, .sentinel, .sentinel], laidTests := true, laidLooks := .later }
def ScopeLocalsCardSaid : Prop := Claim7.holds Tryz.pinned (.plain (OpenSpec.ofChange scopeLocalsSpec)) scopeLocalsCard

/-- THE TIED CARD OF 'stockadelaw09.KindOne'. -/
def kindOneCard : Claim7 := { stood := { row := kindOneRow, standIns := [], harness := (true, "55def9fbb83b1398b76eb4b02cf0bd7002790a1a682fb1f63b98db96fdcbc46b"), looks := true }, kinds := [], alts := [], laidByText := true, laidKinds := [.data, .data, .data, .sentinel, .sentinel, .sentinel, .sentinel, .sentinel, .sentinel, .sentinel, .sentinel, .sentinel, .sentinel, .sentinel, .sentinel, .sentinel, .sentinel, .sentinel, .sentinel, .sentinel, .sentinel, .sentinel], laidTests := true, laidLooks := .later }
def KindOneCardSaid : Prop := Claim7.holds Tryz.pinned (.plain (OpenSpec.ofChange kindOneSpec)) kindOneCard

/-- THE TIED CARD OF 'stockadelaw09.KindTwo'. -/
def kindTwoCard : Claim7 := { stood := { row := kindTwoRow, standIns := [], harness := (true, "55def9fbb83b1398b76eb4b02cf0bd7002790a1a682fb1f63b98db96fdcbc46b"), looks := true }, kinds := [], alts := [], laidByText := true, laidKinds := [.data, .data, .data, .sentinel, .sentinel, .sentinel, .sentinel, .sentinel, .sentinel, .sentinel, .sentinel, .sentinel, .sentinel, .sentinel, .sentinel, .sentinel, .sentinel, .sentinel, .sentinel, .sentinel, .sentinel, .sentinel], laidTests := true, laidLooks := .later }
def KindTwoCardSaid : Prop := Claim7.holds Tryz.pinned (.plain (OpenSpec.ofChange kindTwoSpec)) kindTwoCard

/-- THE TIED CARD OF 'stockadelaw09.KindLets'. -/
def kindLetsCard : Claim7 := { stood := { row := kindLetsRow, standIns := [], harness := (true, "55def9fbb83b1398b76eb4b02cf0bd7002790a1a682fb1f63b98db96fdcbc46b"), looks := true }, kinds := [], alts := [], laidByText := true, laidKinds := [.data, .data, .data, .sentinel, .sentinel, .sentinel, .sentinel, .sentinel, .sentinel, .sentinel, .sentinel, .sentinel, .sentinel, .sentinel, .sentinel, .sentinel, .sentinel, .sentinel, .sentinel, .sentinel, .sentinel, .sentinel], laidTests := true, laidLooks := .later }
def KindLetsCardSaid : Prop := Claim7.holds Tryz.pinned (.plain (OpenSpec.ofChange kindLetsSpec)) kindLetsCard

/-- THE SECOND FORM's CARD OF 'stockadelaw07.ShowWords'. -/
def showWordsUptoCard : Claim7 := { stood := { row := showWordsUptoRow, standIns := [], harness := (true, "55def9fbb83b1398b76eb4b02cf0bd7002790a1a682fb1f63b98db96fdcbc46b"), looks := true }, kinds := [], alts := [], laidByText := true, laidKinds := [.data, .data, .data, .sentinel, .sentinel, .sentinel, .sentinel, .sentinel, .sentinel, .sentinel], laidTests := true, laidLooks := .later }
def ShowWordsUptoCardSaid : Prop := Claim7.holds Tryz.pinned (.plain (OpenSpec.upto showWordsSpec)) showWordsUptoCard

/-- THE SECOND FORM's CARD OF 'stockadelaw08.ScopePlaces'. -/
def scopePlacesUptoCard : Claim7 := { stood := { row := scopePlacesUptoRow, standIns := [], harness := (true, "55def9fbb83b1398b76eb4b02cf0bd7002790a1a682fb1f63b98db96fdcbc46b"), looks := true }, kinds := [], alts := [], laidByText := true, laidKinds := [.data, .data, .data, .sentinel, .sentinel, .sentinel, .sentinel, .sentinel, .sentinel, .sentinel, .sentinel, .sentinel, .sentinel, .sentinel, .sentinel, .sentinel, .sentinel, .sentinel, .sentinel, .sentinel, .sentinel, .sentinel], laidTests := true, laidLooks := .later }
def ScopePlacesUptoCardSaid : Prop := Claim7.holds Tryz.pinned (.plain (OpenSpec.upto scopePlacesSpec)) scopePlacesUptoCard

/-- THE SECOND FORM's CARD OF 'stockadelaw08.ScopeLocals'. -/
def scopeLocalsUptoCard : Claim7 := { stood := { row := scopeLocalsUptoRow, standIns := [], harness := (true, "55def9fbb83b1398b76eb4b02cf0bd7002790a1a682fb1f63b98db96fdcbc46b"), looks := true }, kinds := [], alts := [], laidByText := true, laidKinds := [.data, .data, .data, .sentinel, .sentinel, .sentinel, .sentinel, .sentinel, .sentinel, .sentinel, .sentinel, .sentinel, .sentinel, .sentinel, .sentinel, .sentinel, .sentinel, .sentinel, .sentinel, .sentinel, .sentinel, .sentinel], laidTests := true, laidLooks := .later }
def ScopeLocalsUptoCardSaid : Prop := Claim7.holds Tryz.pinned (.plain (OpenSpec.upto scopeLocalsSpec)) scopeLocalsUptoCard

/-- THE SECOND FORM's CARD OF 'stockadelaw09.KindOne'. -/
def kindOneUptoCard : Claim7 := { stood := { row := kindOneUptoRow, standIns := [], harness := (true, "55def9fbb83b1398b76eb4b02cf0bd7002790a1a682fb1f63b98db96fdcbc46b"), looks := true }, kinds := [], alts := [], laidByText := true, laidKinds := [.data, .data, .data, .sentinel, .sentinel, .sentinel, .sentinel, .sentinel, .sentinel, .sentinel, .sentinel, .sentinel, .sentinel, .sentinel, .sentinel, .sentinel, .sentinel, .sentinel, .sentinel, .sentinel, .sentinel, .sentinel], laidTests := true, laidLooks := .later }
def KindOneUptoCardSaid : Prop := Claim7.holds Tryz.pinned (.plain (OpenSpec.upto kindOneSpec)) kindOneUptoCard

/-- THE SECOND FORM's CARD OF 'stockadelaw09.KindTwo'. -/
def kindTwoUptoCard : Claim7 := { stood := { row := kindTwoUptoRow, standIns := [], harness := (true, "55def9fbb83b1398b76eb4b02cf0bd7002790a1a682fb1f63b98db96fdcbc46b"), looks := true }, kinds := [], alts := [], laidByText := true, laidKinds := [.data, .data, .data, .sentinel, .sentinel, .sentinel, .sentinel, .sentinel, .sentinel, .sentinel, .sentinel, .sentinel, .sentinel, .sentinel, .sentinel, .sentinel, .sentinel, .sentinel, .sentinel, .sentinel, .sentinel, .sentinel], laidTests := true, laidLooks := .later }
def KindTwoUptoCardSaid : Prop := Claim7.holds Tryz.pinned (.plain (OpenSpec.upto kindTwoSpec)) kindTwoUptoCard

/-- THE SECOND FORM's CARD OF 'stockadelaw09.KindLets'. -/
def kindLetsUptoCard : Claim7 := { stood := { row := kindLetsUptoRow, standIns := [], harness := (true, "55def9fbb83b1398b76eb4b02cf0bd7002790a1a682fb1f63b98db96fdcbc46b"), looks := true }, kinds := [], alts := [], laidByText := true, laidKinds := [.data, .data, .data, .sentinel, .sentinel, .sentinel, .sentinel, .sentinel, .sentinel, .sentinel, .sentinel, .sentinel, .sentinel, .sentinel, .sentinel, .sentinel, .sentinel, .sentinel, .sentinel, .sentinel, .sentinel, .sentinel], laidTests := true, laidLooks := .later }
def KindLetsUptoCardSaid : Prop := Claim7.holds Tryz.pinned (.plain (OpenSpec.upto kindLetsSpec)) kindLetsUptoCard
end Rows
end Go.Proofs.YtfnplhfjfolojaaGreatDoor
