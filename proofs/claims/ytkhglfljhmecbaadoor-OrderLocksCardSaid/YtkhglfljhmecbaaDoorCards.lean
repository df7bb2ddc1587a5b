/-
  DERIVED. GIVEN WITH THE SEED: THE CARDS: each row of YtkhglfljhmecbaaDoorRows.lean that lists a variable, with what it lists TIED to the program's text (the seventh form; the later family's looks); each row that meets fmt, with fmt's text TOLD by the authors' own Lean function (tested against real Go, not proved from fmt's source: count such statements apart). THE CARD IS WHAT COUNTS. Prove the row's statement (the work); the ties are given (YtkhglfljhmecbaaDoorTie.lean); close each card by the builder's one call (the guide's Derived/Test/ToyasCard.lean, 'card_holds'). Laid BY PROGRAM, IN A SANDBOX (cutbox-door.mjs). By AI agents, Wed Nov 11 2026. No macro, syntax, notation, axiom, sorry.
-/
import Derived.Test.YtkhglfljhmecbaaDoorRows
import GoSem.ClaimSeven
namespace Go.Proofs.YtkhglfljhmecbaaDoor
namespace Rows

/-- THE TIED CARD OF 'stockadelaw18.OrderTells'. -/
def orderTellsCard : Claim7 := { stood := { row := orderTellsRow, standIns := [], harness := (true, "8f5e8abaa497b82058cb7cfd306bca7930488a746cfabf512871210e338ea4bd"), looks := true }, kinds := [], alts := [], laidByText := true, laidKinds := [.sentinel, .sentinel, .sentinel, .sentinel, .sentinel, .sentinel, .sentinel, .sentinel, .sentinel, .sentinel, .sentinel, .sentinel, .sentinel, .sentinel, .sentinel, .sentinel, .sentinel], laidTests := true, laidLooks := .later }
def OrderTellsCardSaid : Prop := Claim7.holds Tryd.pinned (.plain (OpenSpec.ofChange orderTellsSpec)) orderTellsCard

/-- THE TIED CARD OF 'stockadelaw18.OrderRaces'. -/
def orderRacesCard : Claim7 := { stood := { row := orderRacesRow, standIns := [], harness := (true, "8f5e8abaa497b82058cb7cfd306bca7930488a746cfabf512871210e338ea4bd"), looks := true }, kinds := [], alts := [], laidByText := true, laidKinds := [.sentinel, .sentinel, .sentinel, .sentinel, .sentinel, .sentinel, .sentinel, .sentinel, .sentinel, .sentinel, .sentinel, .sentinel, .sentinel, .sentinel, .sentinel, .sentinel, .sentinel], laidTests := true, laidLooks := .later }
def OrderRacesCardSaid : Prop := Claim7.holds Tryd.pinned (.plain (OpenSpec.ofChange orderRacesSpec)) orderRacesCard

/-- THE TIED CARD OF 'stockadelaw18.OrderLocks'. -/
def orderLocksCard : Claim7 := { stood := { row := orderLocksRow, standIns := [], harness := (true, "8f5e8abaa497b82058cb7cfd306bca7930488a746cfabf512871210e338ea4bd"), looks := true }, kinds := [], alts := [], laidByText := true, laidKinds := [.sentinel], laidTests := true, laidLooks := .later }
def OrderLocksCardSaid : Prop := Claim7.holds Tryd.pinned (.plain (OpenSpec.ofChange orderLocksSpec)) orderLocksCard

/-- THE SECOND FORM's CARD OF 'stockadelaw18.OrderTells'. -/
def orderTellsUptoCard : Claim7 := { stood := { row := orderTellsUptoRow, standIns := [], harness := (true, "8f5e8abaa497b82058cb7cfd306bca7930488a746cfabf512871210e338ea4bd"), looks := true }, kinds := [], alts := [], laidByText := true, laidKinds := [.sentinel, .sentinel, .sentinel, .sentinel, .sentinel, .sentinel, .sentinel, .sentinel, .sentinel, .sentinel, .sentinel, .sentinel, .sentinel, .sentinel, .sentinel, .sentinel, .sentinel], laidTests := true, laidLooks := .later }
def OrderTellsUptoCardSaid : Prop := Claim7.holds Tryd.pinned (.plain (OpenSpec.upto orderTellsSpec)) orderTellsUptoCard

/-- THE SECOND FORM's CARD OF 'stockadelaw18.OrderRaces'. -/
def orderRacesUptoCard : Claim7 := { stood := { row := orderRacesUptoRow, standIns := [], harness := (true, "8f5e8abaa497b82058cb7cfd306bca7930488a746cfabf512871210e338ea4bd"), looks := true }, kinds := [], alts := [], laidByText := true, laidKinds := [.sentinel, .sentinel, .sentinel, .sentinel, .sentinel, .sentinel, .sentinel, .sentinel, .sentinel, .sentinel, .sentinel, .sentinel, .sentinel, .sentinel, .sentinel, .sentinel, .sentinel], laidTests := true, laidLooks := .later }
def OrderRacesUptoCardSaid : Prop := Claim7.holds Tryd.pinned (.plain (OpenSpec.upto orderRacesSpec)) orderRacesUptoCard

/-- THE SECOND FORM's CARD OF 'stockadelaw18.OrderLocks'. -/
def orderLocksUptoCard : Claim7 := { stood := { row := orderLocksUptoRow, standIns := [], harness := (true, "8f5e8abaa497b82058cb7cfd306bca7930488a746cfabf512871210e338ea4bd"), looks := true }, kinds := [], alts := [], laidByText := true, laidKinds := [.sentinel], laidTests := true, laidLooks := .later }
def OrderLocksUptoCardSaid : Prop := Claim7.holds Tryd.pinned (.plain (OpenSpec.upto orderLocksSpec)) orderLocksUptoCard
end Rows
end Go.Proofs.YtkhglfljhmecbaaDoor
