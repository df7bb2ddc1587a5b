/-
  NARROWER THAN 'FOR EVERY INPUT', by the rows' own cells (each row's printed sentence says how): ClockZero: laid · ClockOf: laid.
  DERIVED. THE GIVEN ROWS OF THIS SEAT. 2 by the template 'for every input the law returns true; each argument reads behind the call as it read before'; 0 by the template 'total and deterministic' (their statements: YtogabncehoehjabDoorTotals.lean).
  GIVEN WITH THE SEED: the statements are not yours to turn. If you find one false, say at which input.
  Laid BY PROGRAM, IN A SANDBOX (cutbox-rows.mjs): the forced cells as the released guide's own fill.sh prints them over the translation ccf8ad03feceae8f… (all of the seat's roots in one cut). By AI agents, Wed Nov 11 2026. No macro, syntax, notation, axiom, sorry.
-/
import Derived.Test.YtogabncehoehjabDoorChecked
import GoSem.Claim
import GoSem.ClaimJoined
import GoSem.ClaimMapViews
import Derived.JoinedTies
import Derived.KernelRfl
namespace Go.Proofs.YtogabncehoehjabDoor
/- THE CELL 'sum', in the pinned program and in every row, IS THE sha256 OF THE DUMP (.gsa) THAT YtogabncehoehjabDoorProg.lean LOADS. Nothing in Lean hashes anything: it is a label: what it is worth is what the hold of that sum in a sandbox is worth. -/
noncomputable def Tryd.pinned : Pinned := { name := "ytogabncehoehjabdoor", sum := "ccf8ad03feceae8f9ca0301c622da8c247169ae09fa301683205e4465c4aa003", checked := Tryd.checked }
namespace Rows
def none {H : Type} : Left H := { results := [], args := [] }

/- WHAT THE LISTED PACKAGE-LEVEL VARIABLES READ AS WHEN THE CALL BEGINS. Each datum BY PROGRAM (the guide's laid-datum.mjs) off the statement by which the dump's own 'gosem.cut.vars' lays the variable. In a bare row this is a premise. The card (YtogabncehoehjabDoorCards.lean) ties it to the program's text. -/
def laid_stockade_api_ErrRange {H : Type} : DataW H := .iface "*errors.errorString" (.ptr (.agg [.lit (.string [115, 116, 111, 99, 107, 97, 100, 101, 58, 32, 114, 97, 110, 103, 101])]))
def laid_stockade_api_ErrClock {H : Type} : DataW H := .iface "*errors.errorString" (.ptr (.agg [.lit (.string [115, 116, 111, 99, 107, 97, 100, 101, 58, 32, 99, 108, 111, 99, 107])]))

/-- 'stockadelaw01.ClockZero': WHATEVER THE INPUT: true; the input reads as it did. -/
def clockZeroSpec : ChangeSpec := { name := "clockZero", fn := fun _ => fun
  | [d] => { results := [.lit (.bool true)], args := [d] }
  | _ => none }
def clockZeroRow : OpenClaim := { program := "ytogabncehoehjabdoor", sum := "ccf8ad03feceae8f9ca0301c622da8c247169ae09fa301683205e4465c4aa003", func := "stockade/stockadelaw01.ClockZero", spec := "clockZero", unfollowed := true, recurses := true, named := ["stockade/api.ErrRange", "stockade/api.ErrClock"], apart := false, laid := [("stockade/api.ErrRange", laid_stockade_api_ErrRange), ("stockade/api.ErrClock", laid_stockade_api_ErrClock)] }
def ClockZeroSaid : Prop := clockZeroRow.holds Tryd.pinned (OpenSpec.ofChange clockZeroSpec)

/-- ITS FALSE NEIGHBOUR: 'it returns false'. Refute it at one input. -/
def clockZeroWrong : ChangeSpec := { name := "clockZero", fn := fun _ => fun
  | [d] => { results := [.lit (.bool false)], args := [d] }
  | _ => none }
def ClockZeroWrongFalsely : Prop := clockZeroRow.holds Tryd.pinned (OpenSpec.ofChange clockZeroWrong)

/-- 'stockadelaw01.ClockOf': WHATEVER THE INPUT: true; the input reads as it did. -/
def clockOfSpec : ChangeSpec := { name := "clockOf", fn := fun _ => fun
  | [d1, d2] => { results := [.lit (.bool true)], args := [d1, d2] }
  | _ => none }
def clockOfRow : OpenClaim := { program := "ytogabncehoehjabdoor", sum := "ccf8ad03feceae8f9ca0301c622da8c247169ae09fa301683205e4465c4aa003", func := "stockade/stockadelaw01.ClockOf", spec := "clockOf", unfollowed := true, recurses := true, named := ["stockade/api.ErrRange", "stockade/api.ErrClock"], apart := false, laid := [("stockade/api.ErrRange", laid_stockade_api_ErrRange), ("stockade/api.ErrClock", laid_stockade_api_ErrClock)] }
def ClockOfSaid : Prop := clockOfRow.holds Tryd.pinned (OpenSpec.ofChange clockOfSpec)

/-- ITS FALSE NEIGHBOUR: 'it returns false'. Refute it at one input. -/
def clockOfWrong : ChangeSpec := { name := "clockOf", fn := fun _ => fun
  | [d1, d2] => { results := [.lit (.bool false)], args := [d1, d2] }
  | _ => none }
def ClockOfWrongFalsely : Prop := clockOfRow.holds Tryd.pinned (OpenSpec.ofChange clockOfWrong)

/- THE SECOND FORM. 'bulk': how many values and letters a reading holds, each counted each time it is reached (what is shared counts as often as it is met; a slice's spare places count too). A statement '..UptoSaid' is the law's where the arguments, and the package variables that the reading takes, are together of bulk at most 1048576: NARROWER than '..Said'. Prove '..Said' where nothing that the law and all that it calls make is longer than what came in: it says more and counts as full. Else prove '..UptoSaid'. A law counts once. -/
mutual
def uptoBulk {H : Type} : DataW H → Nat
  | .lit (.string bytes) => bytes.length + 1
  | .lit _ => 1
  | .nil => 1
  | .ptr d => uptoBulk d + 1
  | .slice elems spare => uptoBulkAll elems + uptoBulkAll spare + 1
  | .agg parts => uptoBulkAll parts + 1
  | .iface _ d => uptoBulk d + 1
  | .map entries => uptoBulkEntries entries + 1
  | .held _ => 1
def uptoBulkAll {H : Type} : List (DataW H) → Nat
  | [] => 0
  | d :: r => uptoBulk d + uptoBulkAll r
def uptoBulkEntries {H : Type} : List (Lit × DataW H) → Nat
  | [] => 0
  | x :: r => uptoBulkEntry x + uptoBulkEntries r
def uptoBulkEntry {H : Type} : Lit × DataW H → Nat
  | (.string bytes, d) => bytes.length + uptoBulk d + 1
  | (_, d) => uptoBulk d + 1
 end
def uptoSmall : (H : Type) → List (DataW H) → Bool := fun _ ds => decide (uptoBulkAll ds ≤ 1048576)
def OpenSpec.upto (s : _root_.Go.ChangeSpec) : _root_.Go.OpenSpec := { _root_.Go.OpenSpec.ofChange s with cond := some uptoSmall }

/-- 'stockadelaw01.ClockZero', WHERE WHAT IT READS IS OF BULK AT MOST 1048576: true; the input reads as it did. -/
def clockZeroUptoRow : OpenClaim := { program := "ytogabncehoehjabdoor", sum := "ccf8ad03feceae8f9ca0301c622da8c247169ae09fa301683205e4465c4aa003", func := "stockade/stockadelaw01.ClockZero", spec := "clockZero", unfollowed := true, recurses := true, named := ["stockade/api.ErrRange", "stockade/api.ErrClock"], apart := false, laid := [("stockade/api.ErrRange", laid_stockade_api_ErrRange), ("stockade/api.ErrClock", laid_stockade_api_ErrClock)], narrowed := true }
def ClockZeroUptoSaid : Prop := clockZeroUptoRow.holds Tryd.pinned (OpenSpec.upto clockZeroSpec)

/-- 'stockadelaw01.ClockOf', WHERE WHAT IT READS IS OF BULK AT MOST 1048576: true; the input reads as it did. -/
def clockOfUptoRow : OpenClaim := { program := "ytogabncehoehjabdoor", sum := "ccf8ad03feceae8f9ca0301c622da8c247169ae09fa301683205e4465c4aa003", func := "stockade/stockadelaw01.ClockOf", spec := "clockOf", unfollowed := true, recurses := true, named := ["stockade/api.ErrRange", "stockade/api.ErrClock"], apart := false, laid := [("stockade/api.ErrRange", laid_stockade_api_ErrRange), ("stockade/api.ErrClock", laid_stockade_api_ErrClock)], narrowed := true }
def ClockOfUptoSaid : Prop := clockOfUptoRow.holds Tryd.pinned (OpenSpec.upto clockOfSpec)

end Rows
end Go.Proofs.YtogabncehoehjabDoor
