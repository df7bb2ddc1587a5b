/- The contract of the reader's giving up. -/
import Derived.Test.YtpeebpnoldadjaaDoorTr
namespace Go.Proofs.YtpeebpnoldadjaaDoor.Ck
open Go.RowKit

def badV (ev : Value) (i : Nat) : Value := .iface 27 (.agg #[ev, .int .i64 i])

theorem refuse_any (te : TypeId) (pe : Value) (i : Nat) (w : World) :
    Calls Tryd.prog 28 #[.iface te pe, .int .i64 i] w fun e w' => e = .panicked [{ v := badV (.iface te pe) i, recovered := false }] ∧ w = w' := by
  go_enter Tryd.func28, Tryd.ntmps28
  go_wp2_with fail
  exact ⟨rfl, rfl, rfl⟩

end Go.Proofs.YtpeebpnoldadjaaDoor.Ck
