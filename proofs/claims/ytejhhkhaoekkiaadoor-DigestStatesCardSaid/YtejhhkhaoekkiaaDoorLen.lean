/- The contract of Len. -/
import Derived.Test.YtejhhkhaoekkiaaDoorRow
namespace Go.Proofs.YtejhhkhaoekkiaaDoor.Ck
open Go.RowKit

set_option maxHeartbeats 400000 in
theorem len_any (g : Nat) (m : List Int) (w : World) (hs : St w g m) (hl : m.length ≤ 1000000000) :
    Calls Tryd.prog 15 #[.pointer (some ⟨g, 0, none⟩)] w fun e w' => e = .returned (.int .i64 m.length) ∧ w = w' := by
  obtain ⟨Bf, hT, hB⟩ := hs
  have q0 := hB.cell 72
  rw [stc_taken _ _ _ (hashB_len _ _) hT.1] at q0
  generalize m.length = n at *
  clear hB hT
  go_enter Tryd.func15, Tryd.ntmps15
  go_wp2_with fail
  go_ret
  exact ⟨rfl, rfl⟩

end Go.Proofs.YtejhhkhaoekkiaaDoor.Ck
