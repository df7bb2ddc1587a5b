/- The contract of the reference's At: the count of a goroutine. -/
import Derived.Test.YtogabncehoehjaaDoorOps
namespace Go.Proofs.YtogabncehoehjaaDoor.Ck
open Go.RowKit

theorem rAt_any (v : Value) (zs : List Int) (g : Int) (w : World) (h : Sl w v zs) :
    Calls Tryd.prog 13 #[v, .int .i64 g] w fun e w' => e = .returned (.int .i64 (get zs g)) ∧ w = w' := by
  obtain ⟨hf, a, cap, rfl, hlc, hcm, hc⟩ := h
  unfold maxLen at hcm
  by_cases h0 : g < 0
  · have e : Hid (get zs g = 0) := get_out zs g (.inl h0)
    go_enter Tryd.func13, Tryd.ntmps13
    go_wp2
    go_ret
    exact ⟨ret_int e.out.symm, rfl⟩
  · by_cases h1 : (zs.length : Int) ≤ g
    · have e : Hid (get zs g = 0) := get_out zs g (.inr h1)
      go_enter Tryd.func13, Tryd.ntmps13
      go_wp2
      go_ret
      exact ⟨ret_int e.out.symm, rfl⟩
    · have hl : g.toNat < zs.length := by omega
      obtain ⟨b, off, rfl, hb, hcell⟩ := hc g.toNat hl
      have e : Hid (get zs g = max (zs[g.toNat]) 0) := by
        show get zs g = _
        rw [get_in zs g (by omega) (by omega)]; simp [List.getD, List.getElem?_eq_getElem hl]
      clear hc
      by_cases hp : 0 < zs[g.toNat]
      all_goals
        go_enter Tryd.func13, Tryd.ntmps13
        go_wp2
        go_ret
        exact ⟨ret_int (by rw [e.out]; omega), rfl⟩
end Go.Proofs.YtogabncehoehjaaDoor.Ck
