/- What the row's list of two errors gives; and a world that meets the list. -/
import Derived.Test.YtbjcfmajbcbnbaaDoorYa
namespace Go.Proofs.YtbjcfmajbcbnbaaDoor.Ck
open Go.ChangeShapes Go.WideShapes Go.RowKit

def laid2 : List (String × DataW Unit) := [("stockade/api.ErrRange", Rows.laid_stockade_api_ErrRange), ("stockade/api.ErrType", Rows.laid_stockade_api_ErrType)]
def l2 : List (String × List UInt8) := [("stockade/api.ErrRange", [115, 116, 111, 99, 107, 97, 100, 101, 58, 32, 114, 97, 110, 103, 101]), ("stockade/api.ErrType", [115, 116, 111, 99, 107, 97, 100, 101, 58, 32, 116, 121, 112, 101])]
theorem laid2_eq : laid2 = l2.map fun x => (x.1, sentD x.2) := rfl
theorem named2 : ((List.range 2).all fun i => Tryd.prog.globalNamed (l2.getD i ("", [])).1 == some ([0, 4].getD i 0) && (Tryd.prog.globals[[0, 4].getD i 0]?).map (·.type) == some 30) = true := by kernel_rfl
theorem e2_of_laid {W : World} (h : laidMetH Tryd.prog laid2 W) : ∃ p, E2 W p := by
  rw [MakeChecks.laidMetH_plain _ _ _ (by kernel_rfl), laid2_eq] at h
  obtain ⟨ps, hv, hnd, hrows⟩ := h
  obtain ⟨p, hs, hsub⟩ := sents_of l2 [0, 4] ps rfl (fun i hi => by
    have h1 := List.all_eq_true.1 named2 i (List.mem_range.2 hi)
    simp only [Bool.and_eq_true, beq_iff_eq] at h1
    exact h1) hv hrows
  have h0 := hs.at 0 (by decide)
  have h1 := hs.at 1 (by decide)
  exact ⟨[p.getD 0 ⟨0, 0, none⟩, ⟨0, 0, none⟩, ⟨0, 0, none⟩, ⟨0, 0, none⟩, p.getD 1 ⟨0, 0, none⟩], h0.1, h1.1, h0.2.1, h1.2.1⟩
theorem door_met2 (os : Os) (args : Array Value) : laidMetH Tryd.prog laid2 ((World.doorLaid Tryd.prog 332 os).forCall (fun _ _ => 0) ⟨#[], args, []⟩).memory :=
  laidMetH_of_parts3 (fuel := 8) (laidMet_of_run' 8 (by kernel_rfl) (by kernel_rfl)) (by kernel_rfl) (by kernel_rfl)
end Go.Proofs.YtbjcfmajbcbnbaaDoor.Ck
