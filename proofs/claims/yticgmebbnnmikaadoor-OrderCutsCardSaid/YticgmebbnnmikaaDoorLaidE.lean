/- What the row's list of one error gives; and a world that meets the list. -/
import Derived.Test.YticgmebbnnmikaaDoorOs
import Derived.LaidMore
import Derived.Test.YticgmebbnnmikaaDoorSent
import Derived.Test.YticgmebbnnmikaaDoorLaid
namespace Go.Proofs.YticgmebbnnmikaaDoor.Ck
open Go.ChangeShapes Go.WideShapes Go.RowKit

def laid1 : List (String × DataW Unit) := [("stockade/api.ErrRange", Rows.laid_stockade_api_ErrRange)]
def l1 : List (String × List UInt8) := [("stockade/api.ErrRange", [115, 116, 111, 99, 107, 97, 100, 101, 58, 32, 114, 97, 110, 103, 101])]
theorem laid1_eq : laid1 = l1.map fun x => (x.1, sentD x.2) := rfl
theorem named1 : ((List.range 1).all fun i => Tryd.prog.globalNamed (l1.getD i ("", [])).1 == some ([0].getD i 0) && (Tryd.prog.globals[[0].getD i 0]?).map (·.type) == some 29) = true := by kernel_rfl
theorem er_of_laid {W : World} (h : laidMetH Tryd.prog laid1 W) : ∃ p, Er W p := by
  rw [MakeChecks.laidMetH_plain _ _ _ (by kernel_rfl), laid1_eq] at h
  obtain ⟨ps, hv, hnd, hrows⟩ := h
  obtain ⟨p, hs, hsub⟩ := sents_of l1 [0] ps rfl (fun i hi => by
    have h1 := List.all_eq_true.1 named1 i (List.mem_range.2 hi)
    simp only [Bool.and_eq_true, beq_iff_eq] at h1
    exact h1) hv hrows
  have h0 := hs.at 0 (by decide)
  exact ⟨_, h0.2.1⟩
theorem door_met1 (os : Os) (args : Array Value) : laidMetH Tryd.prog laid1 ((World.doorLaid Tryd.prog 332 os).forCall (fun _ _ => 0) ⟨#[], args, []⟩).memory :=
  laidMetH_of_parts3 (fuel := 8) (laidMet_of_run' 8 (by kernel_rfl) (by kernel_rfl)) (by kernel_rfl) (by kernel_rfl)
end Go.Proofs.YticgmebbnnmikaaDoor.Ck
