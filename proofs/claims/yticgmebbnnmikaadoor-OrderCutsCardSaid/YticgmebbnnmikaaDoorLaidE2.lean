/- As LaidE, and the error by its form. -/
import Derived.Test.YticgmebbnnmikaaDoorLaidE
import Derived.LaidMore
import Derived.Test.YticgmebbnnmikaaDoorSent
import Derived.Test.YticgmebbnnmikaaDoorLaid
namespace Go.Proofs.YticgmebbnnmikaaDoor.Ck
open Go.ChangeShapes Go.WideShapes Go.RowKit

theorem er2_of_laid {W : World} (h : laidMetH Tryd.prog laid1 W) : ∃ p, Er W (.iface 143 (.pointer (some p))) := by
  rw [MakeChecks.laidMetH_plain _ _ _ (by kernel_rfl), laid1_eq] at h
  obtain ⟨ps, hv, hnd, hrows⟩ := h
  obtain ⟨p, hs, hsub⟩ := sents_of l1 [0] ps rfl (fun i hi => by
    have h1 := List.all_eq_true.1 named1 i (List.mem_range.2 hi)
    simp only [Bool.and_eq_true, beq_iff_eq] at h1
    exact h1) hv hrows
  have h0 := hs.at 0 (by decide)
  exact ⟨_, h0.2.1⟩
end Go.Proofs.YticgmebbnnmikaaDoor.Ck
