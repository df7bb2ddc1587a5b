/- What the row's listed variables give: the two errors that Tick answers are no nil; and a world that meets the list. -/
import Derived.Test.YtogabncehoehjaaDoorRows
import Derived.Test.YtogabncehoehjaaDoorTick
import Derived.LaidMore
import Derived.MakeChecks
import Derived.Stop.LaidErr
import Derived.Stop.Joined
namespace Go.Proofs.YtogabncehoehjaaDoor.Ck
open Go.ChangeShapes Go.WideShapes Go.RowKit

theorem own : ownKnob Tryd.prog.godebug = none := by kernel_rfl
theorem laidOut : laidOutB Tryd.prog = true := by kernel_rfl
theorem gRange : Tryd.prog.globalNamed "stockade/api.ErrRange" = some 0 := by kernel_rfl
theorem gClock : Tryd.prog.globalNamed "stockade/api.ErrClock" = some 1 := by kernel_rfl
theorem tRange : (Tryd.prog.globals[0]?).map (·.type) = some 26 := by kernel_rfl
theorem tClock : (Tryd.prog.globals[1]?).map (·.type) = some 26 := by kernel_rfl
theorem star : "*" ++ "errors.errorString" = "*errors.errorString" := by decide
theorem rowEs (u : TypeId) (h : Tryd.prog.typeName? 3 u = some "*errors.errorString") : u = 65 :=
  typeName_ptr_named (nm := "errors.errorString") (by rw [star]; kernel_rfl) (by kernel_rfl) (by decide) u (by rw [star]; exact h)
theorem cellsEs : Tryd.prog.cellsOf 91 = 1 := by kernel_rfl
theorem cells9 : Tryd.prog.cellsOf 9 = 1 := by kernel_rfl

def laid2 : List (String × DataW Unit) := [("stockade/api.ErrRange", Rows.laid_stockade_api_ErrRange), ("stockade/api.ErrClock", Rows.laid_stockade_api_ErrClock)]

theorem errs_of_laid {W : World} (h : laidMetH Tryd.prog laid2 W) : ∃ er x, Errs W er (.iface 65 x) := by
  rw [MakeChecks.laidMetH_plain _ _ _ (by kernel_rfl)] at h
  obtain ⟨a0, s0, hv0, _⟩ := laid_sentinel h gRange tRange Tryd.underlying26 rowEs Tryd.underlying65 Tryd.underlying91 rfl rfl Tryd.underlying9 cellsEs cells9
  obtain ⟨a1, s1, hv1, _⟩ := laid_sentinel h.tail gClock tClock Tryd.underlying26 rowEs Tryd.underlying65 Tryd.underlying91 rfl rfl Tryd.underlying9 cellsEs cells9
  have c0 := World.var?_cell gRange hv0 0
  have c1 := World.var?_cell gClock hv1 0
  have lt : ∀ (b : Nat) (v : Value), W.cell? ⟨b, 0, none⟩ = some v → b < W.heap.size := fun b v hc => by
    rcases Nat.lt_or_ge b W.heap.size with h' | h'
    · exact h'
    · simp [World.cell?, Array.getElem?_eq_none h'] at hc
  exact ⟨_, _, lt _ _ c0, lt _ _ c1, c0, c1⟩

theorem door_met (os : Os) (args : Array Value) : laidMetH Tryd.prog laid2 ((World.doorLaid Tryd.prog 332 os).forCall (fun _ _ => 0) ⟨#[], args, []⟩).memory :=
  laidMetH_of_parts3 (fuel := 8) (laidMet_of_run' 8 (by kernel_rfl) (by kernel_rfl)) (by kernel_rfl) (by kernel_rfl)

end Go.Proofs.YtogabncehoehjaaDoor.Ck
