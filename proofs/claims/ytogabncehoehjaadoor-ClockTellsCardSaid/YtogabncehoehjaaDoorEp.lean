/- The contracts of clock.Of and of an epoch's AtMost. -/
import Derived.Test.YtogabncehoehjaaDoorOps
namespace Go.Proofs.YtogabncehoehjaaDoor.Ck
open Go.RowKit

def ep (g n : Int) : Value := .agg #[.int .i64 g, .int .i64 n]

set_option maxHeartbeats 400000 in
theorem of_any (v : Value) (zs : List Int) (g : Int) (w : World) (h : Sl w v zs) :
    Calls Tryd.prog 17 #[v, .int .i64 g] w fun e w' => e = .returned (.agg #[.int .i64 g, .int .i64 (get zs g)]) ∧ Below w.heap.size w w' := by
  go_enter Tryd.func17, Tryd.ntmps17
  go_wp2_with fail
  refine (get_any _ _ _ _ (h.below (Nat.le_refl _) (bel_new _ _))).mono ?_
  rintro e w' ⟨rfl, rfl⟩
  go_wp2_with fail
  exact bodyPost_ret (v := .agg #[.int .i64 g, .int .i64 (get zs g)]) (by simp [results, Tryd.results17, go_sem]) rfl ⟨rfl, bel_new _ _⟩

set_option maxHeartbeats 400000 in
theorem epAtMost_any (v : Value) (zs : List Int) (g n : Int) (w : World) (h : Sl w v zs) :
    Calls Tryd.prog 27 #[.agg #[.int .i64 g, .int .i64 n], v] w fun e w' => e = .returned (.bool (decide (n ≤ get zs g))) ∧ ∃ k, w' = (w.alloc (.cells #[.int .i64 g, .int .i64 n] 35)).drewN k := by
  have hs : Hid (∀ k, Sl ((w.alloc (.cells #[.int .i64 g, .int .i64 n] 35)).drewN k) v zs) := fun k => h.below (Nat.le_refl _) (below_drewN (bel_new _ _) _)
  clear h
  go_enter Tryd.func27, Tryd.ntmps27
  go_wp2_with fail
  go_quiet ((go_at_call 16; exact Calls.quiet_of_same ((get_any _ _ _ _ (hs.out _)).mono fun _ _ h => ⟨h.1, h.2.symm⟩)))
  go_wp2_with fail
  go_ret
  exact ⟨rfl, _, rfl⟩

theorem epAtMost_bel (v : Value) (zs : List Int) (g n : Int) (w : World) (h : Sl w v zs) :
    Calls Tryd.prog 27 #[.agg #[.int .i64 g, .int .i64 n], v] w fun e w' => e = .returned (.bool (decide (n ≤ get zs g))) ∧ Below w.heap.size w w' :=
  (epAtMost_any v zs g n w h).mono fun _ _ ⟨he, _, hw⟩ => ⟨he, by rw [hw]; exact below_drewN (bel_new _ _) _⟩

end Go.Proofs.YtogabncehoehjaaDoor.Ck
