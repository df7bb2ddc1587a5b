/- The contract of the statements' own 'alive': it answers true. -/
import Derived.Test.YtogabncehoehjaaDoorTick
namespace Go.Proofs.YtogabncehoehjaaDoor.Ck
open Go.RowKit

theorem Sl.built {w : World} (xs : List Int) (hf : Fits xs) (hl : xs.length ≤ 1000) :
    Sl (w.alloc (.cells (xs.map (Value.int .i64)).toArray 3)) (.slice (some ⟨w.heap.size, 0, none⟩) xs.length xs.length) xs := by
  refine Sl.of_row (t := 3) (f := fun i => .int .i64 (xs.getD i 0)) ⟨_, Go.Deep.blk_alloc_new _ _, by simp, fun i hi => ?_⟩ (Nat.le_refl _) (by unfold maxLen; omega) hf (fun i _ => rfl)
  simp [List.getD, hi]

theorem built2 (w : World) (x y : Int) (hx : 0 ≤ x) (hx2 : x ≤ 100) (hy : 0 ≤ y) (hy2 : y ≤ 100) :
    Sl (w.alloc (.cells #[.int .i64 x, .int .i64 y] 3)) (.slice (some ⟨w.heap.size, 0, none⟩) 2 2) [x, y] :=
  Sl.built [x, y] (fun z hz => by simp at hz; omega) (by simp)
theorem built1 (w : World) (x : Int) (hx : 0 ≤ x) (hx2 : x ≤ 100) :
    Sl (w.alloc (.cells #[.int .i64 x] 3)) (.slice (some ⟨w.heap.size, 0, none⟩) 1 1) [x] :=
  Sl.built [x] (fun z hz => by simp at hz; omega) (by simp)

theorem built2n (w : World) (o : Obj) (x y : Int) (hx : 0 ≤ x) (hx2 : x ≤ 100) (hy : 0 ≤ y) (hy2 : y ≤ 100) :
    Sl ((w.alloc o).alloc (.cells #[.int .i64 x, .int .i64 y] 3)) (.slice (some ⟨w.heap.size + 1, 0, none⟩) 2 2) [x, y] := by
  have h := built2 (w.alloc o) x y hx hx2 hy hy2
  have e : (w.alloc o).heap.size = w.heap.size + 1 := by simp
  rw [e] at h
  exact h

set_option maxHeartbeats 400000 in
theorem alive_any (w : World) :
    Calls Tryd.prog 9 #[] w fun e w' => e = .returned (.bool true) ∧ Below w.heap.size w w' := by
  go_enter Tryd.func9, Tryd.ntmps9
  go_wp2_with fail
  refine (tick_ok _ [0, 0] 1 _ (built2 w 0 0 (by omega) (by omega) (by omega) (by omega)) (by simp) (by omega) (by decide)).mono ?_
  rintro e w1 ⟨⟨v1, rfl, hv1⟩, hb1⟩
  have b1 := bel_trans (bel_new w _) hb1
  clear hb1
  rw [show tick [0, 0] 1 = [0, 1] from by decide] at hv1
  go_wp2_with fail
  refine (sameInts_any _ _ _ _ _ (hv1.below (Nat.le_refl _) (bel_new _ _)) (built2 w1 0 1 (by omega) (by omega) (by omega) (by omega))).mono ?_
  rintro e w2 ⟨rfl, hb2⟩
  have b2 := bel_trans (bel_al b1 _) hb2
  clear hb2 b1 hv1
  rw [show sameB [0, 1] [0, 1] = true from by decide]
  go_wp2_with fail
  refine (join_any _ _ [3, 0] [1, 1] _ ((built2 w2 3 0 (by omega) (by omega) (by omega) (by omega)).below (Nat.le_refl _) (bel_new _ _)) (built2n w2 _ 1 1 (by omega) (by omega) (by omega) (by omega)) (by simp) (by simp)).mono ?_
  rintro e w3 ⟨⟨v3, rfl, hv3⟩, hb3⟩
  have b3 := bel_trans (bel_al (bel_al b2 _) _) hb3
  clear hb3 b2
  rw [show join [3, 0] [1, 1] = [3, 1] from by decide] at hv3
  go_wp2_with fail
  refine (sameInts_any _ _ _ _ _ (hv3.below (Nat.le_refl _) (bel_new _ _)) (built2 w3 3 1 (by omega) (by omega) (by omega) (by omega))).mono ?_
  rintro e w4 ⟨rfl, hb4⟩
  have b4 := bel_trans (bel_al b3 _) hb4
  clear hb4 b3 hv3
  rw [show sameB [3, 1] [3, 1] = true from by decide]
  go_wp2_with fail
  refine (apart_any _ _ [3] [0, 1] _ ((built1 w4 3 (by omega) (by omega)).below (Nat.le_refl _) (bel_new _ _)) (built2n w4 _ 0 1 (by omega) (by omega) (by omega) (by omega)) (by simp) (by simp)).mono ?_
  rintro e w5 ⟨rfl, rfl⟩
  rw [show apartB [3] [0, 1] = true from by decide]
  go_wp2_with fail
  go_ret
  exact ⟨rfl, bel_al (bel_al b4 _) _⟩

end Go.Proofs.YtogabncehoehjaaDoor.Ck
