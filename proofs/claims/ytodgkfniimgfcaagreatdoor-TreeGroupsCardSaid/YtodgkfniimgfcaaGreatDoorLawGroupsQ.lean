/- TreeGroups: how two operators between three names group. -/
import Derived.Test.YtodgkfniimgfcaaGreatDoorHkQ
import Derived.Deep.RegionHeld
import Derived.Deep.CutRange
namespace Go.Proofs.YtodgkfniimgfcaaGreatDoor.Ck
open Go.RowKit

theorem op_cells (w : World) : ∀ j, j < 13 → (w.alloc (.cells #[.string ⟨#[124, 124]⟩, .string ⟨#[38, 38]⟩, .string ⟨#[61, 61]⟩, .string ⟨#[33, 61]⟩, .string ⟨#[60]⟩, .string ⟨#[60, 61]⟩, .string ⟨#[62]⟩, .string ⟨#[62, 61]⟩, .string ⟨#[43]⟩, .string ⟨#[45]⟩, .string ⟨#[42]⟩, .string ⟨#[47]⟩, .string ⟨#[37]⟩] 9)).cell? ⟨w.heap.size, j, none⟩ = some (.string (opA j)) := fun j hj => by
  have k : (w.alloc (.cells #[.string ⟨#[124, 124]⟩, .string ⟨#[38, 38]⟩, .string ⟨#[61, 61]⟩, .string ⟨#[33, 61]⟩, .string ⟨#[60]⟩, .string ⟨#[60, 61]⟩, .string ⟨#[62]⟩, .string ⟨#[62, 61]⟩, .string ⟨#[43]⟩, .string ⟨#[45]⟩, .string ⟨#[42]⟩, .string ⟨#[47]⟩, .string ⟨#[37]⟩] 9)).heap[w.heap.size]? = some (.cells #[.string ⟨#[124, 124]⟩, .string ⟨#[38, 38]⟩, .string ⟨#[61, 61]⟩, .string ⟨#[33, 61]⟩, .string ⟨#[60]⟩, .string ⟨#[60, 61]⟩, .string ⟨#[62]⟩, .string ⟨#[62, 61]⟩, .string ⟨#[43]⟩, .string ⟨#[45]⟩, .string ⟨#[42]⟩, .string ⟨#[47]⟩, .string ⟨#[37]⟩] 9 (0, 0)) := Go.Deep.blk_alloc_new _ _
  refine blk_cell k j _ ?_
  have : j = 0 ∨ j = 1 ∨ j = 2 ∨ j = 3 ∨ j = 4 ∨ j = 5 ∨ j = 6 ∨ j = 7 ∨ j = 8 ∨ j = 9 ∨ j = 10 ∨ j = 11 ∨ j = 12 := by omega
  rcases this with h | h | h | h | h | h | h | h | h | h | h | h | h <;> subst h <;> rfl
theorem rk_cells (w : World) : ∀ j, j < 13 → (w.alloc (.cells #[.int .i64 1, .int .i64 2, .int .i64 3, .int .i64 3, .int .i64 3, .int .i64 3, .int .i64 3, .int .i64 3, .int .i64 4, .int .i64 4, .int .i64 5, .int .i64 5, .int .i64 5] 3)).cell? ⟨w.heap.size, j, none⟩ = some (.int .i64 (rkA j)) := fun j hj => by
  have k : (w.alloc (.cells #[.int .i64 1, .int .i64 2, .int .i64 3, .int .i64 3, .int .i64 3, .int .i64 3, .int .i64 3, .int .i64 3, .int .i64 4, .int .i64 4, .int .i64 5, .int .i64 5, .int .i64 5] 3)).heap[w.heap.size]? = some (.cells #[.int .i64 1, .int .i64 2, .int .i64 3, .int .i64 3, .int .i64 3, .int .i64 3, .int .i64 3, .int .i64 3, .int .i64 4, .int .i64 4, .int .i64 5, .int .i64 5, .int .i64 5] 3 (0, 0)) := Go.Deep.blk_alloc_new _ _
  refine blk_cell k j _ ?_
  have : j = 0 ∨ j = 1 ∨ j = 2 ∨ j = 3 ∨ j = 4 ∨ j = 5 ∨ j = 6 ∨ j = 7 ∨ j = 8 ∨ j = 9 ∨ j = 10 ∨ j = 11 ∨ j = 12 := by omega
  rcases this with h | h | h | h | h | h | h | h | h | h | h | h | h <;> subst h <;> rfl
theorem op_size (j : Nat) : (opA j).size ≤ 2 := by
  by_cases hj : j < 13
  · have : j = 0 ∨ j = 1 ∨ j = 2 ∨ j = 3 ∨ j = 4 ∨ j = 5 ∨ j = 6 ∨ j = 7 ∨ j = 8 ∨ j = 9 ∨ j = 10 ∨ j = 11 ∨ j = 12 := by omega
    rcases this with h | h | h | h | h | h | h | h | h | h | h | h | h <;> subst h <;> decide
  · have : opA j = ⟨#[]⟩ := by
      unfold opA opT
      rw [List.getD_eq_getElem?_getD, List.getElem?_eq_none (by simp; omega)]
      rfl
    rw [this]
    decide
theorem mod13 (x : Int) : ∃ I : Nat, I < 13 ∧ wrap64 ((IntKind.u64.wrap x).tmod 13) = I := by
  have h1 : 0 ≤ IntKind.u64.wrap x := by rw [IntKind.wrap_u64]; omega
  rw [Int.tmod_eq_emod_of_nonneg h1]
  generalize IntKind.u64.wrap x = y at *
  refine ⟨(y % 13).toNat, by omega, ?_⟩
  unfold wrap64
  omega

set_option maxRecDepth 20000 in
set_option maxHeartbeats 40000000 in
theorem groups_any (x y : Int) (p : List Addr) (w : World) (he : Ev w p) :
    Calls Tryz.prog 8 #[.int .i64 x, .int .i64 y] w fun e w' => e = .returned (.bool true) ∧ Below w.heap.size w w' := by
  obtain ⟨I, hI13, hI⟩ := mod13 x
  obtain ⟨K, hK13, hK⟩ := mod13 y
  have WY := hide (grp_ways hI13 hK13)
  go_enter Tryz.func8, Tryz.ntmps8
  go_wp2_with fail
  refine (alive_any p w he).mono ?_
  rintro e w1 ⟨rfl, hb1⟩
  have hbS := bel_new w1 (.cells #[.string ⟨#[124, 124]⟩, .string ⟨#[38, 38]⟩, .string ⟨#[61, 61]⟩, .string ⟨#[33, 61]⟩, .string ⟨#[60]⟩, .string ⟨#[60, 61]⟩, .string ⟨#[62]⟩, .string ⟨#[62, 61]⟩, .string ⟨#[43]⟩, .string ⟨#[45]⟩, .string ⟨#[42]⟩, .string ⟨#[47]⟩, .string ⟨#[37]⟩] 9)
  have s1 : (w1.alloc (.cells #[.string ⟨#[124, 124]⟩, .string ⟨#[38, 38]⟩, .string ⟨#[61, 61]⟩, .string ⟨#[33, 61]⟩, .string ⟨#[60]⟩, .string ⟨#[60, 61]⟩, .string ⟨#[62]⟩, .string ⟨#[62, 61]⟩, .string ⟨#[43]⟩, .string ⟨#[45]⟩, .string ⟨#[42]⟩, .string ⟨#[47]⟩, .string ⟨#[37]⟩] 9)).heap.size = w1.heap.size + 1 := by simp
  have hbR := bel_new (w1.alloc (.cells #[.string ⟨#[124, 124]⟩, .string ⟨#[38, 38]⟩, .string ⟨#[61, 61]⟩, .string ⟨#[33, 61]⟩, .string ⟨#[60]⟩, .string ⟨#[60, 61]⟩, .string ⟨#[62]⟩, .string ⟨#[62, 61]⟩, .string ⟨#[43]⟩, .string ⟨#[45]⟩, .string ⟨#[42]⟩, .string ⟨#[47]⟩, .string ⟨#[37]⟩] 9)) (.cells #[.int .i64 1, .int .i64 2, .int .i64 3, .int .i64 3, .int .i64 3, .int .i64 3, .int .i64 3, .int .i64 3, .int .i64 4, .int .i64 4, .int .i64 5, .int .i64 5, .int .i64 5] 3)
  have HS : Hid (∀ j, j < 13 → ((w1.alloc (.cells #[.string ⟨#[124, 124]⟩, .string ⟨#[38, 38]⟩, .string ⟨#[61, 61]⟩, .string ⟨#[33, 61]⟩, .string ⟨#[60]⟩, .string ⟨#[60, 61]⟩, .string ⟨#[62]⟩, .string ⟨#[62, 61]⟩, .string ⟨#[43]⟩, .string ⟨#[45]⟩, .string ⟨#[42]⟩, .string ⟨#[47]⟩, .string ⟨#[37]⟩] 9)).alloc (.cells #[.int .i64 1, .int .i64 2, .int .i64 3, .int .i64 3, .int .i64 3, .int .i64 3, .int .i64 3, .int .i64 3, .int .i64 4, .int .i64 4, .int .i64 5, .int .i64 5, .int .i64 5] 3)).cell? ⟨w1.heap.size, j, none⟩ = some (.string (opA j))) := fun j hj => (hbR.cell (p := ⟨w1.heap.size, j, none⟩) (show w1.heap.size < _ by omega)).trans (op_cells w1 j hj)
  have HR : Hid (∀ j, j < 13 → ((w1.alloc (.cells #[.string ⟨#[124, 124]⟩, .string ⟨#[38, 38]⟩, .string ⟨#[61, 61]⟩, .string ⟨#[33, 61]⟩, .string ⟨#[60]⟩, .string ⟨#[60, 61]⟩, .string ⟨#[62]⟩, .string ⟨#[62, 61]⟩, .string ⟨#[43]⟩, .string ⟨#[45]⟩, .string ⟨#[42]⟩, .string ⟨#[47]⟩, .string ⟨#[37]⟩] 9)).alloc (.cells #[.int .i64 1, .int .i64 2, .int .i64 3, .int .i64 3, .int .i64 3, .int .i64 3, .int .i64 3, .int .i64 3, .int .i64 4, .int .i64 4, .int .i64 5, .int .i64 5, .int .i64 5] 3)).cell? ⟨(w1.alloc (.cells #[.string ⟨#[124, 124]⟩, .string ⟨#[38, 38]⟩, .string ⟨#[61, 61]⟩, .string ⟨#[33, 61]⟩, .string ⟨#[60]⟩, .string ⟨#[60, 61]⟩, .string ⟨#[62]⟩, .string ⟨#[62, 61]⟩, .string ⟨#[43]⟩, .string ⟨#[45]⟩, .string ⟨#[42]⟩, .string ⟨#[47]⟩, .string ⟨#[37]⟩] 9)).heap.size, j, none⟩ = some (.int .i64 (rkA j))) := fun j hj => rk_cells _ j hj
  rw [s1] at HR
  have B2 := hide (bel_trans hb1 (bel_trans hbS hbR))
  have E2 := hide ((he.bel hb1).bel (bel_trans hbS hbR))
  have HG5 : Hid (w1.heap.size < ((w1.alloc (.cells #[.string ⟨#[124, 124]⟩, .string ⟨#[38, 38]⟩, .string ⟨#[61, 61]⟩, .string ⟨#[33, 61]⟩, .string ⟨#[60]⟩, .string ⟨#[60, 61]⟩, .string ⟨#[62]⟩, .string ⟨#[62, 61]⟩, .string ⟨#[43]⟩, .string ⟨#[45]⟩, .string ⟨#[42]⟩, .string ⟨#[47]⟩, .string ⟨#[37]⟩] 9)).alloc (.cells #[.int .i64 1, .int .i64 2, .int .i64 3, .int .i64 3, .int .i64 3, .int .i64 3, .int .i64 3, .int .i64 3, .int .i64 4, .int .i64 4, .int .i64 5, .int .i64 5, .int .i64 5] 3)).heap.size) := by show _ < _; simp; omega
  clear hbS hbR s1 hb1 he
  go_wp2_with fail
  rw [hI, hK]
  clear hI hK
  generalize (w1.alloc (.cells #[.string ⟨#[124, 124]⟩, .string ⟨#[38, 38]⟩, .string ⟨#[61, 61]⟩, .string ⟨#[33, 61]⟩, .string ⟨#[60]⟩, .string ⟨#[60, 61]⟩, .string ⟨#[62]⟩, .string ⟨#[62, 61]⟩, .string ⟨#[43]⟩, .string ⟨#[45]⟩, .string ⟨#[42]⟩, .string ⟨#[47]⟩, .string ⟨#[37]⟩] 9)).alloc (.cells #[.int .i64 1, .int .i64 2, .int .i64 3, .int .i64 3, .int .i64 3, .int .i64 3, .int .i64 3, .int .i64 3, .int .i64 4, .int .i64 4, .int .i64 5, .int .i64 5, .int .i64 5] 3) = w2 at *
  generalize w1.heap.size = g5 at *
  obtain ⟨oI, hoI⟩ : ∃ oI, opA I = oI := ⟨_, rfl⟩
  obtain ⟨oK, hoK⟩ : ∃ oK, opA K = oK := ⟨_, rfl⟩
  have hI2 : (I : Int) < 13 := by omega
  have hK2 : (K : Int) < 13 := by omega
  have hsI : oI.size ≤ 2 := by rw [← hoI]; exact op_size I
  have hsK : oK.size ≤ 2 := by rw [← hoK]; exact op_size K
  have HSI := HS.out I hI13
  have HSK := HS.out K hK13
  rcases WY.out with ⟨h3, h3', q, j, hq⟩ | ⟨hn3, n, x', y', hq, hkd, hks, hcase⟩
  · rw [show textA I K = (⟨#[97, 32]⟩ ++ oI ++ ⟨#[32, 98, 32]⟩ ++ oK ++ ⟨#[32, 99]⟩) by unfold textA; rw [hoI, hoK]] at hq
    have HX : Hid (∀ w', Ev w' p → Calls Tryz.prog 14 #[.string (⟨#[97, 32]⟩ ++ oI ++ ⟨#[32, 98, 32]⟩ ++ oK ++ ⟨#[32, 99]⟩)] w' fun e w'' => e = .returned (.tuple #[.agg #[.int .i64 0, .int .i64 0, .string ⟨#[]⟩, .int .i64 0, .int .i64 0, .int .i64 0, .int .i64 0, .int .u64 0, .slice none 0 0], .agg #[errV p q, .int .i64 j]]) ∧ Below w'.heap.size w' w'') := fun w' he => (expr_ev _ p w' he).mono (fun e w'' hp => by rw [hq] at hp; exact hp)
    rw [hoI] at HSI
    rw [hoK] at HSK
    have HS : Hid (∀ j, j < 13 → w2.cell? ⟨g5, j, none⟩ = some (.string (opA j))) := HS.out
    have r3 := HR.out I hI13
    have r4 := HR.out K hK13
    rw [h3] at r3
    rw [h3'] at r4
    have R3 := hide r3
    have R4 := hide r4
    clear hq r3 r4 h3 h3' HR
    go_cut [9, 10] from 23 to 38 (fun vn vb wc => ∃ bn bb, vn = .pointer (some ⟨bn, 0, none⟩) ∧ vb = .pointer (some ⟨bb, 0, none⟩) ∧ Hid (Nod wc bn (.int .i64 0) (.int .i64 0) (.string ⟨#[]⟩) (.int .i64 0) (.int .i64 0) (.int .i64 0) (.int .i64 0) (.int .u64 0) (.slice none 0 0)) ∧ Hid (wc.heap[bb]? = some (.cells #[errV p q, .int .i64 j] 30 (0, 0))) ∧ Hid (Below w2.heap.size w2 wc))
    case first =>
      refine wp_region_held_drew (S := fun w' => w'.cell? ⟨g5, I, none⟩ = some (.string oI) ∧ w'.cell? ⟨g5, K, none⟩ = some (.string oK)) mixed ⟨HSI, HSK⟩ (fun hH => ?_)
      have BW0 : Hid (Below w2.heap.size w2 w2.drew) := bel_drawn (Below.refl _ _)
      generalize World.drew w2 = W0 at *
      refine wpAnyH_take (i := 0) (v := ?_) rfl (by kernel_rfl) (by kernel_rfl) (by kernel_rfl) (fun _ _ _ h => h) (Or.inl ⟨by rfl, ?_⟩) hH ?_
      rotate_left 1
      · (intro w hSw; (try dsimp only at hSw); go_simp <;> (first | (with_reducible rfl) | (rw [if_neg (by omega)])))
      simp only [Act.put, List.getElem_toArray, List.getElem_cons_zero, List.setIfInBounds_toArray, List.set_cons_zero, List.set_cons_succ]
      refine wpAnyH_take (i := 1) (v := ?_) rfl (by kernel_rfl) (by kernel_rfl) (by kernel_rfl) (fun _ _ _ h => h) (Or.inl ⟨by rfl, ?_⟩) hH ?_
      rotate_left 1
      · (intro w hSw; (try dsimp only at hSw); go_simp <;> (first | (with_reducible rfl) | (rw [if_neg (by omega)])))
      simp only [Act.put, List.getElem_toArray, List.getElem_cons_zero, List.getElem_cons_succ, List.setIfInBounds_toArray, List.set_cons_zero, List.set_cons_succ]
      refine wpAnyH_take (i := 2) (v := ?_) rfl (by kernel_rfl) (by kernel_rfl) (by kernel_rfl) (fun _ _ _ h => h) (Or.inl ⟨by rfl, ?_⟩) hH ?_
      rotate_left 1
      · (intro w hSw; (try dsimp only at hSw); go_simp <;> (first | (with_reducible rfl) | (rw [if_neg (by omega)])))
      simp only [Act.put, List.getElem_toArray, List.getElem_cons_zero, List.getElem_cons_succ, List.setIfInBounds_toArray, List.set_cons_zero, List.set_cons_succ]
      refine wpAnyH_take (i := 3) (v := ?_) rfl (by kernel_rfl) (by kernel_rfl) (by kernel_rfl) (fun _ _ _ h => h) (Or.inl ⟨by rfl, ?_⟩) hH ?_
      rotate_left 1
      · (intro w hSw; (try dsimp only at hSw); go_simp <;> (first | (with_reducible rfl) | (rw [if_neg (by omega)])))
      simp only [Act.put, List.getElem_toArray, List.getElem_cons_zero, List.getElem_cons_succ, List.setIfInBounds_toArray, List.set_cons_zero, List.set_cons_succ]
      refine wpAnyH_take (i := 4) (v := ?_) rfl (by kernel_rfl) (by kernel_rfl) (by kernel_rfl) (fun _ _ _ h => h) (Or.inl ⟨by rfl, ?_⟩) hH ?_
      rotate_left 1
      · (intro w hSw; (try dsimp only at hSw); go_simp <;> (first | (with_reducible rfl) | (rw [if_neg (by omega)])))
      simp only [Act.put, List.getElem_toArray, List.getElem_cons_zero, List.getElem_cons_succ, List.setIfInBounds_toArray, List.set_cons_zero, List.set_cons_succ]
      refine wpAnyH_take (i := 5) (v := ?_) rfl (by kernel_rfl) (by kernel_rfl) (by kernel_rfl) (fun _ _ _ h => h) (Or.inl ⟨by rfl, ?_⟩) hH ?_
      rotate_left 1
      · (intro w hSw; (try dsimp only at hSw); go_simp <;> (first | (with_reducible rfl) | (rw [if_neg (by omega)])))
      simp only [Act.put, List.getElem_toArray, List.getElem_cons_zero, List.getElem_cons_succ, List.setIfInBounds_toArray, List.set_cons_zero, List.set_cons_succ]
      refine wpAnyH_take (i := 6) (v := ?_) rfl (by kernel_rfl) (by kernel_rfl) (by kernel_rfl) (fun _ _ _ h => h) (Or.inl ⟨by rfl, ?_⟩) hH ?_
      rotate_left 1
      · (intro w hSw; (try dsimp only at hSw); go_simp <;> (first | (with_reducible rfl) | (rw [if_neg (by omega)])))
      simp only [Act.put, List.getElem_toArray, List.getElem_cons_zero, List.getElem_cons_succ, List.setIfInBounds_toArray, List.set_cons_zero, List.set_cons_succ]
      refine wpAnyH_take (i := 7) (v := ?_) rfl (by kernel_rfl) (by kernel_rfl) (by kernel_rfl) (fun _ _ _ h => h) (Or.inl ⟨by rfl, ?_⟩) hH ?_
      rotate_left 1
      · (intro w hSw; (try dsimp only at hSw); go_simp <;> (first | (with_reducible rfl) | (rw [if_neg (by omega)])))
      simp only [Act.put, List.getElem_toArray, List.getElem_cons_zero, List.getElem_cons_succ, List.setIfInBounds_toArray, List.set_cons_zero, List.set_cons_succ]
      refine wpAnyH_take (i := 8) (v := ?_) rfl (by kernel_rfl) (by kernel_rfl) (by kernel_rfl) (fun _ _ _ h => h) (Or.inl ⟨by rfl, ?_⟩) hH ?_
      rotate_left 1
      · (intro w hSw; (try dsimp only at hSw); go_simp <;> (first | (with_reducible rfl) | (rw [if_neg (by omega)])))
      simp only [Act.put, List.getElem_toArray, List.getElem_cons_zero, List.getElem_cons_succ, List.setIfInBounds_toArray, List.set_cons_zero, List.set_cons_succ]
      refine wpAnyH_take (i := 9) (v := ?_) rfl (by kernel_rfl) (by kernel_rfl) (by kernel_rfl) (fun _ _ _ h => h) (Or.inl ⟨by rfl, ?_⟩) hH ?_
      rotate_left 1
      · (intro w hSw; (try dsimp only at hSw); go_simp <;> (first | (with_reducible rfl) | (rw [if_neg (by omega)])))
      simp only [Act.put, List.getElem_toArray, List.getElem_cons_zero, List.getElem_cons_succ, List.setIfInBounds_toArray, List.set_cons_zero, List.set_cons_succ]
      refine wpAnyH_take (i := 10) (v := ?_) rfl (by kernel_rfl) (by kernel_rfl) (by kernel_rfl) (fun _ _ _ h => h) (Or.inl ⟨by rfl, ?_⟩) hH ?_
      rotate_left 1
      · (intro w hSw; (try dsimp only at hSw); go_simp <;> (first | (with_reducible rfl) | (rw [if_neg (by omega)])))
      simp only [Act.put, List.getElem_toArray, List.getElem_cons_zero, List.getElem_cons_succ, List.setIfInBounds_toArray, List.set_cons_zero, List.set_cons_succ]
      refine wpAnyH_take (i := 11) (v := ?_) rfl (by kernel_rfl) (by kernel_rfl) (by kernel_rfl) (fun _ _ _ h => h) (Or.inl ⟨by rfl, ?_⟩) hH ?_
      rotate_left 1
      · (intro w hSw; (try dsimp only at hSw); go_simp <;> (first | (with_reducible rfl) | (rw [if_neg (by omega)])))
      simp only [Act.put, List.getElem_toArray, List.getElem_cons_zero, List.getElem_cons_succ, List.setIfInBounds_toArray, List.set_cons_zero, List.set_cons_succ]
      refine wpAnyH_ready (rs := [12, 16, 17]) (by kernel_rfl) (by decide) ?_
      refine AllReadyH.cons rfl (fun K1 hK1 => ?_) (AllReadyH.cons rfl (fun K1 hK1 => ?_) (AllReadyH.cons rfl (fun K1 hK1 => ?_) AllReadyH.nil))
      · go_simp
        refine (HX.out _ (E2.out.bel BW0.out)).mono ?_
        rintro e W1 ⟨rfl, hb⟩
        have BW1 := hide (bel_trans BW0.out hb)
        refine hK1.out _ _ ⟨(hb.cell (p := ⟨g5, I, none⟩) (World.block_lt_of_cell? W0 _ hH.1)).trans hH.1, (hb.cell (p := ⟨g5, K, none⟩) (World.block_lt_of_cell? W0 _ hH.2)).trans hH.2⟩ (fun hH => ?_)
        clear hK1 K1 hb
        refine wpAnyH_take (i := 13) (v := ?_) rfl (by kernel_rfl) (by kernel_rfl) (by kernel_rfl) (fun _ _ _ h => h) (Or.inl ⟨by rfl, ?_⟩) hH ?_
        rotate_left 1
        · (intro w hSw; (try dsimp only at hSw); go_simp <;> (first | (with_reducible rfl) | (rw [if_neg (by omega)])))
        simp only [Act.put, List.getElem_toArray, List.getElem_cons_zero, List.getElem_cons_succ, List.setIfInBounds_toArray, List.set_cons_zero, List.set_cons_succ]
        refine wpAnyH_take (i := 14) (v := ?_) rfl (by kernel_rfl) (by kernel_rfl) (by kernel_rfl) (fun _ _ _ h => h) (Or.inl ⟨by rfl, ?_⟩) hH ?_
        rotate_left 1
        · (intro w hSw; (try dsimp only at hSw); go_simp <;> (first | (with_reducible rfl) | (rw [if_neg (by omega)])))
        simp only [Act.put, List.getElem_toArray, List.getElem_cons_zero, List.getElem_cons_succ, List.setIfInBounds_toArray, List.set_cons_zero, List.set_cons_succ]
        refine wpAnyH_take (i := 15) (v := ?_) rfl (by kernel_rfl) (by kernel_rfl) (by kernel_rfl) (fun _ _ _ h => h) (Or.inl ⟨by rfl, ?_⟩) hH ?_
        rotate_left 1
        · (intro w hSw; (try dsimp only at hSw); go_simp <;> (first | (with_reducible rfl) | (rw [if_neg (by omega)])))
        simp only [Act.put, List.getElem_toArray, List.getElem_cons_zero, List.getElem_cons_succ, List.setIfInBounds_toArray, List.set_cons_zero, List.set_cons_succ]
        refine wpAnyH_ready (rs := [16, 17]) (by kernel_rfl) (by decide) ?_
        refine AllReadyH.cons rfl (fun K1 hK1 => ?_) (AllReadyH.cons rfl (fun K1 hK1 => ?_) AllReadyH.nil)
        · go_simp
          have hb := bel_new W1 (.cells #[.int .i64 0, .int .i64 0, .string ⟨#[]⟩, .int .i64 0, .int .i64 0, .int .i64 0, .int .i64 0, .int .u64 0, .slice none 0 0] 26)
          have NW2 : Hid (Nod (W1.alloc (.cells #[.int .i64 0, .int .i64 0, .string ⟨#[]⟩, .int .i64 0, .int .i64 0, .int .i64 0, .int .i64 0, .int .u64 0, .slice none 0 0] 26)) W1.heap.size (.int .i64 0) (.int .i64 0) (.string ⟨#[]⟩) (.int .i64 0) (.int .i64 0) (.int .i64 0) (.int .i64 0) (.int .u64 0) (.slice none 0 0)) := Go.Deep.blk_alloc_new _ _
          have LE16 : Hid (w2.heap.size ≤ W1.heap.size) := BW1.out.size
          have BW2 := hide (bel_trans BW1.out hb)
          have hS2 := (show _ ∧ _ from ⟨(hb.cell (p := ⟨g5, I, none⟩) (World.block_lt_of_cell? W1 _ hH.1)).trans hH.1, (hb.cell (p := ⟨g5, K, none⟩) (World.block_lt_of_cell? W1 _ hH.2)).trans hH.2⟩)
          generalize W1.alloc (.cells #[.int .i64 0, .int .i64 0, .string ⟨#[]⟩, .int .i64 0, .int .i64 0, .int .i64 0, .int .i64 0, .int .u64 0, .slice none 0 0] 26) = W2 at *
          obtain ⟨bn, hbn⟩ : ∃ bn, bn = W1.heap.size := ⟨_, rfl⟩
          rw [← hbn]
          rw [← hbn] at NW2 LE16
          clear hbn
          refine hK1.out _ _ hS2 (fun hH => ?_)
          clear hK1 K1 hb hS2
          refine wpAnyH_ready (rs := [17]) (by kernel_rfl) (by decide) ?_
          refine AllReadyH.cons rfl (fun K1 hK1 => ?_) AllReadyH.nil
          go_simp
          have hb := bel_new W2 (.cells #[.nilIface, .int .i64 0] 30)
          have MW3 : Hid ((W2.alloc (.cells #[.nilIface, .int .i64 0] 30)).heap[W2.heap.size]? = some (.cells #[.nilIface, .int .i64 0] 30 (0, 0))) := Go.Deep.blk_alloc_new _ _
          have LE17 : Hid (w2.heap.size ≤ W2.heap.size) := BW2.out.size
          have BW3 := hide (bel_trans BW2.out hb)
          have NW3 := hide (NW2.out.bel hb)
          have NE : Hid (bn ≠ W2.heap.size) := Nat.ne_of_lt (lt_of_blk NW2.out)
          have hS3 := (show _ ∧ _ from ⟨(hb.cell (p := ⟨g5, I, none⟩) (World.block_lt_of_cell? W2 _ hH.1)).trans hH.1, (hb.cell (p := ⟨g5, K, none⟩) (World.block_lt_of_cell? W2 _ hH.2)).trans hH.2⟩)
          generalize W2.alloc (.cells #[.nilIface, .int .i64 0] 30) = W3 at *
          obtain ⟨bb, hbb⟩ : ∃ bb, bb = W2.heap.size := ⟨_, rfl⟩
          rw [← hbb]
          rw [← hbb] at MW3 LE17 NE
          clear hbb
          refine hK1.out _ _ hS3 (fun hH => ?_)
          clear hK1 K1 hb hS3
          refine wpAnyH_ready (rs := [18]) (by kernel_rfl) (by decide) ?_
          refine AllReadyH.cons rfl (fun K1 hK1 => ?_) AllReadyH.nil
          have hne : bn ≠ bb := by have := NE.out; omega
          obtain ⟨⟨p0, p1, p2, p3, p4, p5, p6, p7, p8⟩, q0, q1, q2, q3, q4, q5, q6, q7, q8⟩ := NW3.out.all
          go_simp
          obtain ⟨z9, s9⟩ := set9 NW3.out (.int .i64 0) (.int .i64 0) (.string ⟨#[]⟩) (.int .i64 0) (.int .i64 0) (.int .i64 0) (.int .i64 0) (.int .u64 0) (.slice none 0 0)
          have NW4 := hide z9
          have MW4 := hide ((s9.blk _ (lt_of_blk MW3.out) (Ne.symm hne)).trans MW3.out)
          have BW4 := hide (BW3.out.trans (s9.bel LE16.out BW3.out.size))
          have hg5 : g5 ≠ bn := by have := LE16.out; have := HG5.out; omega
          have hS4 : ((((((((((W3.setCell ⟨bn, 0, none⟩ (.int .i64 0)).setCell ⟨bn, 1, none⟩ (.int .i64 0)).setCell ⟨bn, 2, none⟩ (.string ⟨#[]⟩)).setCell ⟨bn, 3, none⟩ (.int .i64 0)).setCell ⟨bn, 4, none⟩ (.int .i64 0)).setCell ⟨bn, 5, none⟩ (.int .i64 0)).setCell ⟨bn, 6, none⟩ (.int .i64 0)).setCell ⟨bn, 7, none⟩ (.int .u64 0)).setCell ⟨bn, 8, none⟩ (.slice none 0 0)).cell? ⟨g5, I, none⟩ = some (.string oI) ∧ (((((((((W3.setCell ⟨bn, 0, none⟩ (.int .i64 0)).setCell ⟨bn, 1, none⟩ (.int .i64 0)).setCell ⟨bn, 2, none⟩ (.string ⟨#[]⟩)).setCell ⟨bn, 3, none⟩ (.int .i64 0)).setCell ⟨bn, 4, none⟩ (.int .i64 0)).setCell ⟨bn, 5, none⟩ (.int .i64 0)).setCell ⟨bn, 6, none⟩ (.int .i64 0)).setCell ⟨bn, 7, none⟩ (.int .u64 0)).setCell ⟨bn, 8, none⟩ (.slice none 0 0)).cell? ⟨g5, K, none⟩ = some (.string oK)) := ⟨s9.cell hg5 hH.1, s9.cell hg5 hH.2⟩
          clear p0 p1 p2 p3 p4 p5 p6 p7 p8 q0 q1 q2 q3 q4 q5 q6 q7 q8 z9 s9
          generalize ((((((((W3.setCell ⟨bn, 0, none⟩ (.int .i64 0)).setCell ⟨bn, 1, none⟩ (.int .i64 0)).setCell ⟨bn, 2, none⟩ (.string ⟨#[]⟩)).setCell ⟨bn, 3, none⟩ (.int .i64 0)).setCell ⟨bn, 4, none⟩ (.int .i64 0)).setCell ⟨bn, 5, none⟩ (.int .i64 0)).setCell ⟨bn, 6, none⟩ (.int .i64 0)).setCell ⟨bn, 7, none⟩ (.int .u64 0)).setCell ⟨bn, 8, none⟩ (.slice none 0 0) = W4 at *
          refine hK1.out _ _ hS4 (fun hH => ?_)
          clear hK1 K1 hS4
          refine wpAnyH_ready (rs := [19]) (by kernel_rfl) (by decide) ?_
          refine AllReadyH.cons rfl (fun K1 hK1 => ?_) AllReadyH.nil
          have p0 := blk_frz MW4.out 0
          have p1 := blk_frz MW4.out 1
          have q0 := blk_cell MW4.out 0 _ rfl
          have q1 := blk_cell MW4.out 1 _ rfl
          go_simp
          obtain ⟨z1, s1⟩ := set1 MW4.out 0 (errV p q)
          obtain ⟨z2, s2⟩ := set1 z1 1 (.int .i64 j)
          have MW5 := hide z2
          have NW5 := hide ((NW4.out.tn s1 hne).tn s2 hne)
          have BW5 := hide ((BW4.out.trans (s1.bel LE17.out BW4.out.size)).trans (s2.bel LE17.out (Nat.le_trans BW4.out.size s1.size)))
          have hg5b : g5 ≠ bb := by have := LE17.out; have := HG5.out; omega
          have hS5 : (((W4.setCell ⟨bb, 0, none⟩ (errV p q)).setCell ⟨bb, 1, none⟩ (.int .i64 j)).cell? ⟨g5, I, none⟩ = some (.string oI) ∧ ((W4.setCell ⟨bb, 0, none⟩ (errV p q)).setCell ⟨bb, 1, none⟩ (.int .i64 j)).cell? ⟨g5, K, none⟩ = some (.string oK)) := ⟨s2.cell hg5b (s1.cell hg5b hH.1), s2.cell hg5b (s1.cell hg5b hH.2)⟩
          clear p0 p1 q0 q1 z1 s1 z2 s2
          generalize (W4.setCell ⟨bb, 0, none⟩ (errV p q)).setCell ⟨bb, 1, none⟩ (.int .i64 j) = W5 at *
          refine hK1.out _ _ hS5 (fun hH => ?_)
          clear hK1 K1 hS5
          refine wpAnyH_done (by kernel_rfl) ?_ _
          go_wp2_with fail
          go_meet
          case rel =>
            exact ⟨bn, bb, rfl, rfl, NW5.out, MW5.out, BW5.out⟩
        · go_simp
          have hb := bel_new W1 (.cells #[.nilIface, .int .i64 0] 30)
          have MW2 : Hid ((W1.alloc (.cells #[.nilIface, .int .i64 0] 30)).heap[W1.heap.size]? = some (.cells #[.nilIface, .int .i64 0] 30 (0, 0))) := Go.Deep.blk_alloc_new _ _
          have LE17 : Hid (w2.heap.size ≤ W1.heap.size) := BW1.out.size
          have BW2 := hide (bel_trans BW1.out hb)
          have hS2 := (show _ ∧ _ from ⟨(hb.cell (p := ⟨g5, I, none⟩) (World.block_lt_of_cell? W1 _ hH.1)).trans hH.1, (hb.cell (p := ⟨g5, K, none⟩) (World.block_lt_of_cell? W1 _ hH.2)).trans hH.2⟩)
          generalize W1.alloc (.cells #[.nilIface, .int .i64 0] 30) = W2 at *
          obtain ⟨bb, hbb⟩ : ∃ bb, bb = W1.heap.size := ⟨_, rfl⟩
          rw [← hbb]
          rw [← hbb] at MW2 LE17
          clear hbb
          refine hK1.out _ _ hS2 (fun hH => ?_)
          clear hK1 K1 hb hS2
          refine wpAnyH_ready (rs := [16]) (by kernel_rfl) (by decide) ?_
          refine AllReadyH.cons rfl (fun K1 hK1 => ?_) AllReadyH.nil
          go_simp
          have hb := bel_new W2 (.cells #[.int .i64 0, .int .i64 0, .string ⟨#[]⟩, .int .i64 0, .int .i64 0, .int .i64 0, .int .i64 0, .int .u64 0, .slice none 0 0] 26)
          have NW3 : Hid (Nod (W2.alloc (.cells #[.int .i64 0, .int .i64 0, .string ⟨#[]⟩, .int .i64 0, .int .i64 0, .int .i64 0, .int .i64 0, .int .u64 0, .slice none 0 0] 26)) W2.heap.size (.int .i64 0) (.int .i64 0) (.string ⟨#[]⟩) (.int .i64 0) (.int .i64 0) (.int .i64 0) (.int .i64 0) (.int .u64 0) (.slice none 0 0)) := Go.Deep.blk_alloc_new _ _
          have LE16 : Hid (w2.heap.size ≤ W2.heap.size) := BW2.out.size
          have BW3 := hide (bel_trans BW2.out hb)
          have MW3 := hide ((hb.block _ (lt_of_blk MW2.out)).trans MW2.out)
          have NE : Hid (bb ≠ W2.heap.size) := Nat.ne_of_lt (lt_of_blk MW2.out)
          have hS3 := (show _ ∧ _ from ⟨(hb.cell (p := ⟨g5, I, none⟩) (World.block_lt_of_cell? W2 _ hH.1)).trans hH.1, (hb.cell (p := ⟨g5, K, none⟩) (World.block_lt_of_cell? W2 _ hH.2)).trans hH.2⟩)
          generalize W2.alloc (.cells #[.int .i64 0, .int .i64 0, .string ⟨#[]⟩, .int .i64 0, .int .i64 0, .int .i64 0, .int .i64 0, .int .u64 0, .slice none 0 0] 26) = W3 at *
          obtain ⟨bn, hbn⟩ : ∃ bn, bn = W2.heap.size := ⟨_, rfl⟩
          rw [← hbn]
          rw [← hbn] at NW3 LE16 NE
          clear hbn
          refine hK1.out _ _ hS3 (fun hH => ?_)
          clear hK1 K1 hb hS3
          refine wpAnyH_ready (rs := [18]) (by kernel_rfl) (by decide) ?_
          refine AllReadyH.cons rfl (fun K1 hK1 => ?_) AllReadyH.nil
          have hne : bn ≠ bb := by have := NE.out; omega
          obtain ⟨⟨p0, p1, p2, p3, p4, p5, p6, p7, p8⟩, q0, q1, q2, q3, q4, q5, q6, q7, q8⟩ := NW3.out.all
          go_simp
          obtain ⟨z9, s9⟩ := set9 NW3.out (.int .i64 0) (.int .i64 0) (.string ⟨#[]⟩) (.int .i64 0) (.int .i64 0) (.int .i64 0) (.int .i64 0) (.int .u64 0) (.slice none 0 0)
          have NW4 := hide z9
          have MW4 := hide ((s9.blk _ (lt_of_blk MW3.out) (Ne.symm hne)).trans MW3.out)
          have BW4 := hide (BW3.out.trans (s9.bel LE16.out BW3.out.size))
          have hg5 : g5 ≠ bn := by have := LE16.out; have := HG5.out; omega
          have hS4 : ((((((((((W3.setCell ⟨bn, 0, none⟩ (.int .i64 0)).setCell ⟨bn, 1, none⟩ (.int .i64 0)).setCell ⟨bn, 2, none⟩ (.string ⟨#[]⟩)).setCell ⟨bn, 3, none⟩ (.int .i64 0)).setCell ⟨bn, 4, none⟩ (.int .i64 0)).setCell ⟨bn, 5, none⟩ (.int .i64 0)).setCell ⟨bn, 6, none⟩ (.int .i64 0)).setCell ⟨bn, 7, none⟩ (.int .u64 0)).setCell ⟨bn, 8, none⟩ (.slice none 0 0)).cell? ⟨g5, I, none⟩ = some (.string oI) ∧ (((((((((W3.setCell ⟨bn, 0, none⟩ (.int .i64 0)).setCell ⟨bn, 1, none⟩ (.int .i64 0)).setCell ⟨bn, 2, none⟩ (.string ⟨#[]⟩)).setCell ⟨bn, 3, none⟩ (.int .i64 0)).setCell ⟨bn, 4, none⟩ (.int .i64 0)).setCell ⟨bn, 5, none⟩ (.int .i64 0)).setCell ⟨bn, 6, none⟩ (.int .i64 0)).setCell ⟨bn, 7, none⟩ (.int .u64 0)).setCell ⟨bn, 8, none⟩ (.slice none 0 0)).cell? ⟨g5, K, none⟩ = some (.string oK)) := ⟨s9.cell hg5 hH.1, s9.cell hg5 hH.2⟩
          clear p0 p1 p2 p3 p4 p5 p6 p7 p8 q0 q1 q2 q3 q4 q5 q6 q7 q8 z9 s9
          generalize ((((((((W3.setCell ⟨bn, 0, none⟩ (.int .i64 0)).setCell ⟨bn, 1, none⟩ (.int .i64 0)).setCell ⟨bn, 2, none⟩ (.string ⟨#[]⟩)).setCell ⟨bn, 3, none⟩ (.int .i64 0)).setCell ⟨bn, 4, none⟩ (.int .i64 0)).setCell ⟨bn, 5, none⟩ (.int .i64 0)).setCell ⟨bn, 6, none⟩ (.int .i64 0)).setCell ⟨bn, 7, none⟩ (.int .u64 0)).setCell ⟨bn, 8, none⟩ (.slice none 0 0) = W4 at *
          refine hK1.out _ _ hS4 (fun hH => ?_)
          clear hK1 K1 hS4
          refine wpAnyH_ready (rs := [19]) (by kernel_rfl) (by decide) ?_
          refine AllReadyH.cons rfl (fun K1 hK1 => ?_) AllReadyH.nil
          have p0 := blk_frz MW4.out 0
          have p1 := blk_frz MW4.out 1
          have q0 := blk_cell MW4.out 0 _ rfl
          have q1 := blk_cell MW4.out 1 _ rfl
          go_simp
          obtain ⟨z1, s1⟩ := set1 MW4.out 0 (errV p q)
          obtain ⟨z2, s2⟩ := set1 z1 1 (.int .i64 j)
          have MW5 := hide z2
          have NW5 := hide ((NW4.out.tn s1 hne).tn s2 hne)
          have BW5 := hide ((BW4.out.trans (s1.bel LE17.out BW4.out.size)).trans (s2.bel LE17.out (Nat.le_trans BW4.out.size s1.size)))
          have hg5b : g5 ≠ bb := by have := LE17.out; have := HG5.out; omega
          have hS5 : (((W4.setCell ⟨bb, 0, none⟩ (errV p q)).setCell ⟨bb, 1, none⟩ (.int .i64 j)).cell? ⟨g5, I, none⟩ = some (.string oI) ∧ ((W4.setCell ⟨bb, 0, none⟩ (errV p q)).setCell ⟨bb, 1, none⟩ (.int .i64 j)).cell? ⟨g5, K, none⟩ = some (.string oK)) := ⟨s2.cell hg5b (s1.cell hg5b hH.1), s2.cell hg5b (s1.cell hg5b hH.2)⟩
          clear p0 p1 q0 q1 z1 s1 z2 s2
          generalize (W4.setCell ⟨bb, 0, none⟩ (errV p q)).setCell ⟨bb, 1, none⟩ (.int .i64 j) = W5 at *
          refine hK1.out _ _ hS5 (fun hH => ?_)
          clear hK1 K1 hS5
          refine wpAnyH_done (by kernel_rfl) ?_ _
          go_wp2_with fail
          go_meet
          case rel =>
            exact ⟨bn, bb, rfl, rfl, NW5.out, MW5.out, BW5.out⟩
      · go_simp
        have hb := bel_new W0 (.cells #[.int .i64 0, .int .i64 0, .string ⟨#[]⟩, .int .i64 0, .int .i64 0, .int .i64 0, .int .i64 0, .int .u64 0, .slice none 0 0] 26)
        have NW1 : Hid (Nod (W0.alloc (.cells #[.int .i64 0, .int .i64 0, .string ⟨#[]⟩, .int .i64 0, .int .i64 0, .int .i64 0, .int .i64 0, .int .u64 0, .slice none 0 0] 26)) W0.heap.size (.int .i64 0) (.int .i64 0) (.string ⟨#[]⟩) (.int .i64 0) (.int .i64 0) (.int .i64 0) (.int .i64 0) (.int .u64 0) (.slice none 0 0)) := Go.Deep.blk_alloc_new _ _
        have LE16 : Hid (w2.heap.size ≤ W0.heap.size) := BW0.out.size
        have BW1 := hide (bel_trans BW0.out hb)
        have hS1 := (show _ ∧ _ from ⟨(hb.cell (p := ⟨g5, I, none⟩) (World.block_lt_of_cell? W0 _ hH.1)).trans hH.1, (hb.cell (p := ⟨g5, K, none⟩) (World.block_lt_of_cell? W0 _ hH.2)).trans hH.2⟩)
        generalize W0.alloc (.cells #[.int .i64 0, .int .i64 0, .string ⟨#[]⟩, .int .i64 0, .int .i64 0, .int .i64 0, .int .i64 0, .int .u64 0, .slice none 0 0] 26) = W1 at *
        obtain ⟨bn, hbn⟩ : ∃ bn, bn = W0.heap.size := ⟨_, rfl⟩
        rw [← hbn]
        rw [← hbn] at NW1 LE16
        clear hbn
        refine hK1.out _ _ hS1 (fun hH => ?_)
        clear hK1 K1 hb hS1
        refine wpAnyH_ready (rs := [12, 17]) (by kernel_rfl) (by decide) ?_
        refine AllReadyH.cons rfl (fun K1 hK1 => ?_) (AllReadyH.cons rfl (fun K1 hK1 => ?_) AllReadyH.nil)
        · go_simp
          refine (HX.out _ (E2.out.bel BW1.out)).mono ?_
          rintro e W2 ⟨rfl, hb⟩
          have BW2 := hide (bel_trans BW1.out hb)
          have NW2 := hide (NW1.out.bel hb)
          refine hK1.out _ _ ⟨(hb.cell (p := ⟨g5, I, none⟩) (World.block_lt_of_cell? W1 _ hH.1)).trans hH.1, (hb.cell (p := ⟨g5, K, none⟩) (World.block_lt_of_cell? W1 _ hH.2)).trans hH.2⟩ (fun hH => ?_)
          clear hK1 K1 hb
          refine wpAnyH_take (i := 13) (v := ?_) rfl (by kernel_rfl) (by kernel_rfl) (by kernel_rfl) (fun _ _ _ h => h) (Or.inl ⟨by rfl, ?_⟩) hH ?_
          rotate_left 1
          · (intro w hSw; (try dsimp only at hSw); go_simp <;> (first | (with_reducible rfl) | (rw [if_neg (by omega)])))
          simp only [Act.put, List.getElem_toArray, List.getElem_cons_zero, List.getElem_cons_succ, List.setIfInBounds_toArray, List.set_cons_zero, List.set_cons_succ]
          refine wpAnyH_take (i := 14) (v := ?_) rfl (by kernel_rfl) (by kernel_rfl) (by kernel_rfl) (fun _ _ _ h => h) (Or.inl ⟨by rfl, ?_⟩) hH ?_
          rotate_left 1
          · (intro w hSw; (try dsimp only at hSw); go_simp <;> (first | (with_reducible rfl) | (rw [if_neg (by omega)])))
          simp only [Act.put, List.getElem_toArray, List.getElem_cons_zero, List.getElem_cons_succ, List.setIfInBounds_toArray, List.set_cons_zero, List.set_cons_succ]
          refine wpAnyH_take (i := 15) (v := ?_) rfl (by kernel_rfl) (by kernel_rfl) (by kernel_rfl) (fun _ _ _ h => h) (Or.inl ⟨by rfl, ?_⟩) hH ?_
          rotate_left 1
          · (intro w hSw; (try dsimp only at hSw); go_simp <;> (first | (with_reducible rfl) | (rw [if_neg (by omega)])))
          simp only [Act.put, List.getElem_toArray, List.getElem_cons_zero, List.getElem_cons_succ, List.setIfInBounds_toArray, List.set_cons_zero, List.set_cons_succ]
          refine wpAnyH_ready (rs := [17]) (by kernel_rfl) (by decide) ?_
          refine AllReadyH.cons rfl (fun K1 hK1 => ?_) AllReadyH.nil
          go_simp
          have hb := bel_new W2 (.cells #[.nilIface, .int .i64 0] 30)
          have MW3 : Hid ((W2.alloc (.cells #[.nilIface, .int .i64 0] 30)).heap[W2.heap.size]? = some (.cells #[.nilIface, .int .i64 0] 30 (0, 0))) := Go.Deep.blk_alloc_new _ _
          have LE17 : Hid (w2.heap.size ≤ W2.heap.size) := BW2.out.size
          have BW3 := hide (bel_trans BW2.out hb)
          have NW3 := hide (NW2.out.bel hb)
          have NE : Hid (bn ≠ W2.heap.size) := Nat.ne_of_lt (lt_of_blk NW2.out)
          have hS3 := (show _ ∧ _ from ⟨(hb.cell (p := ⟨g5, I, none⟩) (World.block_lt_of_cell? W2 _ hH.1)).trans hH.1, (hb.cell (p := ⟨g5, K, none⟩) (World.block_lt_of_cell? W2 _ hH.2)).trans hH.2⟩)
          generalize W2.alloc (.cells #[.nilIface, .int .i64 0] 30) = W3 at *
          obtain ⟨bb, hbb⟩ : ∃ bb, bb = W2.heap.size := ⟨_, rfl⟩
          rw [← hbb]
          rw [← hbb] at MW3 LE17 NE
          clear hbb
          refine hK1.out _ _ hS3 (fun hH => ?_)
          clear hK1 K1 hb hS3
          refine wpAnyH_ready (rs := [18]) (by kernel_rfl) (by decide) ?_
          refine AllReadyH.cons rfl (fun K1 hK1 => ?_) AllReadyH.nil
          have hne : bn ≠ bb := by have := NE.out; omega
          obtain ⟨⟨p0, p1, p2, p3, p4, p5, p6, p7, p8⟩, q0, q1, q2, q3, q4, q5, q6, q7, q8⟩ := NW3.out.all
          go_simp
          obtain ⟨z9, s9⟩ := set9 NW3.out (.int .i64 0) (.int .i64 0) (.string ⟨#[]⟩) (.int .i64 0) (.int .i64 0) (.int .i64 0) (.int .i64 0) (.int .u64 0) (.slice none 0 0)
          have NW4 := hide z9
          have MW4 := hide ((s9.blk _ (lt_of_blk MW3.out) (Ne.symm hne)).trans MW3.out)
          have BW4 := hide (BW3.out.trans (s9.bel LE16.out BW3.out.size))
          have hg5 : g5 ≠ bn := by have := LE16.out; have := HG5.out; omega
          have hS4 : ((((((((((W3.setCell ⟨bn, 0, none⟩ (.int .i64 0)).setCell ⟨bn, 1, none⟩ (.int .i64 0)).setCell ⟨bn, 2, none⟩ (.string ⟨#[]⟩)).setCell ⟨bn, 3, none⟩ (.int .i64 0)).setCell ⟨bn, 4, none⟩ (.int .i64 0)).setCell ⟨bn, 5, none⟩ (.int .i64 0)).setCell ⟨bn, 6, none⟩ (.int .i64 0)).setCell ⟨bn, 7, none⟩ (.int .u64 0)).setCell ⟨bn, 8, none⟩ (.slice none 0 0)).cell? ⟨g5, I, none⟩ = some (.string oI) ∧ (((((((((W3.setCell ⟨bn, 0, none⟩ (.int .i64 0)).setCell ⟨bn, 1, none⟩ (.int .i64 0)).setCell ⟨bn, 2, none⟩ (.string ⟨#[]⟩)).setCell ⟨bn, 3, none⟩ (.int .i64 0)).setCell ⟨bn, 4, none⟩ (.int .i64 0)).setCell ⟨bn, 5, none⟩ (.int .i64 0)).setCell ⟨bn, 6, none⟩ (.int .i64 0)).setCell ⟨bn, 7, none⟩ (.int .u64 0)).setCell ⟨bn, 8, none⟩ (.slice none 0 0)).cell? ⟨g5, K, none⟩ = some (.string oK)) := ⟨s9.cell hg5 hH.1, s9.cell hg5 hH.2⟩
          clear p0 p1 p2 p3 p4 p5 p6 p7 p8 q0 q1 q2 q3 q4 q5 q6 q7 q8 z9 s9
          generalize ((((((((W3.setCell ⟨bn, 0, none⟩ (.int .i64 0)).setCell ⟨bn, 1, none⟩ (.int .i64 0)).setCell ⟨bn, 2, none⟩ (.string ⟨#[]⟩)).setCell ⟨bn, 3, none⟩ (.int .i64 0)).setCell ⟨bn, 4, none⟩ (.int .i64 0)).setCell ⟨bn, 5, none⟩ (.int .i64 0)).setCell ⟨bn, 6, none⟩ (.int .i64 0)).setCell ⟨bn, 7, none⟩ (.int .u64 0)).setCell ⟨bn, 8, none⟩ (.slice none 0 0) = W4 at *
          refine hK1.out _ _ hS4 (fun hH => ?_)
          clear hK1 K1 hS4
          refine wpAnyH_ready (rs := [19]) (by kernel_rfl) (by decide) ?_
          refine AllReadyH.cons rfl (fun K1 hK1 => ?_) AllReadyH.nil
          have p0 := blk_frz MW4.out 0
          have p1 := blk_frz MW4.out 1
          have q0 := blk_cell MW4.out 0 _ rfl
          have q1 := blk_cell MW4.out 1 _ rfl
          go_simp
          obtain ⟨z1, s1⟩ := set1 MW4.out 0 (errV p q)
          obtain ⟨z2, s2⟩ := set1 z1 1 (.int .i64 j)
          have MW5 := hide z2
          have NW5 := hide ((NW4.out.tn s1 hne).tn s2 hne)
          have BW5 := hide ((BW4.out.trans (s1.bel LE17.out BW4.out.size)).trans (s2.bel LE17.out (Nat.le_trans BW4.out.size s1.size)))
          have hg5b : g5 ≠ bb := by have := LE17.out; have := HG5.out; omega
          have hS5 : (((W4.setCell ⟨bb, 0, none⟩ (errV p q)).setCell ⟨bb, 1, none⟩ (.int .i64 j)).cell? ⟨g5, I, none⟩ = some (.string oI) ∧ ((W4.setCell ⟨bb, 0, none⟩ (errV p q)).setCell ⟨bb, 1, none⟩ (.int .i64 j)).cell? ⟨g5, K, none⟩ = some (.string oK)) := ⟨s2.cell hg5b (s1.cell hg5b hH.1), s2.cell hg5b (s1.cell hg5b hH.2)⟩
          clear p0 p1 q0 q1 z1 s1 z2 s2
          generalize (W4.setCell ⟨bb, 0, none⟩ (errV p q)).setCell ⟨bb, 1, none⟩ (.int .i64 j) = W5 at *
          refine hK1.out _ _ hS5 (fun hH => ?_)
          clear hK1 K1 hS5
          refine wpAnyH_done (by kernel_rfl) ?_ _
          go_wp2_with fail
          go_meet
          case rel =>
            exact ⟨bn, bb, rfl, rfl, NW5.out, MW5.out, BW5.out⟩
        · go_simp
          have hb := bel_new W1 (.cells #[.nilIface, .int .i64 0] 30)
          have MW2 : Hid ((W1.alloc (.cells #[.nilIface, .int .i64 0] 30)).heap[W1.heap.size]? = some (.cells #[.nilIface, .int .i64 0] 30 (0, 0))) := Go.Deep.blk_alloc_new _ _
          have LE17 : Hid (w2.heap.size ≤ W1.heap.size) := BW1.out.size
          have BW2 := hide (bel_trans BW1.out hb)
          have NW2 := hide (NW1.out.bel hb)
          have NE : Hid (bn ≠ W1.heap.size) := Nat.ne_of_lt (lt_of_blk NW1.out)
          have hS2 := (show _ ∧ _ from ⟨(hb.cell (p := ⟨g5, I, none⟩) (World.block_lt_of_cell? W1 _ hH.1)).trans hH.1, (hb.cell (p := ⟨g5, K, none⟩) (World.block_lt_of_cell? W1 _ hH.2)).trans hH.2⟩)
          generalize W1.alloc (.cells #[.nilIface, .int .i64 0] 30) = W2 at *
          obtain ⟨bb, hbb⟩ : ∃ bb, bb = W1.heap.size := ⟨_, rfl⟩
          rw [← hbb]
          rw [← hbb] at MW2 LE17 NE
          clear hbb
          refine hK1.out _ _ hS2 (fun hH => ?_)
          clear hK1 K1 hb hS2
          refine wpAnyH_ready (rs := [12]) (by kernel_rfl) (by decide) ?_
          refine AllReadyH.cons rfl (fun K1 hK1 => ?_) AllReadyH.nil
          go_simp
          refine (HX.out _ (E2.out.bel BW2.out)).mono ?_
          rintro e W3 ⟨rfl, hb⟩
          have BW3 := hide (bel_trans BW2.out hb)
          have NW3 := hide (NW2.out.bel hb)
          have MW3 := hide ((hb.block _ (lt_of_blk MW2.out)).trans MW2.out)
          refine hK1.out _ _ ⟨(hb.cell (p := ⟨g5, I, none⟩) (World.block_lt_of_cell? W2 _ hH.1)).trans hH.1, (hb.cell (p := ⟨g5, K, none⟩) (World.block_lt_of_cell? W2 _ hH.2)).trans hH.2⟩ (fun hH => ?_)
          clear hK1 K1 hb
          refine wpAnyH_take (i := 13) (v := ?_) rfl (by kernel_rfl) (by kernel_rfl) (by kernel_rfl) (fun _ _ _ h => h) (Or.inl ⟨by rfl, ?_⟩) hH ?_
          rotate_left 1
          · (intro w hSw; (try dsimp only at hSw); go_simp <;> (first | (with_reducible rfl) | (rw [if_neg (by omega)])))
          simp only [Act.put, List.getElem_toArray, List.getElem_cons_zero, List.getElem_cons_succ, List.setIfInBounds_toArray, List.set_cons_zero, List.set_cons_succ]
          refine wpAnyH_take (i := 14) (v := ?_) rfl (by kernel_rfl) (by kernel_rfl) (by kernel_rfl) (fun _ _ _ h => h) (Or.inl ⟨by rfl, ?_⟩) hH ?_
          rotate_left 1
          · (intro w hSw; (try dsimp only at hSw); go_simp <;> (first | (with_reducible rfl) | (rw [if_neg (by omega)])))
          simp only [Act.put, List.getElem_toArray, List.getElem_cons_zero, List.getElem_cons_succ, List.setIfInBounds_toArray, List.set_cons_zero, List.set_cons_succ]
          refine wpAnyH_take (i := 15) (v := ?_) rfl (by kernel_rfl) (by kernel_rfl) (by kernel_rfl) (fun _ _ _ h => h) (Or.inl ⟨by rfl, ?_⟩) hH ?_
          rotate_left 1
          · (intro w hSw; (try dsimp only at hSw); go_simp <;> (first | (with_reducible rfl) | (rw [if_neg (by omega)])))
          simp only [Act.put, List.getElem_toArray, List.getElem_cons_zero, List.getElem_cons_succ, List.setIfInBounds_toArray, List.set_cons_zero, List.set_cons_succ]
          refine wpAnyH_ready (rs := [18]) (by kernel_rfl) (by decide) ?_
          refine AllReadyH.cons rfl (fun K1 hK1 => ?_) AllReadyH.nil
          have hne : bn ≠ bb := by have := NE.out; omega
          obtain ⟨⟨p0, p1, p2, p3, p4, p5, p6, p7, p8⟩, q0, q1, q2, q3, q4, q5, q6, q7, q8⟩ := NW3.out.all
          go_simp
          obtain ⟨z9, s9⟩ := set9 NW3.out (.int .i64 0) (.int .i64 0) (.string ⟨#[]⟩) (.int .i64 0) (.int .i64 0) (.int .i64 0) (.int .i64 0) (.int .u64 0) (.slice none 0 0)
          have NW4 := hide z9
          have MW4 := hide ((s9.blk _ (lt_of_blk MW3.out) (Ne.symm hne)).trans MW3.out)
          have BW4 := hide (BW3.out.trans (s9.bel LE16.out BW3.out.size))
          have hg5 : g5 ≠ bn := by have := LE16.out; have := HG5.out; omega
          have hS4 : ((((((((((W3.setCell ⟨bn, 0, none⟩ (.int .i64 0)).setCell ⟨bn, 1, none⟩ (.int .i64 0)).setCell ⟨bn, 2, none⟩ (.string ⟨#[]⟩)).setCell ⟨bn, 3, none⟩ (.int .i64 0)).setCell ⟨bn, 4, none⟩ (.int .i64 0)).setCell ⟨bn, 5, none⟩ (.int .i64 0)).setCell ⟨bn, 6, none⟩ (.int .i64 0)).setCell ⟨bn, 7, none⟩ (.int .u64 0)).setCell ⟨bn, 8, none⟩ (.slice none 0 0)).cell? ⟨g5, I, none⟩ = some (.string oI) ∧ (((((((((W3.setCell ⟨bn, 0, none⟩ (.int .i64 0)).setCell ⟨bn, 1, none⟩ (.int .i64 0)).setCell ⟨bn, 2, none⟩ (.string ⟨#[]⟩)).setCell ⟨bn, 3, none⟩ (.int .i64 0)).setCell ⟨bn, 4, none⟩ (.int .i64 0)).setCell ⟨bn, 5, none⟩ (.int .i64 0)).setCell ⟨bn, 6, none⟩ (.int .i64 0)).setCell ⟨bn, 7, none⟩ (.int .u64 0)).setCell ⟨bn, 8, none⟩ (.slice none 0 0)).cell? ⟨g5, K, none⟩ = some (.string oK)) := ⟨s9.cell hg5 hH.1, s9.cell hg5 hH.2⟩
          clear p0 p1 p2 p3 p4 p5 p6 p7 p8 q0 q1 q2 q3 q4 q5 q6 q7 q8 z9 s9
          generalize ((((((((W3.setCell ⟨bn, 0, none⟩ (.int .i64 0)).setCell ⟨bn, 1, none⟩ (.int .i64 0)).setCell ⟨bn, 2, none⟩ (.string ⟨#[]⟩)).setCell ⟨bn, 3, none⟩ (.int .i64 0)).setCell ⟨bn, 4, none⟩ (.int .i64 0)).setCell ⟨bn, 5, none⟩ (.int .i64 0)).setCell ⟨bn, 6, none⟩ (.int .i64 0)).setCell ⟨bn, 7, none⟩ (.int .u64 0)).setCell ⟨bn, 8, none⟩ (.slice none 0 0) = W4 at *
          refine hK1.out _ _ hS4 (fun hH => ?_)
          clear hK1 K1 hS4
          refine wpAnyH_ready (rs := [19]) (by kernel_rfl) (by decide) ?_
          refine AllReadyH.cons rfl (fun K1 hK1 => ?_) AllReadyH.nil
          have p0 := blk_frz MW4.out 0
          have p1 := blk_frz MW4.out 1
          have q0 := blk_cell MW4.out 0 _ rfl
          have q1 := blk_cell MW4.out 1 _ rfl
          go_simp
          obtain ⟨z1, s1⟩ := set1 MW4.out 0 (errV p q)
          obtain ⟨z2, s2⟩ := set1 z1 1 (.int .i64 j)
          have MW5 := hide z2
          have NW5 := hide ((NW4.out.tn s1 hne).tn s2 hne)
          have BW5 := hide ((BW4.out.trans (s1.bel LE17.out BW4.out.size)).trans (s2.bel LE17.out (Nat.le_trans BW4.out.size s1.size)))
          have hg5b : g5 ≠ bb := by have := LE17.out; have := HG5.out; omega
          have hS5 : (((W4.setCell ⟨bb, 0, none⟩ (errV p q)).setCell ⟨bb, 1, none⟩ (.int .i64 j)).cell? ⟨g5, I, none⟩ = some (.string oI) ∧ ((W4.setCell ⟨bb, 0, none⟩ (errV p q)).setCell ⟨bb, 1, none⟩ (.int .i64 j)).cell? ⟨g5, K, none⟩ = some (.string oK)) := ⟨s2.cell hg5b (s1.cell hg5b hH.1), s2.cell hg5b (s1.cell hg5b hH.2)⟩
          clear p0 p1 q0 q1 z1 s1 z2 s2
          generalize (W4.setCell ⟨bb, 0, none⟩ (errV p q)).setCell ⟨bb, 1, none⟩ (.int .i64 j) = W5 at *
          refine hK1.out _ _ hS5 (fun hH => ?_)
          clear hK1 K1 hS5
          refine wpAnyH_done (by kernel_rfl) ?_ _
          go_wp2_with fail
          go_meet
          case rel =>
            exact ⟨bn, bb, rfl, rfl, NW5.out, MW5.out, BW5.out⟩
      · go_simp
        have hb := bel_new W0 (.cells #[.nilIface, .int .i64 0] 30)
        have MW1 : Hid ((W0.alloc (.cells #[.nilIface, .int .i64 0] 30)).heap[W0.heap.size]? = some (.cells #[.nilIface, .int .i64 0] 30 (0, 0))) := Go.Deep.blk_alloc_new _ _
        have LE17 : Hid (w2.heap.size ≤ W0.heap.size) := BW0.out.size
        have BW1 := hide (bel_trans BW0.out hb)
        have hS1 := (show _ ∧ _ from ⟨(hb.cell (p := ⟨g5, I, none⟩) (World.block_lt_of_cell? W0 _ hH.1)).trans hH.1, (hb.cell (p := ⟨g5, K, none⟩) (World.block_lt_of_cell? W0 _ hH.2)).trans hH.2⟩)
        generalize W0.alloc (.cells #[.nilIface, .int .i64 0] 30) = W1 at *
        obtain ⟨bb, hbb⟩ : ∃ bb, bb = W0.heap.size := ⟨_, rfl⟩
        rw [← hbb]
        rw [← hbb] at MW1 LE17
        clear hbb
        refine hK1.out _ _ hS1 (fun hH => ?_)
        clear hK1 K1 hb hS1
        refine wpAnyH_ready (rs := [12, 16]) (by kernel_rfl) (by decide) ?_
        refine AllReadyH.cons rfl (fun K1 hK1 => ?_) (AllReadyH.cons rfl (fun K1 hK1 => ?_) AllReadyH.nil)
        · go_simp
          refine (HX.out _ (E2.out.bel BW1.out)).mono ?_
          rintro e W2 ⟨rfl, hb⟩
          have BW2 := hide (bel_trans BW1.out hb)
          have MW2 := hide ((hb.block _ (lt_of_blk MW1.out)).trans MW1.out)
          refine hK1.out _ _ ⟨(hb.cell (p := ⟨g5, I, none⟩) (World.block_lt_of_cell? W1 _ hH.1)).trans hH.1, (hb.cell (p := ⟨g5, K, none⟩) (World.block_lt_of_cell? W1 _ hH.2)).trans hH.2⟩ (fun hH => ?_)
          clear hK1 K1 hb
          refine wpAnyH_take (i := 13) (v := ?_) rfl (by kernel_rfl) (by kernel_rfl) (by kernel_rfl) (fun _ _ _ h => h) (Or.inl ⟨by rfl, ?_⟩) hH ?_
          rotate_left 1
          · (intro w hSw; (try dsimp only at hSw); go_simp <;> (first | (with_reducible rfl) | (rw [if_neg (by omega)])))
          simp only [Act.put, List.getElem_toArray, List.getElem_cons_zero, List.getElem_cons_succ, List.setIfInBounds_toArray, List.set_cons_zero, List.set_cons_succ]
          refine wpAnyH_take (i := 14) (v := ?_) rfl (by kernel_rfl) (by kernel_rfl) (by kernel_rfl) (fun _ _ _ h => h) (Or.inl ⟨by rfl, ?_⟩) hH ?_
          rotate_left 1
          · (intro w hSw; (try dsimp only at hSw); go_simp <;> (first | (with_reducible rfl) | (rw [if_neg (by omega)])))
          simp only [Act.put, List.getElem_toArray, List.getElem_cons_zero, List.getElem_cons_succ, List.setIfInBounds_toArray, List.set_cons_zero, List.set_cons_succ]
          refine wpAnyH_take (i := 15) (v := ?_) rfl (by kernel_rfl) (by kernel_rfl) (by kernel_rfl) (fun _ _ _ h => h) (Or.inl ⟨by rfl, ?_⟩) hH ?_
          rotate_left 1
          · (intro w hSw; (try dsimp only at hSw); go_simp <;> (first | (with_reducible rfl) | (rw [if_neg (by omega)])))
          simp only [Act.put, List.getElem_toArray, List.getElem_cons_zero, List.getElem_cons_succ, List.setIfInBounds_toArray, List.set_cons_zero, List.set_cons_succ]
          refine wpAnyH_ready (rs := [16]) (by kernel_rfl) (by decide) ?_
          refine AllReadyH.cons rfl (fun K1 hK1 => ?_) AllReadyH.nil
          go_simp
          have hb := bel_new W2 (.cells #[.int .i64 0, .int .i64 0, .string ⟨#[]⟩, .int .i64 0, .int .i64 0, .int .i64 0, .int .i64 0, .int .u64 0, .slice none 0 0] 26)
          have NW3 : Hid (Nod (W2.alloc (.cells #[.int .i64 0, .int .i64 0, .string ⟨#[]⟩, .int .i64 0, .int .i64 0, .int .i64 0, .int .i64 0, .int .u64 0, .slice none 0 0] 26)) W2.heap.size (.int .i64 0) (.int .i64 0) (.string ⟨#[]⟩) (.int .i64 0) (.int .i64 0) (.int .i64 0) (.int .i64 0) (.int .u64 0) (.slice none 0 0)) := Go.Deep.blk_alloc_new _ _
          have LE16 : Hid (w2.heap.size ≤ W2.heap.size) := BW2.out.size
          have BW3 := hide (bel_trans BW2.out hb)
          have MW3 := hide ((hb.block _ (lt_of_blk MW2.out)).trans MW2.out)
          have NE : Hid (bb ≠ W2.heap.size) := Nat.ne_of_lt (lt_of_blk MW2.out)
          have hS3 := (show _ ∧ _ from ⟨(hb.cell (p := ⟨g5, I, none⟩) (World.block_lt_of_cell? W2 _ hH.1)).trans hH.1, (hb.cell (p := ⟨g5, K, none⟩) (World.block_lt_of_cell? W2 _ hH.2)).trans hH.2⟩)
          generalize W2.alloc (.cells #[.int .i64 0, .int .i64 0, .string ⟨#[]⟩, .int .i64 0, .int .i64 0, .int .i64 0, .int .i64 0, .int .u64 0, .slice none 0 0] 26) = W3 at *
          obtain ⟨bn, hbn⟩ : ∃ bn, bn = W2.heap.size := ⟨_, rfl⟩
          rw [← hbn]
          rw [← hbn] at NW3 LE16 NE
          clear hbn
          refine hK1.out _ _ hS3 (fun hH => ?_)
          clear hK1 K1 hb hS3
          refine wpAnyH_ready (rs := [18]) (by kernel_rfl) (by decide) ?_
          refine AllReadyH.cons rfl (fun K1 hK1 => ?_) AllReadyH.nil
          have hne : bn ≠ bb := by have := NE.out; omega
          obtain ⟨⟨p0, p1, p2, p3, p4, p5, p6, p7, p8⟩, q0, q1, q2, q3, q4, q5, q6, q7, q8⟩ := NW3.out.all
          go_simp
          obtain ⟨z9, s9⟩ := set9 NW3.out (.int .i64 0) (.int .i64 0) (.string ⟨#[]⟩) (.int .i64 0) (.int .i64 0) (.int .i64 0) (.int .i64 0) (.int .u64 0) (.slice none 0 0)
          have NW4 := hide z9
          have MW4 := hide ((s9.blk _ (lt_of_blk MW3.out) (Ne.symm hne)).trans MW3.out)
          have BW4 := hide (BW3.out.trans (s9.bel LE16.out BW3.out.size))
          have hg5 : g5 ≠ bn := by have := LE16.out; have := HG5.out; omega
          have hS4 : ((((((((((W3.setCell ⟨bn, 0, none⟩ (.int .i64 0)).setCell ⟨bn, 1, none⟩ (.int .i64 0)).setCell ⟨bn, 2, none⟩ (.string ⟨#[]⟩)).setCell ⟨bn, 3, none⟩ (.int .i64 0)).setCell ⟨bn, 4, none⟩ (.int .i64 0)).setCell ⟨bn, 5, none⟩ (.int .i64 0)).setCell ⟨bn, 6, none⟩ (.int .i64 0)).setCell ⟨bn, 7, none⟩ (.int .u64 0)).setCell ⟨bn, 8, none⟩ (.slice none 0 0)).cell? ⟨g5, I, none⟩ = some (.string oI) ∧ (((((((((W3.setCell ⟨bn, 0, none⟩ (.int .i64 0)).setCell ⟨bn, 1, none⟩ (.int .i64 0)).setCell ⟨bn, 2, none⟩ (.string ⟨#[]⟩)).setCell ⟨bn, 3, none⟩ (.int .i64 0)).setCell ⟨bn, 4, none⟩ (.int .i64 0)).setCell ⟨bn, 5, none⟩ (.int .i64 0)).setCell ⟨bn, 6, none⟩ (.int .i64 0)).setCell ⟨bn, 7, none⟩ (.int .u64 0)).setCell ⟨bn, 8, none⟩ (.slice none 0 0)).cell? ⟨g5, K, none⟩ = some (.string oK)) := ⟨s9.cell hg5 hH.1, s9.cell hg5 hH.2⟩
          clear p0 p1 p2 p3 p4 p5 p6 p7 p8 q0 q1 q2 q3 q4 q5 q6 q7 q8 z9 s9
          generalize ((((((((W3.setCell ⟨bn, 0, none⟩ (.int .i64 0)).setCell ⟨bn, 1, none⟩ (.int .i64 0)).setCell ⟨bn, 2, none⟩ (.string ⟨#[]⟩)).setCell ⟨bn, 3, none⟩ (.int .i64 0)).setCell ⟨bn, 4, none⟩ (.int .i64 0)).setCell ⟨bn, 5, none⟩ (.int .i64 0)).setCell ⟨bn, 6, none⟩ (.int .i64 0)).setCell ⟨bn, 7, none⟩ (.int .u64 0)).setCell ⟨bn, 8, none⟩ (.slice none 0 0) = W4 at *
          refine hK1.out _ _ hS4 (fun hH => ?_)
          clear hK1 K1 hS4
          refine wpAnyH_ready (rs := [19]) (by kernel_rfl) (by decide) ?_
          refine AllReadyH.cons rfl (fun K1 hK1 => ?_) AllReadyH.nil
          have p0 := blk_frz MW4.out 0
          have p1 := blk_frz MW4.out 1
          have q0 := blk_cell MW4.out 0 _ rfl
          have q1 := blk_cell MW4.out 1 _ rfl
          go_simp
          obtain ⟨z1, s1⟩ := set1 MW4.out 0 (errV p q)
          obtain ⟨z2, s2⟩ := set1 z1 1 (.int .i64 j)
          have MW5 := hide z2
          have NW5 := hide ((NW4.out.tn s1 hne).tn s2 hne)
          have BW5 := hide ((BW4.out.trans (s1.bel LE17.out BW4.out.size)).trans (s2.bel LE17.out (Nat.le_trans BW4.out.size s1.size)))
          have hg5b : g5 ≠ bb := by have := LE17.out; have := HG5.out; omega
          have hS5 : (((W4.setCell ⟨bb, 0, none⟩ (errV p q)).setCell ⟨bb, 1, none⟩ (.int .i64 j)).cell? ⟨g5, I, none⟩ = some (.string oI) ∧ ((W4.setCell ⟨bb, 0, none⟩ (errV p q)).setCell ⟨bb, 1, none⟩ (.int .i64 j)).cell? ⟨g5, K, none⟩ = some (.string oK)) := ⟨s2.cell hg5b (s1.cell hg5b hH.1), s2.cell hg5b (s1.cell hg5b hH.2)⟩
          clear p0 p1 q0 q1 z1 s1 z2 s2
          generalize (W4.setCell ⟨bb, 0, none⟩ (errV p q)).setCell ⟨bb, 1, none⟩ (.int .i64 j) = W5 at *
          refine hK1.out _ _ hS5 (fun hH => ?_)
          clear hK1 K1 hS5
          refine wpAnyH_done (by kernel_rfl) ?_ _
          go_wp2_with fail
          go_meet
          case rel =>
            exact ⟨bn, bb, rfl, rfl, NW5.out, MW5.out, BW5.out⟩
        · go_simp
          have hb := bel_new W1 (.cells #[.int .i64 0, .int .i64 0, .string ⟨#[]⟩, .int .i64 0, .int .i64 0, .int .i64 0, .int .i64 0, .int .u64 0, .slice none 0 0] 26)
          have NW2 : Hid (Nod (W1.alloc (.cells #[.int .i64 0, .int .i64 0, .string ⟨#[]⟩, .int .i64 0, .int .i64 0, .int .i64 0, .int .i64 0, .int .u64 0, .slice none 0 0] 26)) W1.heap.size (.int .i64 0) (.int .i64 0) (.string ⟨#[]⟩) (.int .i64 0) (.int .i64 0) (.int .i64 0) (.int .i64 0) (.int .u64 0) (.slice none 0 0)) := Go.Deep.blk_alloc_new _ _
          have LE16 : Hid (w2.heap.size ≤ W1.heap.size) := BW1.out.size
          have BW2 := hide (bel_trans BW1.out hb)
          have MW2 := hide ((hb.block _ (lt_of_blk MW1.out)).trans MW1.out)
          have NE : Hid (bb ≠ W1.heap.size) := Nat.ne_of_lt (lt_of_blk MW1.out)
          have hS2 := (show _ ∧ _ from ⟨(hb.cell (p := ⟨g5, I, none⟩) (World.block_lt_of_cell? W1 _ hH.1)).trans hH.1, (hb.cell (p := ⟨g5, K, none⟩) (World.block_lt_of_cell? W1 _ hH.2)).trans hH.2⟩)
          generalize W1.alloc (.cells #[.int .i64 0, .int .i64 0, .string ⟨#[]⟩, .int .i64 0, .int .i64 0, .int .i64 0, .int .i64 0, .int .u64 0, .slice none 0 0] 26) = W2 at *
          obtain ⟨bn, hbn⟩ : ∃ bn, bn = W1.heap.size := ⟨_, rfl⟩
          rw [← hbn]
          rw [← hbn] at NW2 LE16 NE
          clear hbn
          refine hK1.out _ _ hS2 (fun hH => ?_)
          clear hK1 K1 hb hS2
          refine wpAnyH_ready (rs := [12]) (by kernel_rfl) (by decide) ?_
          refine AllReadyH.cons rfl (fun K1 hK1 => ?_) AllReadyH.nil
          go_simp
          refine (HX.out _ (E2.out.bel BW2.out)).mono ?_
          rintro e W3 ⟨rfl, hb⟩
          have BW3 := hide (bel_trans BW2.out hb)
          have NW3 := hide (NW2.out.bel hb)
          have MW3 := hide ((hb.block _ (lt_of_blk MW2.out)).trans MW2.out)
          refine hK1.out _ _ ⟨(hb.cell (p := ⟨g5, I, none⟩) (World.block_lt_of_cell? W2 _ hH.1)).trans hH.1, (hb.cell (p := ⟨g5, K, none⟩) (World.block_lt_of_cell? W2 _ hH.2)).trans hH.2⟩ (fun hH => ?_)
          clear hK1 K1 hb
          refine wpAnyH_take (i := 13) (v := ?_) rfl (by kernel_rfl) (by kernel_rfl) (by kernel_rfl) (fun _ _ _ h => h) (Or.inl ⟨by rfl, ?_⟩) hH ?_
          rotate_left 1
          · (intro w hSw; (try dsimp only at hSw); go_simp <;> (first | (with_reducible rfl) | (rw [if_neg (by omega)])))
          simp only [Act.put, List.getElem_toArray, List.getElem_cons_zero, List.getElem_cons_succ, List.setIfInBounds_toArray, List.set_cons_zero, List.set_cons_succ]
          refine wpAnyH_take (i := 14) (v := ?_) rfl (by kernel_rfl) (by kernel_rfl) (by kernel_rfl) (fun _ _ _ h => h) (Or.inl ⟨by rfl, ?_⟩) hH ?_
          rotate_left 1
          · (intro w hSw; (try dsimp only at hSw); go_simp <;> (first | (with_reducible rfl) | (rw [if_neg (by omega)])))
          simp only [Act.put, List.getElem_toArray, List.getElem_cons_zero, List.getElem_cons_succ, List.setIfInBounds_toArray, List.set_cons_zero, List.set_cons_succ]
          refine wpAnyH_take (i := 15) (v := ?_) rfl (by kernel_rfl) (by kernel_rfl) (by kernel_rfl) (fun _ _ _ h => h) (Or.inl ⟨by rfl, ?_⟩) hH ?_
          rotate_left 1
          · (intro w hSw; (try dsimp only at hSw); go_simp <;> (first | (with_reducible rfl) | (rw [if_neg (by omega)])))
          simp only [Act.put, List.getElem_toArray, List.getElem_cons_zero, List.getElem_cons_succ, List.setIfInBounds_toArray, List.set_cons_zero, List.set_cons_succ]
          refine wpAnyH_ready (rs := [18]) (by kernel_rfl) (by decide) ?_
          refine AllReadyH.cons rfl (fun K1 hK1 => ?_) AllReadyH.nil
          have hne : bn ≠ bb := by have := NE.out; omega
          obtain ⟨⟨p0, p1, p2, p3, p4, p5, p6, p7, p8⟩, q0, q1, q2, q3, q4, q5, q6, q7, q8⟩ := NW3.out.all
          go_simp
          obtain ⟨z9, s9⟩ := set9 NW3.out (.int .i64 0) (.int .i64 0) (.string ⟨#[]⟩) (.int .i64 0) (.int .i64 0) (.int .i64 0) (.int .i64 0) (.int .u64 0) (.slice none 0 0)
          have NW4 := hide z9
          have MW4 := hide ((s9.blk _ (lt_of_blk MW3.out) (Ne.symm hne)).trans MW3.out)
          have BW4 := hide (BW3.out.trans (s9.bel LE16.out BW3.out.size))
          have hg5 : g5 ≠ bn := by have := LE16.out; have := HG5.out; omega
          have hS4 : ((((((((((W3.setCell ⟨bn, 0, none⟩ (.int .i64 0)).setCell ⟨bn, 1, none⟩ (.int .i64 0)).setCell ⟨bn, 2, none⟩ (.string ⟨#[]⟩)).setCell ⟨bn, 3, none⟩ (.int .i64 0)).setCell ⟨bn, 4, none⟩ (.int .i64 0)).setCell ⟨bn, 5, none⟩ (.int .i64 0)).setCell ⟨bn, 6, none⟩ (.int .i64 0)).setCell ⟨bn, 7, none⟩ (.int .u64 0)).setCell ⟨bn, 8, none⟩ (.slice none 0 0)).cell? ⟨g5, I, none⟩ = some (.string oI) ∧ (((((((((W3.setCell ⟨bn, 0, none⟩ (.int .i64 0)).setCell ⟨bn, 1, none⟩ (.int .i64 0)).setCell ⟨bn, 2, none⟩ (.string ⟨#[]⟩)).setCell ⟨bn, 3, none⟩ (.int .i64 0)).setCell ⟨bn, 4, none⟩ (.int .i64 0)).setCell ⟨bn, 5, none⟩ (.int .i64 0)).setCell ⟨bn, 6, none⟩ (.int .i64 0)).setCell ⟨bn, 7, none⟩ (.int .u64 0)).setCell ⟨bn, 8, none⟩ (.slice none 0 0)).cell? ⟨g5, K, none⟩ = some (.string oK)) := ⟨s9.cell hg5 hH.1, s9.cell hg5 hH.2⟩
          clear p0 p1 p2 p3 p4 p5 p6 p7 p8 q0 q1 q2 q3 q4 q5 q6 q7 q8 z9 s9
          generalize ((((((((W3.setCell ⟨bn, 0, none⟩ (.int .i64 0)).setCell ⟨bn, 1, none⟩ (.int .i64 0)).setCell ⟨bn, 2, none⟩ (.string ⟨#[]⟩)).setCell ⟨bn, 3, none⟩ (.int .i64 0)).setCell ⟨bn, 4, none⟩ (.int .i64 0)).setCell ⟨bn, 5, none⟩ (.int .i64 0)).setCell ⟨bn, 6, none⟩ (.int .i64 0)).setCell ⟨bn, 7, none⟩ (.int .u64 0)).setCell ⟨bn, 8, none⟩ (.slice none 0 0) = W4 at *
          refine hK1.out _ _ hS4 (fun hH => ?_)
          clear hK1 K1 hS4
          refine wpAnyH_ready (rs := [19]) (by kernel_rfl) (by decide) ?_
          refine AllReadyH.cons rfl (fun K1 hK1 => ?_) AllReadyH.nil
          have p0 := blk_frz MW4.out 0
          have p1 := blk_frz MW4.out 1
          have q0 := blk_cell MW4.out 0 _ rfl
          have q1 := blk_cell MW4.out 1 _ rfl
          go_simp
          obtain ⟨z1, s1⟩ := set1 MW4.out 0 (errV p q)
          obtain ⟨z2, s2⟩ := set1 z1 1 (.int .i64 j)
          have MW5 := hide z2
          have NW5 := hide ((NW4.out.tn s1 hne).tn s2 hne)
          have BW5 := hide ((BW4.out.trans (s1.bel LE17.out BW4.out.size)).trans (s2.bel LE17.out (Nat.le_trans BW4.out.size s1.size)))
          have hg5b : g5 ≠ bb := by have := LE17.out; have := HG5.out; omega
          have hS5 : (((W4.setCell ⟨bb, 0, none⟩ (errV p q)).setCell ⟨bb, 1, none⟩ (.int .i64 j)).cell? ⟨g5, I, none⟩ = some (.string oI) ∧ ((W4.setCell ⟨bb, 0, none⟩ (errV p q)).setCell ⟨bb, 1, none⟩ (.int .i64 j)).cell? ⟨g5, K, none⟩ = some (.string oK)) := ⟨s2.cell hg5b (s1.cell hg5b hH.1), s2.cell hg5b (s1.cell hg5b hH.2)⟩
          clear p0 p1 q0 q1 z1 s1 z2 s2
          generalize (W4.setCell ⟨bb, 0, none⟩ (errV p q)).setCell ⟨bb, 1, none⟩ (.int .i64 j) = W5 at *
          refine hK1.out _ _ hS5 (fun hH => ?_)
          clear hK1 K1 hS5
          refine wpAnyH_done (by kernel_rfl) ?_ _
          go_wp2_with fail
          go_meet
          case rel =>
            exact ⟨bn, bb, rfl, rfl, NW5.out, MW5.out, BW5.out⟩
    case rest =>
      obtain ⟨bn, bb, rfl, rfl, N9, M9, B9⟩ := hcut
      have r3 := (B9.out.cell (p := ⟨g5 + 1, I, none⟩) (World.block_lt_of_cell? w2 _ R3.out)).trans R3.out
      have r4 := (B9.out.cell (p := ⟨g5 + 1, K, none⟩) (World.block_lt_of_cell? w2 _ R4.out)).trans R4.out
      have m0 := blk_cell M9.out 0 _ rfl
      clear HS HX
      go_wp2_with fail
      go_ret
      exact ⟨rfl, bel_trans B2.out B9.out⟩
  · obtain ⟨kd, ps, nm, t, nz, z, ob, bi, ks⟩ := n
    obtain ⟨xn, hxn⟩ : ∃ xn, x'.name = xn := ⟨_, rfl⟩
    obtain ⟨yn, hyn⟩ : ∃ yn, y'.name = yn := ⟨_, rfl⟩
    have HC : Hid ((rkA K ≤ rkA I ∧ nm = oK ∧ xn = oI ∧ yn = ⟨#[99]⟩) ∨ (rkA I < rkA K ∧ nm = oI ∧ xn = ⟨#[97]⟩ ∧ yn = oK)) := by rw [← hoI, ← hoK, ← hxn, ← hyn]; exact hcase
    change kd = 31 at hkd
    change ks = [x', y'] at hks
    subst hkd
    subst hks
    rw [show textA I K = (⟨#[97, 32]⟩ ++ oI ++ ⟨#[32, 98, 32]⟩ ++ oK ++ ⟨#[32, 99]⟩) by unfold textA; rw [hoI, hoK]] at hq
    have HX : Hid (∀ w', Ev w' p → Calls Tryz.prog 14 #[.string (⟨#[97, 32]⟩ ++ oI ++ ⟨#[32, 98, 32]⟩ ++ oK ++ ⟨#[32, 99]⟩)] w' fun e w'' => ∃ gk ck, 2 ≤ ck ∧ ck ≤ maxLen ∧ e = .returned (.tuple #[.agg #[.int .i64 31, .int .i64 ps, .string nm, .int .i64 t, .int .i64 nz, .int .i64 z, .int .i64 ob, .int .u64 bi, .slice (some ⟨gk, 0, none⟩) 2 ck], .agg #[.nilIface, .int .i64 0]]) ∧ w''.cell? ⟨gk, 2, none⟩ = some (.string xn) ∧ w''.cell? ⟨gk, 11, none⟩ = some (.string yn) ∧ w'.heap.size ≤ gk ∧ Below w'.heap.size w' w'') := fun w' he => (expr_ev _ p w' he).mono (fun e w'' hp => by
      rw [hq] at hp
      obtain ⟨v, rfl, hv, hb⟩ := hp
      unfold NodeV at hv
      obtain ⟨s, rfl, hk⟩ := hv
      obtain ⟨gk, ck, rfl, hS, hlt, h1, h2, hall⟩ := hk.kid (by simp)
      obtain ⟨s0, n0, _⟩ := hall 0 x' rfl
      obtain ⟨s1, n1, _⟩ := hall 1 y' rfl
      have c0 := n0.c2
      have c1 := n1.c2
      rw [hxn] at c0
      rw [hyn] at c1
      exact ⟨gk, ck, h1, h2, rfl, c0, c1, hS, hb⟩)
    rw [hoI] at HSI
    rw [hoK] at HSK
    have HS : Hid (∀ j, j < 13 → w2.cell? ⟨g5, j, none⟩ = some (.string (opA j))) := HS.out
    have r3 := HR.out I hI13
    have r4 := HR.out K hK13
    have HN : Hid (¬ (rkA I = 3 ∧ rkA K = 3)) := by first | exact hn3 | exact fun h => hn3 h.1 h.2
    clear hn3 hcase hxn hyn hq HR WY
    obtain ⟨a, ha⟩ : ∃ a, rkA I = a := ⟨_, rfl⟩
    obtain ⟨b, hb⟩ : ∃ b, rkA K = b := ⟨_, rfl⟩
    rw [ha] at r3 HC HN
    rw [hb] at r4 HC HN
    have R3 := hide r3
    have R4 := hide r4
    clear r3 r4 ha hb
    go_cut [9, 10] from 23 to 38 (fun vn vb wc => ∃ gk ck bn bb, vn = .pointer (some ⟨bn, 0, none⟩) ∧ vb = .pointer (some ⟨bb, 0, none⟩) ∧ Hid (Nod wc bn (.int .i64 31) (.int .i64 ps) (.string nm) (.int .i64 t) (.int .i64 nz) (.int .i64 z) (.int .i64 ob) (.int .u64 bi) (.slice (some ⟨gk, 0, none⟩) 2 ck)) ∧ Hid (wc.heap[bb]? = some (.cells #[.nilIface, .int .i64 0] 30 (0, 0))) ∧ Hid (Below w2.heap.size w2 wc) ∧ Hid (wc.cell? ⟨gk, 2, none⟩ = some (.string xn)) ∧ Hid (wc.cell? ⟨gk, 11, none⟩ = some (.string yn)) ∧ 2 ≤ ck ∧ ck ≤ maxLen)
    case first =>
      refine wp_region_held_drew (S := fun w' => w'.cell? ⟨g5, I, none⟩ = some (.string oI) ∧ w'.cell? ⟨g5, K, none⟩ = some (.string oK)) mixed ⟨HSI, HSK⟩ (fun hH => ?_)
      have BW0 : Hid (Below w2.heap.size w2 w2.drew) := bel_drawn (Below.refl _ _)
      generalize World.drew w2 = W0 at *
      refine wpAnyH_take (i := 0) (v := ?_) rfl (by kernel_rfl) (by kernel_rfl) (by kernel_rfl) (fun _ _ _ h => h) (Or.inl ⟨by rfl, ?_⟩) hH ?_
      rotate_left 1
      · (intro w hSw; (try dsimp only at hSw); go_simp <;> (first | (with_reducible rfl) | (rw [if_neg (by omega)])))
      simp only [Act.put, List.getElem_toArray, List.getElem_cons_zero, List.setIfInBounds_toArray, List.set_cons_zero, List.set_cons_succ]
      refine wpAnyH_take (i := 1) (v := ?_) rfl (by kernel_rfl) (by kernel_rfl) (by kernel_rfl) (fun _ _ _ h => h) (Or.inl ⟨by rfl, ?_⟩) hH ?_
      rotate_left 1
      · (intro w hSw; (try dsimp only at hSw); go_simp <;> (first | (with_reducible rfl) | (rw [if_neg (by omega)])))
      simp only [Act.put, List.getElem_toArray, List.getElem_cons_zero, List.getElem_cons_succ, List.setIfInBounds_toArray, List.set_cons_zero, List.set_cons_succ]
      refine wpAnyH_take (i := 2) (v := ?_) rfl (by kernel_rfl) (by kernel_rfl) (by kernel_rfl) (fun _ _ _ h => h) (Or.inl ⟨by rfl, ?_⟩) hH ?_
      rotate_left 1
      · (intro w hSw; (try dsimp only at hSw); go_simp <;> (first | (with_reducible rfl) | (rw [if_neg (by omega)])))
      simp only [Act.put, List.getElem_toArray, List.getElem_cons_zero, List.getElem_cons_succ, List.setIfInBounds_toArray, List.set_cons_zero, List.set_cons_succ]
      refine wpAnyH_take (i := 3) (v := ?_) rfl (by kernel_rfl) (by kernel_rfl) (by kernel_rfl) (fun _ _ _ h => h) (Or.inl ⟨by rfl, ?_⟩) hH ?_
      rotate_left 1
      · (intro w hSw; (try dsimp only at hSw); go_simp <;> (first | (with_reducible rfl) | (rw [if_neg (by omega)])))
      simp only [Act.put, List.getElem_toArray, List.getElem_cons_zero, List.getElem_cons_succ, List.setIfInBounds_toArray, List.set_cons_zero, List.set_cons_succ]
      refine wpAnyH_take (i := 4) (v := ?_) rfl (by kernel_rfl) (by kernel_rfl) (by kernel_rfl) (fun _ _ _ h => h) (Or.inl ⟨by rfl, ?_⟩) hH ?_
      rotate_left 1
      · (intro w hSw; (try dsimp only at hSw); go_simp <;> (first | (with_reducible rfl) | (rw [if_neg (by omega)])))
      simp only [Act.put, List.getElem_toArray, List.getElem_cons_zero, List.getElem_cons_succ, List.setIfInBounds_toArray, List.set_cons_zero, List.set_cons_succ]
      refine wpAnyH_take (i := 5) (v := ?_) rfl (by kernel_rfl) (by kernel_rfl) (by kernel_rfl) (fun _ _ _ h => h) (Or.inl ⟨by rfl, ?_⟩) hH ?_
      rotate_left 1
      · (intro w hSw; (try dsimp only at hSw); go_simp <;> (first | (with_reducible rfl) | (rw [if_neg (by omega)])))
      simp only [Act.put, List.getElem_toArray, List.getElem_cons_zero, List.getElem_cons_succ, List.setIfInBounds_toArray, List.set_cons_zero, List.set_cons_succ]
      refine wpAnyH_take (i := 6) (v := ?_) rfl (by kernel_rfl) (by kernel_rfl) (by kernel_rfl) (fun _ _ _ h => h) (Or.inl ⟨by rfl, ?_⟩) hH ?_
      rotate_left 1
      · (intro w hSw; (try dsimp only at hSw); go_simp <;> (first | (with_reducible rfl) | (rw [if_neg (by omega)])))
      simp only [Act.put, List.getElem_toArray, List.getElem_cons_zero, List.getElem_cons_succ, List.setIfInBounds_toArray, List.set_cons_zero, List.set_cons_succ]
      refine wpAnyH_take (i := 7) (v := ?_) rfl (by kernel_rfl) (by kernel_rfl) (by kernel_rfl) (fun _ _ _ h => h) (Or.inl ⟨by rfl, ?_⟩) hH ?_
      rotate_left 1
      · (intro w hSw; (try dsimp only at hSw); go_simp <;> (first | (with_reducible rfl) | (rw [if_neg (by omega)])))
      simp only [Act.put, List.getElem_toArray, List.getElem_cons_zero, List.getElem_cons_succ, List.setIfInBounds_toArray, List.set_cons_zero, List.set_cons_succ]
      refine wpAnyH_take (i := 8) (v := ?_) rfl (by kernel_rfl) (by kernel_rfl) (by kernel_rfl) (fun _ _ _ h => h) (Or.inl ⟨by rfl, ?_⟩) hH ?_
      rotate_left 1
      · (intro w hSw; (try dsimp only at hSw); go_simp <;> (first | (with_reducible rfl) | (rw [if_neg (by omega)])))
      simp only [Act.put, List.getElem_toArray, List.getElem_cons_zero, List.getElem_cons_succ, List.setIfInBounds_toArray, List.set_cons_zero, List.set_cons_succ]
      refine wpAnyH_take (i := 9) (v := ?_) rfl (by kernel_rfl) (by kernel_rfl) (by kernel_rfl) (fun _ _ _ h => h) (Or.inl ⟨by rfl, ?_⟩) hH ?_
      rotate_left 1
      · (intro w hSw; (try dsimp only at hSw); go_simp <;> (first | (with_reducible rfl) | (rw [if_neg (by omega)])))
      simp only [Act.put, List.getElem_toArray, List.getElem_cons_zero, List.getElem_cons_succ, List.setIfInBounds_toArray, List.set_cons_zero, List.set_cons_succ]
      refine wpAnyH_take (i := 10) (v := ?_) rfl (by kernel_rfl) (by kernel_rfl) (by kernel_rfl) (fun _ _ _ h => h) (Or.inl ⟨by rfl, ?_⟩) hH ?_
      rotate_left 1
      · (intro w hSw; (try dsimp only at hSw); go_simp <;> (first | (with_reducible rfl) | (rw [if_neg (by omega)])))
      simp only [Act.put, List.getElem_toArray, List.getElem_cons_zero, List.getElem_cons_succ, List.setIfInBounds_toArray, List.set_cons_zero, List.set_cons_succ]
      refine wpAnyH_take (i := 11) (v := ?_) rfl (by kernel_rfl) (by kernel_rfl) (by kernel_rfl) (fun _ _ _ h => h) (Or.inl ⟨by rfl, ?_⟩) hH ?_
      rotate_left 1
      · (intro w hSw; (try dsimp only at hSw); go_simp <;> (first | (with_reducible rfl) | (rw [if_neg (by omega)])))
      simp only [Act.put, List.getElem_toArray, List.getElem_cons_zero, List.getElem_cons_succ, List.setIfInBounds_toArray, List.set_cons_zero, List.set_cons_succ]
      refine wpAnyH_ready (rs := [12, 16, 17]) (by kernel_rfl) (by decide) ?_
      refine AllReadyH.cons rfl (fun K1 hK1 => ?_) (AllReadyH.cons rfl (fun K1 hK1 => ?_) (AllReadyH.cons rfl (fun K1 hK1 => ?_) AllReadyH.nil))
      · go_simp
        refine (HX.out _ (E2.out.bel BW0.out)).mono ?_
        rintro e W1 ⟨gk, ck, hc1, hc2, rfl, x1, y1, hgf, hb⟩
        have XW1 := hide x1
        have YW1 := hide y1
        clear x1 y1 hgf
        have BW1 := hide (bel_trans BW0.out hb)
        refine hK1.out _ _ ⟨(hb.cell (p := ⟨g5, I, none⟩) (World.block_lt_of_cell? W0 _ hH.1)).trans hH.1, (hb.cell (p := ⟨g5, K, none⟩) (World.block_lt_of_cell? W0 _ hH.2)).trans hH.2⟩ (fun hH => ?_)
        clear hK1 K1 hb
        refine wpAnyH_take (i := 13) (v := ?_) rfl (by kernel_rfl) (by kernel_rfl) (by kernel_rfl) (fun _ _ _ h => h) (Or.inl ⟨by rfl, ?_⟩) hH ?_
        rotate_left 1
        · (intro w hSw; (try dsimp only at hSw); go_simp <;> (first | (with_reducible rfl) | (rw [if_neg (by omega)])))
        simp only [Act.put, List.getElem_toArray, List.getElem_cons_zero, List.getElem_cons_succ, List.setIfInBounds_toArray, List.set_cons_zero, List.set_cons_succ]
        refine wpAnyH_take (i := 14) (v := ?_) rfl (by kernel_rfl) (by kernel_rfl) (by kernel_rfl) (fun _ _ _ h => h) (Or.inl ⟨by rfl, ?_⟩) hH ?_
        rotate_left 1
        · (intro w hSw; (try dsimp only at hSw); go_simp <;> (first | (with_reducible rfl) | (rw [if_neg (by omega)])))
        simp only [Act.put, List.getElem_toArray, List.getElem_cons_zero, List.getElem_cons_succ, List.setIfInBounds_toArray, List.set_cons_zero, List.set_cons_succ]
        refine wpAnyH_take (i := 15) (v := ?_) rfl (by kernel_rfl) (by kernel_rfl) (by kernel_rfl) (fun _ _ _ h => h) (Or.inl ⟨by rfl, ?_⟩) hH ?_
        rotate_left 1
        · (intro w hSw; (try dsimp only at hSw); go_simp <;> (first | (with_reducible rfl) | (rw [if_neg (by omega)])))
        simp only [Act.put, List.getElem_toArray, List.getElem_cons_zero, List.getElem_cons_succ, List.setIfInBounds_toArray, List.set_cons_zero, List.set_cons_succ]
        refine wpAnyH_ready (rs := [16, 17]) (by kernel_rfl) (by decide) ?_
        refine AllReadyH.cons rfl (fun K1 hK1 => ?_) (AllReadyH.cons rfl (fun K1 hK1 => ?_) AllReadyH.nil)
        · go_simp
          have hb := bel_new W1 (.cells #[.int .i64 0, .int .i64 0, .string ⟨#[]⟩, .int .i64 0, .int .i64 0, .int .i64 0, .int .i64 0, .int .u64 0, .slice none 0 0] 26)
          have NW2 : Hid (Nod (W1.alloc (.cells #[.int .i64 0, .int .i64 0, .string ⟨#[]⟩, .int .i64 0, .int .i64 0, .int .i64 0, .int .i64 0, .int .u64 0, .slice none 0 0] 26)) W1.heap.size (.int .i64 0) (.int .i64 0) (.string ⟨#[]⟩) (.int .i64 0) (.int .i64 0) (.int .i64 0) (.int .i64 0) (.int .u64 0) (.slice none 0 0)) := Go.Deep.blk_alloc_new _ _
          have LE16 : Hid (w2.heap.size ≤ W1.heap.size) := BW1.out.size
          have BW2 := hide (bel_trans BW1.out hb)
          have XW2 := hide ((hb.cell (p := ⟨gk, 2, none⟩) (World.block_lt_of_cell? W1 _ XW1.out)).trans XW1.out)
          have YW2 := hide ((hb.cell (p := ⟨gk, 11, none⟩) (World.block_lt_of_cell? W1 _ YW1.out)).trans YW1.out)
          have hgk : Hid (gk ≠ W1.heap.size) := Nat.ne_of_lt (World.block_lt_of_cell? W1 _ XW1.out)
          have hS2 := (show _ ∧ _ from ⟨(hb.cell (p := ⟨g5, I, none⟩) (World.block_lt_of_cell? W1 _ hH.1)).trans hH.1, (hb.cell (p := ⟨g5, K, none⟩) (World.block_lt_of_cell? W1 _ hH.2)).trans hH.2⟩)
          generalize W1.alloc (.cells #[.int .i64 0, .int .i64 0, .string ⟨#[]⟩, .int .i64 0, .int .i64 0, .int .i64 0, .int .i64 0, .int .u64 0, .slice none 0 0] 26) = W2 at *
          obtain ⟨bn, hbn⟩ : ∃ bn, bn = W1.heap.size := ⟨_, rfl⟩
          rw [← hbn]
          rw [← hbn] at NW2 LE16 hgk
          clear hbn
          refine hK1.out _ _ hS2 (fun hH => ?_)
          clear hK1 K1 hb hS2
          refine wpAnyH_ready (rs := [17]) (by kernel_rfl) (by decide) ?_
          refine AllReadyH.cons rfl (fun K1 hK1 => ?_) AllReadyH.nil
          go_simp
          have hb := bel_new W2 (.cells #[.nilIface, .int .i64 0] 30)
          have MW3 : Hid ((W2.alloc (.cells #[.nilIface, .int .i64 0] 30)).heap[W2.heap.size]? = some (.cells #[.nilIface, .int .i64 0] 30 (0, 0))) := Go.Deep.blk_alloc_new _ _
          have LE17 : Hid (w2.heap.size ≤ W2.heap.size) := BW2.out.size
          have BW3 := hide (bel_trans BW2.out hb)
          have NW3 := hide (NW2.out.bel hb)
          have XW3 := hide ((hb.cell (p := ⟨gk, 2, none⟩) (World.block_lt_of_cell? W2 _ XW2.out)).trans XW2.out)
          have YW3 := hide ((hb.cell (p := ⟨gk, 11, none⟩) (World.block_lt_of_cell? W2 _ YW2.out)).trans YW2.out)
          have NE : Hid (bn ≠ W2.heap.size) := Nat.ne_of_lt (lt_of_blk NW2.out)
          have hgkb : Hid (gk ≠ W2.heap.size) := Nat.ne_of_lt (World.block_lt_of_cell? W2 _ XW2.out)
          have hS3 := (show _ ∧ _ from ⟨(hb.cell (p := ⟨g5, I, none⟩) (World.block_lt_of_cell? W2 _ hH.1)).trans hH.1, (hb.cell (p := ⟨g5, K, none⟩) (World.block_lt_of_cell? W2 _ hH.2)).trans hH.2⟩)
          generalize W2.alloc (.cells #[.nilIface, .int .i64 0] 30) = W3 at *
          obtain ⟨bb, hbb⟩ : ∃ bb, bb = W2.heap.size := ⟨_, rfl⟩
          rw [← hbb]
          rw [← hbb] at MW3 LE17 NE hgkb
          clear hbb
          refine hK1.out _ _ hS3 (fun hH => ?_)
          clear hK1 K1 hb hS3
          refine wpAnyH_ready (rs := [18]) (by kernel_rfl) (by decide) ?_
          refine AllReadyH.cons rfl (fun K1 hK1 => ?_) AllReadyH.nil
          have hne : bn ≠ bb := by have := NE.out; omega
          obtain ⟨⟨p0, p1, p2, p3, p4, p5, p6, p7, p8⟩, q0, q1, q2, q3, q4, q5, q6, q7, q8⟩ := NW3.out.all
          go_simp
          obtain ⟨z9, s9⟩ := set9 NW3.out (.int .i64 31) (.int .i64 ps) (.string nm) (.int .i64 t) (.int .i64 nz) (.int .i64 z) (.int .i64 ob) (.int .u64 bi) (.slice (some ⟨gk, 0, none⟩) 2 ck)
          have NW4 := hide z9
          have MW4 := hide ((s9.blk _ (lt_of_blk MW3.out) (Ne.symm hne)).trans MW3.out)
          have BW4 := hide (BW3.out.trans (s9.bel LE16.out BW3.out.size))
          have hg5 : g5 ≠ bn := by have := LE16.out; have := HG5.out; omega
          have hS4 : ((((((((((W3.setCell ⟨bn, 0, none⟩ (.int .i64 31)).setCell ⟨bn, 1, none⟩ (.int .i64 ps)).setCell ⟨bn, 2, none⟩ (.string nm)).setCell ⟨bn, 3, none⟩ (.int .i64 t)).setCell ⟨bn, 4, none⟩ (.int .i64 nz)).setCell ⟨bn, 5, none⟩ (.int .i64 z)).setCell ⟨bn, 6, none⟩ (.int .i64 ob)).setCell ⟨bn, 7, none⟩ (.int .u64 bi)).setCell ⟨bn, 8, none⟩ (.slice (some ⟨gk, 0, none⟩) 2 ck)).cell? ⟨g5, I, none⟩ = some (.string oI) ∧ (((((((((W3.setCell ⟨bn, 0, none⟩ (.int .i64 31)).setCell ⟨bn, 1, none⟩ (.int .i64 ps)).setCell ⟨bn, 2, none⟩ (.string nm)).setCell ⟨bn, 3, none⟩ (.int .i64 t)).setCell ⟨bn, 4, none⟩ (.int .i64 nz)).setCell ⟨bn, 5, none⟩ (.int .i64 z)).setCell ⟨bn, 6, none⟩ (.int .i64 ob)).setCell ⟨bn, 7, none⟩ (.int .u64 bi)).setCell ⟨bn, 8, none⟩ (.slice (some ⟨gk, 0, none⟩) 2 ck)).cell? ⟨g5, K, none⟩ = some (.string oK)) := ⟨s9.cell hg5 hH.1, s9.cell hg5 hH.2⟩
          have XW4 := hide (s9.cell hgk.out XW3.out)
          have YW4 := hide (s9.cell hgk.out YW3.out)
          clear p0 p1 p2 p3 p4 p5 p6 p7 p8 q0 q1 q2 q3 q4 q5 q6 q7 q8 z9 s9
          generalize ((((((((W3.setCell ⟨bn, 0, none⟩ (.int .i64 31)).setCell ⟨bn, 1, none⟩ (.int .i64 ps)).setCell ⟨bn, 2, none⟩ (.string nm)).setCell ⟨bn, 3, none⟩ (.int .i64 t)).setCell ⟨bn, 4, none⟩ (.int .i64 nz)).setCell ⟨bn, 5, none⟩ (.int .i64 z)).setCell ⟨bn, 6, none⟩ (.int .i64 ob)).setCell ⟨bn, 7, none⟩ (.int .u64 bi)).setCell ⟨bn, 8, none⟩ (.slice (some ⟨gk, 0, none⟩) 2 ck) = W4 at *
          refine hK1.out _ _ hS4 (fun hH => ?_)
          clear hK1 K1 hS4
          refine wpAnyH_ready (rs := [19]) (by kernel_rfl) (by decide) ?_
          refine AllReadyH.cons rfl (fun K1 hK1 => ?_) AllReadyH.nil
          have p0 := blk_frz MW4.out 0
          have p1 := blk_frz MW4.out 1
          have q0 := blk_cell MW4.out 0 _ rfl
          have q1 := blk_cell MW4.out 1 _ rfl
          go_simp
          obtain ⟨z1, s1⟩ := set1 MW4.out 0 (.nilIface)
          obtain ⟨z2, s2⟩ := set1 z1 1 (.int .i64 0)
          have MW5 := hide z2
          have NW5 := hide ((NW4.out.tn s1 hne).tn s2 hne)
          have BW5 := hide ((BW4.out.trans (s1.bel LE17.out BW4.out.size)).trans (s2.bel LE17.out (Nat.le_trans BW4.out.size s1.size)))
          have hg5b : g5 ≠ bb := by have := LE17.out; have := HG5.out; omega
          have XW5 := hide (s2.cell hgkb.out (s1.cell hgkb.out XW4.out))
          have YW5 := hide (s2.cell hgkb.out (s1.cell hgkb.out YW4.out))
          have hS5 : (((W4.setCell ⟨bb, 0, none⟩ (.nilIface)).setCell ⟨bb, 1, none⟩ (.int .i64 0)).cell? ⟨g5, I, none⟩ = some (.string oI) ∧ ((W4.setCell ⟨bb, 0, none⟩ (.nilIface)).setCell ⟨bb, 1, none⟩ (.int .i64 0)).cell? ⟨g5, K, none⟩ = some (.string oK)) := ⟨s2.cell hg5b (s1.cell hg5b hH.1), s2.cell hg5b (s1.cell hg5b hH.2)⟩
          clear p0 p1 q0 q1 z1 s1 z2 s2
          generalize (W4.setCell ⟨bb, 0, none⟩ (.nilIface)).setCell ⟨bb, 1, none⟩ (.int .i64 0) = W5 at *
          refine hK1.out _ _ hS5 (fun hH => ?_)
          clear hK1 K1 hS5
          refine wpAnyH_done (by kernel_rfl) ?_ _
          go_wp2_with fail
          go_meet
          case rel =>
            exact ⟨gk, ck, bn, bb, rfl, rfl, NW5.out, MW5.out, BW5.out, XW5.out, YW5.out, hc1, hc2⟩
        · go_simp
          have hb := bel_new W1 (.cells #[.nilIface, .int .i64 0] 30)
          have MW2 : Hid ((W1.alloc (.cells #[.nilIface, .int .i64 0] 30)).heap[W1.heap.size]? = some (.cells #[.nilIface, .int .i64 0] 30 (0, 0))) := Go.Deep.blk_alloc_new _ _
          have LE17 : Hid (w2.heap.size ≤ W1.heap.size) := BW1.out.size
          have BW2 := hide (bel_trans BW1.out hb)
          have XW2 := hide ((hb.cell (p := ⟨gk, 2, none⟩) (World.block_lt_of_cell? W1 _ XW1.out)).trans XW1.out)
          have YW2 := hide ((hb.cell (p := ⟨gk, 11, none⟩) (World.block_lt_of_cell? W1 _ YW1.out)).trans YW1.out)
          have hgkb : Hid (gk ≠ W1.heap.size) := Nat.ne_of_lt (World.block_lt_of_cell? W1 _ XW1.out)
          have hS2 := (show _ ∧ _ from ⟨(hb.cell (p := ⟨g5, I, none⟩) (World.block_lt_of_cell? W1 _ hH.1)).trans hH.1, (hb.cell (p := ⟨g5, K, none⟩) (World.block_lt_of_cell? W1 _ hH.2)).trans hH.2⟩)
          generalize W1.alloc (.cells #[.nilIface, .int .i64 0] 30) = W2 at *
          obtain ⟨bb, hbb⟩ : ∃ bb, bb = W1.heap.size := ⟨_, rfl⟩
          rw [← hbb]
          rw [← hbb] at MW2 LE17 hgkb
          clear hbb
          refine hK1.out _ _ hS2 (fun hH => ?_)
          clear hK1 K1 hb hS2
          refine wpAnyH_ready (rs := [16]) (by kernel_rfl) (by decide) ?_
          refine AllReadyH.cons rfl (fun K1 hK1 => ?_) AllReadyH.nil
          go_simp
          have hb := bel_new W2 (.cells #[.int .i64 0, .int .i64 0, .string ⟨#[]⟩, .int .i64 0, .int .i64 0, .int .i64 0, .int .i64 0, .int .u64 0, .slice none 0 0] 26)
          have NW3 : Hid (Nod (W2.alloc (.cells #[.int .i64 0, .int .i64 0, .string ⟨#[]⟩, .int .i64 0, .int .i64 0, .int .i64 0, .int .i64 0, .int .u64 0, .slice none 0 0] 26)) W2.heap.size (.int .i64 0) (.int .i64 0) (.string ⟨#[]⟩) (.int .i64 0) (.int .i64 0) (.int .i64 0) (.int .i64 0) (.int .u64 0) (.slice none 0 0)) := Go.Deep.blk_alloc_new _ _
          have LE16 : Hid (w2.heap.size ≤ W2.heap.size) := BW2.out.size
          have BW3 := hide (bel_trans BW2.out hb)
          have MW3 := hide ((hb.block _ (lt_of_blk MW2.out)).trans MW2.out)
          have XW3 := hide ((hb.cell (p := ⟨gk, 2, none⟩) (World.block_lt_of_cell? W2 _ XW2.out)).trans XW2.out)
          have YW3 := hide ((hb.cell (p := ⟨gk, 11, none⟩) (World.block_lt_of_cell? W2 _ YW2.out)).trans YW2.out)
          have NE : Hid (bb ≠ W2.heap.size) := Nat.ne_of_lt (lt_of_blk MW2.out)
          have hgk : Hid (gk ≠ W2.heap.size) := Nat.ne_of_lt (World.block_lt_of_cell? W2 _ XW2.out)
          have hS3 := (show _ ∧ _ from ⟨(hb.cell (p := ⟨g5, I, none⟩) (World.block_lt_of_cell? W2 _ hH.1)).trans hH.1, (hb.cell (p := ⟨g5, K, none⟩) (World.block_lt_of_cell? W2 _ hH.2)).trans hH.2⟩)
          generalize W2.alloc (.cells #[.int .i64 0, .int .i64 0, .string ⟨#[]⟩, .int .i64 0, .int .i64 0, .int .i64 0, .int .i64 0, .int .u64 0, .slice none 0 0] 26) = W3 at *
          obtain ⟨bn, hbn⟩ : ∃ bn, bn = W2.heap.size := ⟨_, rfl⟩
          rw [← hbn]
          rw [← hbn] at NW3 LE16 NE hgk
          clear hbn
          refine hK1.out _ _ hS3 (fun hH => ?_)
          clear hK1 K1 hb hS3
          refine wpAnyH_ready (rs := [18]) (by kernel_rfl) (by decide) ?_
          refine AllReadyH.cons rfl (fun K1 hK1 => ?_) AllReadyH.nil
          have hne : bn ≠ bb := by have := NE.out; omega
          obtain ⟨⟨p0, p1, p2, p3, p4, p5, p6, p7, p8⟩, q0, q1, q2, q3, q4, q5, q6, q7, q8⟩ := NW3.out.all
          go_simp
          obtain ⟨z9, s9⟩ := set9 NW3.out (.int .i64 31) (.int .i64 ps) (.string nm) (.int .i64 t) (.int .i64 nz) (.int .i64 z) (.int .i64 ob) (.int .u64 bi) (.slice (some ⟨gk, 0, none⟩) 2 ck)
          have NW4 := hide z9
          have MW4 := hide ((s9.blk _ (lt_of_blk MW3.out) (Ne.symm hne)).trans MW3.out)
          have BW4 := hide (BW3.out.trans (s9.bel LE16.out BW3.out.size))
          have hg5 : g5 ≠ bn := by have := LE16.out; have := HG5.out; omega
          have hS4 : ((((((((((W3.setCell ⟨bn, 0, none⟩ (.int .i64 31)).setCell ⟨bn, 1, none⟩ (.int .i64 ps)).setCell ⟨bn, 2, none⟩ (.string nm)).setCell ⟨bn, 3, none⟩ (.int .i64 t)).setCell ⟨bn, 4, none⟩ (.int .i64 nz)).setCell ⟨bn, 5, none⟩ (.int .i64 z)).setCell ⟨bn, 6, none⟩ (.int .i64 ob)).setCell ⟨bn, 7, none⟩ (.int .u64 bi)).setCell ⟨bn, 8, none⟩ (.slice (some ⟨gk, 0, none⟩) 2 ck)).cell? ⟨g5, I, none⟩ = some (.string oI) ∧ (((((((((W3.setCell ⟨bn, 0, none⟩ (.int .i64 31)).setCell ⟨bn, 1, none⟩ (.int .i64 ps)).setCell ⟨bn, 2, none⟩ (.string nm)).setCell ⟨bn, 3, none⟩ (.int .i64 t)).setCell ⟨bn, 4, none⟩ (.int .i64 nz)).setCell ⟨bn, 5, none⟩ (.int .i64 z)).setCell ⟨bn, 6, none⟩ (.int .i64 ob)).setCell ⟨bn, 7, none⟩ (.int .u64 bi)).setCell ⟨bn, 8, none⟩ (.slice (some ⟨gk, 0, none⟩) 2 ck)).cell? ⟨g5, K, none⟩ = some (.string oK)) := ⟨s9.cell hg5 hH.1, s9.cell hg5 hH.2⟩
          have XW4 := hide (s9.cell hgk.out XW3.out)
          have YW4 := hide (s9.cell hgk.out YW3.out)
          clear p0 p1 p2 p3 p4 p5 p6 p7 p8 q0 q1 q2 q3 q4 q5 q6 q7 q8 z9 s9
          generalize ((((((((W3.setCell ⟨bn, 0, none⟩ (.int .i64 31)).setCell ⟨bn, 1, none⟩ (.int .i64 ps)).setCell ⟨bn, 2, none⟩ (.string nm)).setCell ⟨bn, 3, none⟩ (.int .i64 t)).setCell ⟨bn, 4, none⟩ (.int .i64 nz)).setCell ⟨bn, 5, none⟩ (.int .i64 z)).setCell ⟨bn, 6, none⟩ (.int .i64 ob)).setCell ⟨bn, 7, none⟩ (.int .u64 bi)).setCell ⟨bn, 8, none⟩ (.slice (some ⟨gk, 0, none⟩) 2 ck) = W4 at *
          refine hK1.out _ _ hS4 (fun hH => ?_)
          clear hK1 K1 hS4
          refine wpAnyH_ready (rs := [19]) (by kernel_rfl) (by decide) ?_
          refine AllReadyH.cons rfl (fun K1 hK1 => ?_) AllReadyH.nil
          have p0 := blk_frz MW4.out 0
          have p1 := blk_frz MW4.out 1
          have q0 := blk_cell MW4.out 0 _ rfl
          have q1 := blk_cell MW4.out 1 _ rfl
          go_simp
          obtain ⟨z1, s1⟩ := set1 MW4.out 0 (.nilIface)
          obtain ⟨z2, s2⟩ := set1 z1 1 (.int .i64 0)
          have MW5 := hide z2
          have NW5 := hide ((NW4.out.tn s1 hne).tn s2 hne)
          have BW5 := hide ((BW4.out.trans (s1.bel LE17.out BW4.out.size)).trans (s2.bel LE17.out (Nat.le_trans BW4.out.size s1.size)))
          have hg5b : g5 ≠ bb := by have := LE17.out; have := HG5.out; omega
          have XW5 := hide (s2.cell hgkb.out (s1.cell hgkb.out XW4.out))
          have YW5 := hide (s2.cell hgkb.out (s1.cell hgkb.out YW4.out))
          have hS5 : (((W4.setCell ⟨bb, 0, none⟩ (.nilIface)).setCell ⟨bb, 1, none⟩ (.int .i64 0)).cell? ⟨g5, I, none⟩ = some (.string oI) ∧ ((W4.setCell ⟨bb, 0, none⟩ (.nilIface)).setCell ⟨bb, 1, none⟩ (.int .i64 0)).cell? ⟨g5, K, none⟩ = some (.string oK)) := ⟨s2.cell hg5b (s1.cell hg5b hH.1), s2.cell hg5b (s1.cell hg5b hH.2)⟩
          clear p0 p1 q0 q1 z1 s1 z2 s2
          generalize (W4.setCell ⟨bb, 0, none⟩ (.nilIface)).setCell ⟨bb, 1, none⟩ (.int .i64 0) = W5 at *
          refine hK1.out _ _ hS5 (fun hH => ?_)
          clear hK1 K1 hS5
          refine wpAnyH_done (by kernel_rfl) ?_ _
          go_wp2_with fail
          go_meet
          case rel =>
            exact ⟨gk, ck, bn, bb, rfl, rfl, NW5.out, MW5.out, BW5.out, XW5.out, YW5.out, hc1, hc2⟩
      · go_simp
        have hb := bel_new W0 (.cells #[.int .i64 0, .int .i64 0, .string ⟨#[]⟩, .int .i64 0, .int .i64 0, .int .i64 0, .int .i64 0, .int .u64 0, .slice none 0 0] 26)
        have NW1 : Hid (Nod (W0.alloc (.cells #[.int .i64 0, .int .i64 0, .string ⟨#[]⟩, .int .i64 0, .int .i64 0, .int .i64 0, .int .i64 0, .int .u64 0, .slice none 0 0] 26)) W0.heap.size (.int .i64 0) (.int .i64 0) (.string ⟨#[]⟩) (.int .i64 0) (.int .i64 0) (.int .i64 0) (.int .i64 0) (.int .u64 0) (.slice none 0 0)) := Go.Deep.blk_alloc_new _ _
        have LE16 : Hid (w2.heap.size ≤ W0.heap.size) := BW0.out.size
        have BW1 := hide (bel_trans BW0.out hb)
        have hS1 := (show _ ∧ _ from ⟨(hb.cell (p := ⟨g5, I, none⟩) (World.block_lt_of_cell? W0 _ hH.1)).trans hH.1, (hb.cell (p := ⟨g5, K, none⟩) (World.block_lt_of_cell? W0 _ hH.2)).trans hH.2⟩)
        generalize W0.alloc (.cells #[.int .i64 0, .int .i64 0, .string ⟨#[]⟩, .int .i64 0, .int .i64 0, .int .i64 0, .int .i64 0, .int .u64 0, .slice none 0 0] 26) = W1 at *
        obtain ⟨bn, hbn⟩ : ∃ bn, bn = W0.heap.size := ⟨_, rfl⟩
        rw [← hbn]
        rw [← hbn] at NW1 LE16
        clear hbn
        refine hK1.out _ _ hS1 (fun hH => ?_)
        clear hK1 K1 hb hS1
        refine wpAnyH_ready (rs := [12, 17]) (by kernel_rfl) (by decide) ?_
        refine AllReadyH.cons rfl (fun K1 hK1 => ?_) (AllReadyH.cons rfl (fun K1 hK1 => ?_) AllReadyH.nil)
        · go_simp
          refine (HX.out _ (E2.out.bel BW1.out)).mono ?_
          rintro e W2 ⟨gk, ck, hc1, hc2, rfl, x2, y2, hgf, hb⟩
          have XW2 := hide x2
          have YW2 := hide y2
          have hgk : Hid (gk ≠ bn) := by show _ ≠ _; have := lt_of_blk NW1.out; omega
          clear x2 y2 hgf
          have BW2 := hide (bel_trans BW1.out hb)
          have NW2 := hide (NW1.out.bel hb)
          refine hK1.out _ _ ⟨(hb.cell (p := ⟨g5, I, none⟩) (World.block_lt_of_cell? W1 _ hH.1)).trans hH.1, (hb.cell (p := ⟨g5, K, none⟩) (World.block_lt_of_cell? W1 _ hH.2)).trans hH.2⟩ (fun hH => ?_)
          clear hK1 K1 hb
          refine wpAnyH_take (i := 13) (v := ?_) rfl (by kernel_rfl) (by kernel_rfl) (by kernel_rfl) (fun _ _ _ h => h) (Or.inl ⟨by rfl, ?_⟩) hH ?_
          rotate_left 1
          · (intro w hSw; (try dsimp only at hSw); go_simp <;> (first | (with_reducible rfl) | (rw [if_neg (by omega)])))
          simp only [Act.put, List.getElem_toArray, List.getElem_cons_zero, List.getElem_cons_succ, List.setIfInBounds_toArray, List.set_cons_zero, List.set_cons_succ]
          refine wpAnyH_take (i := 14) (v := ?_) rfl (by kernel_rfl) (by kernel_rfl) (by kernel_rfl) (fun _ _ _ h => h) (Or.inl ⟨by rfl, ?_⟩) hH ?_
          rotate_left 1
          · (intro w hSw; (try dsimp only at hSw); go_simp <;> (first | (with_reducible rfl) | (rw [if_neg (by omega)])))
          simp only [Act.put, List.getElem_toArray, List.getElem_cons_zero, List.getElem_cons_succ, List.setIfInBounds_toArray, List.set_cons_zero, List.set_cons_succ]
          refine wpAnyH_take (i := 15) (v := ?_) rfl (by kernel_rfl) (by kernel_rfl) (by kernel_rfl) (fun _ _ _ h => h) (Or.inl ⟨by rfl, ?_⟩) hH ?_
          rotate_left 1
          · (intro w hSw; (try dsimp only at hSw); go_simp <;> (first | (with_reducible rfl) | (rw [if_neg (by omega)])))
          simp only [Act.put, List.getElem_toArray, List.getElem_cons_zero, List.getElem_cons_succ, List.setIfInBounds_toArray, List.set_cons_zero, List.set_cons_succ]
          refine wpAnyH_ready (rs := [17]) (by kernel_rfl) (by decide) ?_
          refine AllReadyH.cons rfl (fun K1 hK1 => ?_) AllReadyH.nil
          go_simp
          have hb := bel_new W2 (.cells #[.nilIface, .int .i64 0] 30)
          have MW3 : Hid ((W2.alloc (.cells #[.nilIface, .int .i64 0] 30)).heap[W2.heap.size]? = some (.cells #[.nilIface, .int .i64 0] 30 (0, 0))) := Go.Deep.blk_alloc_new _ _
          have LE17 : Hid (w2.heap.size ≤ W2.heap.size) := BW2.out.size
          have BW3 := hide (bel_trans BW2.out hb)
          have NW3 := hide (NW2.out.bel hb)
          have XW3 := hide ((hb.cell (p := ⟨gk, 2, none⟩) (World.block_lt_of_cell? W2 _ XW2.out)).trans XW2.out)
          have YW3 := hide ((hb.cell (p := ⟨gk, 11, none⟩) (World.block_lt_of_cell? W2 _ YW2.out)).trans YW2.out)
          have NE : Hid (bn ≠ W2.heap.size) := Nat.ne_of_lt (lt_of_blk NW2.out)
          have hgkb : Hid (gk ≠ W2.heap.size) := Nat.ne_of_lt (World.block_lt_of_cell? W2 _ XW2.out)
          have hS3 := (show _ ∧ _ from ⟨(hb.cell (p := ⟨g5, I, none⟩) (World.block_lt_of_cell? W2 _ hH.1)).trans hH.1, (hb.cell (p := ⟨g5, K, none⟩) (World.block_lt_of_cell? W2 _ hH.2)).trans hH.2⟩)
          generalize W2.alloc (.cells #[.nilIface, .int .i64 0] 30) = W3 at *
          obtain ⟨bb, hbb⟩ : ∃ bb, bb = W2.heap.size := ⟨_, rfl⟩
          rw [← hbb]
          rw [← hbb] at MW3 LE17 NE hgkb
          clear hbb
          refine hK1.out _ _ hS3 (fun hH => ?_)
          clear hK1 K1 hb hS3
          refine wpAnyH_ready (rs := [18]) (by kernel_rfl) (by decide) ?_
          refine AllReadyH.cons rfl (fun K1 hK1 => ?_) AllReadyH.nil
          have hne : bn ≠ bb := by have := NE.out; omega
          obtain ⟨⟨p0, p1, p2, p3, p4, p5, p6, p7, p8⟩, q0, q1, q2, q3, q4, q5, q6, q7, q8⟩ := NW3.out.all
          go_simp
          obtain ⟨z9, s9⟩ := set9 NW3.out (.int .i64 31) (.int .i64 ps) (.string nm) (.int .i64 t) (.int .i64 nz) (.int .i64 z) (.int .i64 ob) (.int .u64 bi) (.slice (some ⟨gk, 0, none⟩) 2 ck)
          have NW4 := hide z9
          have MW4 := hide ((s9.blk _ (lt_of_blk MW3.out) (Ne.symm hne)).trans MW3.out)
          have BW4 := hide (BW3.out.trans (s9.bel LE16.out BW3.out.size))
          have hg5 : g5 ≠ bn := by have := LE16.out; have := HG5.out; omega
          have hS4 : ((((((((((W3.setCell ⟨bn, 0, none⟩ (.int .i64 31)).setCell ⟨bn, 1, none⟩ (.int .i64 ps)).setCell ⟨bn, 2, none⟩ (.string nm)).setCell ⟨bn, 3, none⟩ (.int .i64 t)).setCell ⟨bn, 4, none⟩ (.int .i64 nz)).setCell ⟨bn, 5, none⟩ (.int .i64 z)).setCell ⟨bn, 6, none⟩ (.int .i64 ob)).setCell ⟨bn, 7, none⟩ (.int .u64 bi)).setCell ⟨bn, 8, none⟩ (.slice (some ⟨gk, 0, none⟩) 2 ck)).cell? ⟨g5, I, none⟩ = some (.string oI) ∧ (((((((((W3.setCell ⟨bn, 0, none⟩ (.int .i64 31)).setCell ⟨bn, 1, none⟩ (.int .i64 ps)).setCell ⟨bn, 2, none⟩ (.string nm)).setCell ⟨bn, 3, none⟩ (.int .i64 t)).setCell ⟨bn, 4, none⟩ (.int .i64 nz)).setCell ⟨bn, 5, none⟩ (.int .i64 z)).setCell ⟨bn, 6, none⟩ (.int .i64 ob)).setCell ⟨bn, 7, none⟩ (.int .u64 bi)).setCell ⟨bn, 8, none⟩ (.slice (some ⟨gk, 0, none⟩) 2 ck)).cell? ⟨g5, K, none⟩ = some (.string oK)) := ⟨s9.cell hg5 hH.1, s9.cell hg5 hH.2⟩
          have XW4 := hide (s9.cell hgk.out XW3.out)
          have YW4 := hide (s9.cell hgk.out YW3.out)
          clear p0 p1 p2 p3 p4 p5 p6 p7 p8 q0 q1 q2 q3 q4 q5 q6 q7 q8 z9 s9
          generalize ((((((((W3.setCell ⟨bn, 0, none⟩ (.int .i64 31)).setCell ⟨bn, 1, none⟩ (.int .i64 ps)).setCell ⟨bn, 2, none⟩ (.string nm)).setCell ⟨bn, 3, none⟩ (.int .i64 t)).setCell ⟨bn, 4, none⟩ (.int .i64 nz)).setCell ⟨bn, 5, none⟩ (.int .i64 z)).setCell ⟨bn, 6, none⟩ (.int .i64 ob)).setCell ⟨bn, 7, none⟩ (.int .u64 bi)).setCell ⟨bn, 8, none⟩ (.slice (some ⟨gk, 0, none⟩) 2 ck) = W4 at *
          refine hK1.out _ _ hS4 (fun hH => ?_)
          clear hK1 K1 hS4
          refine wpAnyH_ready (rs := [19]) (by kernel_rfl) (by decide) ?_
          refine AllReadyH.cons rfl (fun K1 hK1 => ?_) AllReadyH.nil
          have p0 := blk_frz MW4.out 0
          have p1 := blk_frz MW4.out 1
          have q0 := blk_cell MW4.out 0 _ rfl
          have q1 := blk_cell MW4.out 1 _ rfl
          go_simp
          obtain ⟨z1, s1⟩ := set1 MW4.out 0 (.nilIface)
          obtain ⟨z2, s2⟩ := set1 z1 1 (.int .i64 0)
          have MW5 := hide z2
          have NW5 := hide ((NW4.out.tn s1 hne).tn s2 hne)
          have BW5 := hide ((BW4.out.trans (s1.bel LE17.out BW4.out.size)).trans (s2.bel LE17.out (Nat.le_trans BW4.out.size s1.size)))
          have hg5b : g5 ≠ bb := by have := LE17.out; have := HG5.out; omega
          have XW5 := hide (s2.cell hgkb.out (s1.cell hgkb.out XW4.out))
          have YW5 := hide (s2.cell hgkb.out (s1.cell hgkb.out YW4.out))
          have hS5 : (((W4.setCell ⟨bb, 0, none⟩ (.nilIface)).setCell ⟨bb, 1, none⟩ (.int .i64 0)).cell? ⟨g5, I, none⟩ = some (.string oI) ∧ ((W4.setCell ⟨bb, 0, none⟩ (.nilIface)).setCell ⟨bb, 1, none⟩ (.int .i64 0)).cell? ⟨g5, K, none⟩ = some (.string oK)) := ⟨s2.cell hg5b (s1.cell hg5b hH.1), s2.cell hg5b (s1.cell hg5b hH.2)⟩
          clear p0 p1 q0 q1 z1 s1 z2 s2
          generalize (W4.setCell ⟨bb, 0, none⟩ (.nilIface)).setCell ⟨bb, 1, none⟩ (.int .i64 0) = W5 at *
          refine hK1.out _ _ hS5 (fun hH => ?_)
          clear hK1 K1 hS5
          refine wpAnyH_done (by kernel_rfl) ?_ _
          go_wp2_with fail
          go_meet
          case rel =>
            exact ⟨gk, ck, bn, bb, rfl, rfl, NW5.out, MW5.out, BW5.out, XW5.out, YW5.out, hc1, hc2⟩
        · go_simp
          have hb := bel_new W1 (.cells #[.nilIface, .int .i64 0] 30)
          have MW2 : Hid ((W1.alloc (.cells #[.nilIface, .int .i64 0] 30)).heap[W1.heap.size]? = some (.cells #[.nilIface, .int .i64 0] 30 (0, 0))) := Go.Deep.blk_alloc_new _ _
          have LE17 : Hid (w2.heap.size ≤ W1.heap.size) := BW1.out.size
          have BW2 := hide (bel_trans BW1.out hb)
          have NW2 := hide (NW1.out.bel hb)
          have NE : Hid (bn ≠ W1.heap.size) := Nat.ne_of_lt (lt_of_blk NW1.out)
          have hS2 := (show _ ∧ _ from ⟨(hb.cell (p := ⟨g5, I, none⟩) (World.block_lt_of_cell? W1 _ hH.1)).trans hH.1, (hb.cell (p := ⟨g5, K, none⟩) (World.block_lt_of_cell? W1 _ hH.2)).trans hH.2⟩)
          generalize W1.alloc (.cells #[.nilIface, .int .i64 0] 30) = W2 at *
          obtain ⟨bb, hbb⟩ : ∃ bb, bb = W1.heap.size := ⟨_, rfl⟩
          rw [← hbb]
          rw [← hbb] at MW2 LE17 NE
          clear hbb
          refine hK1.out _ _ hS2 (fun hH => ?_)
          clear hK1 K1 hb hS2
          refine wpAnyH_ready (rs := [12]) (by kernel_rfl) (by decide) ?_
          refine AllReadyH.cons rfl (fun K1 hK1 => ?_) AllReadyH.nil
          go_simp
          refine (HX.out _ (E2.out.bel BW2.out)).mono ?_
          rintro e W3 ⟨gk, ck, hc1, hc2, rfl, x3, y3, hgf, hb⟩
          have XW3 := hide x3
          have YW3 := hide y3
          have hgk : Hid (gk ≠ bn) := by show _ ≠ _; have := lt_of_blk NW2.out; omega
          have hgkb : Hid (gk ≠ bb) := by show _ ≠ _; have := lt_of_blk MW2.out; omega
          clear x3 y3 hgf
          have BW3 := hide (bel_trans BW2.out hb)
          have NW3 := hide (NW2.out.bel hb)
          have MW3 := hide ((hb.block _ (lt_of_blk MW2.out)).trans MW2.out)
          refine hK1.out _ _ ⟨(hb.cell (p := ⟨g5, I, none⟩) (World.block_lt_of_cell? W2 _ hH.1)).trans hH.1, (hb.cell (p := ⟨g5, K, none⟩) (World.block_lt_of_cell? W2 _ hH.2)).trans hH.2⟩ (fun hH => ?_)
          clear hK1 K1 hb
          refine wpAnyH_take (i := 13) (v := ?_) rfl (by kernel_rfl) (by kernel_rfl) (by kernel_rfl) (fun _ _ _ h => h) (Or.inl ⟨by rfl, ?_⟩) hH ?_
          rotate_left 1
          · (intro w hSw; (try dsimp only at hSw); go_simp <;> (first | (with_reducible rfl) | (rw [if_neg (by omega)])))
          simp only [Act.put, List.getElem_toArray, List.getElem_cons_zero, List.getElem_cons_succ, List.setIfInBounds_toArray, List.set_cons_zero, List.set_cons_succ]
          refine wpAnyH_take (i := 14) (v := ?_) rfl (by kernel_rfl) (by kernel_rfl) (by kernel_rfl) (fun _ _ _ h => h) (Or.inl ⟨by rfl, ?_⟩) hH ?_
          rotate_left 1
          · (intro w hSw; (try dsimp only at hSw); go_simp <;> (first | (with_reducible rfl) | (rw [if_neg (by omega)])))
          simp only [Act.put, List.getElem_toArray, List.getElem_cons_zero, List.getElem_cons_succ, List.setIfInBounds_toArray, List.set_cons_zero, List.set_cons_succ]
          refine wpAnyH_take (i := 15) (v := ?_) rfl (by kernel_rfl) (by kernel_rfl) (by kernel_rfl) (fun _ _ _ h => h) (Or.inl ⟨by rfl, ?_⟩) hH ?_
          rotate_left 1
          · (intro w hSw; (try dsimp only at hSw); go_simp <;> (first | (with_reducible rfl) | (rw [if_neg (by omega)])))
          simp only [Act.put, List.getElem_toArray, List.getElem_cons_zero, List.getElem_cons_succ, List.setIfInBounds_toArray, List.set_cons_zero, List.set_cons_succ]
          refine wpAnyH_ready (rs := [18]) (by kernel_rfl) (by decide) ?_
          refine AllReadyH.cons rfl (fun K1 hK1 => ?_) AllReadyH.nil
          have hne : bn ≠ bb := by have := NE.out; omega
          obtain ⟨⟨p0, p1, p2, p3, p4, p5, p6, p7, p8⟩, q0, q1, q2, q3, q4, q5, q6, q7, q8⟩ := NW3.out.all
          go_simp
          obtain ⟨z9, s9⟩ := set9 NW3.out (.int .i64 31) (.int .i64 ps) (.string nm) (.int .i64 t) (.int .i64 nz) (.int .i64 z) (.int .i64 ob) (.int .u64 bi) (.slice (some ⟨gk, 0, none⟩) 2 ck)
          have NW4 := hide z9
          have MW4 := hide ((s9.blk _ (lt_of_blk MW3.out) (Ne.symm hne)).trans MW3.out)
          have BW4 := hide (BW3.out.trans (s9.bel LE16.out BW3.out.size))
          have hg5 : g5 ≠ bn := by have := LE16.out; have := HG5.out; omega
          have hS4 : ((((((((((W3.setCell ⟨bn, 0, none⟩ (.int .i64 31)).setCell ⟨bn, 1, none⟩ (.int .i64 ps)).setCell ⟨bn, 2, none⟩ (.string nm)).setCell ⟨bn, 3, none⟩ (.int .i64 t)).setCell ⟨bn, 4, none⟩ (.int .i64 nz)).setCell ⟨bn, 5, none⟩ (.int .i64 z)).setCell ⟨bn, 6, none⟩ (.int .i64 ob)).setCell ⟨bn, 7, none⟩ (.int .u64 bi)).setCell ⟨bn, 8, none⟩ (.slice (some ⟨gk, 0, none⟩) 2 ck)).cell? ⟨g5, I, none⟩ = some (.string oI) ∧ (((((((((W3.setCell ⟨bn, 0, none⟩ (.int .i64 31)).setCell ⟨bn, 1, none⟩ (.int .i64 ps)).setCell ⟨bn, 2, none⟩ (.string nm)).setCell ⟨bn, 3, none⟩ (.int .i64 t)).setCell ⟨bn, 4, none⟩ (.int .i64 nz)).setCell ⟨bn, 5, none⟩ (.int .i64 z)).setCell ⟨bn, 6, none⟩ (.int .i64 ob)).setCell ⟨bn, 7, none⟩ (.int .u64 bi)).setCell ⟨bn, 8, none⟩ (.slice (some ⟨gk, 0, none⟩) 2 ck)).cell? ⟨g5, K, none⟩ = some (.string oK)) := ⟨s9.cell hg5 hH.1, s9.cell hg5 hH.2⟩
          have XW4 := hide (s9.cell hgk.out XW3.out)
          have YW4 := hide (s9.cell hgk.out YW3.out)
          clear p0 p1 p2 p3 p4 p5 p6 p7 p8 q0 q1 q2 q3 q4 q5 q6 q7 q8 z9 s9
          generalize ((((((((W3.setCell ⟨bn, 0, none⟩ (.int .i64 31)).setCell ⟨bn, 1, none⟩ (.int .i64 ps)).setCell ⟨bn, 2, none⟩ (.string nm)).setCell ⟨bn, 3, none⟩ (.int .i64 t)).setCell ⟨bn, 4, none⟩ (.int .i64 nz)).setCell ⟨bn, 5, none⟩ (.int .i64 z)).setCell ⟨bn, 6, none⟩ (.int .i64 ob)).setCell ⟨bn, 7, none⟩ (.int .u64 bi)).setCell ⟨bn, 8, none⟩ (.slice (some ⟨gk, 0, none⟩) 2 ck) = W4 at *
          refine hK1.out _ _ hS4 (fun hH => ?_)
          clear hK1 K1 hS4
          refine wpAnyH_ready (rs := [19]) (by kernel_rfl) (by decide) ?_
          refine AllReadyH.cons rfl (fun K1 hK1 => ?_) AllReadyH.nil
          have p0 := blk_frz MW4.out 0
          have p1 := blk_frz MW4.out 1
          have q0 := blk_cell MW4.out 0 _ rfl
          have q1 := blk_cell MW4.out 1 _ rfl
          go_simp
          obtain ⟨z1, s1⟩ := set1 MW4.out 0 (.nilIface)
          obtain ⟨z2, s2⟩ := set1 z1 1 (.int .i64 0)
          have MW5 := hide z2
          have NW5 := hide ((NW4.out.tn s1 hne).tn s2 hne)
          have BW5 := hide ((BW4.out.trans (s1.bel LE17.out BW4.out.size)).trans (s2.bel LE17.out (Nat.le_trans BW4.out.size s1.size)))
          have hg5b : g5 ≠ bb := by have := LE17.out; have := HG5.out; omega
          have XW5 := hide (s2.cell hgkb.out (s1.cell hgkb.out XW4.out))
          have YW5 := hide (s2.cell hgkb.out (s1.cell hgkb.out YW4.out))
          have hS5 : (((W4.setCell ⟨bb, 0, none⟩ (.nilIface)).setCell ⟨bb, 1, none⟩ (.int .i64 0)).cell? ⟨g5, I, none⟩ = some (.string oI) ∧ ((W4.setCell ⟨bb, 0, none⟩ (.nilIface)).setCell ⟨bb, 1, none⟩ (.int .i64 0)).cell? ⟨g5, K, none⟩ = some (.string oK)) := ⟨s2.cell hg5b (s1.cell hg5b hH.1), s2.cell hg5b (s1.cell hg5b hH.2)⟩
          clear p0 p1 q0 q1 z1 s1 z2 s2
          generalize (W4.setCell ⟨bb, 0, none⟩ (.nilIface)).setCell ⟨bb, 1, none⟩ (.int .i64 0) = W5 at *
          refine hK1.out _ _ hS5 (fun hH => ?_)
          clear hK1 K1 hS5
          refine wpAnyH_done (by kernel_rfl) ?_ _
          go_wp2_with fail
          go_meet
          case rel =>
            exact ⟨gk, ck, bn, bb, rfl, rfl, NW5.out, MW5.out, BW5.out, XW5.out, YW5.out, hc1, hc2⟩
      · go_simp
        have hb := bel_new W0 (.cells #[.nilIface, .int .i64 0] 30)
        have MW1 : Hid ((W0.alloc (.cells #[.nilIface, .int .i64 0] 30)).heap[W0.heap.size]? = some (.cells #[.nilIface, .int .i64 0] 30 (0, 0))) := Go.Deep.blk_alloc_new _ _
        have LE17 : Hid (w2.heap.size ≤ W0.heap.size) := BW0.out.size
        have BW1 := hide (bel_trans BW0.out hb)
        have hS1 := (show _ ∧ _ from ⟨(hb.cell (p := ⟨g5, I, none⟩) (World.block_lt_of_cell? W0 _ hH.1)).trans hH.1, (hb.cell (p := ⟨g5, K, none⟩) (World.block_lt_of_cell? W0 _ hH.2)).trans hH.2⟩)
        generalize W0.alloc (.cells #[.nilIface, .int .i64 0] 30) = W1 at *
        obtain ⟨bb, hbb⟩ : ∃ bb, bb = W0.heap.size := ⟨_, rfl⟩
        rw [← hbb]
        rw [← hbb] at MW1 LE17
        clear hbb
        refine hK1.out _ _ hS1 (fun hH => ?_)
        clear hK1 K1 hb hS1
        refine wpAnyH_ready (rs := [12, 16]) (by kernel_rfl) (by decide) ?_
        refine AllReadyH.cons rfl (fun K1 hK1 => ?_) (AllReadyH.cons rfl (fun K1 hK1 => ?_) AllReadyH.nil)
        · go_simp
          refine (HX.out _ (E2.out.bel BW1.out)).mono ?_
          rintro e W2 ⟨gk, ck, hc1, hc2, rfl, x2, y2, hgf, hb⟩
          have XW2 := hide x2
          have YW2 := hide y2
          have hgkb : Hid (gk ≠ bb) := by show _ ≠ _; have := lt_of_blk MW1.out; omega
          clear x2 y2 hgf
          have BW2 := hide (bel_trans BW1.out hb)
          have MW2 := hide ((hb.block _ (lt_of_blk MW1.out)).trans MW1.out)
          refine hK1.out _ _ ⟨(hb.cell (p := ⟨g5, I, none⟩) (World.block_lt_of_cell? W1 _ hH.1)).trans hH.1, (hb.cell (p := ⟨g5, K, none⟩) (World.block_lt_of_cell? W1 _ hH.2)).trans hH.2⟩ (fun hH => ?_)
          clear hK1 K1 hb
          refine wpAnyH_take (i := 13) (v := ?_) rfl (by kernel_rfl) (by kernel_rfl) (by kernel_rfl) (fun _ _ _ h => h) (Or.inl ⟨by rfl, ?_⟩) hH ?_
          rotate_left 1
          · (intro w hSw; (try dsimp only at hSw); go_simp <;> (first | (with_reducible rfl) | (rw [if_neg (by omega)])))
          simp only [Act.put, List.getElem_toArray, List.getElem_cons_zero, List.getElem_cons_succ, List.setIfInBounds_toArray, List.set_cons_zero, List.set_cons_succ]
          refine wpAnyH_take (i := 14) (v := ?_) rfl (by kernel_rfl) (by kernel_rfl) (by kernel_rfl) (fun _ _ _ h => h) (Or.inl ⟨by rfl, ?_⟩) hH ?_
          rotate_left 1
          · (intro w hSw; (try dsimp only at hSw); go_simp <;> (first | (with_reducible rfl) | (rw [if_neg (by omega)])))
          simp only [Act.put, List.getElem_toArray, List.getElem_cons_zero, List.getElem_cons_succ, List.setIfInBounds_toArray, List.set_cons_zero, List.set_cons_succ]
          refine wpAnyH_take (i := 15) (v := ?_) rfl (by kernel_rfl) (by kernel_rfl) (by kernel_rfl) (fun _ _ _ h => h) (Or.inl ⟨by rfl, ?_⟩) hH ?_
          rotate_left 1
          · (intro w hSw; (try dsimp only at hSw); go_simp <;> (first | (with_reducible rfl) | (rw [if_neg (by omega)])))
          simp only [Act.put, List.getElem_toArray, List.getElem_cons_zero, List.getElem_cons_succ, List.setIfInBounds_toArray, List.set_cons_zero, List.set_cons_succ]
          refine wpAnyH_ready (rs := [16]) (by kernel_rfl) (by decide) ?_
          refine AllReadyH.cons rfl (fun K1 hK1 => ?_) AllReadyH.nil
          go_simp
          have hb := bel_new W2 (.cells #[.int .i64 0, .int .i64 0, .string ⟨#[]⟩, .int .i64 0, .int .i64 0, .int .i64 0, .int .i64 0, .int .u64 0, .slice none 0 0] 26)
          have NW3 : Hid (Nod (W2.alloc (.cells #[.int .i64 0, .int .i64 0, .string ⟨#[]⟩, .int .i64 0, .int .i64 0, .int .i64 0, .int .i64 0, .int .u64 0, .slice none 0 0] 26)) W2.heap.size (.int .i64 0) (.int .i64 0) (.string ⟨#[]⟩) (.int .i64 0) (.int .i64 0) (.int .i64 0) (.int .i64 0) (.int .u64 0) (.slice none 0 0)) := Go.Deep.blk_alloc_new _ _
          have LE16 : Hid (w2.heap.size ≤ W2.heap.size) := BW2.out.size
          have BW3 := hide (bel_trans BW2.out hb)
          have MW3 := hide ((hb.block _ (lt_of_blk MW2.out)).trans MW2.out)
          have XW3 := hide ((hb.cell (p := ⟨gk, 2, none⟩) (World.block_lt_of_cell? W2 _ XW2.out)).trans XW2.out)
          have YW3 := hide ((hb.cell (p := ⟨gk, 11, none⟩) (World.block_lt_of_cell? W2 _ YW2.out)).trans YW2.out)
          have NE : Hid (bb ≠ W2.heap.size) := Nat.ne_of_lt (lt_of_blk MW2.out)
          have hgk : Hid (gk ≠ W2.heap.size) := Nat.ne_of_lt (World.block_lt_of_cell? W2 _ XW2.out)
          have hS3 := (show _ ∧ _ from ⟨(hb.cell (p := ⟨g5, I, none⟩) (World.block_lt_of_cell? W2 _ hH.1)).trans hH.1, (hb.cell (p := ⟨g5, K, none⟩) (World.block_lt_of_cell? W2 _ hH.2)).trans hH.2⟩)
          generalize W2.alloc (.cells #[.int .i64 0, .int .i64 0, .string ⟨#[]⟩, .int .i64 0, .int .i64 0, .int .i64 0, .int .i64 0, .int .u64 0, .slice none 0 0] 26) = W3 at *
          obtain ⟨bn, hbn⟩ : ∃ bn, bn = W2.heap.size := ⟨_, rfl⟩
          rw [← hbn]
          rw [← hbn] at NW3 LE16 NE hgk
          clear hbn
          refine hK1.out _ _ hS3 (fun hH => ?_)
          clear hK1 K1 hb hS3
          refine wpAnyH_ready (rs := [18]) (by kernel_rfl) (by decide) ?_
          refine AllReadyH.cons rfl (fun K1 hK1 => ?_) AllReadyH.nil
          have hne : bn ≠ bb := by have := NE.out; omega
          obtain ⟨⟨p0, p1, p2, p3, p4, p5, p6, p7, p8⟩, q0, q1, q2, q3, q4, q5, q6, q7, q8⟩ := NW3.out.all
          go_simp
          obtain ⟨z9, s9⟩ := set9 NW3.out (.int .i64 31) (.int .i64 ps) (.string nm) (.int .i64 t) (.int .i64 nz) (.int .i64 z) (.int .i64 ob) (.int .u64 bi) (.slice (some ⟨gk, 0, none⟩) 2 ck)
          have NW4 := hide z9
          have MW4 := hide ((s9.blk _ (lt_of_blk MW3.out) (Ne.symm hne)).trans MW3.out)
          have BW4 := hide (BW3.out.trans (s9.bel LE16.out BW3.out.size))
          have hg5 : g5 ≠ bn := by have := LE16.out; have := HG5.out; omega
          have hS4 : ((((((((((W3.setCell ⟨bn, 0, none⟩ (.int .i64 31)).setCell ⟨bn, 1, none⟩ (.int .i64 ps)).setCell ⟨bn, 2, none⟩ (.string nm)).setCell ⟨bn, 3, none⟩ (.int .i64 t)).setCell ⟨bn, 4, none⟩ (.int .i64 nz)).setCell ⟨bn, 5, none⟩ (.int .i64 z)).setCell ⟨bn, 6, none⟩ (.int .i64 ob)).setCell ⟨bn, 7, none⟩ (.int .u64 bi)).setCell ⟨bn, 8, none⟩ (.slice (some ⟨gk, 0, none⟩) 2 ck)).cell? ⟨g5, I, none⟩ = some (.string oI) ∧ (((((((((W3.setCell ⟨bn, 0, none⟩ (.int .i64 31)).setCell ⟨bn, 1, none⟩ (.int .i64 ps)).setCell ⟨bn, 2, none⟩ (.string nm)).setCell ⟨bn, 3, none⟩ (.int .i64 t)).setCell ⟨bn, 4, none⟩ (.int .i64 nz)).setCell ⟨bn, 5, none⟩ (.int .i64 z)).setCell ⟨bn, 6, none⟩ (.int .i64 ob)).setCell ⟨bn, 7, none⟩ (.int .u64 bi)).setCell ⟨bn, 8, none⟩ (.slice (some ⟨gk, 0, none⟩) 2 ck)).cell? ⟨g5, K, none⟩ = some (.string oK)) := ⟨s9.cell hg5 hH.1, s9.cell hg5 hH.2⟩
          have XW4 := hide (s9.cell hgk.out XW3.out)
          have YW4 := hide (s9.cell hgk.out YW3.out)
          clear p0 p1 p2 p3 p4 p5 p6 p7 p8 q0 q1 q2 q3 q4 q5 q6 q7 q8 z9 s9
          generalize ((((((((W3.setCell ⟨bn, 0, none⟩ (.int .i64 31)).setCell ⟨bn, 1, none⟩ (.int .i64 ps)).setCell ⟨bn, 2, none⟩ (.string nm)).setCell ⟨bn, 3, none⟩ (.int .i64 t)).setCell ⟨bn, 4, none⟩ (.int .i64 nz)).setCell ⟨bn, 5, none⟩ (.int .i64 z)).setCell ⟨bn, 6, none⟩ (.int .i64 ob)).setCell ⟨bn, 7, none⟩ (.int .u64 bi)).setCell ⟨bn, 8, none⟩ (.slice (some ⟨gk, 0, none⟩) 2 ck) = W4 at *
          refine hK1.out _ _ hS4 (fun hH => ?_)
          clear hK1 K1 hS4
          refine wpAnyH_ready (rs := [19]) (by kernel_rfl) (by decide) ?_
          refine AllReadyH.cons rfl (fun K1 hK1 => ?_) AllReadyH.nil
          have p0 := blk_frz MW4.out 0
          have p1 := blk_frz MW4.out 1
          have q0 := blk_cell MW4.out 0 _ rfl
          have q1 := blk_cell MW4.out 1 _ rfl
          go_simp
          obtain ⟨z1, s1⟩ := set1 MW4.out 0 (.nilIface)
          obtain ⟨z2, s2⟩ := set1 z1 1 (.int .i64 0)
          have MW5 := hide z2
          have NW5 := hide ((NW4.out.tn s1 hne).tn s2 hne)
          have BW5 := hide ((BW4.out.trans (s1.bel LE17.out BW4.out.size)).trans (s2.bel LE17.out (Nat.le_trans BW4.out.size s1.size)))
          have hg5b : g5 ≠ bb := by have := LE17.out; have := HG5.out; omega
          have XW5 := hide (s2.cell hgkb.out (s1.cell hgkb.out XW4.out))
          have YW5 := hide (s2.cell hgkb.out (s1.cell hgkb.out YW4.out))
          have hS5 : (((W4.setCell ⟨bb, 0, none⟩ (.nilIface)).setCell ⟨bb, 1, none⟩ (.int .i64 0)).cell? ⟨g5, I, none⟩ = some (.string oI) ∧ ((W4.setCell ⟨bb, 0, none⟩ (.nilIface)).setCell ⟨bb, 1, none⟩ (.int .i64 0)).cell? ⟨g5, K, none⟩ = some (.string oK)) := ⟨s2.cell hg5b (s1.cell hg5b hH.1), s2.cell hg5b (s1.cell hg5b hH.2)⟩
          clear p0 p1 q0 q1 z1 s1 z2 s2
          generalize (W4.setCell ⟨bb, 0, none⟩ (.nilIface)).setCell ⟨bb, 1, none⟩ (.int .i64 0) = W5 at *
          refine hK1.out _ _ hS5 (fun hH => ?_)
          clear hK1 K1 hS5
          refine wpAnyH_done (by kernel_rfl) ?_ _
          go_wp2_with fail
          go_meet
          case rel =>
            exact ⟨gk, ck, bn, bb, rfl, rfl, NW5.out, MW5.out, BW5.out, XW5.out, YW5.out, hc1, hc2⟩
        · go_simp
          have hb := bel_new W1 (.cells #[.int .i64 0, .int .i64 0, .string ⟨#[]⟩, .int .i64 0, .int .i64 0, .int .i64 0, .int .i64 0, .int .u64 0, .slice none 0 0] 26)
          have NW2 : Hid (Nod (W1.alloc (.cells #[.int .i64 0, .int .i64 0, .string ⟨#[]⟩, .int .i64 0, .int .i64 0, .int .i64 0, .int .i64 0, .int .u64 0, .slice none 0 0] 26)) W1.heap.size (.int .i64 0) (.int .i64 0) (.string ⟨#[]⟩) (.int .i64 0) (.int .i64 0) (.int .i64 0) (.int .i64 0) (.int .u64 0) (.slice none 0 0)) := Go.Deep.blk_alloc_new _ _
          have LE16 : Hid (w2.heap.size ≤ W1.heap.size) := BW1.out.size
          have BW2 := hide (bel_trans BW1.out hb)
          have MW2 := hide ((hb.block _ (lt_of_blk MW1.out)).trans MW1.out)
          have NE : Hid (bb ≠ W1.heap.size) := Nat.ne_of_lt (lt_of_blk MW1.out)
          have hS2 := (show _ ∧ _ from ⟨(hb.cell (p := ⟨g5, I, none⟩) (World.block_lt_of_cell? W1 _ hH.1)).trans hH.1, (hb.cell (p := ⟨g5, K, none⟩) (World.block_lt_of_cell? W1 _ hH.2)).trans hH.2⟩)
          generalize W1.alloc (.cells #[.int .i64 0, .int .i64 0, .string ⟨#[]⟩, .int .i64 0, .int .i64 0, .int .i64 0, .int .i64 0, .int .u64 0, .slice none 0 0] 26) = W2 at *
          obtain ⟨bn, hbn⟩ : ∃ bn, bn = W1.heap.size := ⟨_, rfl⟩
          rw [← hbn]
          rw [← hbn] at NW2 LE16 NE
          clear hbn
          refine hK1.out _ _ hS2 (fun hH => ?_)
          clear hK1 K1 hb hS2
          refine wpAnyH_ready (rs := [12]) (by kernel_rfl) (by decide) ?_
          refine AllReadyH.cons rfl (fun K1 hK1 => ?_) AllReadyH.nil
          go_simp
          refine (HX.out _ (E2.out.bel BW2.out)).mono ?_
          rintro e W3 ⟨gk, ck, hc1, hc2, rfl, x3, y3, hgf, hb⟩
          have XW3 := hide x3
          have YW3 := hide y3
          have hgk : Hid (gk ≠ bn) := by show _ ≠ _; have := lt_of_blk NW2.out; omega
          have hgkb : Hid (gk ≠ bb) := by show _ ≠ _; have := lt_of_blk MW2.out; omega
          clear x3 y3 hgf
          have BW3 := hide (bel_trans BW2.out hb)
          have NW3 := hide (NW2.out.bel hb)
          have MW3 := hide ((hb.block _ (lt_of_blk MW2.out)).trans MW2.out)
          refine hK1.out _ _ ⟨(hb.cell (p := ⟨g5, I, none⟩) (World.block_lt_of_cell? W2 _ hH.1)).trans hH.1, (hb.cell (p := ⟨g5, K, none⟩) (World.block_lt_of_cell? W2 _ hH.2)).trans hH.2⟩ (fun hH => ?_)
          clear hK1 K1 hb
          refine wpAnyH_take (i := 13) (v := ?_) rfl (by kernel_rfl) (by kernel_rfl) (by kernel_rfl) (fun _ _ _ h => h) (Or.inl ⟨by rfl, ?_⟩) hH ?_
          rotate_left 1
          · (intro w hSw; (try dsimp only at hSw); go_simp <;> (first | (with_reducible rfl) | (rw [if_neg (by omega)])))
          simp only [Act.put, List.getElem_toArray, List.getElem_cons_zero, List.getElem_cons_succ, List.setIfInBounds_toArray, List.set_cons_zero, List.set_cons_succ]
          refine wpAnyH_take (i := 14) (v := ?_) rfl (by kernel_rfl) (by kernel_rfl) (by kernel_rfl) (fun _ _ _ h => h) (Or.inl ⟨by rfl, ?_⟩) hH ?_
          rotate_left 1
          · (intro w hSw; (try dsimp only at hSw); go_simp <;> (first | (with_reducible rfl) | (rw [if_neg (by omega)])))
          simp only [Act.put, List.getElem_toArray, List.getElem_cons_zero, List.getElem_cons_succ, List.setIfInBounds_toArray, List.set_cons_zero, List.set_cons_succ]
          refine wpAnyH_take (i := 15) (v := ?_) rfl (by kernel_rfl) (by kernel_rfl) (by kernel_rfl) (fun _ _ _ h => h) (Or.inl ⟨by rfl, ?_⟩) hH ?_
          rotate_left 1
          · (intro w hSw; (try dsimp only at hSw); go_simp <;> (first | (with_reducible rfl) | (rw [if_neg (by omega)])))
          simp only [Act.put, List.getElem_toArray, List.getElem_cons_zero, List.getElem_cons_succ, List.setIfInBounds_toArray, List.set_cons_zero, List.set_cons_succ]
          refine wpAnyH_ready (rs := [18]) (by kernel_rfl) (by decide) ?_
          refine AllReadyH.cons rfl (fun K1 hK1 => ?_) AllReadyH.nil
          have hne : bn ≠ bb := by have := NE.out; omega
          obtain ⟨⟨p0, p1, p2, p3, p4, p5, p6, p7, p8⟩, q0, q1, q2, q3, q4, q5, q6, q7, q8⟩ := NW3.out.all
          go_simp
          obtain ⟨z9, s9⟩ := set9 NW3.out (.int .i64 31) (.int .i64 ps) (.string nm) (.int .i64 t) (.int .i64 nz) (.int .i64 z) (.int .i64 ob) (.int .u64 bi) (.slice (some ⟨gk, 0, none⟩) 2 ck)
          have NW4 := hide z9
          have MW4 := hide ((s9.blk _ (lt_of_blk MW3.out) (Ne.symm hne)).trans MW3.out)
          have BW4 := hide (BW3.out.trans (s9.bel LE16.out BW3.out.size))
          have hg5 : g5 ≠ bn := by have := LE16.out; have := HG5.out; omega
          have hS4 : ((((((((((W3.setCell ⟨bn, 0, none⟩ (.int .i64 31)).setCell ⟨bn, 1, none⟩ (.int .i64 ps)).setCell ⟨bn, 2, none⟩ (.string nm)).setCell ⟨bn, 3, none⟩ (.int .i64 t)).setCell ⟨bn, 4, none⟩ (.int .i64 nz)).setCell ⟨bn, 5, none⟩ (.int .i64 z)).setCell ⟨bn, 6, none⟩ (.int .i64 ob)).setCell ⟨bn, 7, none⟩ (.int .u64 bi)).setCell ⟨bn, 8, none⟩ (.slice (some ⟨gk, 0, none⟩) 2 ck)).cell? ⟨g5, I, none⟩ = some (.string oI) ∧ (((((((((W3.setCell ⟨bn, 0, none⟩ (.int .i64 31)).setCell ⟨bn, 1, none⟩ (.int .i64 ps)).setCell ⟨bn, 2, none⟩ (.string nm)).setCell ⟨bn, 3, none⟩ (.int .i64 t)).setCell ⟨bn, 4, none⟩ (.int .i64 nz)).setCell ⟨bn, 5, none⟩ (.int .i64 z)).setCell ⟨bn, 6, none⟩ (.int .i64 ob)).setCell ⟨bn, 7, none⟩ (.int .u64 bi)).setCell ⟨bn, 8, none⟩ (.slice (some ⟨gk, 0, none⟩) 2 ck)).cell? ⟨g5, K, none⟩ = some (.string oK)) := ⟨s9.cell hg5 hH.1, s9.cell hg5 hH.2⟩
          have XW4 := hide (s9.cell hgk.out XW3.out)
          have YW4 := hide (s9.cell hgk.out YW3.out)
          clear p0 p1 p2 p3 p4 p5 p6 p7 p8 q0 q1 q2 q3 q4 q5 q6 q7 q8 z9 s9
          generalize ((((((((W3.setCell ⟨bn, 0, none⟩ (.int .i64 31)).setCell ⟨bn, 1, none⟩ (.int .i64 ps)).setCell ⟨bn, 2, none⟩ (.string nm)).setCell ⟨bn, 3, none⟩ (.int .i64 t)).setCell ⟨bn, 4, none⟩ (.int .i64 nz)).setCell ⟨bn, 5, none⟩ (.int .i64 z)).setCell ⟨bn, 6, none⟩ (.int .i64 ob)).setCell ⟨bn, 7, none⟩ (.int .u64 bi)).setCell ⟨bn, 8, none⟩ (.slice (some ⟨gk, 0, none⟩) 2 ck) = W4 at *
          refine hK1.out _ _ hS4 (fun hH => ?_)
          clear hK1 K1 hS4
          refine wpAnyH_ready (rs := [19]) (by kernel_rfl) (by decide) ?_
          refine AllReadyH.cons rfl (fun K1 hK1 => ?_) AllReadyH.nil
          have p0 := blk_frz MW4.out 0
          have p1 := blk_frz MW4.out 1
          have q0 := blk_cell MW4.out 0 _ rfl
          have q1 := blk_cell MW4.out 1 _ rfl
          go_simp
          obtain ⟨z1, s1⟩ := set1 MW4.out 0 (.nilIface)
          obtain ⟨z2, s2⟩ := set1 z1 1 (.int .i64 0)
          have MW5 := hide z2
          have NW5 := hide ((NW4.out.tn s1 hne).tn s2 hne)
          have BW5 := hide ((BW4.out.trans (s1.bel LE17.out BW4.out.size)).trans (s2.bel LE17.out (Nat.le_trans BW4.out.size s1.size)))
          have hg5b : g5 ≠ bb := by have := LE17.out; have := HG5.out; omega
          have XW5 := hide (s2.cell hgkb.out (s1.cell hgkb.out XW4.out))
          have YW5 := hide (s2.cell hgkb.out (s1.cell hgkb.out YW4.out))
          have hS5 : (((W4.setCell ⟨bb, 0, none⟩ (.nilIface)).setCell ⟨bb, 1, none⟩ (.int .i64 0)).cell? ⟨g5, I, none⟩ = some (.string oI) ∧ ((W4.setCell ⟨bb, 0, none⟩ (.nilIface)).setCell ⟨bb, 1, none⟩ (.int .i64 0)).cell? ⟨g5, K, none⟩ = some (.string oK)) := ⟨s2.cell hg5b (s1.cell hg5b hH.1), s2.cell hg5b (s1.cell hg5b hH.2)⟩
          clear p0 p1 q0 q1 z1 s1 z2 s2
          generalize (W4.setCell ⟨bb, 0, none⟩ (.nilIface)).setCell ⟨bb, 1, none⟩ (.int .i64 0) = W5 at *
          refine hK1.out _ _ hS5 (fun hH => ?_)
          clear hK1 K1 hS5
          refine wpAnyH_done (by kernel_rfl) ?_ _
          go_wp2_with fail
          go_meet
          case rel =>
            exact ⟨gk, ck, bn, bb, rfl, rfl, NW5.out, MW5.out, BW5.out, XW5.out, YW5.out, hc1, hc2⟩
    case rest =>
      obtain ⟨gk, ck, bn, bb, rfl, rfl, N9, M9, B9, X9, Y9, hc1, hc2⟩ := hcut
      have r3 := (B9.out.cell (p := ⟨g5 + 1, I, none⟩) (World.block_lt_of_cell? w2 _ R3.out)).trans R3.out
      have r4 := (B9.out.cell (p := ⟨g5 + 1, K, none⟩) (World.block_lt_of_cell? w2 _ R4.out)).trans R4.out
      have sI := (B9.out.cell (p := ⟨g5, I, none⟩) (World.block_lt_of_cell? w2 _ HSI)).trans HSI
      have sK := (B9.out.cell (p := ⟨g5, K, none⟩) (World.block_lt_of_cell? w2 _ HSK)).trans HSK
      have m0 := blk_cell M9.out 0 _ rfl
      obtain ⟨_, q0, q1, q2, q3, q4, q5, q6, q7, q8⟩ := N9.out.all
      have x9 := X9.out
      have y9 := Y9.out
      clear HS HX HSI HSK
      rcases HC.out with ⟨hr, rfl, rfl, rfl⟩ | ⟨hr, rfl, rfl, rfl⟩
      · by_cases h3 : a = 3
        · have h4 : ¬ b = 3 := fun e => HN.out ⟨h3, e⟩
          subst h3
          go_wp2_with fail
          go_region
          go_wp2_with fail
          go_region
          go_wp2_with fail
          go_ret
          exact ⟨rfl, bel_trans B2.out (bel_drawn (bel_drawn B9.out))⟩
        · go_wp2_with fail
          go_region
          go_wp2_with fail
          go_region
          go_wp2_with fail
          go_ret
          exact ⟨rfl, bel_trans B2.out (bel_drawn (bel_drawn B9.out))⟩
      · have hr' : ¬ b ≤ a := by omega
        by_cases h3 : a = 3
        · have h4 : ¬ b = 3 := fun e => HN.out ⟨h3, e⟩
          subst h3
          go_wp2_with fail
          go_region
          go_wp2_with fail
          go_region
          go_wp2_with fail
          go_ret
          exact ⟨rfl, bel_trans B2.out (bel_drawn (bel_drawn B9.out))⟩
        · go_wp2_with fail
          go_region
          go_wp2_with fail
          go_region
          go_wp2_with fail
          go_ret
          exact ⟨rfl, bel_trans B2.out (bel_drawn (bel_drawn B9.out))⟩
end Go.Proofs.YtodgkfniimgfcaaGreatDoor.Ck
