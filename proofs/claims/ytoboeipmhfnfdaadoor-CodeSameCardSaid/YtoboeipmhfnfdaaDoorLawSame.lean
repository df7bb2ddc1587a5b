/- CodeSame walked. (Written by mk_ls.py.) -/
import Derived.Test.YtoboeipmhfnfdaaDoorGe
import Derived.Test.YtoboeipmhfnfdaaDoorCq
import Derived.Test.YtoboeipmhfnfdaaDoorCr
import Derived.Test.YtoboeipmhfnfdaaDoorDa
import Derived.Deep.CutRange
namespace Go.Proofs.YtoboeipmhfnfdaaDoor.Ck
open Go.RowKit

theorem set7 {w : World} {g : Nat} {z0 z1 z2 z3 z4 z5 z6 : Value} {T : TypeId} (h : w.heap[g]? = some (.cells #[z0, z1, z2, z3, z4, z5, z6] T (0, 0))) (v0 v1 v2 v3 v4 v5 v6 : Value) :
    (((((((w.setCell ⟨g, 0, none⟩ v0).setCell ⟨g, 1, none⟩ v1).setCell ⟨g, 2, none⟩ v2).setCell ⟨g, 3, none⟩ v3).setCell ⟨g, 4, none⟩ v4).setCell ⟨g, 5, none⟩ v5).setCell ⟨g, 6, none⟩ v6).heap[g]? = some (.cells #[v0, v1, v2, v3, v4, v5, v6] T (0, 0)) ∧ Tn g w (((((((w.setCell ⟨g, 0, none⟩ v0).setCell ⟨g, 1, none⟩ v1).setCell ⟨g, 2, none⟩ v2).setCell ⟨g, 3, none⟩ v3).setCell ⟨g, 4, none⟩ v4).setCell ⟨g, 5, none⟩ v5).setCell ⟨g, 6, none⟩ v6) := by
  obtain ⟨k0, t0⟩ := set1 h 0 v0
  have k0 : _ = some (Obj.cells #[v0, z1, z2, z3, z4, z5, z6] T (0, 0)) := k0
  obtain ⟨k1, t1⟩ := set1 k0 1 v1
  have k1 : _ = some (Obj.cells #[v0, v1, z2, z3, z4, z5, z6] T (0, 0)) := k1
  obtain ⟨k2, t2⟩ := set1 k1 2 v2
  have k2 : _ = some (Obj.cells #[v0, v1, v2, z3, z4, z5, z6] T (0, 0)) := k2
  obtain ⟨k3, t3⟩ := set1 k2 3 v3
  have k3 : _ = some (Obj.cells #[v0, v1, v2, v3, z4, z5, z6] T (0, 0)) := k3
  obtain ⟨k4, t4⟩ := set1 k3 4 v4
  have k4 : _ = some (Obj.cells #[v0, v1, v2, v3, v4, z5, z6] T (0, 0)) := k4
  obtain ⟨k5, t5⟩ := set1 k4 5 v5
  have k5 : _ = some (Obj.cells #[v0, v1, v2, v3, v4, v5, z6] T (0, 0)) := k5
  obtain ⟨k6, t6⟩ := set1 k5 6 v6
  have k6 : _ = some (Obj.cells #[v0, v1, v2, v3, v4, v5, v6] T (0, 0)) := k6
  exact ⟨k6, (((((t0.trans t1).trans t2).trans t3).trans t4).trans t5).trans t6⟩
theorem sum_mem : ∀ (F : List Fn3) (f : Fn3), f ∈ F → f.lo.length ≤ sumL F
  | [], _, h => by cases h
  | x :: F, f, h => by
    simp only [sumL, List.map_cons, List.sum_cons]
    rcases List.mem_cons.1 h with rfl | h
    · omega
    · have := sum_mem F f h
      unfold sumL at this
      omega
theorem sum_len : ∀ (F : List Fn3), F.length ≤ sumL F
  | [] => Nat.zero_le _
  | x :: F => by
    have := sum_len F
    simp only [sumL, List.map_cons, List.sum_cons, List.length_cons] at this ⊢
    omega
theorem sml_of {c : Cd} (h : longB c = false) : Sml c := by
  unfold longB lenC at h
  have h' := of_decide_eq_false h
  have h2 := sum_len c.F
  exact ⟨by omega, by omega, by omega, by omega, fun f hf => by have := sum_mem c.F f hf; omega⟩
theorem op_cases (op n : Int) : (op = 10 ∧ (opN op n).toList ≠ [] ∧ numF ops10 (opN op n) 0 = n) ∨ (op = 11 ∧ (opN op n).toList ≠ [] ∧ numF ops11 (opN op n) 0 = n) ∨ ((opN op n).toList = [] ∧ ¬ (op = 10 ∧ 1 ≤ n ∧ n ≤ 4) ∧ ¬ (op = 11 ∧ 1 ≤ n ∧ n ≤ 11)) := by
  by_cases h10 : op = 10
  · subst h10
    by_cases hn : 1 ≤ n ∧ n ≤ 4
    · left
      have : n = 1 ∨ n = 2 ∨ n = 3 ∨ n = 4 := by omega
      rcases this with rfl | rfl | rfl | rfl <;> refine ⟨rfl, ?_, ?_⟩ <;> decide +kernel
    · right
      right
      refine ⟨?_, fun h => hn h.2, fun h => by omega⟩
      unfold opN
      rw [if_neg (by simp only [opsL, if_true, ops10, List.length_cons, List.length_nil]; omega)]
      decide +kernel
  · by_cases h11 : op = 11
    · subst h11
      by_cases hn : 1 ≤ n ∧ n ≤ 11
      · right
        left
        have : n = 1 ∨ n = 2 ∨ n = 3 ∨ n = 4 ∨ n = 5 ∨ n = 6 ∨ n = 7 ∨ n = 8 ∨ n = 9 ∨ n = 10 ∨ n = 11 := by omega
        rcases this with rfl | rfl | rfl | rfl | rfl | rfl | rfl | rfl | rfl | rfl | rfl <;> refine ⟨rfl, ?_, ?_⟩ <;> decide +kernel
      · right
        right
        refine ⟨?_, fun h => by omega, fun h => hn h.2⟩
        unfold opN
        rw [if_neg (by simp only [opsL, ops11]; rw [if_neg (by omega), if_pos trivial]; simp only [List.length_cons, List.length_nil]; omega)]
        decide +kernel
    · right
      right
      refine ⟨?_, fun h => h10 h.1, fun h => h11 h.1⟩
      unfold opN opsL
      rw [if_neg h10, if_neg h11, if_neg (by simp; omega)]
      decide +kernel
set_option maxRecDepth 20000 in
set_option maxHeartbeats 8000000 in
theorem same_start {w : World} {p : List Addr} {vP vC vF vB uP uC uF uB : Value} {c d : Cd} (op n : Int) (ev : Ec w p) (h1 : Cv w vP vC vF vB c) (h2 : Cv w uP uC uF uB d) :
    Calls Tryd.prog 5 #[.agg #[vP, .int .i64 c.M, .int .i64 c.A, vC, vF, .int .i64 c.mn, vB, uP, .int .i64 d.M, .int .i64 d.A, uC, uF, .int .i64 d.mn, uB, .int .i64 op, .int .i64 n]] w (Vb w (.bool true)) := by
  obtain ⟨aP, cP, aC, cC, aF, cF, aB, cB, eP, eC, eF, eB⟩ := h1.form
  obtain ⟨aP2, cP2, aC2, cC2, aF2, cF2, aB2, cB2, eP2, eC2, eF2, eB2⟩ := h2.form
  subst eP eC eF eB eP2 eC2 eF2 eB2
  have V1 := hide (fun wz (hb : Below w.heap.size w wz) => h1.bel hb)
  have V2 := hide (fun wz (hb : Below w.heap.size w wz) => h2.bel hb)
  have HC := hide (fun wz (hb : Below w.heap.size w wz) => ev.bel hb)
  have b0 := bel_new w (.cells #[.slice aP c.P.length cP, .int .i64 c.M, .int .i64 c.A, .slice aC c.C.length cC, .slice aF c.F.length cF, .int .i64 c.mn, .slice aB c.B.length cB, .slice aP2 d.P.length cP2, .int .i64 d.M, .int .i64 d.A, .slice aC2 d.C.length cC2, .slice aF2 d.F.length cF2, .int .i64 d.mn, .slice aB2 d.B.length cB2, .int .i64 op, .int .i64 n] 47)
  have X0 := hide (show (w.alloc (.cells #[.slice aP c.P.length cP, .int .i64 c.M, .int .i64 c.A, .slice aC c.C.length cC, .slice aF c.F.length cF, .int .i64 c.mn, .slice aB c.B.length cB, .slice aP2 d.P.length cP2, .int .i64 d.M, .int .i64 d.A, .slice aC2 d.C.length cC2, .slice aF2 d.F.length cF2, .int .i64 d.mn, .slice aB2 d.B.length cB2, .int .i64 op, .int .i64 n] 47)).heap[w.heap.size]? = some (.cells #[.slice aP c.P.length cP, .int .i64 c.M, .int .i64 c.A, .slice aC c.C.length cC, .slice aF c.F.length cF, .int .i64 c.mn, .slice aB c.B.length cB, .slice aP2 d.P.length cP2, .int .i64 d.M, .int .i64 d.A, .slice aC2 d.C.length cC2, .slice aF2 d.F.length cF2, .int .i64 d.mn, .slice aB2 d.B.length cB2, .int .i64 op, .int .i64 n] 47 (0, 0)) from Go.Deep.blk_alloc_new _ _)
  have HB_wd := hide (bel_drawn b0)
  clear h1 h2 ev b0
  go_enter Tryd.func5, Tryd.ntmps5
  go_wp2_with fail
  go_cut [3, 4, 5, 6] from 8 to 15 (fun x3 x4 x5 x6 wc => ∃ b3 b4, x3 = .pointer (some ⟨b3, 0, none⟩) ∧ x4 = .pointer (some ⟨b4, 0, none⟩) ∧ x5 = .int .i64 op ∧ x6 = .int .i64 n ∧ Hid (wc.heap[b3]? = some (.cells #[.slice aP c.P.length cP, .int .i64 c.M, .int .i64 c.A, .slice aC c.C.length cC, .slice aF c.F.length cF, .int .i64 c.mn, .slice aB c.B.length cB] 27 (0, 0)) ∧ wc.heap[b4]? = some (.cells #[.slice aP2 d.P.length cP2, .int .i64 d.M, .int .i64 d.A, .slice aC2 d.C.length cC2, .slice aF2 d.F.length cF2, .int .i64 d.mn, .slice aB2 d.B.length cB2] 27 (0, 0)) ∧ Below w.heap.size w wc))
  case first =>
    have HS_wd : Hid ((w.alloc (.cells #[.slice aP c.P.length cP, .int .i64 c.M, .int .i64 c.A, .slice aC c.C.length cC, .slice aF c.F.length cF, .int .i64 c.mn, .slice aB c.B.length cB, .slice aP2 d.P.length cP2, .int .i64 d.M, .int .i64 d.A, .slice aC2 d.C.length cC2, .slice aF2 d.F.length cF2, .int .i64 d.mn, .slice aB2 d.B.length cB2, .int .i64 op, .int .i64 n] 47)).drew.heap[w.heap.size]? = some (.cells #[.slice aP c.P.length cP, .int .i64 c.M, .int .i64 c.A, .slice aC c.C.length cC, .slice aF c.F.length cF, .int .i64 c.mn, .slice aB c.B.length cB, .slice aP2 d.P.length cP2, .int .i64 d.M, .int .i64 d.A, .slice aC2 d.C.length cC2, .slice aF2 d.F.length cF2, .int .i64 d.mn, .slice aB2 d.B.length cB2, .int .i64 op, .int .i64 n] 47 (0, 0))) := hide X0.out
    refine wp_region_T (S := fun wz => wz.heap[w.heap.size]? = some (.cells #[.slice aP c.P.length cP, .int .i64 c.M, .int .i64 c.A, .slice aC c.C.length cC, .slice aF c.F.length cF, .int .i64 c.mn, .slice aB c.B.length cB, .slice aP2 d.P.length cP2, .int .i64 d.M, .int .i64 d.A, .slice aC2 d.C.length cC2, .slice aF2 d.F.length cF2, .int .i64 d.mn, .slice aB2 d.B.length cB2, .int .i64 op, .int .i64 n] 47 (0, 0))) (fun _ => true) mixed HS_wd.out (fun hH => ?_)
    generalize World.drew (w.alloc (.cells #[.slice aP c.P.length cP, .int .i64 c.M, .int .i64 c.A, .slice aC c.C.length cC, .slice aF c.F.length cF, .int .i64 c.mn, .slice aB c.B.length cB, .slice aP2 d.P.length cP2, .int .i64 d.M, .int .i64 d.A, .slice aC2 d.C.length cC2, .slice aF2 d.F.length cF2, .int .i64 d.mn, .slice aB2 d.B.length cB2, .int .i64 op, .int .i64 n] 47)) = wd at *
    refine T_move (i := 0) (v := ?_) rfl (by kernel_rfl) (by kernel_rfl) (by kernel_rfl) (fun _ _ _ h => h) (Or.inl ⟨by rfl, ?_⟩) ?_
    rotate_left 1
    · (intro w _; go_simp <;> with_reducible rfl)
    simp only [Act.put, List.getElem_toArray, List.getElem_cons_zero, List.setIfInBounds_toArray, List.set_cons_zero, List.set_cons_succ]
    refine T_take (i := 1) (v := ?_) rfl (by kernel_rfl) (by kernel_rfl) (by kernel_rfl) (by kernel_rfl) (fun _ _ _ h => h) (Or.inl ⟨by rfl, ?_⟩) hH ?_
    rotate_left 1
    · (intro w hSw; have c0 := blk_cell hSw 0 _ rfl; have c1 := blk_cell hSw 1 _ rfl; have c2 := blk_cell hSw 2 _ rfl; have c3 := blk_cell hSw 3 _ rfl; have c4 := blk_cell hSw 4 _ rfl; have c5 := blk_cell hSw 5 _ rfl; have c6 := blk_cell hSw 6 _ rfl; clear hSw; go_simp <;> with_reducible rfl)
    simp only [Act.put, List.getElem_toArray, List.getElem_cons_zero, List.getElem_cons_succ, List.setIfInBounds_toArray, List.set_cons_zero, List.set_cons_succ]
    refine T_move (i := 2) (v := ?_) rfl (by kernel_rfl) (by kernel_rfl) (by kernel_rfl) (fun _ _ _ h => h) (Or.inl ⟨by rfl, ?_⟩) ?_
    rotate_left 1
    · (intro w _; go_simp <;> with_reducible rfl)
    simp only [Act.put, List.getElem_toArray, List.getElem_cons_zero, List.getElem_cons_succ, List.setIfInBounds_toArray, List.set_cons_zero, List.set_cons_succ]
    refine T_take (i := 3) (v := ?_) rfl (by kernel_rfl) (by kernel_rfl) (by kernel_rfl) (by kernel_rfl) (fun _ _ _ h => h) (Or.inl ⟨by rfl, ?_⟩) hH ?_
    rotate_left 1
    · (intro w hSw; have c7 := blk_cell hSw 7 _ rfl; have c8 := blk_cell hSw 8 _ rfl; have c9 := blk_cell hSw 9 _ rfl; have c10 := blk_cell hSw 10 _ rfl; have c11 := blk_cell hSw 11 _ rfl; have c12 := blk_cell hSw 12 _ rfl; have c13 := blk_cell hSw 13 _ rfl; clear hSw; go_simp <;> with_reducible rfl)
    simp only [Act.put, List.getElem_toArray, List.getElem_cons_zero, List.getElem_cons_succ, List.setIfInBounds_toArray, List.set_cons_zero, List.set_cons_succ]
    refine T_move (i := 4) (v := ?_) rfl (by kernel_rfl) (by kernel_rfl) (by kernel_rfl) (fun _ _ _ h => h) (Or.inl ⟨by rfl, ?_⟩) ?_
    rotate_left 1
    · (intro w _; go_simp <;> with_reducible rfl)
    simp only [Act.put, List.getElem_toArray, List.getElem_cons_zero, List.getElem_cons_succ, List.setIfInBounds_toArray, List.set_cons_zero, List.set_cons_succ]
    refine T_take (i := 5) (v := ?_) rfl (by kernel_rfl) (by kernel_rfl) (by kernel_rfl) (by kernel_rfl) (fun _ _ _ h => h) (Or.inl ⟨by rfl, ?_⟩) hH ?_
    rotate_left 1
    · (intro w hSw; have c14 := blk_cell hSw 14 _ rfl; clear hSw; go_simp <;> with_reducible rfl)
    simp only [Act.put, List.getElem_toArray, List.getElem_cons_zero, List.getElem_cons_succ, List.setIfInBounds_toArray, List.set_cons_zero, List.set_cons_succ]
    refine T_move (i := 6) (v := ?_) rfl (by kernel_rfl) (by kernel_rfl) (by kernel_rfl) (fun _ _ _ h => h) (Or.inl ⟨by rfl, ?_⟩) ?_
    rotate_left 1
    · (intro w _; go_simp <;> with_reducible rfl)
    simp only [Act.put, List.getElem_toArray, List.getElem_cons_zero, List.getElem_cons_succ, List.setIfInBounds_toArray, List.set_cons_zero, List.set_cons_succ]
    refine T_take (i := 7) (v := ?_) rfl (by kernel_rfl) (by kernel_rfl) (by kernel_rfl) (by kernel_rfl) (fun _ _ _ h => h) (Or.inl ⟨by rfl, ?_⟩) hH ?_
    rotate_left 1
    · (intro w hSw; have c15 := blk_cell hSw 15 _ rfl; clear hSw; go_simp <;> with_reducible rfl)
    simp only [Act.put, List.getElem_toArray, List.getElem_cons_zero, List.getElem_cons_succ, List.setIfInBounds_toArray, List.set_cons_zero, List.set_cons_succ]
    refine T_ready (rs := [8, 9]) (by kernel_rfl) (by decide) ?_
    refine AllReadyT.cons rfl (fun K1 hK1 => ?_) (AllReadyT.cons rfl (fun K1 hK1 => ?_) AllReadyT.nil)
    · have nb := bel_new wd (.cells #[.slice none 0 0, .int .i64 0, .int .i64 0, .slice none 0 0, .slice none 0 0, .int .i64 0, .slice none 0 0] 27)
      go_simp
      refine hK1.out _ _ (fun _ => (nb.block _ (lt_of_blk HS_wd.out)).trans HS_wd.out) (fun _ => ?_)
      clear hK1 K1
      have HS_we := hide ((nb.block _ (lt_of_blk HS_wd.out)).trans HS_wd.out)
      have HB_we := hide (bel_trans HB_wd.out nb)
      have E3_we := hide (show (wd.alloc (.cells #[.slice none 0 0, .int .i64 0, .int .i64 0, .slice none 0 0, .slice none 0 0, .int .i64 0, .slice none 0 0] 27)).heap[wd.heap.size]? = some (.cells #[.slice none 0 0, .int .i64 0, .int .i64 0, .slice none 0 0, .slice none 0 0, .int .i64 0, .slice none 0 0] 27 (0, 0)) from Go.Deep.blk_alloc_new _ _)
      have L3 := hide (show w.heap.size < wd.heap.size from lt_of_blk HS_wd.out)
      generalize wd.alloc (.cells #[.slice none 0 0, .int .i64 0, .int .i64 0, .slice none 0 0, .slice none 0 0, .int .i64 0, .slice none 0 0] 27) = we at *
      generalize wd.heap.size = b3 at *
      clear nb
      refine T_ready (rs := [9]) (by kernel_rfl) (by decide) ?_
      refine AllReadyT.cons rfl (fun K1 hK1 => ?_) AllReadyT.nil
      have LT : Hid (b3 < we.heap.size) := hide (lt_of_blk E3_we.out)
      have nb := bel_new we (.cells #[.slice none 0 0, .int .i64 0, .int .i64 0, .slice none 0 0, .slice none 0 0, .int .i64 0, .slice none 0 0] 27)
      go_simp
      refine hK1.out _ _ (fun _ => (nb.block _ (lt_of_blk HS_we.out)).trans HS_we.out) (fun _ => ?_)
      clear hK1 K1
      have HS_wf := hide ((nb.block _ (lt_of_blk HS_we.out)).trans HS_we.out)
      have HB_wf := hide (bel_trans HB_we.out nb)
      have E4_wf := hide (show (we.alloc (.cells #[.slice none 0 0, .int .i64 0, .int .i64 0, .slice none 0 0, .slice none 0 0, .int .i64 0, .slice none 0 0] 27)).heap[we.heap.size]? = some (.cells #[.slice none 0 0, .int .i64 0, .int .i64 0, .slice none 0 0, .slice none 0 0, .int .i64 0, .slice none 0 0] 27 (0, 0)) from Go.Deep.blk_alloc_new _ _)
      have L4 := hide (show w.heap.size < we.heap.size from lt_of_blk HS_we.out)
      have E3_wf := hide ((nb.block _ (lt_of_blk E3_we.out)).trans E3_we.out)
      generalize we.alloc (.cells #[.slice none 0 0, .int .i64 0, .int .i64 0, .slice none 0 0, .slice none 0 0, .int .i64 0, .slice none 0 0] 27) = wf at *
      generalize we.heap.size = b4 at *
      clear nb
      have NE3 : Hid (b3 ≠ b4) := hide (Nat.ne_of_lt LT.out)
      have NE4 : Hid (b4 ≠ b3) := hide (Nat.ne_of_gt LT.out)
      refine T_ready (rs := [10]) (by kernel_rfl) (by decide) ?_
      refine AllReadyT.cons rfl (fun K1 hK1 => ?_) AllReadyT.nil
      obtain ⟨y, ty⟩ := set7 E3_wf.out (.slice aP c.P.length cP) (.int .i64 c.M) (.int .i64 c.A) (.slice aC c.C.length cC) (.slice aF c.F.length cF) (.int .i64 c.mn) (.slice aB c.B.length cB)
      have c0 := blk_cell E3_wf.out 0 _ rfl
      have c1 := blk_cell E3_wf.out 1 _ rfl
      have c2 := blk_cell E3_wf.out 2 _ rfl
      have c3 := blk_cell E3_wf.out 3 _ rfl
      have c4 := blk_cell E3_wf.out 4 _ rfl
      have c5 := blk_cell E3_wf.out 5 _ rfl
      have c6 := blk_cell E3_wf.out 6 _ rfl
      have f0 := blk_frz E3_wf.out 0
      have f1 := blk_frz E3_wf.out 1
      have f2 := blk_frz E3_wf.out 2
      have f3 := blk_frz E3_wf.out 3
      have f4 := blk_frz E3_wf.out 4
      have f5 := blk_frz E3_wf.out 5
      have f6 := blk_frz E3_wf.out 6
      have hsk := (ty.blk _ (lt_of_blk HS_wf.out) (Nat.ne_of_lt L3.out)).trans HS_wf.out
      go_simp
      refine hK1.out _ _ (fun _ => hsk) (fun _ => ?_)
      clear hK1 K1 c0 f0 c1 f1 c2 f2 c3 f3 c4 f4 c5 f5 c6 f6
      have HS_wg := hide hsk
      have HB_wg := hide (HB_wf.out.trans (ty.bel (Nat.le_of_lt L3.out) HB_wf.out.size))
      have E3_wg := hide y
      have E4_wg := hide ((ty.blk _ (lt_of_blk E4_wf.out) NE4.out).trans E4_wf.out)
      clear ty y hsk
      generalize (((((((wf.setCell ⟨b3, 0, none⟩ (.slice aP c.P.length cP)).setCell ⟨b3, 1, none⟩ (.int .i64 c.M)).setCell ⟨b3, 2, none⟩ (.int .i64 c.A)).setCell ⟨b3, 3, none⟩ (.slice aC c.C.length cC)).setCell ⟨b3, 4, none⟩ (.slice aF c.F.length cF)).setCell ⟨b3, 5, none⟩ (.int .i64 c.mn)).setCell ⟨b3, 6, none⟩ (.slice aB c.B.length cB)) = wg at *
      refine T_ready (rs := [11]) (by kernel_rfl) (by decide) ?_
      refine AllReadyT.cons rfl (fun K1 hK1 => ?_) AllReadyT.nil
      obtain ⟨y, ty⟩ := set7 E4_wg.out (.slice aP2 d.P.length cP2) (.int .i64 d.M) (.int .i64 d.A) (.slice aC2 d.C.length cC2) (.slice aF2 d.F.length cF2) (.int .i64 d.mn) (.slice aB2 d.B.length cB2)
      have c0 := blk_cell E4_wg.out 0 _ rfl
      have c1 := blk_cell E4_wg.out 1 _ rfl
      have c2 := blk_cell E4_wg.out 2 _ rfl
      have c3 := blk_cell E4_wg.out 3 _ rfl
      have c4 := blk_cell E4_wg.out 4 _ rfl
      have c5 := blk_cell E4_wg.out 5 _ rfl
      have c6 := blk_cell E4_wg.out 6 _ rfl
      have f0 := blk_frz E4_wg.out 0
      have f1 := blk_frz E4_wg.out 1
      have f2 := blk_frz E4_wg.out 2
      have f3 := blk_frz E4_wg.out 3
      have f4 := blk_frz E4_wg.out 4
      have f5 := blk_frz E4_wg.out 5
      have f6 := blk_frz E4_wg.out 6
      have hsk := (ty.blk _ (lt_of_blk HS_wg.out) (Nat.ne_of_lt L4.out)).trans HS_wg.out
      go_simp
      refine hK1.out _ _ (fun _ => hsk) (fun _ => ?_)
      clear hK1 K1 c0 f0 c1 f1 c2 f2 c3 f3 c4 f4 c5 f5 c6 f6
      have HS_wh := hide hsk
      have HB_wh := hide (HB_wg.out.trans (ty.bel (Nat.le_of_lt L4.out) HB_wg.out.size))
      have E4_wh := hide y
      have E3_wh := hide ((ty.blk _ (lt_of_blk E3_wg.out) NE3.out).trans E3_wg.out)
      clear ty y hsk
      generalize (((((((wg.setCell ⟨b4, 0, none⟩ (.slice aP2 d.P.length cP2)).setCell ⟨b4, 1, none⟩ (.int .i64 d.M)).setCell ⟨b4, 2, none⟩ (.int .i64 d.A)).setCell ⟨b4, 3, none⟩ (.slice aC2 d.C.length cC2)).setCell ⟨b4, 4, none⟩ (.slice aF2 d.F.length cF2)).setCell ⟨b4, 5, none⟩ (.int .i64 d.mn)).setCell ⟨b4, 6, none⟩ (.slice aB2 d.B.length cB2)) = wh at *
      refine T_move (i := 12) (v := ?_) rfl (by kernel_rfl) (by kernel_rfl) (by kernel_rfl) (fun _ _ _ h => h) (Or.inl ⟨by rfl, ?_⟩) ?_
      rotate_left 1
      · (intro w _; go_simp <;> with_reducible rfl)
      simp only [Act.put, List.getElem_toArray, List.getElem_cons_zero, List.getElem_cons_succ, List.setIfInBounds_toArray, List.set_cons_zero, List.set_cons_succ]
      refine T_move (i := 13) (v := ?_) rfl (by kernel_rfl) (by kernel_rfl) (by kernel_rfl) (fun _ _ _ h => h) (Or.inl ⟨by rfl, ?_⟩) ?_
      rotate_left 1
      · (intro w _; go_simp <;> with_reducible rfl)
      simp only [Act.put, List.getElem_toArray, List.getElem_cons_zero, List.getElem_cons_succ, List.setIfInBounds_toArray, List.set_cons_zero, List.set_cons_succ]
      refine T_done (by kernel_rfl) ?_ _
      go_wp2_with fail
      go_meet
      case rel => exact ⟨b3, b4, rfl, rfl, rfl, rfl, hide ⟨E3_wh.out, E4_wh.out, HB_wh.out⟩⟩
    · have nb := bel_new wd (.cells #[.slice none 0 0, .int .i64 0, .int .i64 0, .slice none 0 0, .slice none 0 0, .int .i64 0, .slice none 0 0] 27)
      go_simp
      refine hK1.out _ _ (fun _ => (nb.block _ (lt_of_blk HS_wd.out)).trans HS_wd.out) (fun _ => ?_)
      clear hK1 K1
      have HS_we := hide ((nb.block _ (lt_of_blk HS_wd.out)).trans HS_wd.out)
      have HB_we := hide (bel_trans HB_wd.out nb)
      have E4_we := hide (show (wd.alloc (.cells #[.slice none 0 0, .int .i64 0, .int .i64 0, .slice none 0 0, .slice none 0 0, .int .i64 0, .slice none 0 0] 27)).heap[wd.heap.size]? = some (.cells #[.slice none 0 0, .int .i64 0, .int .i64 0, .slice none 0 0, .slice none 0 0, .int .i64 0, .slice none 0 0] 27 (0, 0)) from Go.Deep.blk_alloc_new _ _)
      have L4 := hide (show w.heap.size < wd.heap.size from lt_of_blk HS_wd.out)
      generalize wd.alloc (.cells #[.slice none 0 0, .int .i64 0, .int .i64 0, .slice none 0 0, .slice none 0 0, .int .i64 0, .slice none 0 0] 27) = we at *
      generalize wd.heap.size = b4 at *
      clear nb
      refine T_ready (rs := [8]) (by kernel_rfl) (by decide) ?_
      refine AllReadyT.cons rfl (fun K1 hK1 => ?_) AllReadyT.nil
      have LT : Hid (b4 < we.heap.size) := hide (lt_of_blk E4_we.out)
      have nb := bel_new we (.cells #[.slice none 0 0, .int .i64 0, .int .i64 0, .slice none 0 0, .slice none 0 0, .int .i64 0, .slice none 0 0] 27)
      go_simp
      refine hK1.out _ _ (fun _ => (nb.block _ (lt_of_blk HS_we.out)).trans HS_we.out) (fun _ => ?_)
      clear hK1 K1
      have HS_wf := hide ((nb.block _ (lt_of_blk HS_we.out)).trans HS_we.out)
      have HB_wf := hide (bel_trans HB_we.out nb)
      have E3_wf := hide (show (we.alloc (.cells #[.slice none 0 0, .int .i64 0, .int .i64 0, .slice none 0 0, .slice none 0 0, .int .i64 0, .slice none 0 0] 27)).heap[we.heap.size]? = some (.cells #[.slice none 0 0, .int .i64 0, .int .i64 0, .slice none 0 0, .slice none 0 0, .int .i64 0, .slice none 0 0] 27 (0, 0)) from Go.Deep.blk_alloc_new _ _)
      have L3 := hide (show w.heap.size < we.heap.size from lt_of_blk HS_we.out)
      have E4_wf := hide ((nb.block _ (lt_of_blk E4_we.out)).trans E4_we.out)
      generalize we.alloc (.cells #[.slice none 0 0, .int .i64 0, .int .i64 0, .slice none 0 0, .slice none 0 0, .int .i64 0, .slice none 0 0] 27) = wf at *
      generalize we.heap.size = b3 at *
      clear nb
      have NE4 : Hid (b4 ≠ b3) := hide (Nat.ne_of_lt LT.out)
      have NE3 : Hid (b3 ≠ b4) := hide (Nat.ne_of_gt LT.out)
      refine T_ready (rs := [10]) (by kernel_rfl) (by decide) ?_
      refine AllReadyT.cons rfl (fun K1 hK1 => ?_) AllReadyT.nil
      obtain ⟨y, ty⟩ := set7 E3_wf.out (.slice aP c.P.length cP) (.int .i64 c.M) (.int .i64 c.A) (.slice aC c.C.length cC) (.slice aF c.F.length cF) (.int .i64 c.mn) (.slice aB c.B.length cB)
      have c0 := blk_cell E3_wf.out 0 _ rfl
      have c1 := blk_cell E3_wf.out 1 _ rfl
      have c2 := blk_cell E3_wf.out 2 _ rfl
      have c3 := blk_cell E3_wf.out 3 _ rfl
      have c4 := blk_cell E3_wf.out 4 _ rfl
      have c5 := blk_cell E3_wf.out 5 _ rfl
      have c6 := blk_cell E3_wf.out 6 _ rfl
      have f0 := blk_frz E3_wf.out 0
      have f1 := blk_frz E3_wf.out 1
      have f2 := blk_frz E3_wf.out 2
      have f3 := blk_frz E3_wf.out 3
      have f4 := blk_frz E3_wf.out 4
      have f5 := blk_frz E3_wf.out 5
      have f6 := blk_frz E3_wf.out 6
      have hsk := (ty.blk _ (lt_of_blk HS_wf.out) (Nat.ne_of_lt L3.out)).trans HS_wf.out
      go_simp
      refine hK1.out _ _ (fun _ => hsk) (fun _ => ?_)
      clear hK1 K1 c0 f0 c1 f1 c2 f2 c3 f3 c4 f4 c5 f5 c6 f6
      have HS_wg := hide hsk
      have HB_wg := hide (HB_wf.out.trans (ty.bel (Nat.le_of_lt L3.out) HB_wf.out.size))
      have E3_wg := hide y
      have E4_wg := hide ((ty.blk _ (lt_of_blk E4_wf.out) NE4.out).trans E4_wf.out)
      clear ty y hsk
      generalize (((((((wf.setCell ⟨b3, 0, none⟩ (.slice aP c.P.length cP)).setCell ⟨b3, 1, none⟩ (.int .i64 c.M)).setCell ⟨b3, 2, none⟩ (.int .i64 c.A)).setCell ⟨b3, 3, none⟩ (.slice aC c.C.length cC)).setCell ⟨b3, 4, none⟩ (.slice aF c.F.length cF)).setCell ⟨b3, 5, none⟩ (.int .i64 c.mn)).setCell ⟨b3, 6, none⟩ (.slice aB c.B.length cB)) = wg at *
      refine T_ready (rs := [11]) (by kernel_rfl) (by decide) ?_
      refine AllReadyT.cons rfl (fun K1 hK1 => ?_) AllReadyT.nil
      obtain ⟨y, ty⟩ := set7 E4_wg.out (.slice aP2 d.P.length cP2) (.int .i64 d.M) (.int .i64 d.A) (.slice aC2 d.C.length cC2) (.slice aF2 d.F.length cF2) (.int .i64 d.mn) (.slice aB2 d.B.length cB2)
      have c0 := blk_cell E4_wg.out 0 _ rfl
      have c1 := blk_cell E4_wg.out 1 _ rfl
      have c2 := blk_cell E4_wg.out 2 _ rfl
      have c3 := blk_cell E4_wg.out 3 _ rfl
      have c4 := blk_cell E4_wg.out 4 _ rfl
      have c5 := blk_cell E4_wg.out 5 _ rfl
      have c6 := blk_cell E4_wg.out 6 _ rfl
      have f0 := blk_frz E4_wg.out 0
      have f1 := blk_frz E4_wg.out 1
      have f2 := blk_frz E4_wg.out 2
      have f3 := blk_frz E4_wg.out 3
      have f4 := blk_frz E4_wg.out 4
      have f5 := blk_frz E4_wg.out 5
      have f6 := blk_frz E4_wg.out 6
      have hsk := (ty.blk _ (lt_of_blk HS_wg.out) (Nat.ne_of_lt L4.out)).trans HS_wg.out
      go_simp
      refine hK1.out _ _ (fun _ => hsk) (fun _ => ?_)
      clear hK1 K1 c0 f0 c1 f1 c2 f2 c3 f3 c4 f4 c5 f5 c6 f6
      have HS_wh := hide hsk
      have HB_wh := hide (HB_wg.out.trans (ty.bel (Nat.le_of_lt L4.out) HB_wg.out.size))
      have E4_wh := hide y
      have E3_wh := hide ((ty.blk _ (lt_of_blk E3_wg.out) NE3.out).trans E3_wg.out)
      clear ty y hsk
      generalize (((((((wg.setCell ⟨b4, 0, none⟩ (.slice aP2 d.P.length cP2)).setCell ⟨b4, 1, none⟩ (.int .i64 d.M)).setCell ⟨b4, 2, none⟩ (.int .i64 d.A)).setCell ⟨b4, 3, none⟩ (.slice aC2 d.C.length cC2)).setCell ⟨b4, 4, none⟩ (.slice aF2 d.F.length cF2)).setCell ⟨b4, 5, none⟩ (.int .i64 d.mn)).setCell ⟨b4, 6, none⟩ (.slice aB2 d.B.length cB2)) = wh at *
      refine T_move (i := 12) (v := ?_) rfl (by kernel_rfl) (by kernel_rfl) (by kernel_rfl) (fun _ _ _ h => h) (Or.inl ⟨by rfl, ?_⟩) ?_
      rotate_left 1
      · (intro w _; go_simp <;> with_reducible rfl)
      simp only [Act.put, List.getElem_toArray, List.getElem_cons_zero, List.getElem_cons_succ, List.setIfInBounds_toArray, List.set_cons_zero, List.set_cons_succ]
      refine T_move (i := 13) (v := ?_) rfl (by kernel_rfl) (by kernel_rfl) (by kernel_rfl) (fun _ _ _ h => h) (Or.inl ⟨by rfl, ?_⟩) ?_
      rotate_left 1
      · (intro w _; go_simp <;> with_reducible rfl)
      simp only [Act.put, List.getElem_toArray, List.getElem_cons_zero, List.getElem_cons_succ, List.setIfInBounds_toArray, List.set_cons_zero, List.set_cons_succ]
      refine T_done (by kernel_rfl) ?_ _
      go_wp2_with fail
      go_meet
      case rel => exact ⟨b3, b4, rfl, rfl, rfl, rfl, hide ⟨E3_wh.out, E4_wh.out, HB_wh.out⟩⟩
  case rest =>
    obtain ⟨b3, b4, rfl, rfl, rfl, rfl, X⟩ := hcut
    have KA := hide X.out.1
    have KB := hide X.out.2.1
    have B0 := hide X.out.2.2
    clear X X0 HB_wd
    have AL := hide (alive_any (HC.out _ B0.out))
    go_wp2_with fail
    refine AL.out.mono ?_
    rintro e w1 ⟨rfl, b9⟩
    replace KA := hide ((b9.block _ (lt_of_blk KA.out)).trans KA.out)
    replace KB := hide ((b9.block _ (lt_of_blk KB.out)).trans KB.out)
    have B1 := hide (bel_trans B0.out b9)
    clear b9
    obtain ⟨g0, g1, g2, g3, g4, g5, g6⟩ := cells7 KA.out
    obtain ⟨k0, k1, k2, k3, k4, k5, k6⟩ := cells7 KB.out
    clear AL
    have LO := hide (long_any (V1.out _ B1.out))
    unfold codeA at LO
    go_wp2_with fail
    refine LO.out.mono ?_
    clear LO
    clear g0 g1 g2 g3 g4 g5 g6 k0 k1 k2 k3 k4 k5 k6
    rintro e w2 ⟨rfl, b9⟩
    replace KA := hide ((b9.block _ (lt_of_blk KA.out)).trans KA.out)
    replace KB := hide ((b9.block _ (lt_of_blk KB.out)).trans KB.out)
    have B2 := hide (bel_trans B1.out b9)
    clear b9
    obtain ⟨g0, g1, g2, g3, g4, g5, g6⟩ := cells7 KA.out
    obtain ⟨k0, k1, k2, k3, k4, k5, k6⟩ := cells7 KB.out
    cases hlc : longB c with
    | true =>
      go_wp2_with fail
      go_ret
      exact ⟨rfl, B2.out⟩
    | false =>
    have LO := hide (long_any (V2.out _ B2.out))
    unfold codeA at LO
    have SC := hide (sml_of hlc)
    clear hlc
    go_wp2_with fail
    refine LO.out.mono ?_
    clear LO
    clear g0 g1 g2 g3 g4 g5 g6 k0 k1 k2 k3 k4 k5 k6
    rintro e w3 ⟨rfl, b9⟩
    replace KA := hide ((b9.block _ (lt_of_blk KA.out)).trans KA.out)
    replace KB := hide ((b9.block _ (lt_of_blk KB.out)).trans KB.out)
    have B3 := hide (bel_trans B2.out b9)
    clear b9
    obtain ⟨g0, g1, g2, g3, g4, g5, g6⟩ := cells7 KA.out
    obtain ⟨k0, k1, k2, k3, k4, k5, k6⟩ := cells7 KB.out
    cases hld : longB d with
    | true =>
      go_wp2_with fail
      go_ret
      exact ⟨rfl, B3.out⟩
    | false =>
    have SD := hide (sml_of hld)
    clear hld
    go_wp2_with fail
    refine (operator_any op n _).mono ?_
    clear g0 g1 g2 g3 g4 g5 g6 k0 k1 k2 k3 k4 k5 k6
    rintro e w4 ⟨rfl, b9⟩
    replace KA := hide ((b9.block _ (lt_of_blk KA.out)).trans KA.out)
    replace KB := hide ((b9.block _ (lt_of_blk KB.out)).trans KB.out)
    have B4 := hide (bel_trans B3.out b9)
    clear b9
    obtain ⟨g0, g1, g2, g3, g4, g5, g6⟩ := cells7 KA.out
    obtain ⟨k0, k1, k2, k3, k4, k5, k6⟩ := cells7 KB.out
    clear g0 g1 g2 g3 g4 g5 g6 k0 k1 k2 k3 k4 k5 k6
    obtain ⟨s, hs⟩ : ∃ s, s = opN op n := ⟨_, rfl⟩
    have OC := op_cases op n
    rw [← hs] at OC
    rw [← hs]
    clear hs
    go_upto_region 7 with fail
    go_cut [84] from 27 to 83 (fun x84 wc => x84 = .bool false ∧ Hid (wc.heap[b3]? = some (.cells #[.slice aP c.P.length cP, .int .i64 c.M, .int .i64 c.A, .slice aC c.C.length cC, .slice aF c.F.length cF, .int .i64 c.mn, .slice aB c.B.length cB] 27 (0, 0)) ∧ wc.heap[b4]? = some (.cells #[.slice aP2 d.P.length cP2, .int .i64 d.M, .int .i64 d.A, .slice aC2 d.C.length cC2, .slice aF2 d.F.length cF2, .int .i64 d.mn, .slice aB2 d.B.length cB2] 27 (0, 0)) ∧ Below w.heap.size w wc))
    case first =>
      rcases OC with ⟨rfl, hne, hu⟩ | ⟨rfl, hne, hu⟩ | ⟨he, hn10, hn11⟩
      · have sne : (s.toList == []) = false := beq_false_of_ne hne
        go_wp2_with fail
        refine (unary_any s _).mono ?_
        rintro e w5 ⟨rfl, b5⟩
        rw [hu]
        have X5 := hide (And.intro ((b5.block _ (lt_of_blk KA.out)).trans KA.out) (And.intro ((b5.block _ (lt_of_blk KB.out)).trans KB.out) (bel_trans B4.out b5)))
        clear b5
        go_wp2_with fail
        go_meet
        case rel => exact ⟨rfl, X5⟩
      · have sne : (s.toList == []) = false := beq_false_of_ne hne
        go_wp2_with fail
        refine (binary_any s _).mono ?_
        rintro e w5 ⟨rfl, b5⟩
        rw [hu]
        have X5 := hide (And.intro ((b5.block _ (lt_of_blk KA.out)).trans KA.out) (And.intro ((b5.block _ (lt_of_blk KB.out)).trans KB.out) (bel_trans B4.out b5)))
        clear b5
        go_wp2_with fail
        go_meet
        case rel => exact ⟨rfl, X5⟩
      · have sne : (s.toList == []) = true := by rw [he]; rfl
        have X5 := hide (And.intro KA.out (And.intro KB.out B4.out))
        by_cases e10 : op = 10
        · subst e10
          by_cases l1 : 1 ≤ n
          · have l2 : ¬ n ≤ 4 := fun h => hn10 ⟨rfl, l1, h⟩
            have d1 : decide (1 ≤ n) = true := decide_eq_true l1
            have d2 : decide (n ≤ 4) = false := decide_eq_false l2
            clear hn10 hn11
            go_wp2_with fail
            go_meet
            case rel => exact ⟨rfl, X5⟩
          · have d1 : decide (1 ≤ n) = false := decide_eq_false l1
            clear hn10 hn11
            go_wp2_with fail
            go_meet
            case rel => exact ⟨rfl, X5⟩
        · have f10 : (op == 10) = false := beq_false_of_ne e10
          by_cases e11 : op = 11
          · subst e11
            by_cases l1 : 1 ≤ n
            · have l2 : ¬ n ≤ 11 := fun h => hn11 ⟨rfl, l1, h⟩
              have d1 : decide (1 ≤ n) = true := decide_eq_true l1
              have d2 : decide (n ≤ 11) = false := decide_eq_false l2
              clear hn10 hn11
              go_wp2_with fail
              go_meet
              case rel => exact ⟨rfl, X5⟩
            · have d1 : decide (1 ≤ n) = false := decide_eq_false l1
              clear hn10 hn11
              go_wp2_with fail
              go_meet
              case rel => exact ⟨rfl, X5⟩
          · have f11 : (op == 11) = false := beq_false_of_ne e11
            clear hn10 hn11
            go_wp2_with fail
            go_meet
            case rel => exact ⟨rfl, X5⟩
    case rest =>
      obtain ⟨rfl, X⟩ := hcut
      clear KA KB B4 B3 B2 B1 B0 OC
      go_wp2_with fail
      have BD := hide (bel_drawn X.out.2.2)
      refine wp_region_T (S := fun wz => wz.heap[b3]? = some (.cells #[.slice aP c.P.length cP, .int .i64 c.M, .int .i64 c.A, .slice aC c.C.length cC, .slice aF c.F.length cF, .int .i64 c.mn, .slice aB c.B.length cB] 27 (0, 0)) ∧ wz.heap[b4]? = some (.cells #[.slice aP2 d.P.length cP2, .int .i64 d.M, .int .i64 d.A, .slice aC2 d.C.length cC2, .slice aF2 d.F.length cF2, .int .i64 d.mn, .slice aB2 d.B.length cB2] 27 (0, 0))) (fun _ => true) mixed ⟨X.out.1, X.out.2.1⟩ (fun hH => ?_)
      clear X
      generalize World.drew _ = wd at *
      refine T_take (i := 0) (v := ?_) rfl (by kernel_rfl) (by kernel_rfl) (by kernel_rfl) (by kernel_rfl) (fun _ _ _ h => h) (Or.inl ⟨by rfl, ?_⟩) hH ?_
      rotate_left 1
      · (intro w hSw; obtain ⟨g0, g1, g2, g3, g4, g5, g6⟩ := cells7 hSw.1; clear hSw; go_simp <;> with_reducible rfl)
      simp only [Act.put, List.getElem_toArray, List.getElem_cons_zero, List.setIfInBounds_toArray, List.set_cons_zero, List.set_cons_succ]
      refine T_take (i := 1) (v := ?_) rfl (by kernel_rfl) (by kernel_rfl) (by kernel_rfl) (by kernel_rfl) (fun _ _ _ h => h) (Or.inl ⟨by rfl, ?_⟩) hH ?_
      rotate_left 1
      · (intro w hSw; obtain ⟨g0, g1, g2, g3, g4, g5, g6⟩ := cells7 hSw.2; clear hSw; go_simp <;> with_reducible rfl)
      simp only [Act.put, List.getElem_toArray, List.getElem_cons_zero, List.getElem_cons_succ, List.setIfInBounds_toArray, List.set_cons_zero, List.set_cons_succ]
      refine T_take (i := 3) (v := ?_) rfl (by kernel_rfl) (by kernel_rfl) (by kernel_rfl) (by kernel_rfl) (fun _ _ _ h => h) (Or.inl ⟨by rfl, ?_⟩) hH ?_
      rotate_left 1
      · (intro w hSw; obtain ⟨g0, g1, g2, g3, g4, g5, g6⟩ := cells7 hSw.1; clear hSw; go_simp <;> with_reducible rfl)
      simp only [Act.put, List.getElem_toArray, List.getElem_cons_zero, List.getElem_cons_succ, List.setIfInBounds_toArray, List.set_cons_zero, List.set_cons_succ]
      refine T_take (i := 4) (v := ?_) rfl (by kernel_rfl) (by kernel_rfl) (by kernel_rfl) (by kernel_rfl) (fun _ _ _ h => h) (Or.inl ⟨by rfl, ?_⟩) hH ?_
      rotate_left 1
      · (intro w hSw; obtain ⟨g0, g1, g2, g3, g4, g5, g6⟩ := cells7 hSw.2; clear hSw; go_simp <;> with_reducible rfl)
      simp only [Act.put, List.getElem_toArray, List.getElem_cons_zero, List.getElem_cons_succ, List.setIfInBounds_toArray, List.set_cons_zero, List.set_cons_succ]
      refine T_ready (rs := [2]) (by kernel_rfl) (by decide) ?_
      refine AllReadyT.cons rfl (fun K1 hK1 => ?_) AllReadyT.nil
      have CT := hide (codeSame_any (V1.out _ BD.out) (V2.out _ BD.out) SC.out SD.out)
      unfold codeA at CT
      go_simp
      refine CT.out.mono ?_
      rintro e w6 ⟨rfl, b9⟩
      have B6 := hide (bel_trans BD.out b9)
      refine hK1.out _ _ (fun _ => ⟨(b9.block _ (lt_of_blk hH.1)).trans hH.1, (b9.block _ (lt_of_blk hH.2)).trans hH.2⟩) (fun hh => ?_)
      replace hH := hh rfl
      clear hK1 K1 b9 CT hh
      refine T_ready (rs := [5]) (by kernel_rfl) (by decide) ?_
      refine AllReadyT.cons rfl (fun K1 hK1 => ?_) AllReadyT.nil
      have CT := hide (rSame_any (V1.out _ B6.out) (V2.out _ B6.out) SC.out SD.out)
      unfold codeA at CT
      go_simp
      refine CT.out.mono ?_
      rintro e w7 ⟨rfl, b9⟩
      have B7 := hide (bel_trans B6.out b9)
      refine hK1.out _ _ (fun _ => ⟨(b9.block _ (lt_of_blk hH.1)).trans hH.1, (b9.block _ (lt_of_blk hH.2)).trans hH.2⟩) (fun hh => ?_)
      replace hH := hh rfl
      clear hK1 K1 b9 CT hh
      refine T_move (i := 6) (v := ?_) rfl (by kernel_rfl) (by kernel_rfl) (by kernel_rfl) (fun _ _ _ h => h) (Or.inl ⟨by rfl, ?_⟩) ?_
      rotate_left 1
      · (intro w _; go_simp <;> with_reducible rfl)
      simp only [Act.put, List.getElem_toArray, List.getElem_cons_zero, List.getElem_cons_succ, List.setIfInBounds_toArray, List.set_cons_zero, List.set_cons_succ]
      refine T_move (i := 7) (v := ?_) rfl (by kernel_rfl) (by kernel_rfl) (by kernel_rfl) (fun _ _ _ h => h) (Or.inl ⟨by rfl, ?_⟩) ?_
      rotate_left 1
      · (intro w _; go_simp <;> with_reducible rfl)
      simp only [Act.put, List.getElem_toArray, List.getElem_cons_zero, List.getElem_cons_succ, List.setIfInBounds_toArray, List.set_cons_zero, List.set_cons_succ]
      refine T_take (i := 8) (v := ?_) rfl (by kernel_rfl) (by kernel_rfl) (by kernel_rfl) (by kernel_rfl) (fun _ _ _ h => h) (Or.inl ⟨by rfl, ?_⟩) hH ?_
      rotate_left 1
      · (intro w hSw; obtain ⟨g0, g1, g2, g3, g4, g5, g6⟩ := cells7 hSw.1; clear hSw; go_simp <;> with_reducible rfl)
      simp only [Act.put, List.getElem_toArray, List.getElem_cons_zero, List.getElem_cons_succ, List.setIfInBounds_toArray, List.set_cons_zero, List.set_cons_succ]
      refine T_take (i := 9) (v := ?_) rfl (by kernel_rfl) (by kernel_rfl) (by kernel_rfl) (by kernel_rfl) (fun _ _ _ h => h) (Or.inl ⟨by rfl, ?_⟩) hH ?_
      rotate_left 1
      · (intro w hSw; obtain ⟨g0, g1, g2, g3, g4, g5, g6⟩ := cells7 hSw.1; clear hSw; go_simp <;> with_reducible rfl)
      simp only [Act.put, List.getElem_toArray, List.getElem_cons_zero, List.getElem_cons_succ, List.setIfInBounds_toArray, List.set_cons_zero, List.set_cons_succ]
      refine T_ready (rs := [10]) (by kernel_rfl) (by decide) ?_
      refine AllReadyT.cons rfl (fun K1 hK1 => ?_) AllReadyT.nil
      have CT := hide (codeSame_any (V1.out _ B7.out) (V1.out _ B7.out) SC.out SC.out)
      unfold codeA at CT
      go_simp
      refine CT.out.mono ?_
      rintro e w8 ⟨rfl, b9⟩
      have B8 := hide (bel_trans B7.out b9)
      refine hK1.out _ _ (fun _ => ⟨(b9.block _ (lt_of_blk hH.1)).trans hH.1, (b9.block _ (lt_of_blk hH.2)).trans hH.2⟩) (fun hh => ?_)
      replace hH := hh rfl
      clear hK1 K1 b9 CT hh
      refine T_move (i := 11) (v := ?_) rfl (by kernel_rfl) (by kernel_rfl) (by kernel_rfl) (fun _ _ _ h => h) (Or.inl ⟨by rfl, ?_⟩) ?_
      rotate_left 1
      · (intro w _; go_simp <;> with_reducible rfl)
      simp only [Act.put, List.getElem_toArray, List.getElem_cons_zero, List.getElem_cons_succ, List.setIfInBounds_toArray, List.set_cons_zero, List.set_cons_succ]
      refine T_move (i := 12) (v := ?_) rfl (by kernel_rfl) (by kernel_rfl) (by kernel_rfl) (fun _ _ _ h => h) (Or.inl ⟨by rfl, ?_⟩) ?_
      rotate_left 1
      · (intro w _; go_simp <;> with_reducible rfl)
      simp only [Act.put, List.getElem_toArray, List.getElem_cons_zero, List.getElem_cons_succ, List.setIfInBounds_toArray, List.set_cons_zero, List.set_cons_succ]
      refine T_done (by kernel_rfl) ?_ _
      rw [same_self]
      go_wp2_with fail
      go_ret
      exact ⟨rfl, B8.out⟩
end Go.Proofs.YtoboeipmhfnfdaaDoor.Ck
