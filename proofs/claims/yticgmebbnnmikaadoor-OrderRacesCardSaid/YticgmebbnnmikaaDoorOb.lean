/- Package order: what has been seen (join). (Written by mk_o.py.) -/
import Derived.Test.YticgmebbnnmikaaDoorOh
namespace Go.Proofs.YticgmebbnnmikaaDoor.Ck
open Go.RowKit

theorem jnK_zero (s t : Sn) (i : Nat) : s i = jnK s t 0 i := by
  unfold jnK
  rw [if_neg (by omega)]
theorem jnK_all (s t : Sn) (i : Nat) (hi : i < 8) : jnK s t 8 i = jn s t i := by
  unfold jnK jn
  rw [if_pos hi]
theorem jnK_step (s t : Sn) (k i : Nat) : setS (jnK s t k) k (max (s k) (t k)) i = jnK s t (k + 1) i := by
  unfold setS jnK
  by_cases e : i = k
  · subst e
    rw [if_pos rfl, if_pos (by omega)]
  · rw [if_neg e]
    by_cases h : i < k
    · rw [if_pos h, if_pos (by omega)]
    · rw [if_neg h, if_neg (by omega)]
theorem index8_0 (x0 x1 x2 x3 x4 x5 x6 x7 : Int) (w : World) : (Instr.index 57 (.agg #[.int .i64 x0, .int .i64 x1, .int .i64 x2, .int .i64 x3, .int .i64 x4, .int .i64 x5, .int .i64 x6, .int .i64 x7]) (.int .i64 0)).run Tryd.prog w = .ok (.int .i64 x0) w := by kernel_rfl
theorem index8_1 (x0 x1 x2 x3 x4 x5 x6 x7 : Int) (w : World) : (Instr.index 57 (.agg #[.int .i64 x0, .int .i64 x1, .int .i64 x2, .int .i64 x3, .int .i64 x4, .int .i64 x5, .int .i64 x6, .int .i64 x7]) (.int .i64 1)).run Tryd.prog w = .ok (.int .i64 x1) w := by kernel_rfl
theorem index8_2 (x0 x1 x2 x3 x4 x5 x6 x7 : Int) (w : World) : (Instr.index 57 (.agg #[.int .i64 x0, .int .i64 x1, .int .i64 x2, .int .i64 x3, .int .i64 x4, .int .i64 x5, .int .i64 x6, .int .i64 x7]) (.int .i64 2)).run Tryd.prog w = .ok (.int .i64 x2) w := by kernel_rfl
theorem index8_3 (x0 x1 x2 x3 x4 x5 x6 x7 : Int) (w : World) : (Instr.index 57 (.agg #[.int .i64 x0, .int .i64 x1, .int .i64 x2, .int .i64 x3, .int .i64 x4, .int .i64 x5, .int .i64 x6, .int .i64 x7]) (.int .i64 3)).run Tryd.prog w = .ok (.int .i64 x3) w := by kernel_rfl
theorem index8_4 (x0 x1 x2 x3 x4 x5 x6 x7 : Int) (w : World) : (Instr.index 57 (.agg #[.int .i64 x0, .int .i64 x1, .int .i64 x2, .int .i64 x3, .int .i64 x4, .int .i64 x5, .int .i64 x6, .int .i64 x7]) (.int .i64 4)).run Tryd.prog w = .ok (.int .i64 x4) w := by kernel_rfl
theorem index8_5 (x0 x1 x2 x3 x4 x5 x6 x7 : Int) (w : World) : (Instr.index 57 (.agg #[.int .i64 x0, .int .i64 x1, .int .i64 x2, .int .i64 x3, .int .i64 x4, .int .i64 x5, .int .i64 x6, .int .i64 x7]) (.int .i64 5)).run Tryd.prog w = .ok (.int .i64 x5) w := by kernel_rfl
theorem index8_6 (x0 x1 x2 x3 x4 x5 x6 x7 : Int) (w : World) : (Instr.index 57 (.agg #[.int .i64 x0, .int .i64 x1, .int .i64 x2, .int .i64 x3, .int .i64 x4, .int .i64 x5, .int .i64 x6, .int .i64 x7]) (.int .i64 6)).run Tryd.prog w = .ok (.int .i64 x6) w := by kernel_rfl
theorem index8_7 (x0 x1 x2 x3 x4 x5 x6 x7 : Int) (w : World) : (Instr.index 57 (.agg #[.int .i64 x0, .int .i64 x1, .int .i64 x2, .int .i64 x3, .int .i64 x4, .int .i64 x5, .int .i64 x6, .int .i64 x7]) (.int .i64 7)).run Tryd.prog w = .ok (.int .i64 x7) w := by kernel_rfl
theorem index8_any (s : Sn) (k : Nat) (hk : k < 8) (w : World) : (Instr.index 57 (.agg #[.int .i64 (s 0), .int .i64 (s 1), .int .i64 (s 2), .int .i64 (s 3), .int .i64 (s 4), .int .i64 (s 5), .int .i64 (s 6), .int .i64 (s 7)]) (.int .i64 (k : Int))).run Tryd.prog w = .ok (.int .i64 (s k)) w := by
  rcases (by omega : k = 0 ∨ k = 1 ∨ k = 2 ∨ k = 3 ∨ k = 4 ∨ k = 5 ∨ k = 6 ∨ k = 7) with rfl | rfl | rfl | rfl | rfl | rfl | rfl | rfl
  · exact index8_0 _ _ _ _ _ _ _ _ w
  · exact index8_1 _ _ _ _ _ _ _ _ w
  · exact index8_2 _ _ _ _ _ _ _ _ w
  · exact index8_3 _ _ _ _ _ _ _ _ w
  · exact index8_4 _ _ _ _ _ _ _ _ w
  · exact index8_5 _ _ _ _ _ _ _ _ w
  · exact index8_6 _ _ _ _ _ _ _ _ w
  · exact index8_7 _ _ _ _ _ _ _ _ w
theorem indexs_0 (x0 x1 x2 x3 x4 x5 x6 x7 : Int) (w : World) : (Instr.index 58 (.agg #[.int .i64 x0, .int .i64 x1, .int .i64 x2, .int .i64 x3, .int .i64 x4, .int .i64 x5, .int .i64 x6, .int .i64 x7]) (.int .i64 0)).run Tryd.prog w = .ok (.int .i64 x0) w := by kernel_rfl
theorem indexs_1 (x0 x1 x2 x3 x4 x5 x6 x7 : Int) (w : World) : (Instr.index 58 (.agg #[.int .i64 x0, .int .i64 x1, .int .i64 x2, .int .i64 x3, .int .i64 x4, .int .i64 x5, .int .i64 x6, .int .i64 x7]) (.int .i64 1)).run Tryd.prog w = .ok (.int .i64 x1) w := by kernel_rfl
theorem indexs_2 (x0 x1 x2 x3 x4 x5 x6 x7 : Int) (w : World) : (Instr.index 58 (.agg #[.int .i64 x0, .int .i64 x1, .int .i64 x2, .int .i64 x3, .int .i64 x4, .int .i64 x5, .int .i64 x6, .int .i64 x7]) (.int .i64 2)).run Tryd.prog w = .ok (.int .i64 x2) w := by kernel_rfl
theorem indexs_3 (x0 x1 x2 x3 x4 x5 x6 x7 : Int) (w : World) : (Instr.index 58 (.agg #[.int .i64 x0, .int .i64 x1, .int .i64 x2, .int .i64 x3, .int .i64 x4, .int .i64 x5, .int .i64 x6, .int .i64 x7]) (.int .i64 3)).run Tryd.prog w = .ok (.int .i64 x3) w := by kernel_rfl
theorem indexs_4 (x0 x1 x2 x3 x4 x5 x6 x7 : Int) (w : World) : (Instr.index 58 (.agg #[.int .i64 x0, .int .i64 x1, .int .i64 x2, .int .i64 x3, .int .i64 x4, .int .i64 x5, .int .i64 x6, .int .i64 x7]) (.int .i64 4)).run Tryd.prog w = .ok (.int .i64 x4) w := by kernel_rfl
theorem indexs_5 (x0 x1 x2 x3 x4 x5 x6 x7 : Int) (w : World) : (Instr.index 58 (.agg #[.int .i64 x0, .int .i64 x1, .int .i64 x2, .int .i64 x3, .int .i64 x4, .int .i64 x5, .int .i64 x6, .int .i64 x7]) (.int .i64 5)).run Tryd.prog w = .ok (.int .i64 x5) w := by kernel_rfl
theorem indexs_6 (x0 x1 x2 x3 x4 x5 x6 x7 : Int) (w : World) : (Instr.index 58 (.agg #[.int .i64 x0, .int .i64 x1, .int .i64 x2, .int .i64 x3, .int .i64 x4, .int .i64 x5, .int .i64 x6, .int .i64 x7]) (.int .i64 6)).run Tryd.prog w = .ok (.int .i64 x6) w := by kernel_rfl
theorem indexs_7 (x0 x1 x2 x3 x4 x5 x6 x7 : Int) (w : World) : (Instr.index 58 (.agg #[.int .i64 x0, .int .i64 x1, .int .i64 x2, .int .i64 x3, .int .i64 x4, .int .i64 x5, .int .i64 x6, .int .i64 x7]) (.int .i64 7)).run Tryd.prog w = .ok (.int .i64 x7) w := by kernel_rfl
theorem indexs_any (s : Sn) (k : Nat) (hk : k < 8) (w : World) : (Instr.index 58 (.agg #[.int .i64 (s 0), .int .i64 (s 1), .int .i64 (s 2), .int .i64 (s 3), .int .i64 (s 4), .int .i64 (s 5), .int .i64 (s 6), .int .i64 (s 7)]) (.int .i64 (k : Int))).run Tryd.prog w = .ok (.int .i64 (s k)) w := by
  rcases (by omega : k = 0 ∨ k = 1 ∨ k = 2 ∨ k = 3 ∨ k = 4 ∨ k = 5 ∨ k = 6 ∨ k = 7) with rfl | rfl | rfl | rfl | rfl | rfl | rfl | rfl
  · exact indexs_0 _ _ _ _ _ _ _ _ w
  · exact indexs_1 _ _ _ _ _ _ _ _ w
  · exact indexs_2 _ _ _ _ _ _ _ _ w
  · exact indexs_3 _ _ _ _ _ _ _ _ w
  · exact indexs_4 _ _ _ _ _ _ _ _ w
  · exact indexs_5 _ _ _ _ _ _ _ _ w
  · exact indexs_6 _ _ _ _ _ _ _ _ w
  · exact indexs_7 _ _ _ _ _ _ _ _ w
set_option maxRecDepth 20000 in
set_option maxHeartbeats 2000000 in
theorem join_any {w : World} {b o : Nat} {s t : Sn} (h : Ar w b o s) : Calls Tryd.prog 47 #[.pointer (some ⟨b, o, none⟩), snV t] w (fun e w' => e = .returned (.tuple #[]) ∧ Tn w w' b o 8 ∧ Ar w' b o (jn s t)) := by
  have B0 := bel_new w (.cells #[.int .i64 (t 0), .int .i64 (t 1), .int .i64 (t 2), .int .i64 (t 3), .int .i64 (t 4), .int .i64 (t 5), .int .i64 (t 6), .int .i64 (t 7)] 58)
  have T0 := hide (Tn.of_bel (o := o) (n := 8) h.lt B0)
  have H0 := hide ((h.bel B0).eq (t := jnK s t 0) (fun i _ => jnK_zero s t i))
  unfold snV
  clear h B0
  go_enter Tryd.func47, Tryd.ntmps47
  go_wp2_with fail
  go_loopw [7] (fun x7 wr => ∃ k : Nat, k ≤ 8 ∧ x7 = .int .i64 (k : Nat) ∧ Hid (Tn w wr b o 8 ∧ Ar wr b o (jnK s t k))) (fun x7 _ => 8 - (intOf x7).toNat)
  case atStart => exact ⟨0, by omega, rfl, hide ⟨T0.out, H0.out⟩⟩
  case round =>
    obtain ⟨k, hk, rfl, hI⟩ := hrel
    by_cases hlt : k < 8
    · have A := hide hI.out.2
      have TT := hide hI.out.1
      have c := A.out.cell k hlt
      have f := A.out.frz (o + k)
      rw [show jnK s t k k = s k by unfold jnK; rw [if_neg (by omega)]] at c
      have N : Hid (∀ x, x = max (s k) (t k) → Tn w (wr.setCell ⟨b, o + k, none⟩ (.int .i64 x)) b o 8 ∧ Ar (wr.setCell ⟨b, o + k, none⟩ (.int .i64 x)) b o (jnK s t (k + 1))) := hide (fun x hx => by
        subst hx
        exact ⟨TT.out.trans (Tn.set _ (by omega) (by omega) _), (A.out.set k _).eq (fun i _ => jnK_step s t k i)⟩)
      have IX := fun w => indexs_any t k hlt w
      have hk' : (k : Int) < 8 := by omega
      have N2 := hide (N.out (if s k < t k then t k else s k) (by split <;> omega))
      clear hI A TT hk T0 H0 N
      go_wp2_with fail
      refine wp_region_T (S := fun wz => wz.cell? ⟨b, o + k, none⟩ = some (.int .i64 (s k)) ∧ wz.frozen? ⟨b, o + k, none⟩ = false) (fun i => i != 11) mixed ⟨c, f⟩ (fun hH => ?_)
      refine Tm 0 ?_
      simp only [Act.put, SA]
      refine Tm 1 ?_
      simp only [Act.put, SA]
      refine Tm 2 ?_
      simp only [Act.put, SA]
      refine Tm 3 ?_
      simp only [Act.put, SA]
      refine Tm 4 ?_
      simp only [Act.put, SA]
      refine Tm 5 ?_
      simp only [Act.put, SA]
      refine Tl 6 (v := ?_) ?_ hH ?_
      rotate_left 1
      · (intro wy hSw; have q := hSw.1; clear hSw; go_simp <;> with_reducible rfl)
      simp only [Act.put, SA]
      refine Tm 7 ?_
      simp only [Act.put, SA]
      refine Tm 8 ?_
      simp only [Act.put, SA]
      refine Tm 9 ?_
      simp only [Act.put, SA]
      refine Tm 10 ?_
      simp only [Act.put, SA]
      refine Tr 11 (fun K1 hK1 => ?_)
      go_simp
      refine hK1.out _ _ (fun h => absurd h (by decide)) (fun _ => ?_)
      refine T_done (by kernel_rfl) ?_ _
      go_wp2_with fail
      go_roundw
      case rel => exact ⟨k + 1, by omega, by go_num, hide ⟨N2.out.1.drew, N2.out.2⟩⟩
      case measure => simp [intOf]; omega
    · obtain rfl : k = 8 := by omega
      clear T0 H0
      go_wp2_with fail
      go_end0
      exact ⟨rfl, hI.out.1, hI.out.2.eq (fun i hi => jnK_all s t i hi)⟩
end Go.Proofs.YticgmebbnnmikaaDoor.Ck
