/- CodeCuts walked. -/
import Derived.Test.YtoboeipmhfnfdaaDoorFa
import Derived.Test.YtoboeipmhfnfdaaDoorCq
import Derived.Test.YtoboeipmhfnfdaaDoorCr
namespace Go.Proofs.YtoboeipmhfnfdaaDoor.Ck
open Go.RowKit

theorem rem_k (cut : Int) {n : Nat} (h0 : 0 < n) (h1 : n ≤ 300000) : ∃ k : Nat, wrap64 ((IntKind.u64.wrap cut).tmod (n : Int)) = (k : Int) ∧ k < n := by
  have hz : 0 ≤ IntKind.u64.wrap cut := by rw [IntKind.wrap_u64]; omega
  rw [Int.tmod_eq_emod_of_nonneg hz]
  have a := Int.emod_nonneg (IntKind.u64.wrap cut) (show (n : Int) ≠ 0 by omega)
  have b := Int.emod_lt_of_pos (IntKind.u64.wrap cut) (show (0 : Int) < n by omega)
  refine ⟨((IntKind.u64.wrap cut) % n).toNat, ?_, by omega⟩
  rw [wrapS a (by omega)]
  omega
set_option maxRecDepth 20000 in
set_option maxHeartbeats 4000000 in
theorem cuts_main {w : World} {p : List Addr} {vP vC vF vB : Value} {c : Cd} (cut more : Int) (hcut : -9223372036854775808 ≤ cut ∧ cut ≤ 9223372036854775807) (hmo : 0 ≤ more ∧ more < 256) (ev : Errs17 w p) (h : Cv w vP vC vF vB c) :
    Calls Tryd.prog 6 #[codeA vP vC vF vB c, .int .i64 cut, .int .u8 more] w (Vb w (.bool true)) := by
  have B0 := hide (bel_new w (codeO vP vC vF vB c))
  have K0 := hide (show (w.alloc (codeO vP vC vF vB c)).heap[w.heap.size]? = some (.cells #[vP, .int .i64 c.M, .int .i64 c.A, vC, vF, .int .i64 c.mn, vB] 27 (0, 0)) from Go.Deep.blk_alloc_new _ _)
  have hc : Ec w p := ev.cell 8 (by omega)
  have AL := hide (alive_any (hc.bel B0.out))
  have HC := hide hc
  have V0 := hide h
  have E0 := hide ev
  obtain ⟨aP, cP, eP, _, hmP⟩ := h.P.form
  obtain ⟨aC, cC, eC, _, hmC⟩ := h.C.form
  obtain ⟨aF, cF, eF, _, hmF⟩ := h.F.form
  obtain ⟨aB, cB, eB, _, hmB⟩ := h.B.form
  subst eP eC eF eB
  have HCU := hide hcut
  have HMO := hide hmo
  clear h hc hmP hmC hmF hmB ev hcut hmo
  unfold codeA codeO at *
  go_enter Tryd.func6, Tryd.ntmps6
  go_wp2_with fail
  refine AL.out.mono ?_
  rintro e w2 ⟨rfl, b2⟩
  have B2 := hide (bel_trans B0.out b2)
  have K2 := hide ((b2.block _ (lt_of_blk K0.out)).trans K0.out)
  clear b2 AL K0 B0
  obtain ⟨g0, g1, g2, g3, g4, g5, g6⟩ := cells7 K2.out
  have LO := hide (long_any (V0.out.bel B2.out))
  unfold codeA at LO
  go_wp2_with fail
  refine LO.out.mono ?_
  rintro e w3 ⟨rfl, b3⟩
  have B3 := hide (bel_trans B2.out b3)
  have K3 := hide ((b3.block _ (lt_of_blk K2.out)).trans K2.out)
  clear b3 LO K2 B2 g0 g1 g2 g3 g4 g5 g6
  cases longB c with
  | true =>
    go_wp2_with fail
    go_ret
    exact ⟨rfl, B3.out⟩
  | false =>
  obtain ⟨g0, g1, g2, g3, g4, g5, g6⟩ := cells7 K3.out
  have PU := hide (put_any (HC.out.bel B3.out) (V0.out.bel B3.out))
  unfold codeA at PU
  go_wp2_with fail
  refine PU.out.mono ?_
  rintro e w4 ⟨hp, b4⟩
  have B4 := hide (bel_trans B3.out b4)
  clear b4 PU K3 g0 g1 g2 g3 g4 g5 g6
  rcases hp with ⟨hf, rfl⟩ | ⟨hf, v, rfl, y⟩
  · have NE := hide (num_err p 8 w4 (E0.out.below (Nat.le_refl _) B4.out) (by omega))
    unfold errV at NE
    unfold errV
    go_wp2_with fail
    refine NE.out.mono ?_
    rintro e w5 ⟨rfl, b5⟩
    have B5 := hide (bel_trans B4.out b5)
    clear b5 NE
    go_wp2_with fail
    go_ret
    exact ⟨rfl, B5.out⟩
  · obtain ⟨hlo, hhi⟩ := bytes_len hf
    rcases own_cells y.own with ⟨_, h0⟩ | ⟨gx, k4, e4, h41, h42, hgx, hcell⟩
    · omega
    subst e4
    have HGX := hide hgx
    clear hgx hcell
    have Y4 := hide y
    clear y
    have YS := hide (Ys.of_own Y4.out.own)
    have HCD := hide (form_sm hf V0.out.L.inw)
    have BY := hide (bytes_byt c)
    obtain ⟨n, hn⟩ : ∃ n, n = (bytesL c).length := ⟨_, rfl⟩
    rw [← hn] at hlo hhi h41 YS ⊢
    have HN := hide hn
    obtain ⟨k, hk, hkn⟩ := rem_k cut (show 0 < n by omega) hhi
    have hkk : (k : Int) ≤ (k4 : Int) := by omega
    have GE := hide (get_any (HC.out.bel B4.out) (YS.out.take (k := k) (by rw [← hn]; omega)) (fun b hb => BY.out b (List.mem_of_mem_take hb)) (by rw [List.length_take]; omega))
    have HX : Hid (codeB ((bytesL c).take k) = none) := hide (code_cut HCD.out (List.take_append_drop k _).symm (fun e => by
      have := congrArg List.length e
      rw [List.length_drop, ← hn] at this
      simp at this
      omega))
    have HL := hide (And.intro hlo (And.intro hhi h41))
    have HKN := hide hkn
    clear B3 hn h42 hf
    go_wp2_with fail
    refine GE.out.mono ?_
    rintro e w5 ⟨b5, hp⟩
    rcases hp with ⟨_, rfl⟩ | ⟨d, _, _, _, _, q, _⟩
    case inr => rw [HX.out] at q; cases q
    have Z := bel_new w5 (.cells #[.slice none 0 0, .int .i64 0, .int .i64 0, .slice none 0 0, .slice none 0 0, .int .i64 0, .slice none 0 0] 27)
    have Z2 := bel_new (w5.alloc (.cells #[.slice none 0 0, .int .i64 0, .int .i64 0, .slice none 0 0, .slice none 0 0, .int .i64 0, .slice none 0 0] 27)) (.cells #[] 5)
    have hs : (w5.alloc (.cells #[.slice none 0 0, .int .i64 0, .int .i64 0, .slice none 0 0, .slice none 0 0, .int .i64 0, .slice none 0 0] 27)).heap.size = w5.heap.size + 1 := by simp
    have B5 := hide (bel_trans B4.out (bel_trans b5 (bel_trans Z Z2)))
    have B45 := bel_trans b5 (bel_trans Z Z2)
    have Y5 := own_keep Y4.out.own (fun j hj => B45.block j (own_type Y4.out.own hj).2.1)
    have K5 : ((w5.alloc (.cells #[.slice none 0 0, .int .i64 0, .int .i64 0, .slice none 0 0, .slice none 0 0, .int .i64 0, .slice none 0 0] 27)).alloc (.cells #[] 5)).heap[w5.heap.size + 1]? = some (.cells #[] 5 (0, 0)) := by rw [← hs]; exact Go.Deep.blk_alloc_new _ _
    rw [← HN.out] at Y5
    have hX5 : ∀ j, j < n → ((w5.alloc (.cells #[.slice none 0 0, .int .i64 0, .int .i64 0, .slice none 0 0, .slice none 0 0, .int .i64 0, .slice none 0 0] 27)).alloc (.cells #[] 5)).cell? ⟨gx, j, none⟩ = some (.int .u8 ((bytesL c).getD j 0)) := fun j hj => by
      rcases own_cells Y5 with ⟨e, _⟩ | ⟨g, cap, e, _, _, _, hh⟩
      · cases e
      · cases e
        exact hh j _ (by omega) (yys_at _ j (by rw [← HN.out]; exact hj))
    have PA := hide (fun ty => pushM0 (B := w.heap.size) (cx := k4) HN.out (by omega) K5 (by have := B4.out.size; have := b5.size; omega) hX5 B5.out.size ty)
    have HW5 : Hid (w.heap.size ≤ w5.heap.size + 1) := hide (by have := B4.out.size; have := b5.size; omega)
    clear GE b5 hk hkk HX Z Z2 YS h41 hs B45 Y5 K5 hX5
    unfold errV
    go_wp2_with (first
      | (at_builtin
         (
           refine wpList_appG (TS := 33) (.tmp 41) (.tmp 42) _ _ _ PA.out rfl rfl rfl rfl ?_
           rintro v6 w6 ⟨⟨a6, c6, rfl⟩, o6, t6⟩
           have B6 := hide (B5.out.trans (Below.grown (B := w.heap.size) t6 (fun k e => by cases e; exact HW5.out) B5.out.size))
           have Z6 := bel_new w6 (.cells #[.int .u8 more] 5)
           have B7 := hide (bel_trans B6.out Z6)
           have O7 := own_keep o6 (fun j hj => Z6.block j (own_type o6 hj).2.1)
           have PB := hide (fun ty => pushM (B := w.heap.size) (m := [more]) (k := 1) (cx := 1) HN.out rfl (by omega) O7 (fun j hj => by
             obtain rfl : j = 0 := by omega
             exact blk_cell (Go.Deep.blk_alloc_new w6 (.cells #[.int .u8 more] 5)) 0 _ rfl) B7.out.size ty)
           have HO := hide (fun k (hk : Value.ownBlock (.slice a6 n c6) = some k) => (own_type O7 hk).1)
           clear o6 t6 Z6 O7 PA))
      | (at_builtin; refine wpList_appG (TS := 33) (.tmp 43) (.tmp 45) _ _ _ PB.out rfl rfl rfl rfl ?_; rintro v8 w8 ⟨⟨a8, c8, rfl⟩, o8, t8⟩))
    have B8 := hide (B7.out.trans (Below.grown (B := w.heap.size) t8 HO.out B7.out.size))
    have GF := hide (get_any (HC.out.bel B8.out) (Ys.of_own (l := bytesL c ++ [more]) (by rw [List.length_append, ← HN.out]; exact o8)) (BY.out.app (fun b hb => by simp at hb; subst hb; exact HMO.out)) (by rw [List.length_append, ← HN.out]; simp; omega))
    have HX : Hid (codeB (bytesL c ++ [more]) = none) := hide (code_long HCD.out (by simp))
    clear o8 t8 PB HO B7 B6 B5
    refine GF.out.mono ?_
    rintro e w9 ⟨b9, hp⟩
    rcases hp with ⟨_, rfl⟩ | ⟨d, _, _, _, _, q, _⟩
    case inr => rw [HX.out] at q; cases q
    have Z := bel_new w9 (.cells #[.slice none 0 0, .int .i64 0, .int .i64 0, .slice none 0 0, .slice none 0 0, .int .i64 0, .slice none 0 0] 27)
    have B9 := hide (bel_trans B8.out (bel_trans b9 Z))
    have NE := hide (num_err p 8 _ (E0.out.below (Nat.le_refl _) B9.out) (by omega))
    unfold errV at NE
    unfold errV
    clear b9 Z GF B8 HX
    go_wp2_with fail
    refine NE.out.mono ?_
    rintro e w10 ⟨rfl, b10⟩
    have B10 := hide (bel_trans B9.out b10)
    have NF := hide (num_err p 8 _ (E0.out.below (Nat.le_refl _) B10.out) (by omega))
    unfold errV at NF
    clear b10 NE B9
    go_wp2_with fail
    refine NF.out.mono ?_
    rintro e w11 ⟨rfl, b11⟩
    have B11 := hide (bel_trans B10.out b11)
    clear b11 NF B10
    go_wp2_with fail
    go_ret
    exact ⟨rfl, B11.out⟩
end Go.Proofs.YtoboeipmhfnfdaaDoor.Ck
