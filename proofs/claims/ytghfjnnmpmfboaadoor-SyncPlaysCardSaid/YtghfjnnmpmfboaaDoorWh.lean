/- SyncPlays: one call on both states: an atomic is added to. (Written by mk_y.py.) -/
import Derived.Test.YtghfjnnmpmfboaaDoorWg
namespace Go.Proofs.YtghfjnnmpmfboaaDoor.Ck
open Go.RowKit

set_option maxRecDepth 20000 in
set_option maxHeartbeats 2000000 in
theorem do_add {w0 w : World} {G R : Nat → Prop} {B g gm : Nat} {s : St} {p : List Addr} (h : Pr w0 w G R B g gm s) (h17 : Errs17 w0 p) (_hB1 : B ≤ 100000) (i n t m z : Int) : Calls Tryd.prog 13 #[.pointer (some ⟨g, 0, none⟩), .pointer (some ⟨gm, 0, none⟩), .agg #[.int .i64 9, .int .i64 i, .int .i64 n, .int .i64 t, .int .i64 m, .int .u64 z]] w (DoE w0 w G R (B + 1) g gm ((adM s i n).2)) := by
  have hb0 := bel_new w (.cells #[.int .i64 9, .int .i64 i, .int .i64 n, .int .i64 t, .int .i64 m, .int .u64 z] 43)
  have X1 : Hid (Bx (w.alloc (.cells #[.int .i64 9, .int .i64 i, .int .i64 n, .int .i64 t, .int .i64 m, .int .u64 z] 43)) w.heap.size 9 i n t m z) := hide (Go.Deep.blk_alloc_new w (.cells #[.int .i64 9, .int .i64 i, .int .i64 n, .int .i64 t, .int .i64 m, .int .u64 z] 43))
  obtain ⟨F, F2, K⟩ := (h.bel hb0).kp
  have HN := hide (h.box K)
  have E7 := h17.below (Nat.le_refl _) K.hbl
  have H17 := hide h17
  have HB0 := hide hb0
  clear h h17 hb0
  obtain ⟨mP, mL, mC, mS, mT, mA, mss, mtk, hv⟩ := K.hm
  obtain ⟨aA, cA, eA, hcA, hmA⟩ := own_slice hv.ato
  obtain ⟨nA, hnA⟩ : ∃ n, n = s.A.length := ⟨_, rfl⟩
  rw [← hnA] at eA hcA
  subst eA
  have q5 := hide (And.intro hv.cells.2.2.2.2.2 (hv.fb gm hv.fg))
  cases hl : lk s.A i with
  | none =>
    have IN := hide (fun w3 => in_no i nA w3 (by rw [hnA]; exact lk_none hl))
    have SG := fun (w3 : World) (hs3 : Stt w3 F g s) (he : E2 w3 p) => sAdd hs3 he i n
    simp only [adM, hl] at SG ⊢
    have NU := hide (fun (w3 : World) (he : Errs17 w3 p) => num_o p 1 w3 he (by omega))
    generalize erO p 1 = ev at *
    have SG1 := hide SG
    have HK := hide K
    have HE := hide E7
    clear K SG hv hl hnA hcA hmA E7
    go_enter Tryd.func13, Tryd.ntmps13
    go_wp2_with fail
    obtain ⟨b, hb⟩ : ∃ b, w.heap.size = b := ⟨_, rfl⟩
    generalize w.alloc (.cells #[.int .i64 9, .int .i64 i, .int .i64 n, .int .i64 t, .int .i64 m, .int .u64 z] 43) = wa at *
    rw [hb] at X1 HN ⊢
    clear hb
    obtain ⟨x0, x1, x2, x3, x4, x5⟩ := X1.out.all
    have cm := q5.out.1
    go_quiet ((go_at_call 14; exact Calls.quiet_of_same ((IN.out _).mono fun _ _ h => ⟨h.1, h.2.symm⟩)))
    go_wp2_with fail
    refine (SG1.out _ (HK.out.hs.bel (below_drewN (Below.refl _ _) _)) (HE.out.e2.below (Nat.le_refl _) (below_drewN (Below.refl _ _) _))).mono ?_
    rintro e w2 ⟨rfl, F', hs2, c2⟩
    have D := hide ((HK.out.bel (below_drewN (Below.refl _ _) _)).done1 hs2 c2 (((HK.out.bel (below_drewN (Below.refl _ _) _)).m1 c2).up) (Ch.refl _ _) (fun _ h => h) (fun _ h => .inl h))
    have E3 := hide (H17.out.below (Nat.le_refl _) D.out.low)
    clear hs2 c2 HK HE
    go_wp2_with fail
    refine (NU.out _ E3.out).mono ?_
    rintro e w3 ⟨rfl, hb3⟩
    go_wp2_with fail
    go_ret
    exact DoE.mk (by simp) (below_drewN HB0.out _) (D.out.bel hb3)
  | some x =>
    obtain ⟨k, rfl, hk⟩ := lk_some hl
    have hkn : k < nA := by
      have := (List.getElem?_eq_some_iff.1 hk).1
      omega
    have IN := hide (fun w3 => in_yes k nA w3 hkn)
    obtain ⟨bA, eB⟩ := own_addr hv.ato (by omega)
    subst eB
    have q1 := hide (And.intro (own_cell hv.ato _ _ (nts_at hk)) (own_type hv.ato (k := bA) rfl).2.1)
    have SG := fun (w3 : World) (hs3 : Stt w3 F g s) (he : E2 w3 p) => sAdd hs3 he (k : Nat) n
    simp only [adM, hl, erO] at SG ⊢
    have SG1 := hide SG
    have HK := hide K
    have HV := hide hv
    have HX := hide hk
    have HNA := hide hnA
    clear K SG hv hl hk hnA hcA hmA E7
    go_enter Tryd.func13, Tryd.ntmps13
    go_wp2_with fail
    obtain ⟨b, hb⟩ : ∃ b, w.heap.size = b := ⟨_, rfl⟩
    generalize w.alloc (.cells #[.int .i64 9, .int .i64 (k : Int), .int .i64 n, .int .i64 t, .int .i64 m, .int .u64 z] 43) = wa at *
    rw [hb] at X1 HN ⊢
    clear hb
    obtain ⟨x0, x1, x2, x3, x4, x5⟩ := X1.out.all
    have cm := q5.out.1
    go_quiet ((go_at_call 14; exact Calls.quiet_of_same ((IN.out _).mono fun _ _ h => ⟨h.1, h.2.symm⟩)))
    go_wp2_with fail
    generalize hwb : World.drewN wa _ = wb
    have BB := hide (show Below wa.heap.size wa wb from hwb ▸ below_drewN (Below.refl _ _) _)
    have HV2 := HV.out.bel BB.out
    have KC := hide ((HK.out.bel BB.out).bel (bel_drawn (Below.refl _ _)))
    have HV3 := hide (HV2.bel (bel_drawn (Below.refl _ _)))
    have B3 := hide (bel_drawn (bel_trans HB0.out BB.out))
    clear hwb x0 x1 x2 x3 x4 x5 cm
    obtain ⟨x0, x1, x2, x3, x4, x5⟩ := (X1.out.al BB.out).all
    have cm := HV2.cells.2.2.2.2.2
    have ca := (own_cell HV2.ato k _ (nts_at HX.out)).1
    have Y1 := hide ((X1.out.al BB.out).al (bel_drawn (Below.refl _ _)))
    clear HV2 HK HV BB q1 q5 X1
    refine wp_quiet_tail2 12 mixed (by kernel_rfl) ?_
    simp only [List.take_succ_cons, List.take_zero, List.drop_succ_cons, List.drop_zero]
    repeat (first | go_big_quiet_skip | (go_big_quiet_want; go_big_quiet_op; go_big_quiet_on))
    refine wpQuiet_nil ?_
    clear x0 x1 x2 x3 x4 x5 cm ca
    generalize wb.drew = wc at *
    obtain ⟨ca, cf⟩ := own_cell HV3.out.ato k _ (nts_at HX.out)
    have SA := HV3.out.setA HNA.out k hkn (wrap64 (x + n))
    have SA1 := hide SA
    obtain ⟨x0, x1, x2, x3, x4, x5⟩ := (Y1.out.ch SA.2 HN.out.2).all
    clear SA HV3
    go_wp2_with fail
    generalize wc.setCell ⟨bA, k, none⟩ (.int .i64 (wrap64 (x + n))) = w4 at *
    refine (SG1.out _ (KC.out.s1 SA1.out.2) (H17.out.below (Nat.le_refl _) (KC.out.b2 SA1.out.2)).e2).mono ?_
    rintro e w5 ⟨rfl, F', hs4, c4⟩
    have D := hide (KC.out.done2 (Rt.up ⟨_, _, _, _, _, _, _, _, SA1.out.1⟩) SA1.out.2 (fun _ h => h) (fun _ h => .inl h) hs4 c4)
    clear hs4 c4 SA1
    go_wp2_with fail
    refine (num_nil _).mono ?_
    rintro e w6 ⟨rfl, rfl⟩
    go_wp2_with fail
    go_ret
    exact DoE.mk (by simp) B3.out D.out
end Go.Proofs.YtghfjnnmpmfboaaDoor.Ck
