/- SyncPlays: one call on both states: a place is read. (Written by mk_y.py.) -/
import Derived.Test.YtghfjnnmpmfboaaDoorWd
import Derived.Test.YtghfjnnmpmfboaaDoorXf
namespace Go.Proofs.YtghfjnnmpmfboaaDoor.Ck
open Go.RowKit

set_option maxRecDepth 20000 in
set_option maxHeartbeats 2000000 in
theorem do_read {w0 w : World} {G R : Nat → Prop} {B g gm : Nat} {s : St} {p : List Addr} (h : Pr w0 w G R B g gm s) (h17 : Errs17 w0 p) (_hB1 : B ≤ 100000) (i n t m z : Int) : Calls Tryd.prog 13 #[.pointer (some ⟨g, 0, none⟩), .pointer (some ⟨gm, 0, none⟩), .agg #[.int .i64 1, .int .i64 i, .int .i64 n, .int .i64 t, .int .i64 m, .int .u64 z]] w (DoE w0 w G R (B + 1) g gm (s)) := by
  have hb0 := bel_new w (.cells #[.int .i64 1, .int .i64 i, .int .i64 n, .int .i64 t, .int .i64 m, .int .u64 z] 43)
  have X1 : Hid (Bx (w.alloc (.cells #[.int .i64 1, .int .i64 i, .int .i64 n, .int .i64 t, .int .i64 m, .int .u64 z] 43)) w.heap.size 1 i n t m z) := hide (Go.Deep.blk_alloc_new w (.cells #[.int .i64 1, .int .i64 i, .int .i64 n, .int .i64 t, .int .i64 m, .int .u64 z] 43))
  obtain ⟨F, F2, K⟩ := (h.bel hb0).kp
  have HN := hide (h.box K)
  have E7 := h17.below (Nat.le_refl _) K.hbl
  have H17 := hide h17
  have HB0 := hide hb0
  clear h h17 hb0
  obtain ⟨mP, mL, mC, mS, mT, mA, mss, mtk, hv⟩ := K.hm
  obtain ⟨aP, cP, eP, hcP, hmP⟩ := own_slice hv.pl
  obtain ⟨nP, hnP⟩ : ∃ n, n = s.P.length := ⟨_, rfl⟩
  rw [← hnP] at eP hcP
  subst eP
  have q0 := hide (And.intro hv.cells.1 (hv.fb gm hv.fg))
  cases hl : lk s.P i with
  | none =>
    have SR := sRead K.hs E7.e2 i
    simp only [rdM, hl] at SR
    have IN := hide (fun w3 => in_no i nP w3 (by rw [hnP]; exact lk_none hl))
    have NU := hide (fun (w3 : World) (he : Errs17 w3 p) => num_o p 1 w3 he (by omega))
    have hne := (erO_ne p 1 (by omega))
    generalize erO p 1 = ev at *
    obtain ⟨ad, rfl⟩ := hne
    have SR1 := hide SR
    have HK := hide K
    have EV := eq_vv
    clear K SR hv hl hnP hcP hmP E7
    go_enter Tryd.func13, Tryd.ntmps13
    go_wp2_with fail
    obtain ⟨b, hb⟩ : ∃ b, w.heap.size = b := ⟨_, rfl⟩
    generalize w.alloc (.cells #[.int .i64 1, .int .i64 i, .int .i64 n, .int .i64 t, .int .i64 m, .int .u64 z] 43) = wa at *
    rw [hb] at X1 HN ⊢
    clear hb
    obtain ⟨x0, x1, x2, x3, x4, x5⟩ := X1.out.all
    refine SR1.out.mono ?_
    rintro e w1 ⟨rfl, hb1⟩
    have B1 := hide (bel_al hb1 (.cells #[.int .i64 0, .int .i64 0, .int .u64 0] 41))
    obtain ⟨y0, y1, y2, y3, y4, y5⟩ := (X1.out.al B1.out).all
    have cm := (B1.out.cell (p := ⟨gm, 0, none⟩) q0.out.2).trans q0.out.1
    clear hb1 x0 x1 x2 x3 x4 x5 X1 SR1
    go_wp2_with fail
    go_quiet ((go_at_call 14; exact Calls.quiet_of_same ((IN.out _).mono fun _ _ h => ⟨h.1, h.2.symm⟩)))
    go_wp2_with fail
    refine (NU.out _ (H17.out.below (Nat.le_refl _) (bel_trans HK.out.hbl (below_drewN B1.out _)))).mono ?_
    rintro e w3 ⟨rfl, hb3⟩
    go_wp2_with fail
    go_ret
    exact DoE.mk (by simp) HB0.out (HK.out.still (bel_trans (below_drewN B1.out _) hb3))
  | some x =>
    obtain ⟨v0, v1, v2⟩ := x
    obtain ⟨k, rfl, hk⟩ := lk_some hl
    have SR := sRead K.hs E7.e2 (k : Nat)
    simp only [rdM, hl, erO] at SR
    have hkn : k < nP := by
      have := (List.getElem?_eq_some_iff.1 hk).1
      omega
    have IN := hide (fun w3 => in_yes k nP w3 hkn)
    obtain ⟨bP, eA⟩ := own_addr hv.pl (by omega)
    subst eA
    obtain ⟨p0, p1, p2⟩ := vcs_at _ _ _ hk
    have q1 := hide (And.intro (own_cell hv.pl _ _ p0).1 (And.intro (own_cell hv.pl _ _ p1).1 (And.intro (own_cell hv.pl _ _ p2).1 (own_type hv.pl (k := bP) rfl).2.1)))
    have SR1 := hide SR
    have HK := hide K
    have EV := eq_vv
    clear K SR hv hl hk p0 p1 p2 hnP hcP hmP E7
    go_enter Tryd.func13, Tryd.ntmps13
    go_wp2_with fail
    obtain ⟨b, hb⟩ : ∃ b, w.heap.size = b := ⟨_, rfl⟩
    generalize w.alloc (.cells #[.int .i64 1, .int .i64 (k : Int), .int .i64 n, .int .i64 t, .int .i64 m, .int .u64 z] 43) = wa at *
    rw [hb] at X1 HN ⊢
    clear hb
    obtain ⟨x0, x1, x2, x3, x4, x5⟩ := X1.out.all
    refine SR1.out.mono ?_
    rintro e w1 ⟨rfl, hb1⟩
    have B1 := hide (bel_al hb1 (.cells #[.int .i64 v0, .int .i64 v1, .int .u64 v2] 41))
    obtain ⟨y0, y1, y2, y3, y4, y5⟩ := (X1.out.al B1.out).all
    have cm := (B1.out.cell (p := ⟨gm, 0, none⟩) q0.out.2).trans q0.out.1
    have m0 := (B1.out.cell (p := ⟨bP, 3 * k, none⟩) q1.out.2.2.2).trans q1.out.1
    have m1 := (B1.out.cell (p := ⟨bP, 3 * k + 1, none⟩) q1.out.2.2.2).trans q1.out.2.1
    have m2 := (B1.out.cell (p := ⟨bP, 3 * k + 2, none⟩) q1.out.2.2.2).trans q1.out.2.2.1
    rw [Nat.mul_comm 3 k] at m0 m1 m2
    clear hb1 x0 x1 x2 x3 x4 x5 X1 SR1
    go_wp2_with fail
    go_quiet ((go_at_call 14; exact Calls.quiet_of_same ((IN.out _).mono fun _ _ h => ⟨h.1, h.2.symm⟩)))
    go_wp2_with fail
    go_quiet (fail)
    go_wp2_with fail
    go_ret
    exact DoE.mk (by simp) HB0.out (HK.out.still (below_drewN (below_drewN B1.out _) _))
end Go.Proofs.YtghfjnnmpmfboaaDoor.Ck
