/- SyncPlays: one call on both states: an atomic is told. (Written by mk_y.py.) -/
import Derived.Test.YtghfjnnmpmfboaaDoorWe
namespace Go.Proofs.YtghfjnnmpmfboaaDoor.Ck
open Go.RowKit

/-- the variable, and the document's atomics -/
def Ga (w : World) (b gm : Nat) (v : Value) (k i n t m z : Int) (p : List Addr) : Prop := Bx w b k i n t m z ∧ w.cell? ⟨gm, 5, none⟩ = some v ∧ gm < w.heap.size ∧ Errs17 w p
theorem Ga.al {w w' : World} {b gm : Nat} {v : Value} {k i n t m z : Int} {p : List Addr} (h : Ga w b gm v k i n t m z p) (hb : Below w.heap.size w w') : Ga w' b gm v k i n t m z p := ⟨h.1.al hb, (hb.cell (p := ⟨gm, 5, none⟩) h.2.2.1).trans h.2.1, Nat.lt_of_lt_of_le h.2.2.1 hb.size, h.2.2.2.below (Nat.le_refl _) hb⟩
set_option maxRecDepth 20000 in
set_option maxHeartbeats 2000000 in
theorem do_get {w0 w : World} {G R : Nat → Prop} {B g gm : Nat} {s : St} {p : List Addr} (h : Pr w0 w G R B g gm s) (h17 : Errs17 w0 p) (_hB1 : B ≤ 100000) (i n t m z : Int) : Calls Tryd.prog 13 #[.pointer (some ⟨g, 0, none⟩), .pointer (some ⟨gm, 0, none⟩), .agg #[.int .i64 7, .int .i64 i, .int .i64 n, .int .i64 t, .int .i64 m, .int .u64 z]] w (DoE w0 w G R (B + 1) g gm (s)) := by
  have hb0 := bel_new w (.cells #[.int .i64 7, .int .i64 i, .int .i64 n, .int .i64 t, .int .i64 m, .int .u64 z] 43)
  have X1 : Hid (Bx (w.alloc (.cells #[.int .i64 7, .int .i64 i, .int .i64 n, .int .i64 t, .int .i64 m, .int .u64 z] 43)) w.heap.size 7 i n t m z) := hide (Go.Deep.blk_alloc_new w (.cells #[.int .i64 7, .int .i64 i, .int .i64 n, .int .i64 t, .int .i64 m, .int .u64 z] 43))
  obtain ⟨F, F2, K⟩ := (h.bel hb0).kp
  have HN := hide (h.box K)
  have E7 := h17.below (Nat.le_refl _) K.hbl
  have H17 := hide h17
  have HB0 := hide hb0
  clear h h17 hb0
  obtain ⟨mP, mL, mC, mS, mT, mA, mss, mtk, hv⟩ := K.hm
  obtain ⟨aA, cA, eA, hcA, hmA⟩ := own_slice hv.ato
  obtain ⟨nA, hnA⟩ : ∃ n, n = s.A.length := ⟨_, rfl⟩
  rw [← hnA] at eA hcA
  subst eA
  have q5 := hide (And.intro hv.cells.2.2.2.2.2 (hv.fb gm hv.fg))
  cases hl : lk s.A i with
  | none =>
    have IN := hide (fun w3 => in_no i nA w3 (by rw [hnA]; exact lk_none hl))
    have SG := fun (w3 : World) (hs3 : Stt w3 F g s) (he : E2 w3 p) => sGet hs3 he i
    simp only [gtM, hl] at SG
    have NU := hide (fun (w3 : World) (he : Errs17 w3 p) => num_o p 1 w3 he (by omega))
    have hne := (erO_ne p 1 (by omega))
    generalize erO p 1 = ev at *
    obtain ⟨ad, rfl⟩ := hne
    have SG1 := hide SG
    have HK := hide K
    have HE := hide E7
    have G0 := hide (show Ga _ _ gm (.slice aA nA cA) 7 i n t m z p from ⟨X1.out, q5.out.1, q5.out.2, E7⟩)
    clear K SG hv hl hnA hcA hmA E7
    go_enter Tryd.func13, Tryd.ntmps13
    go_wp2_with fail
    obtain ⟨b, hb⟩ : ∃ b, w.heap.size = b := ⟨_, rfl⟩
    generalize w.alloc (.cells #[.int .i64 7, .int .i64 i, .int .i64 n, .int .i64 t, .int .i64 m, .int .u64 z] 43) = wa at *
    rw [hb] at X1 HN G0 ⊢
    clear hb
    obtain ⟨x0, x1, x2, x3, x4, x5⟩ := X1.out.all
    have cm := q5.out.1
    go_quiet ((go_at_call 14; exact Calls.quiet_of_same ((IN.out _).mono fun _ _ h => ⟨h.1, h.2.symm⟩)))
    go_wp2_with fail
    refine (SG1.out _ (HK.out.hs.bel (below_drewN (Below.refl _ _) _)) (HE.out.e2.below (Nat.le_refl _) (below_drewN (Below.refl _ _) _))).mono ?_
    rintro e w2 ⟨rfl, hb2⟩
    have B2 := hide hb2
    have B3 := hide (bel_trans (below_drewN (Below.refl _ _) _) hb2)
    have G2 := hide ((G0.out.al (below_drewN (Below.refl _ _) _)).al hb2)
    clear hb2 G0 x0 x1 x2 x3 x4 x5 cm
    obtain ⟨x0, x1, x2, x3, x4, x5⟩ := G2.out.1.all
    go_wp2_with fail
    refine wp_region_held_drew (S := fun w' => Ga w' b gm (.slice aA nA cA) 7 i n t m z p) mixed (G2.out.al (bel_drawn (Below.refl _ _))) (fun hH => ?_)
    replace B3 := hide (bel_drawn B3.out)
    clear G2 x0 x1 x2 x3 x4 x5
    generalize World.drew _ = w3 at *
    refine wpAnyH_take (i := 0) (v := ?_) rfl (by kernel_rfl) (by kernel_rfl) (by kernel_rfl) (fun _ _ _ h => h) (Or.inl ⟨by rfl, ?_⟩) hH ?_
    rotate_left 1
    · (intro w hSw; skip; clear hSw; go_simp <;> with_reducible rfl)
    simp only [Act.put, List.getElem_toArray, List.getElem_cons_zero, List.setIfInBounds_toArray, List.set_cons_zero, List.set_cons_succ]
    refine wpAnyH_take (i := 2) (v := ?_) rfl (by kernel_rfl) (by kernel_rfl) (by kernel_rfl) (fun _ _ _ h => h) (Or.inl ⟨by rfl, ?_⟩) hH ?_
    rotate_left 1
    · (intro w hSw; skip; clear hSw; go_simp <;> with_reducible rfl)
    simp only [Act.put, List.getElem_toArray, List.getElem_cons_zero, List.getElem_cons_succ, List.setIfInBounds_toArray, List.set_cons_zero, List.set_cons_succ]
    refine wpAnyH_ready (rs := [1]) (by kernel_rfl) (by decide) ?_
    refine AllReadyH.cons rfl (fun K1 hK1 => ?_) AllReadyH.nil
    go_simp
    refine (NU.out _ hH.2.2.2).mono ?_
    rintro e d4 ⟨rfl, hb⟩
    replace B3 := hide (bel_trans B3.out hb)
    refine hK1.out _ _ (hH.al hb) (fun hH => ?_)
    clear hK1 K1 hb
    refine wpAnyH_take (i := 3) (v := ?_) rfl (by kernel_rfl) (by kernel_rfl) (by kernel_rfl) (fun _ _ _ h => h) (Or.inl ⟨by rfl, ?_⟩) hH ?_
    rotate_left 1
    · (intro w hSw; skip; clear hSw; go_simp <;> with_reducible rfl)
    simp only [Act.put, List.getElem_toArray, List.getElem_cons_zero, List.getElem_cons_succ, List.setIfInBounds_toArray, List.set_cons_zero, List.set_cons_succ]
    refine wpAnyH_take (i := 4) (v := ?_) rfl (by kernel_rfl) (by kernel_rfl) (by kernel_rfl) (fun _ _ _ h => h) (Or.inl ⟨by rfl, ?_⟩) hH ?_
    rotate_left 1
    · (intro w hSw; skip; clear hSw; go_simp <;> with_reducible rfl)
    simp only [Act.put, List.getElem_toArray, List.getElem_cons_zero, List.getElem_cons_succ, List.setIfInBounds_toArray, List.set_cons_zero, List.set_cons_succ]
    refine wpAnyH_take (i := 5) (v := ?_) rfl (by kernel_rfl) (by kernel_rfl) (by kernel_rfl) (fun _ _ _ h => h) (Or.inl ⟨by rfl, ?_⟩) hH ?_
    rotate_left 1
    · (intro w hSw; skip; clear hSw; go_simp <;> with_reducible rfl)
    simp only [Act.put, List.getElem_toArray, List.getElem_cons_zero, List.getElem_cons_succ, List.setIfInBounds_toArray, List.set_cons_zero, List.set_cons_succ]
    refine wpAnyH_take (i := 6) (v := ?_) rfl (by kernel_rfl) (by kernel_rfl) (by kernel_rfl) (fun _ _ _ h => h) (Or.inl ⟨by rfl, ?_⟩) hH ?_
    rotate_left 1
    · (intro w hSw; skip; clear hSw; go_simp <;> with_reducible rfl)
    simp only [Act.put, List.getElem_toArray, List.getElem_cons_zero, List.getElem_cons_succ, List.setIfInBounds_toArray, List.set_cons_zero, List.set_cons_succ]
    refine wpAnyH_take (i := 7) (v := ?_) rfl (by kernel_rfl) (by kernel_rfl) (by kernel_rfl) (fun _ _ _ h => h) (Or.inl ⟨by rfl, ?_⟩) hH ?_
    rotate_left 1
    · (intro w hSw; skip; clear hSw; go_simp <;> with_reducible rfl)
    simp only [Act.put, List.getElem_toArray, List.getElem_cons_zero, List.getElem_cons_succ, List.setIfInBounds_toArray, List.set_cons_zero, List.set_cons_succ]
    refine wpAnyH_take (i := 8) (v := ?_) rfl (by kernel_rfl) (by kernel_rfl) (by kernel_rfl) (fun _ _ _ h => h) (Or.inl ⟨by rfl, ?_⟩) hH ?_
    rotate_left 1
    · (intro w hSw; skip; clear hSw; go_simp <;> with_reducible rfl)
    simp only [Act.put, List.getElem_toArray, List.getElem_cons_zero, List.getElem_cons_succ, List.setIfInBounds_toArray, List.set_cons_zero, List.set_cons_succ]
    refine wpAnyH_take (i := 9) (v := ?_) rfl (by kernel_rfl) (by kernel_rfl) (by kernel_rfl) (fun _ _ _ h => h) (Or.inl ⟨by rfl, ?_⟩) hH ?_
    rotate_left 1
    · (intro w hSw; skip; clear hSw; go_simp <;> with_reducible rfl)
    simp only [Act.put, List.getElem_toArray, List.getElem_cons_zero, List.getElem_cons_succ, List.setIfInBounds_toArray, List.set_cons_zero, List.set_cons_succ]
    refine wpAnyH_take (i := 10) (v := ?_) rfl (by kernel_rfl) (by kernel_rfl) (by kernel_rfl) (fun _ _ _ h => h) (Or.inl ⟨by rfl, ?_⟩) hH ?_
    rotate_left 1
    · (intro w hSw; skip; clear hSw; go_simp <;> with_reducible rfl)
    simp only [Act.put, List.getElem_toArray, List.getElem_cons_zero, List.getElem_cons_succ, List.setIfInBounds_toArray, List.set_cons_zero, List.set_cons_succ]
    refine wpAnyH_take (i := 11) (v := ?_) rfl (by kernel_rfl) (by kernel_rfl) (by kernel_rfl) (fun _ _ _ h => h) (Or.inl ⟨by rfl, ?_⟩) hH ?_
    rotate_left 1
    · (intro w hSw; skip; clear hSw; go_simp <;> with_reducible rfl)
    simp only [Act.put, List.getElem_toArray, List.getElem_cons_zero, List.getElem_cons_succ, List.setIfInBounds_toArray, List.set_cons_zero, List.set_cons_succ]
    refine wpAnyH_take (i := 12) (v := undef) rfl (by kernel_rfl) (by kernel_rfl) (by kernel_rfl) (fun _ _ _ h => h) (Or.inr ⟨by rfl, rfl⟩) hH ?_
    simp only [Act.put, List.getElem_toArray, List.getElem_cons_zero, List.getElem_cons_succ, List.setIfInBounds_toArray, List.set_cons_zero, List.set_cons_succ]
    refine wpAnyH_take (i := 13) (v := undef) rfl (by kernel_rfl) (by kernel_rfl) (by kernel_rfl) (fun _ _ _ h => h) (Or.inr ⟨by rfl, rfl⟩) hH ?_
    simp only [Act.put, List.getElem_toArray, List.getElem_cons_zero, List.getElem_cons_succ, List.setIfInBounds_toArray, List.set_cons_zero, List.set_cons_succ]
    refine wpAnyH_take (i := 14) (v := undef) rfl (by kernel_rfl) (by kernel_rfl) (by kernel_rfl) (fun _ _ _ h => h) (Or.inr ⟨by rfl, rfl⟩) hH ?_
    simp only [Act.put, List.getElem_toArray, List.getElem_cons_zero, List.getElem_cons_succ, List.setIfInBounds_toArray, List.set_cons_zero, List.set_cons_succ]
    refine wpAnyH_take (i := 15) (v := undef) rfl (by kernel_rfl) (by kernel_rfl) (by kernel_rfl) (fun _ _ _ h => h) (Or.inr ⟨by rfl, rfl⟩) hH ?_
    simp only [Act.put, List.getElem_toArray, List.getElem_cons_zero, List.getElem_cons_succ, List.setIfInBounds_toArray, List.set_cons_zero, List.set_cons_succ]
    refine wpAnyH_take (i := 16) (v := undef) rfl (by kernel_rfl) (by kernel_rfl) (by kernel_rfl) (fun _ _ _ h => h) (Or.inr ⟨by rfl, rfl⟩) hH ?_
    simp only [Act.put, List.getElem_toArray, List.getElem_cons_zero, List.getElem_cons_succ, List.setIfInBounds_toArray, List.set_cons_zero, List.set_cons_succ]
    refine wpAnyH_take (i := 17) (v := undef) rfl (by kernel_rfl) (by kernel_rfl) (by kernel_rfl) (fun _ _ _ h => h) (Or.inr ⟨by rfl, rfl⟩) hH ?_
    simp only [Act.put, List.getElem_toArray, List.getElem_cons_zero, List.getElem_cons_succ, List.setIfInBounds_toArray, List.set_cons_zero, List.set_cons_succ]
    refine wpAnyH_take (i := 18) (v := undef) rfl (by kernel_rfl) (by kernel_rfl) (by kernel_rfl) (fun _ _ _ h => h) (Or.inr ⟨by rfl, rfl⟩) hH ?_
    simp only [Act.put, List.getElem_toArray, List.getElem_cons_zero, List.getElem_cons_succ, List.setIfInBounds_toArray, List.set_cons_zero, List.set_cons_succ]
    refine wpAnyH_take (i := 19) (v := undef) rfl (by kernel_rfl) (by kernel_rfl) (by kernel_rfl) (fun _ _ _ h => h) (Or.inr ⟨by rfl, rfl⟩) hH ?_
    simp only [Act.put, List.getElem_toArray, List.getElem_cons_zero, List.getElem_cons_succ, List.setIfInBounds_toArray, List.set_cons_zero, List.set_cons_succ]
    refine wpAnyH_take (i := 20) (v := undef) rfl (by kernel_rfl) (by kernel_rfl) (by kernel_rfl) (fun _ _ _ h => h) (Or.inr ⟨by rfl, rfl⟩) hH ?_
    simp only [Act.put, List.getElem_toArray, List.getElem_cons_zero, List.getElem_cons_succ, List.setIfInBounds_toArray, List.set_cons_zero, List.set_cons_succ]
    refine wpAnyH_take (i := 21) (v := undef) rfl (by kernel_rfl) (by kernel_rfl) (by kernel_rfl) (fun _ _ _ h => h) (Or.inr ⟨by rfl, rfl⟩) hH ?_
    simp only [Act.put, List.getElem_toArray, List.getElem_cons_zero, List.getElem_cons_succ, List.setIfInBounds_toArray, List.set_cons_zero, List.set_cons_succ]
    refine wpAnyH_take (i := 22) (v := undef) rfl (by kernel_rfl) (by kernel_rfl) (by kernel_rfl) (fun _ _ _ h => h) (Or.inr ⟨by rfl, rfl⟩) hH ?_
    simp only [Act.put, List.getElem_toArray, List.getElem_cons_zero, List.getElem_cons_succ, List.setIfInBounds_toArray, List.set_cons_zero, List.set_cons_succ]
    refine wpAnyH_take (i := 23) (v := undef) rfl (by kernel_rfl) (by kernel_rfl) (by kernel_rfl) (fun _ _ _ h => h) (Or.inr ⟨by rfl, rfl⟩) hH ?_
    simp only [Act.put, List.getElem_toArray, List.getElem_cons_zero, List.getElem_cons_succ, List.setIfInBounds_toArray, List.set_cons_zero, List.set_cons_succ]
    refine wpAnyH_take (i := 24) (v := undef) rfl (by kernel_rfl) (by kernel_rfl) (by kernel_rfl) (fun _ _ _ h => h) (Or.inr ⟨by rfl, rfl⟩) hH ?_
    simp only [Act.put, List.getElem_toArray, List.getElem_cons_zero, List.getElem_cons_succ, List.setIfInBounds_toArray, List.set_cons_zero, List.set_cons_succ]
    refine wpAnyH_take (i := 25) (v := ?_) rfl (by kernel_rfl) (by kernel_rfl) (by kernel_rfl) (fun _ _ _ h => h) (Or.inl ⟨by rfl, ?_⟩) hH ?_
    rotate_left 1
    · (intro w hSw; skip; clear hSw; go_simp <;> with_reducible rfl)
    simp only [Act.put, List.getElem_toArray, List.getElem_cons_zero, List.getElem_cons_succ, List.setIfInBounds_toArray, List.set_cons_zero, List.set_cons_succ]
    refine wpAnyH_take (i := 26) (v := ?_) rfl (by kernel_rfl) (by kernel_rfl) (by kernel_rfl) (fun _ _ _ h => h) (Or.inl ⟨by rfl, ?_⟩) hH ?_
    rotate_left 1
    · (intro w hSw; skip; clear hSw; go_simp <;> with_reducible rfl)
    simp only [Act.put, List.getElem_toArray, List.getElem_cons_zero, List.getElem_cons_succ, List.setIfInBounds_toArray, List.set_cons_zero, List.set_cons_succ]
    refine wpAnyH_take (i := 27) (v := ?_) rfl (by kernel_rfl) (by kernel_rfl) (by kernel_rfl) (fun _ _ _ h => h) (Or.inl ⟨by rfl, ?_⟩) hH ?_
    rotate_left 1
    · (intro w hSw; skip; clear hSw; go_simp <;> with_reducible rfl)
    simp only [Act.put, List.getElem_toArray, List.getElem_cons_zero, List.getElem_cons_succ, List.setIfInBounds_toArray, List.set_cons_zero, List.set_cons_succ]
    refine wpAnyH_done (by kernel_rfl) ?_ _
    clear hH
    go_wp2_with fail
    go_ret
    exact DoE.mk (by simp) HB0.out (HK.out.still B3.out)
  | some x =>
    obtain ⟨k, rfl, hk⟩ := lk_some hl
    have hkn : k < nA := by
      have := (List.getElem?_eq_some_iff.1 hk).1
      omega
    have IN := hide (fun w3 => in_yes k nA w3 hkn)
    obtain ⟨bA, eB⟩ := own_addr hv.ato (by omega)
    subst eB
    have q1 := hide (And.intro (own_cell hv.ato _ _ (nts_at hk)) (own_type hv.ato (k := bA) rfl).2.1)
    have SG := fun (w3 : World) (hs3 : Stt w3 F g s) (he : E2 w3 p) => sGet hs3 he (k : Nat)
    simp only [gtM, hl, erO] at SG
    have SG1 := hide SG
    have HK := hide K
    have HE := hide E7
    clear K SG hv hl hk hnA hcA hmA E7
    go_enter Tryd.func13, Tryd.ntmps13
    go_wp2_with fail
    obtain ⟨b, hb⟩ : ∃ b, w.heap.size = b := ⟨_, rfl⟩
    generalize w.alloc (.cells #[.int .i64 7, .int .i64 (k : Int), .int .i64 n, .int .i64 t, .int .i64 m, .int .u64 z] 43) = wa at *
    rw [hb] at X1 HN ⊢
    clear hb
    obtain ⟨x0, x1, x2, x3, x4, x5⟩ := X1.out.all
    have cm := q5.out.1
    go_quiet ((go_at_call 14; exact Calls.quiet_of_same ((IN.out _).mono fun _ _ h => ⟨h.1, h.2.symm⟩)))
    go_wp2_with fail
    refine (SG1.out _ (HK.out.hs.bel (below_drewN (Below.refl _ _) _)) (HE.out.e2.below (Nat.le_refl _) (below_drewN (Below.refl _ _) _))).mono ?_
    rintro e w2 ⟨rfl, hb2⟩
    have B3 := hide (bel_trans (below_drewN (Below.refl _ _) _) hb2)
    clear hb2 x0 x1 x2 x3 x4 x5 cm
    obtain ⟨x0, x1, x2, x3, x4, x5⟩ := (X1.out.al B3.out).all
    have cm := (B3.out.cell (p := ⟨gm, 5, none⟩) q5.out.2).trans q5.out.1
    have ca := (B3.out.cell (p := ⟨bA, k, none⟩) q1.out.2).trans q1.out.1.1
    go_wp2_with fail
    go_quiet ((go_at_call 10; exact Calls.quiet_of_same ((num_nil _).mono fun _ _ h => ⟨h.1, h.2.symm⟩)))
    go_wp2_with fail
    go_ret
    exact DoE.mk (by simp) HB0.out (HK.out.still (below_drewN B3.out _))
end Go.Proofs.YtghfjnnmpmfboaaDoor.Ck
