/- Package code: a number is written. -/
import Derived.Test.YtoboeipmhfnfdaaDoorDa
namespace Go.Proofs.YtoboeipmhfnfdaaDoor.Ck
open Go.RowKit

theorem Wv.drew {w : World} {g : Nat} {G : Nat → Prop} {v : Value} {l : List Int} (h : Wv w g G v l) : Wv w.drew g G v l := h.keep (fun _ _ _ => rfl)
set_option maxRecDepth 20000 in
set_option maxHeartbeats 4000000 in
theorem write_any {w : World} {g : Nat} {G : Nat → Prop} {l : List Int} (h : Wr w g G l) (n : Nat) (hn : n ≤ 8) (u : Nat) (hl : l.length ≤ 900000) : Calls Tryd.prog 67 #[.pointer (some ⟨g, 0, none⟩), .int .i64 n, .int .u64 (u : Int)] w fun e w' => e = .returned (.tuple #[]) ∧ ∃ G', Wr w' g G' (l ++ bigL n u) ∧ Ch G G' w w' := by
  obtain ⟨v0, h0⟩ := h
  have H0 := hide h0
  have HL := hide hl
  clear h0 hl
  have e0 : wrap64 ((n : Int) - 1) = (n : Int) - 1 := by unfold wrap64; omega
  go_enter Tryd.func67, Tryd.ntmps67
  go_wp2_with fail
  go_loopw [6] (fun i wr => ∃ (j : Nat) (G1 : Nat → Prop) (v : Value), j ≤ n ∧ i = .int .i64 ((j : Int) - 1) ∧ Hid (Wv wr g G1 v (l ++ bigL (n - j) ((u : Int) / 2 ^ (8 * j)))) ∧ Hid (Ch G G1 w wr)) (fun i _ => (intOf i + 1).toNat)
  case atStart => exact ⟨n, G, v0, Nat.le_refl _, rfl, hide (by rw [Nat.sub_self]; simpa [bigL] using H0.out), hide (Ch.refl _ _)⟩
  case round =>
    obtain ⟨j, G1, v, hj, rfl, X0, C0⟩ := hrel
    clear e0 H0
    obtain rfl | ⟨m, rfl⟩ : j = 0 ∨ ∃ m, j = m + 1 := by
      cases j with
      | zero => exact .inl rfl
      | succ m => exact .inr ⟨m, rfl⟩
    · rw [show ((0 : Nat) : Int) - 1 = -1 from rfl]
      go_wp2_with fail
      go_end0
      refine ⟨rfl, G1, ⟨v, ?_⟩, C0.out⟩
      have := X0.out
      simpa using this
    · rw [show ((m + 1 : Nat) : Int) - 1 = (m : Int) by omega]
      have ii : (0 : Int) ≤ (m : Int) ∧ (m : Int) ≤ 7 := by omega
      obtain ⟨i8, ei8⟩ : ∃ i8 : Nat, 8 * (m : Int) = (i8 : Int) := ⟨8 * m, by omega⟩
      have ei8n : Hid (8 * m = i8) := by show _ = _; omega
      have ii8 : (0 : Int) ≤ (i8 : Int) ∧ (i8 : Int) ≤ 56 := by omega
      have ew : IntKind.i64.wrap (i8 : Int) = (i8 : Int) := by
        first
        | (rw [show IntKind.i64.wrap (i8 : Int) = wrap64 (i8 : Int) from rfl]; unfold wrap64; omega)
        | (simp [IntKind.wrap, IntKind.signed, IntKind.bits]; omega)
      have BS := hide (big_step n m u (by omega))
      rw [ei8n.out] at BS
      obtain ⟨L, hL⟩ : ∃ L, L = l ++ bigL (n - (m + 1)) ((u : Int) / 2 ^ (8 * (m + 1))) := ⟨_, rfl⟩
      have HLL := hide hL
      have X : Hid (Wv wr g G1 v L) := hide (by rw [hL]; exact X0.out)
      obtain ⟨aV, cV, eV, _⟩ := own_slice X.out.own
      obtain ⟨nV, hnV⟩ : ∃ nV, nV = L.length := ⟨_, rfl⟩
      rw [← hnV] at eV
      subst eV
      have NL := hide hnV
      have NL2 : Hid (nV ≤ 1000000) := hide (by rw [hnV, hL, List.length_append, bigL_len]; have := HL.out; omega)
      clear X0 hL hnV
      go_wp2_with fail
      refine wp_region_T (S := fun w' => w'.heap[g]? = some (.cells #[.slice aV nV cV] 66 (0, 0))) (fun j => decide (j < 14)) mixed X.out.at_ (fun hH => ?_)
      have XD := hide X.out.drew
      have CD := hide C0.out.drew
      clear X C0
      have X := XD
      clear XD
      generalize wr.drew = wd at *
      refine T_move (i := 0) (v := ?_) rfl (by kernel_rfl) (by kernel_rfl) (by kernel_rfl) (fun _ _ _ h => h) (Or.inl ⟨by rfl, ?_⟩) ?_
      rotate_left 1
      · (intro w _; go_simp <;> with_reducible rfl)
      simp only [Act.put, List.getElem_toArray, List.getElem_cons_zero, List.setIfInBounds_toArray, List.set_cons_zero, List.set_cons_succ]
      refine T_move (i := 1) (v := ?_) rfl (by kernel_rfl) (by kernel_rfl) (by kernel_rfl) (fun _ _ _ h => h) (Or.inl ⟨by rfl, ?_⟩) ?_
      rotate_left 1
      · (intro w _; go_simp <;> with_reducible rfl)
      simp only [Act.put, List.getElem_toArray, List.getElem_cons_zero, List.getElem_cons_succ, List.setIfInBounds_toArray, List.set_cons_zero, List.set_cons_succ]
      refine T_move (i := 2) (v := ?_) rfl (by kernel_rfl) (by kernel_rfl) (by kernel_rfl) (fun _ _ _ h => h) (Or.inl ⟨by rfl, ?_⟩) ?_
      rotate_left 1
      · (intro w _; go_simp <;> with_reducible rfl)
      simp only [Act.put, List.getElem_toArray, List.getElem_cons_zero, List.getElem_cons_succ, List.setIfInBounds_toArray, List.set_cons_zero, List.set_cons_succ]
      refine T_move (i := 3) (v := ?_) rfl (by kernel_rfl) (by kernel_rfl) (by kernel_rfl) (fun _ _ _ h => h) (Or.inl ⟨by rfl, ?_⟩) ?_
      rotate_left 1
      · (intro w _; go_simp <;> with_reducible rfl)
      simp only [Act.put, List.getElem_toArray, List.getElem_cons_zero, List.getElem_cons_succ, List.setIfInBounds_toArray, List.set_cons_zero, List.set_cons_succ]
      refine T_take (i := 4) (v := ?_) rfl (by kernel_rfl) (by kernel_rfl) (by kernel_rfl) (by kernel_rfl) (fun _ _ _ h => h) (Or.inl ⟨by rfl, ?_⟩) hH ?_
      rotate_left 1
      · (intro w hSw; have q := blk_cell hSw 0 _ rfl; clear hSw; go_simp <;> with_reducible rfl)
      simp only [Act.put, List.getElem_toArray, List.getElem_cons_zero, List.getElem_cons_succ, List.setIfInBounds_toArray, List.set_cons_zero, List.set_cons_succ]
      refine T_move (i := 5) (v := ?_) rfl (by kernel_rfl) (by kernel_rfl) (by kernel_rfl) (fun _ _ _ h => h) (Or.inl ⟨by rfl, ?_⟩) ?_
      rotate_left 1
      · (intro w _; go_simp <;> with_reducible rfl)
      simp only [Act.put, List.getElem_toArray, List.getElem_cons_zero, List.getElem_cons_succ, List.setIfInBounds_toArray, List.set_cons_zero, List.set_cons_succ]
      refine T_move (i := 6) (v := ?_) rfl (by kernel_rfl) (by kernel_rfl) (by kernel_rfl) (fun _ _ _ h => h) (Or.inl ⟨by rfl, ?_⟩) ?_
      rotate_left 1
      · (intro w _; go_simp <;> with_reducible rfl)
      simp only [Act.put, List.getElem_toArray, List.getElem_cons_zero, List.getElem_cons_succ, List.setIfInBounds_toArray, List.set_cons_zero, List.set_cons_succ]
      refine T_move (i := 7) (v := ?_) rfl (by kernel_rfl) (by kernel_rfl) (by kernel_rfl) (fun _ _ _ h => h) (Or.inl ⟨by rfl, ?_⟩) ?_
      rotate_left 1
      · (intro w _; go_simp <;> with_reducible rfl)
      simp only [Act.put, List.getElem_toArray, List.getElem_cons_zero, List.getElem_cons_succ, List.setIfInBounds_toArray, List.set_cons_zero, List.set_cons_succ]
      refine T_move (i := 8) (v := ?_) rfl (by kernel_rfl) (by kernel_rfl) (by kernel_rfl) (fun _ _ _ h => h) (Or.inl ⟨by rfl, ?_⟩) ?_
      rotate_left 1
      · (intro w _; go_simp <;> with_reducible rfl)
      simp only [Act.put, List.getElem_toArray, List.getElem_cons_zero, List.getElem_cons_succ, List.setIfInBounds_toArray, List.set_cons_zero, List.set_cons_succ]
      refine T_move (i := 9) (v := ?_) rfl (by kernel_rfl) (by kernel_rfl) (by kernel_rfl) (fun _ _ _ h => h) (Or.inl ⟨by rfl, ?_⟩) ?_
      rotate_left 1
      · (intro w _; go_simp <;> with_reducible rfl)
      simp only [Act.put, List.getElem_toArray, List.getElem_cons_zero, List.getElem_cons_succ, List.setIfInBounds_toArray, List.set_cons_zero, List.set_cons_succ]
      clear hH
      refine T_ready (rs := [10]) (by kernel_rfl) (by decide) ?_
      refine AllReadyT.cons rfl (fun K1 hK1 => ?_) AllReadyT.nil
      go_simp
      refine hK1.out _ _ (fun _ => ((bel_new _ _).block g (lt_of_blk X.out.at_)).trans X.out.at_) (fun _ => ?_)
      have E1 := hide (blk_cell (Go.Deep.blk_alloc_new wd (.cells #[.int .u8 ((u : Int) / 2 ^ i8 % 256)] 5)) 0 _ rfl)
      have X1 := hide (X.out.keep (w' := wd.alloc (.cells #[.int .u8 ((u : Int) / 2 ^ i8 % 256)] 5)) (fun k _ hk => (bel_new _ _).block k hk))
      clear hK1 K1
      refine T_ready (rs := [11]) (by kernel_rfl) (by decide) ?_
      refine AllReadyT.cons rfl (fun K1 hK1 => ?_) AllReadyT.nil
      have X1OWN := hide (by have := X1.out.own; rw [← NL.out] at this; exact this : (wd.alloc (.cells #[.int .u8 ((u : Int) / 2 ^ i8 % 256)] 5)).ownsRow 0 5 1 (.slice aV nV cV) nV (yys L))
      have PU := hide (fun ty => pushY (l := L) NL.out NL2.out X1OWN.out ((u : Int) / 2 ^ i8 % 256) E1.out ty)
      refine step_appV (TS := 33) (.tmp 17) (.tmp 23) _ _ _ (fun ty => PU.out ty) rfl rfl rfl rfl ?_
      rintro v9 w9 ⟨⟨a9, c9, rfl⟩, o9, g9, b9⟩
      have X9 := hide (X1.out.put (by rw [← NL.out]; exact o9) g9 b9)
      refine hK1.out _ _ (fun _ => X9.out.1) (fun _ => ?_)
      clear hK1 K1 PU o9 g9 b9
      refine T_move (i := 12) (v := ?_) rfl (by kernel_rfl) (by kernel_rfl) (by kernel_rfl) (fun _ _ _ h => h) (Or.inl ⟨by rfl, ?_⟩) ?_
      rotate_left 1
      · (intro w _; go_simp <;> with_reducible rfl)
      simp only [Act.put, List.getElem_toArray, List.getElem_cons_zero, List.getElem_cons_succ, List.setIfInBounds_toArray, List.set_cons_zero, List.set_cons_succ]
      refine T_move (i := 13) (v := ?_) rfl (by kernel_rfl) (by kernel_rfl) (by kernel_rfl) (fun _ _ _ h => h) (Or.inl ⟨by rfl, ?_⟩) ?_
      rotate_left 1
      · (intro w _; go_simp <;> with_reducible rfl)
      simp only [Act.put, List.getElem_toArray, List.getElem_cons_zero, List.getElem_cons_succ, List.setIfInBounds_toArray, List.set_cons_zero, List.set_cons_succ]
      refine T_ready (rs := [14]) (by kernel_rfl) (by decide) ?_
      refine AllReadyT.cons rfl (fun K1 hK1 => ?_) AllReadyT.nil
      have n1 := blk_cell X9.out.1 0 _ rfl
      have m1 := blk_frz X9.out.1 0
      go_simp
      refine hK1.out _ _ (fun h => absurd h (by decide)) (fun _ => ?_)
      clear hK1 K1 n1 m1
      refine T_done (by kernel_rfl) ?_ _
      obtain ⟨_, G2, V2, C2⟩ := X9.out
      have R2 := hide (And.intro V2 C2)
      have XB := hide (bel_new wd (.cells #[.int .u8 ((u : Int) / 2 ^ i8 % 256)] 5))
      clear V2 C2 X9 X1 E1 X X1OWN
      generalize w9.setCell ⟨g, 0, none⟩ (.slice a9 (nV + 1) c9) = w8 at *
      go_wp2_with fail
      go_roundw
      case rel => exact ⟨m, G2, _, by omega, by first | rfl | go_num, hide (by have := R2.out.1; rw [HLL.out, List.append_assoc, BS.out, ← ei8n.out] at this; exact this), hide ((CD.out.trans (Ch.of_bel XB.out)).trans R2.out.2)⟩
      case measure => simp [intOf]
end Go.Proofs.YtoboeipmhfnfdaaDoor.Ck
