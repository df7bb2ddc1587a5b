/- Texts of this proof, packed: contracts of the program's functions, and the plain model that they are held against. -/
import Derived.Test.YtbiilnpblnjliaaDoorQao
/- Package act: a run settles, and notes. (Written by mk_a.py.) -/
namespace Go.Proofs.YtbiilnpblnjliaaDoor.Ck
open Go.RowKit

set_option maxRecDepth 20000 in
set_option maxHeartbeats 1000000 in
theorem settle_any {w : World} {G : Nat → Prop} {g : Nat} {S : List (List Wt)} {r : Rm} {p : List Addr} (h : Rn w G g S r) (h17 : E2 w p) : Calls Tryd.prog 91 #[.pointer (some ⟨g, 0, none⟩)] w (RnP w G g S (settleR r) (.tuple #[])) := by
  have E := hide (End_any h h17)
  unfold settleR
  obtain ⟨z, hz⟩ : ∃ z, endR r = z := ⟨_, rfl⟩
  rw [hz] at E ⊢
  obtain ⟨e0, e1, e2, e3, e4⟩ := z
  unfold EnV at E
  simp only at E
  have HR := hide h
  have hgl := h.lt
  clear h h17 hz
  go_enter Tryd.func91, Tryd.ntmps91
  go_wp2_with fail
  refine E.out.mono ?_
  rintro e w1 ⟨rfl, hb⟩
  obtain ⟨Fs, Fo, R, gs, vC, vB, vG, vE, ps, ts, h, hG⟩ := HR.out.bel hb
  have HE := hide (ru_wide hG (h.setE e0 e1 e2 e3 e4) (ch_setEnd h.fg))
  obtain ⟨_, c5, c6, c7, c8, c9⟩ := h.cells
  have f5 := blk_frz h.at_ 5
  have f6 := blk_frz h.at_ 6
  have f7 := blk_frz h.at_ 7
  have f8 := blk_frz h.at_ 8
  have f9 := blk_frz h.at_ 9
  have HB := hide hb
  clear h hG HR E hb
  go_wp2_with fail
  go_end0
  exact RnP.mk rfl HE.out.1 ((Ch.of_bel HB.out).trans HE.out.2)
set_option maxRecDepth 20000 in
set_option maxHeartbeats 2000000 in
theorem note_any {w : World} {G : Nat → Prop} {g : Nat} {S : List (List Wt)} {r : Rm} (h : Rn w G g S r) (i : Nat) (x : Gr) (hx : r.gs[i]? = some x) (ob : Int) (hl : r.ev.length ≤ 100000) : Calls Tryd.prog 108 #[.pointer (some ⟨g, 0, none⟩), .int .i64 (i : Nat), .int .i64 ob] w (RnP w G g S (noteR r i ob) (.tuple #[])) := by
  have hR : noteR r i ob = { r with ev := r.ev ++ [⟨i, x.w.k, ob, x.w.a⟩] } := by
    unfold noteR
    rw [hx]
  rw [hR]
  clear hR
  obtain ⟨Fs, Fo, R, gs, vC, vB, vG, vE, ps, ts, h, hG⟩ := h
  obtain ⟨bG, cG, b, t, va, eG, _, _, _, _, _, hA, ⟨s1, s2, s3⟩, s4⟩ := h.see hx
  subst eG
  obtain ⟨aa, na, ca, rfl⟩ := hA.form
  clear hA
  have hi : i < r.gs.length := (List.getElem?_eq_some_iff.1 hx).1
  have hn8 := h.n8
  obtain ⟨⟨c0, c1, c2, c3, c4⟩, c5, c6, c7, c8, c9⟩ := h.cells
  have hgl := h.fb g h.fg
  obtain ⟨rest, ⟨k, o, a, v0, v1, v2⟩⟩ := x
  simp only at s4
  have b1 := blk_cell s4 1 _ rfl
  have b2 := blk_cell s4 2 _ rfl
  have b3 := blk_cell s4 3 _ rfl
  have b4 := blk_cell s4 4 _ rfl
  have b5 := blk_cell s4 5 _ rfl
  have b6 := blk_cell s4 6 _ rfl
  have b7 := blk_cell s4 7 _ rfl
  obtain ⟨n, hn⟩ : ∃ n, n = r.gs.length := ⟨_, rfl⟩
  rw [← hn] at hi hn8 c3
  have HN := hide hn
  have hi1 : (i : Int) < (n : Int) := by omega
  have hi0 : (0 : Int) ≤ (i : Int) := by omega
  have hd0 : decide ((i : Int) < 0) = false := by simp
  have hd1 : decide ((n : Int) ≤ (i : Int)) = false := by simp; omega
  clear hn
  have B0 := hide (bel_new w (.cells #[.int .i64 k, .int .i64 o, .int .i64 a, .int .i64 v0, .int .i64 v1, .int .u64 v2, .slice aa na ca] 133))
  have V0 := hide (Wv.new w k o a v0 v1 v2 (.slice aa na ca))
  obtain ⟨aE, cE, eE, _⟩ := own_slice h.ev
  obtain ⟨nE, hnE⟩ : ∃ nE, nE = r.ev.length := ⟨_, rfl⟩
  rw [← hnE] at eE
  subst eE
  have H1 := hide (h.bel B0.out)
  have HG := hide hG
  have HL := hide hl
  clear h hG s4 hnE hl c0 c1 c2 c4 c5 c6 c7 c8 c9
  go_enter Tryd.func108, Tryd.ntmps108
  go_upto_region 1 with fail
  generalize w.alloc (.cells #[.int .i64 k, .int .i64 o, .int .i64 a, .int .i64 v0, .int .i64 v1, .int .u64 v2, .slice aa na ca] 133) = w1 at *
  have HD := hide (H1.out.bel (w' := w1.drew) (below_drewN (Below.refl _ _) 1))
  have BD := hide (bel_drawn B0.out)
  have N0 : Hid (Wv w1.drew w.heap.size k o a (v0, v1, v2) (.slice aa na ca)) := V0
  have PU := hide (fun ty => push_run HD.out HL.out ⟨i, k, ob, a⟩ ty)
  have G0 := hide HD.out.at_
  simp only at PU
  clear H1 B0 V0 b1 b2 b3 b4 b5 b6 b7 s1 c3
  refine wp_region_any mixed ?_
  change wpAny _ _ _ _ _ _ _ (World.drew _)
  generalize World.drew _ = W0 at *
  refine wpAny_take (i := 0) (v := ?_) rfl (by kernel_rfl) (by kernel_rfl) (by kernel_rfl) (fun _ _ _ h => h) (Or.inl ⟨by rfl, fun w => ?_⟩) ?_
  rotate_left 1
  · (go_simp <;> with_reducible rfl)
  simp only [Act.put, List.getElem_toArray, List.getElem_cons_zero, List.setIfInBounds_toArray, List.set_cons_zero, List.set_cons_succ]
  refine wpAny_take (i := 1) (v := ?_) rfl (by kernel_rfl) (by kernel_rfl) (by kernel_rfl) (fun _ _ _ h => h) (Or.inl ⟨by rfl, fun w => ?_⟩) ?_
  rotate_left 1
  · (go_simp <;> with_reducible rfl)
  simp only [Act.put, List.getElem_toArray, List.getElem_cons_zero, List.getElem_cons_succ, List.setIfInBounds_toArray, List.set_cons_zero, List.set_cons_succ]
  refine wpAny_take (i := 2) (v := ?_) rfl (by kernel_rfl) (by kernel_rfl) (by kernel_rfl) (fun _ _ _ h => h) (Or.inl ⟨by rfl, fun w => ?_⟩) ?_
  rotate_left 1
  · (go_simp <;> with_reducible rfl)
  simp only [Act.put, List.getElem_toArray, List.getElem_cons_zero, List.getElem_cons_succ, List.setIfInBounds_toArray, List.set_cons_zero, List.set_cons_succ]
  refine wpAny_take (i := 3) (v := ?_) rfl (by kernel_rfl) (by kernel_rfl) (by kernel_rfl) (fun _ _ _ h => h) (Or.inl ⟨by rfl, fun w => ?_⟩) ?_
  rotate_left 1
  · (go_simp <;> with_reducible rfl)
  simp only [Act.put, List.getElem_toArray, List.getElem_cons_zero, List.getElem_cons_succ, List.setIfInBounds_toArray, List.set_cons_zero, List.set_cons_succ]
  refine wpAny_take (i := 5) (v := ?_) rfl (by kernel_rfl) (by kernel_rfl) (by kernel_rfl) (fun _ _ _ h => h) (Or.inl ⟨by rfl, fun w => ?_⟩) ?_
  rotate_left 1
  · (go_simp <;> with_reducible rfl)
  simp only [Act.put, List.getElem_toArray, List.getElem_cons_zero, List.getElem_cons_succ, List.setIfInBounds_toArray, List.set_cons_zero, List.set_cons_succ]
  refine wpAny_take (i := 6) (v := ?_) rfl (by kernel_rfl) (by kernel_rfl) (by kernel_rfl) (fun _ _ _ h => h) (Or.inl ⟨by rfl, fun w => ?_⟩) ?_
  rotate_left 1
  · (go_simp <;> with_reducible rfl)
  simp only [Act.put, List.getElem_toArray, List.getElem_cons_zero, List.getElem_cons_succ, List.setIfInBounds_toArray, List.set_cons_zero, List.set_cons_succ]
  refine wpAny_take (i := 8) (v := ?_) rfl (by kernel_rfl) (by kernel_rfl) (by kernel_rfl) (fun _ _ _ h => h) (Or.inl ⟨by rfl, fun w => ?_⟩) ?_
  rotate_left 1
  · (go_simp <;> with_reducible rfl)
  simp only [Act.put, List.getElem_toArray, List.getElem_cons_zero, List.getElem_cons_succ, List.setIfInBounds_toArray, List.set_cons_zero, List.set_cons_succ]
  refine wpAny_take (i := 9) (v := ?_) rfl (by kernel_rfl) (by kernel_rfl) (by kernel_rfl) (fun _ _ _ h => h) (Or.inl ⟨by rfl, fun w => ?_⟩) ?_
  rotate_left 1
  · (go_simp <;> with_reducible rfl)
  simp only [Act.put, List.getElem_toArray, List.getElem_cons_zero, List.getElem_cons_succ, List.setIfInBounds_toArray, List.set_cons_zero, List.set_cons_succ]
  refine wpAny_ready (rs := [4, 7, 10]) (by kernel_rfl) (by decide) ?_
  refine AllReady.cons rfl (fun K1 hK1 => ?_) (AllReady.cons rfl (fun K1 hK1 => ?_) (AllReady.cons rfl (fun K1 hK1 => ?_) AllReady.nil))
  · have q := (show W0.cell? ⟨g, 4, none⟩ = some (.slice aE nE cE) from blk_cell G0.out 4 _ rfl)
    go_simp
    refine hK1 _ _ ?_
    clear hK1 K1 q
    refine wpAny_ready (rs := [7, 10]) (by kernel_rfl) (by decide) ?_
    refine AllReady.cons rfl (fun K1 hK1 => ?_) (AllReady.cons rfl (fun K1 hK1 => ?_) AllReady.nil)
    · obtain ⟨q0, q1, q2, q3, q4, q5, q6⟩ := N0.out.all
      go_simp
      refine hK1 _ _ ?_
      clear hK1 K1 q0 q1 q2 q3 q4 q5 q6
      refine wpAny_ready (rs := [10]) (by kernel_rfl) (by decide) ?_
      refine AllReady.cons rfl (fun K1 hK1 => ?_) AllReady.nil
      obtain ⟨q0, q1, q2, q3, q4, q5, q6⟩ := N0.out.all
      go_simp
      refine hK1 _ _ ?_
      clear hK1 K1 q0 q1 q2 q3 q4 q5 q6
      refine wpAny_take (i := 11) (v := ?_) rfl (by kernel_rfl) (by kernel_rfl) (by kernel_rfl) (fun _ _ _ h => h) (Or.inl ⟨by rfl, fun w => ?_⟩) ?_
      rotate_left 1
      · (go_simp <;> with_reducible rfl)
      simp only [Act.put, List.getElem_toArray, List.getElem_cons_zero, List.getElem_cons_succ, List.setIfInBounds_toArray, List.set_cons_zero, List.set_cons_succ]
      refine wpAny_ready (rs := [12]) (by kernel_rfl) (by decide) ?_
      refine AllReady.cons rfl (fun K1 hK1 => ?_) AllReady.nil
      go_simp
      refine hK1 _ _ ?_
      clear hK1 K1
      refine wpAny_ready (rs := [13]) (by kernel_rfl) (by decide) ?_
      refine AllReady.cons rfl (fun K1 hK1 => ?_) AllReady.nil
      refine step_appV (TS := 72) (.tmp 21) (.tmp 29) _ _ _ (fun ty => PU.out ty) rfl rfl rfl rfl ?_
      rintro v9 w9 ⟨⟨a9, l9, c9, rfl⟩, z1, z2, r9⟩
      have R9 := hide r9
      clear r9
      refine hK1 _ _ ?_
      clear hK1 K1
      refine wpAny_take (i := 14) (v := ?_) rfl (by kernel_rfl) (by kernel_rfl) (by kernel_rfl) (fun _ _ _ h => h) (Or.inl ⟨by rfl, fun w => ?_⟩) ?_
      rotate_left 1
      · (go_simp <;> with_reducible rfl)
      simp only [Act.put, List.getElem_toArray, List.getElem_cons_zero, List.getElem_cons_succ, List.setIfInBounds_toArray, List.set_cons_zero, List.set_cons_succ]
      refine wpAny_take (i := 15) (v := ?_) rfl (by kernel_rfl) (by kernel_rfl) (by kernel_rfl) (fun _ _ _ h => h) (Or.inl ⟨by rfl, fun w => ?_⟩) ?_
      rotate_left 1
      · (go_simp <;> with_reducible rfl)
      simp only [Act.put, List.getElem_toArray, List.getElem_cons_zero, List.getElem_cons_succ, List.setIfInBounds_toArray, List.set_cons_zero, List.set_cons_succ]
      refine wpAny_ready (rs := [16]) (by kernel_rfl) (by decide) ?_
      refine AllReady.cons rfl (fun K1 hK1 => ?_) AllReady.nil
      go_simp
      refine hK1 _ _ ?_
      clear hK1 K1 z1 z2
      refine wpAny_done (by kernel_rfl) ?_ _
      go_wp2_with fail
      go_end0
      obtain ⟨Fo', r1, r2⟩ := R9.out
      have HE := ru_wide HG.out r1 r2
      exact RnP.mk rfl HE.1 ((Ch.of_bel BD.out).trans HE.2)
    · obtain ⟨q0, q1, q2, q3, q4, q5, q6⟩ := N0.out.all
      go_simp
      refine hK1 _ _ ?_
      clear hK1 K1 q0 q1 q2 q3 q4 q5 q6
      refine wpAny_ready (rs := [7]) (by kernel_rfl) (by decide) ?_
      refine AllReady.cons rfl (fun K1 hK1 => ?_) AllReady.nil
      obtain ⟨q0, q1, q2, q3, q4, q5, q6⟩ := N0.out.all
      go_simp
      refine hK1 _ _ ?_
      clear hK1 K1 q0 q1 q2 q3 q4 q5 q6
      refine wpAny_take (i := 11) (v := ?_) rfl (by kernel_rfl) (by kernel_rfl) (by kernel_rfl) (fun _ _ _ h => h) (Or.inl ⟨by rfl, fun w => ?_⟩) ?_
      rotate_left 1
      · (go_simp <;> with_reducible rfl)
      simp only [Act.put, List.getElem_toArray, List.getElem_cons_zero, List.getElem_cons_succ, List.setIfInBounds_toArray, List.set_cons_zero, List.set_cons_succ]
      refine wpAny_ready (rs := [12]) (by kernel_rfl) (by decide) ?_
      refine AllReady.cons rfl (fun K1 hK1 => ?_) AllReady.nil
      go_simp
      refine hK1 _ _ ?_
      clear hK1 K1
      refine wpAny_ready (rs := [13]) (by kernel_rfl) (by decide) ?_
      refine AllReady.cons rfl (fun K1 hK1 => ?_) AllReady.nil
      refine step_appV (TS := 72) (.tmp 21) (.tmp 29) _ _ _ (fun ty => PU.out ty) rfl rfl rfl rfl ?_
      rintro v9 w9 ⟨⟨a9, l9, c9, rfl⟩, z1, z2, r9⟩
      have R9 := hide r9
      clear r9
      refine hK1 _ _ ?_
      clear hK1 K1
      refine wpAny_take (i := 14) (v := ?_) rfl (by kernel_rfl) (by kernel_rfl) (by kernel_rfl) (fun _ _ _ h => h) (Or.inl ⟨by rfl, fun w => ?_⟩) ?_
      rotate_left 1
      · (go_simp <;> with_reducible rfl)
      simp only [Act.put, List.getElem_toArray, List.getElem_cons_zero, List.getElem_cons_succ, List.setIfInBounds_toArray, List.set_cons_zero, List.set_cons_succ]
      refine wpAny_take (i := 15) (v := ?_) rfl (by kernel_rfl) (by kernel_rfl) (by kernel_rfl) (fun _ _ _ h => h) (Or.inl ⟨by rfl, fun w => ?_⟩) ?_
      rotate_left 1
      · (go_simp <;> with_reducible rfl)
      simp only [Act.put, List.getElem_toArray, List.getElem_cons_zero, List.getElem_cons_succ, List.setIfInBounds_toArray, List.set_cons_zero, List.set_cons_succ]
      refine wpAny_ready (rs := [16]) (by kernel_rfl) (by decide) ?_
      refine AllReady.cons rfl (fun K1 hK1 => ?_) AllReady.nil
      go_simp
      refine hK1 _ _ ?_
      clear hK1 K1 z1 z2
      refine wpAny_done (by kernel_rfl) ?_ _
      go_wp2_with fail
      go_end0
      obtain ⟨Fo', r1, r2⟩ := R9.out
      have HE := ru_wide HG.out r1 r2
      exact RnP.mk rfl HE.1 ((Ch.of_bel BD.out).trans HE.2)
  · obtain ⟨q0, q1, q2, q3, q4, q5, q6⟩ := N0.out.all
    go_simp
    refine hK1 _ _ ?_
    clear hK1 K1 q0 q1 q2 q3 q4 q5 q6
    refine wpAny_ready (rs := [4, 10]) (by kernel_rfl) (by decide) ?_
    refine AllReady.cons rfl (fun K1 hK1 => ?_) (AllReady.cons rfl (fun K1 hK1 => ?_) AllReady.nil)
    · have q := (show W0.cell? ⟨g, 4, none⟩ = some (.slice aE nE cE) from blk_cell G0.out 4 _ rfl)
      go_simp
      refine hK1 _ _ ?_
      clear hK1 K1 q
      refine wpAny_ready (rs := [10]) (by kernel_rfl) (by decide) ?_
      refine AllReady.cons rfl (fun K1 hK1 => ?_) AllReady.nil
      obtain ⟨q0, q1, q2, q3, q4, q5, q6⟩ := N0.out.all
      go_simp
      refine hK1 _ _ ?_
      clear hK1 K1 q0 q1 q2 q3 q4 q5 q6
      refine wpAny_take (i := 11) (v := ?_) rfl (by kernel_rfl) (by kernel_rfl) (by kernel_rfl) (fun _ _ _ h => h) (Or.inl ⟨by rfl, fun w => ?_⟩) ?_
      rotate_left 1
      · (go_simp <;> with_reducible rfl)
      simp only [Act.put, List.getElem_toArray, List.getElem_cons_zero, List.getElem_cons_succ, List.setIfInBounds_toArray, List.set_cons_zero, List.set_cons_succ]
      refine wpAny_ready (rs := [12]) (by kernel_rfl) (by decide) ?_
      refine AllReady.cons rfl (fun K1 hK1 => ?_) AllReady.nil
      go_simp
      refine hK1 _ _ ?_
      clear hK1 K1
      refine wpAny_ready (rs := [13]) (by kernel_rfl) (by decide) ?_
      refine AllReady.cons rfl (fun K1 hK1 => ?_) AllReady.nil
      refine step_appV (TS := 72) (.tmp 21) (.tmp 29) _ _ _ (fun ty => PU.out ty) rfl rfl rfl rfl ?_
      rintro v9 w9 ⟨⟨a9, l9, c9, rfl⟩, z1, z2, r9⟩
      have R9 := hide r9
      clear r9
      refine hK1 _ _ ?_
      clear hK1 K1
      refine wpAny_take (i := 14) (v := ?_) rfl (by kernel_rfl) (by kernel_rfl) (by kernel_rfl) (fun _ _ _ h => h) (Or.inl ⟨by rfl, fun w => ?_⟩) ?_
      rotate_left 1
      · (go_simp <;> with_reducible rfl)
      simp only [Act.put, List.getElem_toArray, List.getElem_cons_zero, List.getElem_cons_succ, List.setIfInBounds_toArray, List.set_cons_zero, List.set_cons_succ]
      refine wpAny_take (i := 15) (v := ?_) rfl (by kernel_rfl) (by kernel_rfl) (by kernel_rfl) (fun _ _ _ h => h) (Or.inl ⟨by rfl, fun w => ?_⟩) ?_
      rotate_left 1
      · (go_simp <;> with_reducible rfl)
      simp only [Act.put, List.getElem_toArray, List.getElem_cons_zero, List.getElem_cons_succ, List.setIfInBounds_toArray, List.set_cons_zero, List.set_cons_succ]
      refine wpAny_ready (rs := [16]) (by kernel_rfl) (by decide) ?_
      refine AllReady.cons rfl (fun K1 hK1 => ?_) AllReady.nil
      go_simp
      refine hK1 _ _ ?_
      clear hK1 K1 z1 z2
      refine wpAny_done (by kernel_rfl) ?_ _
      go_wp2_with fail
      go_end0
      obtain ⟨Fo', r1, r2⟩ := R9.out
      have HE := ru_wide HG.out r1 r2
      exact RnP.mk rfl HE.1 ((Ch.of_bel BD.out).trans HE.2)
    · obtain ⟨q0, q1, q2, q3, q4, q5, q6⟩ := N0.out.all
      go_simp
      refine hK1 _ _ ?_
      clear hK1 K1 q0 q1 q2 q3 q4 q5 q6
      refine wpAny_take (i := 11) (v := ?_) rfl (by kernel_rfl) (by kernel_rfl) (by kernel_rfl) (fun _ _ _ h => h) (Or.inl ⟨by rfl, fun w => ?_⟩) ?_
      rotate_left 1
      · (go_simp <;> with_reducible rfl)
      simp only [Act.put, List.getElem_toArray, List.getElem_cons_zero, List.getElem_cons_succ, List.setIfInBounds_toArray, List.set_cons_zero, List.set_cons_succ]
      refine wpAny_ready (rs := [4, 12]) (by kernel_rfl) (by decide) ?_
      refine AllReady.cons rfl (fun K1 hK1 => ?_) (AllReady.cons rfl (fun K1 hK1 => ?_) AllReady.nil)
      · have q := (show W0.cell? ⟨g, 4, none⟩ = some (.slice aE nE cE) from blk_cell G0.out 4 _ rfl)
        go_simp
        refine hK1 _ _ ?_
        clear hK1 K1 q
        refine wpAny_ready (rs := [12]) (by kernel_rfl) (by decide) ?_
        refine AllReady.cons rfl (fun K1 hK1 => ?_) AllReady.nil
        go_simp
        refine hK1 _ _ ?_
        clear hK1 K1
        refine wpAny_ready (rs := [13]) (by kernel_rfl) (by decide) ?_
        refine AllReady.cons rfl (fun K1 hK1 => ?_) AllReady.nil
        refine step_appV (TS := 72) (.tmp 21) (.tmp 29) _ _ _ (fun ty => PU.out ty) rfl rfl rfl rfl ?_
        rintro v9 w9 ⟨⟨a9, l9, c9, rfl⟩, z1, z2, r9⟩
        have R9 := hide r9
        clear r9
        refine hK1 _ _ ?_
        clear hK1 K1
        refine wpAny_take (i := 14) (v := ?_) rfl (by kernel_rfl) (by kernel_rfl) (by kernel_rfl) (fun _ _ _ h => h) (Or.inl ⟨by rfl, fun w => ?_⟩) ?_
        rotate_left 1
        · (go_simp <;> with_reducible rfl)
        simp only [Act.put, List.getElem_toArray, List.getElem_cons_zero, List.getElem_cons_succ, List.setIfInBounds_toArray, List.set_cons_zero, List.set_cons_succ]
        refine wpAny_take (i := 15) (v := ?_) rfl (by kernel_rfl) (by kernel_rfl) (by kernel_rfl) (fun _ _ _ h => h) (Or.inl ⟨by rfl, fun w => ?_⟩) ?_
        rotate_left 1
        · (go_simp <;> with_reducible rfl)
        simp only [Act.put, List.getElem_toArray, List.getElem_cons_zero, List.getElem_cons_succ, List.setIfInBounds_toArray, List.set_cons_zero, List.set_cons_succ]
        refine wpAny_ready (rs := [16]) (by kernel_rfl) (by decide) ?_
        refine AllReady.cons rfl (fun K1 hK1 => ?_) AllReady.nil
        go_simp
        refine hK1 _ _ ?_
        clear hK1 K1 z1 z2
        refine wpAny_done (by kernel_rfl) ?_ _
        go_wp2_with fail
        go_end0
        obtain ⟨Fo', r1, r2⟩ := R9.out
        have HE := ru_wide HG.out r1 r2
        exact RnP.mk rfl HE.1 ((Ch.of_bel BD.out).trans HE.2)
      · go_simp
        refine hK1 _ _ ?_
        clear hK1 K1
        refine wpAny_ready (rs := [4]) (by kernel_rfl) (by decide) ?_
        refine AllReady.cons rfl (fun K1 hK1 => ?_) AllReady.nil
        have q := (show (W0.alloc (.cells #[.int .i64 (i : Nat), .int .i64 k, .int .i64 ob, .int .i64 a] 75)).cell? ⟨g, 4, none⟩ = some (.slice aE nE cE) from ((bel_new W0 _).cell (p := ⟨g, 4, none⟩) (lt_of_blk G0.out)).trans (blk_cell G0.out 4 _ rfl))
        go_simp
        refine hK1 _ _ ?_
        clear hK1 K1 q
        refine wpAny_ready (rs := [13]) (by kernel_rfl) (by decide) ?_
        refine AllReady.cons rfl (fun K1 hK1 => ?_) AllReady.nil
        refine step_appV (TS := 72) (.tmp 21) (.tmp 29) _ _ _ (fun ty => PU.out ty) rfl rfl rfl rfl ?_
        rintro v9 w9 ⟨⟨a9, l9, c9, rfl⟩, z1, z2, r9⟩
        have R9 := hide r9
        clear r9
        refine hK1 _ _ ?_
        clear hK1 K1
        refine wpAny_take (i := 14) (v := ?_) rfl (by kernel_rfl) (by kernel_rfl) (by kernel_rfl) (fun _ _ _ h => h) (Or.inl ⟨by rfl, fun w => ?_⟩) ?_
        rotate_left 1
        · (go_simp <;> with_reducible rfl)
        simp only [Act.put, List.getElem_toArray, List.getElem_cons_zero, List.getElem_cons_succ, List.setIfInBounds_toArray, List.set_cons_zero, List.set_cons_succ]
        refine wpAny_take (i := 15) (v := ?_) rfl (by kernel_rfl) (by kernel_rfl) (by kernel_rfl) (fun _ _ _ h => h) (Or.inl ⟨by rfl, fun w => ?_⟩) ?_
        rotate_left 1
        · (go_simp <;> with_reducible rfl)
        simp only [Act.put, List.getElem_toArray, List.getElem_cons_zero, List.getElem_cons_succ, List.setIfInBounds_toArray, List.set_cons_zero, List.set_cons_succ]
        refine wpAny_ready (rs := [16]) (by kernel_rfl) (by decide) ?_
        refine AllReady.cons rfl (fun K1 hK1 => ?_) AllReady.nil
        go_simp
        refine hK1 _ _ ?_
        clear hK1 K1 z1 z2
        refine wpAny_done (by kernel_rfl) ?_ _
        go_wp2_with fail
        go_end0
        obtain ⟨Fo', r1, r2⟩ := R9.out
        have HE := ru_wide HG.out r1 r2
        exact RnP.mk rfl HE.1 ((Ch.of_bel BD.out).trans HE.2)
  · obtain ⟨q0, q1, q2, q3, q4, q5, q6⟩ := N0.out.all
    go_simp
    refine hK1 _ _ ?_
    clear hK1 K1 q0 q1 q2 q3 q4 q5 q6
    refine wpAny_ready (rs := [4, 7]) (by kernel_rfl) (by decide) ?_
    refine AllReady.cons rfl (fun K1 hK1 => ?_) (AllReady.cons rfl (fun K1 hK1 => ?_) AllReady.nil)
    · have q := (show W0.cell? ⟨g, 4, none⟩ = some (.slice aE nE cE) from blk_cell G0.out 4 _ rfl)
      go_simp
      refine hK1 _ _ ?_
      clear hK1 K1 q
      refine wpAny_ready (rs := [7]) (by kernel_rfl) (by decide) ?_
      refine AllReady.cons rfl (fun K1 hK1 => ?_) AllReady.nil
      obtain ⟨q0, q1, q2, q3, q4, q5, q6⟩ := N0.out.all
      go_simp
      refine hK1 _ _ ?_
      clear hK1 K1 q0 q1 q2 q3 q4 q5 q6
      refine wpAny_take (i := 11) (v := ?_) rfl (by kernel_rfl) (by kernel_rfl) (by kernel_rfl) (fun _ _ _ h => h) (Or.inl ⟨by rfl, fun w => ?_⟩) ?_
      rotate_left 1
      · (go_simp <;> with_reducible rfl)
      simp only [Act.put, List.getElem_toArray, List.getElem_cons_zero, List.getElem_cons_succ, List.setIfInBounds_toArray, List.set_cons_zero, List.set_cons_succ]
      refine wpAny_ready (rs := [12]) (by kernel_rfl) (by decide) ?_
      refine AllReady.cons rfl (fun K1 hK1 => ?_) AllReady.nil
      go_simp
      refine hK1 _ _ ?_
      clear hK1 K1
      refine wpAny_ready (rs := [13]) (by kernel_rfl) (by decide) ?_
      refine AllReady.cons rfl (fun K1 hK1 => ?_) AllReady.nil
      refine step_appV (TS := 72) (.tmp 21) (.tmp 29) _ _ _ (fun ty => PU.out ty) rfl rfl rfl rfl ?_
      rintro v9 w9 ⟨⟨a9, l9, c9, rfl⟩, z1, z2, r9⟩
      have R9 := hide r9
      clear r9
      refine hK1 _ _ ?_
      clear hK1 K1
      refine wpAny_take (i := 14) (v := ?_) rfl (by kernel_rfl) (by kernel_rfl) (by kernel_rfl) (fun _ _ _ h => h) (Or.inl ⟨by rfl, fun w => ?_⟩) ?_
      rotate_left 1
      · (go_simp <;> with_reducible rfl)
      simp only [Act.put, List.getElem_toArray, List.getElem_cons_zero, List.getElem_cons_succ, List.setIfInBounds_toArray, List.set_cons_zero, List.set_cons_succ]
      refine wpAny_take (i := 15) (v := ?_) rfl (by kernel_rfl) (by kernel_rfl) (by kernel_rfl) (fun _ _ _ h => h) (Or.inl ⟨by rfl, fun w => ?_⟩) ?_
      rotate_left 1
      · (go_simp <;> with_reducible rfl)
      simp only [Act.put, List.getElem_toArray, List.getElem_cons_zero, List.getElem_cons_succ, List.setIfInBounds_toArray, List.set_cons_zero, List.set_cons_succ]
      refine wpAny_ready (rs := [16]) (by kernel_rfl) (by decide) ?_
      refine AllReady.cons rfl (fun K1 hK1 => ?_) AllReady.nil
      go_simp
      refine hK1 _ _ ?_
      clear hK1 K1 z1 z2
      refine wpAny_done (by kernel_rfl) ?_ _
      go_wp2_with fail
      go_end0
      obtain ⟨Fo', r1, r2⟩ := R9.out
      have HE := ru_wide HG.out r1 r2
      exact RnP.mk rfl HE.1 ((Ch.of_bel BD.out).trans HE.2)
    · obtain ⟨q0, q1, q2, q3, q4, q5, q6⟩ := N0.out.all
      go_simp
      refine hK1 _ _ ?_
      clear hK1 K1 q0 q1 q2 q3 q4 q5 q6
      refine wpAny_take (i := 11) (v := ?_) rfl (by kernel_rfl) (by kernel_rfl) (by kernel_rfl) (fun _ _ _ h => h) (Or.inl ⟨by rfl, fun w => ?_⟩) ?_
      rotate_left 1
      · (go_simp <;> with_reducible rfl)
      simp only [Act.put, List.getElem_toArray, List.getElem_cons_zero, List.getElem_cons_succ, List.setIfInBounds_toArray, List.set_cons_zero, List.set_cons_succ]
      refine wpAny_ready (rs := [4, 12]) (by kernel_rfl) (by decide) ?_
      refine AllReady.cons rfl (fun K1 hK1 => ?_) (AllReady.cons rfl (fun K1 hK1 => ?_) AllReady.nil)
      · have q := (show W0.cell? ⟨g, 4, none⟩ = some (.slice aE nE cE) from blk_cell G0.out 4 _ rfl)
        go_simp
        refine hK1 _ _ ?_
        clear hK1 K1 q
        refine wpAny_ready (rs := [12]) (by kernel_rfl) (by decide) ?_
        refine AllReady.cons rfl (fun K1 hK1 => ?_) AllReady.nil
        go_simp
        refine hK1 _ _ ?_
        clear hK1 K1
        refine wpAny_ready (rs := [13]) (by kernel_rfl) (by decide) ?_
        refine AllReady.cons rfl (fun K1 hK1 => ?_) AllReady.nil
        refine step_appV (TS := 72) (.tmp 21) (.tmp 29) _ _ _ (fun ty => PU.out ty) rfl rfl rfl rfl ?_
        rintro v9 w9 ⟨⟨a9, l9, c9, rfl⟩, z1, z2, r9⟩
        have R9 := hide r9
        clear r9
        refine hK1 _ _ ?_
        clear hK1 K1
        refine wpAny_take (i := 14) (v := ?_) rfl (by kernel_rfl) (by kernel_rfl) (by kernel_rfl) (fun _ _ _ h => h) (Or.inl ⟨by rfl, fun w => ?_⟩) ?_
        rotate_left 1
        · (go_simp <;> with_reducible rfl)
        simp only [Act.put, List.getElem_toArray, List.getElem_cons_zero, List.getElem_cons_succ, List.setIfInBounds_toArray, List.set_cons_zero, List.set_cons_succ]
        refine wpAny_take (i := 15) (v := ?_) rfl (by kernel_rfl) (by kernel_rfl) (by kernel_rfl) (fun _ _ _ h => h) (Or.inl ⟨by rfl, fun w => ?_⟩) ?_
        rotate_left 1
        · (go_simp <;> with_reducible rfl)
        simp only [Act.put, List.getElem_toArray, List.getElem_cons_zero, List.getElem_cons_succ, List.setIfInBounds_toArray, List.set_cons_zero, List.set_cons_succ]
        refine wpAny_ready (rs := [16]) (by kernel_rfl) (by decide) ?_
        refine AllReady.cons rfl (fun K1 hK1 => ?_) AllReady.nil
        go_simp
        refine hK1 _ _ ?_
        clear hK1 K1 z1 z2
        refine wpAny_done (by kernel_rfl) ?_ _
        go_wp2_with fail
        go_end0
        obtain ⟨Fo', r1, r2⟩ := R9.out
        have HE := ru_wide HG.out r1 r2
        exact RnP.mk rfl HE.1 ((Ch.of_bel BD.out).trans HE.2)
      · go_simp
        refine hK1 _ _ ?_
        clear hK1 K1
        refine wpAny_ready (rs := [4]) (by kernel_rfl) (by decide) ?_
        refine AllReady.cons rfl (fun K1 hK1 => ?_) AllReady.nil
        have q := (show (W0.alloc (.cells #[.int .i64 (i : Nat), .int .i64 k, .int .i64 ob, .int .i64 a] 75)).cell? ⟨g, 4, none⟩ = some (.slice aE nE cE) from ((bel_new W0 _).cell (p := ⟨g, 4, none⟩) (lt_of_blk G0.out)).trans (blk_cell G0.out 4 _ rfl))
        go_simp
        refine hK1 _ _ ?_
        clear hK1 K1 q
        refine wpAny_ready (rs := [13]) (by kernel_rfl) (by decide) ?_
        refine AllReady.cons rfl (fun K1 hK1 => ?_) AllReady.nil
        refine step_appV (TS := 72) (.tmp 21) (.tmp 29) _ _ _ (fun ty => PU.out ty) rfl rfl rfl rfl ?_
        rintro v9 w9 ⟨⟨a9, l9, c9, rfl⟩, z1, z2, r9⟩
        have R9 := hide r9
        clear r9
        refine hK1 _ _ ?_
        clear hK1 K1
        refine wpAny_take (i := 14) (v := ?_) rfl (by kernel_rfl) (by kernel_rfl) (by kernel_rfl) (fun _ _ _ h => h) (Or.inl ⟨by rfl, fun w => ?_⟩) ?_
        rotate_left 1
        · (go_simp <;> with_reducible rfl)
        simp only [Act.put, List.getElem_toArray, List.getElem_cons_zero, List.getElem_cons_succ, List.setIfInBounds_toArray, List.set_cons_zero, List.set_cons_succ]
        refine wpAny_take (i := 15) (v := ?_) rfl (by kernel_rfl) (by kernel_rfl) (by kernel_rfl) (fun _ _ _ h => h) (Or.inl ⟨by rfl, fun w => ?_⟩) ?_
        rotate_left 1
        · (go_simp <;> with_reducible rfl)
        simp only [Act.put, List.getElem_toArray, List.getElem_cons_zero, List.getElem_cons_succ, List.setIfInBounds_toArray, List.set_cons_zero, List.set_cons_succ]
        refine wpAny_ready (rs := [16]) (by kernel_rfl) (by decide) ?_
        refine AllReady.cons rfl (fun K1 hK1 => ?_) AllReady.nil
        go_simp
        refine hK1 _ _ ?_
        clear hK1 K1 z1 z2
        refine wpAny_done (by kernel_rfl) ?_ _
        go_wp2_with fail
        go_end0
        obtain ⟨Fo', r1, r2⟩ := R9.out
        have HE := ru_wide HG.out r1 r2
        exact RnP.mk rfl HE.1 ((Ch.of_bel BD.out).trans HE.2)
end Go.Proofs.YtbiilnpblnjliaaDoor.Ck

/- Package act: a script's end. (Written by mk_a.py.) -/
namespace Go.Proofs.YtbiilnpblnjliaaDoor.Ck
open Go.RowKit

theorem ret_wh {fn : Func} {Q : Ending → World → Prop} {a : Act} {w : World} {p q : Tmp} (b b2 : Nat) {k o a_ v0 v1 v2 f n c : Int} {va : Value} (hf : fn.results = #[.cell p 133, .cell q 173]) (hp : a.tmps.getD p undef = .pointer (some ⟨b, 0, none⟩)) (hq : a.tmps.getD q undef = .pointer (some ⟨b2, 0, none⟩)) (hva : ∃ x y z, va = .slice x y z)
    (h : w.heap[b]? = some (.cells #[.int .i64 k, .int .i64 o, .int .i64 a_, .int .i64 v0, .int .i64 v1, .int .u64 v2, va] 133 (0, 0))) (h2 : w.heap[b2]? = some (.cells #[.int .i64 f, .int .i64 n, .int .i64 c] 173 (0, 0))) (hdf : a.defers = []) (hR : Q (.returned (.tuple #[.agg #[.int .i64 k, .int .i64 o, .int .i64 a_, .int .i64 v0, .int .i64 v1, .int .u64 v2, va], .agg #[.int .i64 f, .int .i64 n, .int .i64 c]])) w) : bodyPost Tryd.prog fn Q .ret a w :=
  bodyPost_ret (by
    obtain ⟨x, y, z, rfl⟩ := hva
    have hp' : a.tmps[p]?.getD undef = .pointer (some ⟨b, 0, none⟩) := by simpa using hp
    have hq' : a.tmps[q]?.getD undef = .pointer (some ⟨b2, 0, none⟩) := by simpa using hq
    have q0 := blk_cell h 0 _ rfl
    have q1 := blk_cell h 1 _ rfl
    have q2 := blk_cell h 2 _ rfl
    have q3 := blk_cell h 3 _ rfl
    have q4 := blk_cell h 4 _ rfl
    have q5 := blk_cell h 5 _ rfl
    have q6 := blk_cell h 6 _ rfl
    have p0 := blk_cell h2 0 _ rfl
    have p1 := blk_cell h2 1 _ rfl
    have p2 := blk_cell h2 2 _ rfl
    simp [results, hf, hp', hq', go_sem, q0, q1, q2, q3, q4, q5, q6, p0, p1, p2]) hdf hR
/-- what a thread answers: a wait or a halt; its goroutine's script has gone on -/
def NextP (w : World) (G : Nat → Prop) (g t : Nat) (S : List (List Wt)) (r' : Rm) (x : Wt) (f n c : Int) (e : Ending) (w' : World) : Prop := ∃ va, e = .returned (.tuple #[.agg #[.int .i64 x.k, .int .i64 x.o, .int .i64 x.a, .int .i64 x.v.1, .int .i64 x.v.2.1, .int .u64 x.v.2.2, va], .agg #[.int .i64 f, .int .i64 n, .int .i64 c]]) ∧ ArgN 0 w' va ∧ (∀ k, k < w.heap.size → k ≠ t → w'.heap[k]? = w.heap[k]?) ∧ ∃ G', Rn w' G' g S r' ∧ Ch G G' w w'
theorem Rn.low {w w' : World} {G : Nat → Prop} {g N : Nat} {S : List (List Wt)} {r : Rm} (h : Rn w G g S r) (hG : ∀ k, G k → k < N) (hb : Below N w w') : Rn w' G g S r := h.keep (fun k hk => hb.block k (hG k hk)) hb.size
theorem ArgN.nilS {B : Nat} {w : World} : ArgN B w (.slice none 0 0) := ⟨none, 0, 0, [], rfl, by omega, World.ownsRow_nil _ _ _ _, fun _ h => by cases h⟩
theorem set3 {w : World} {b : Nat} {T : TypeId} {y0 y1 y2 : Value} (h : w.heap[b]? = some (.cells #[y0, y1, y2] T (0, 0))) (x0 x1 x2 : Value) : (((w.setCell ⟨b, 0, none⟩ x0).setCell ⟨b, 1, none⟩ x1).setCell ⟨b, 2, none⟩ x2).heap[b]? = some (.cells #[x0, x1, x2] T (0, 0)) := by
  have h0 : (w.setCell ⟨b, 0, none⟩ x0).heap[b]? = some (.cells #[x0, y1, y2] T (0, 0)) := heap_setCell_same _ _ _ _ _ _ h
  have h1 : ((w.setCell ⟨b, 0, none⟩ x0).setCell ⟨b, 1, none⟩ x1).heap[b]? = some (.cells #[x0, x1, y2] T (0, 0)) := heap_setCell_same _ _ _ _ _ _ h0
  exact heap_setCell_same _ _ _ _ _ _ h1
theorem ne3 {w : World} {b k : Nat} {x0 x1 x2 : Value} (h : k ≠ b) : (((w.setCell ⟨b, 0, none⟩ x0).setCell ⟨b, 1, none⟩ x1).setCell ⟨b, 2, none⟩ x2).heap[k]? = w.heap[k]? :=
  (Below.heap_setCell _ _ _ _ h).trans ((Below.heap_setCell _ _ _ _ h).trans (Below.heap_setCell _ _ _ _ h))
set_option maxRecDepth 20000 in
set_option maxHeartbeats 1000000 in
theorem next_nil {w : World} {G Fs Fo R : Nat → Prop} {g gs : Nat} {S : List (List Wt)} {r : Rm} {vC vB vG vE : Value} {ps ts : List Nat} (h : Ru w Fs Fo R g gs S r vC vB vG vE ps ts) (hG : ∀ k, G k ↔ Fs k ∨ Fo k ∨ R k) (i t : Nat) (x : Gr) (hx : r.gs[i]? = some x) (ht : ts[i]? = some t) (hr : x.rest = []) (j0 j1 j2 : Int) : Calls Tryd.prog 134 #[.pointer (some ⟨t, 0, none⟩), .agg #[.int .i64 j0, .int .i64 j1, .int .u64 j2]] w (NextP w G g t S r ⟨12, 0, 0, z3⟩ 0 0 0) := by
  obtain ⟨b, hb⟩ : ∃ b, ps[i]? = some b := ⟨_, List.getElem?_eq_getElem (by rw [h.pl]; exact (List.getElem?_eq_some_iff.1 hx).1)⟩
  obtain ⟨⟨va, vw, q1, q2, q3, q4⟩, q5, q6⟩ := h.gr i x b t hx hb ht
  rw [hr] at q4
  obtain ⟨a, c, rfl, hac⟩ := q4
  have c0 : w.cell? ⟨t, 0, none⟩ = some (.slice a 0 c) := blk_cell q3 0 _ rfl
  have htl := lt_of_blk q3
  have HR : Hid (Rn w G g S r) := hide ⟨_, _, _, _, _, _, _, _, _, _, h, hG⟩
  have HT := hide htl
  have C0 := hide c0
  clear h hG q1 q2 q3 q5 q6 hac hx ht hb hr c0 htl
  have B1 : Hid (Below w.heap.size w (((w.alloc (.cells #[.int .i64 j0, .int .i64 j1, .int .u64 j2] 41)).alloc (.cells #[.int .i64 0, .int .i64 0, .int .i64 0, .int .i64 0, .int .i64 0, .int .u64 0, .slice none 0 0] 133)).alloc (.cells #[.int .i64 0, .int .i64 0, .int .i64 0] 173))) := hide (bel_al (bel_al (bel_new w _) _) _)
  have Y1 : Hid ((((w.alloc (.cells #[.int .i64 j0, .int .i64 j1, .int .u64 j2] 41)).alloc (.cells #[.int .i64 0, .int .i64 0, .int .i64 0, .int .i64 0, .int .i64 0, .int .u64 0, .slice none 0 0] 133)).alloc (.cells #[.int .i64 0, .int .i64 0, .int .i64 0] 173)).heap[w.heap.size + 1]? = some (.cells #[.int .i64 0, .int .i64 0, .int .i64 0, .int .i64 0, .int .i64 0, .int .u64 0, .slice none 0 0] 133 (0, 0))) := hide (by
    have e1 := Go.Deep.blk_alloc_new (w.alloc (.cells #[.int .i64 j0, .int .i64 j1, .int .u64 j2] 41)) (.cells #[.int .i64 0, .int .i64 0, .int .i64 0, .int .i64 0, .int .i64 0, .int .u64 0, .slice none 0 0] 133)
    have hs : (w.alloc (.cells #[.int .i64 j0, .int .i64 j1, .int .u64 j2] 41)).heap.size = w.heap.size + 1 := by simp
    rw [hs] at e1
    exact ((bel_new _ _).block _ (lt_of_blk e1)).trans e1)
  have Y2 : Hid ((((w.alloc (.cells #[.int .i64 j0, .int .i64 j1, .int .u64 j2] 41)).alloc (.cells #[.int .i64 0, .int .i64 0, .int .i64 0, .int .i64 0, .int .i64 0, .int .u64 0, .slice none 0 0] 133)).alloc (.cells #[.int .i64 0, .int .i64 0, .int .i64 0] 173)).heap[w.heap.size + 1 + 1]? = some (.cells #[.int .i64 0, .int .i64 0, .int .i64 0] 173 (0, 0))) := hide (by
    have e1 := Go.Deep.blk_alloc_new ((w.alloc (.cells #[.int .i64 j0, .int .i64 j1, .int .u64 j2] 41)).alloc (.cells #[.int .i64 0, .int .i64 0, .int .i64 0, .int .i64 0, .int .i64 0, .int .u64 0, .slice none 0 0] 133)) (.cells #[.int .i64 0, .int .i64 0, .int .i64 0] 173)
    have hs : ((w.alloc (.cells #[.int .i64 j0, .int .i64 j1, .int .u64 j2] 41)).alloc (.cells #[.int .i64 0, .int .i64 0, .int .i64 0, .int .i64 0, .int .i64 0, .int .u64 0, .slice none 0 0] 133)).heap.size = w.heap.size + 1 + 1 := by simp
    rw [hs] at e1
    exact e1)
  go_enter Tryd.func134, Tryd.ntmps134
  go_upto_region 1 with fail
  generalize ((w.alloc (.cells #[.int .i64 j0, .int .i64 j1, .int .u64 j2] 41)).alloc (.cells #[.int .i64 0, .int .i64 0, .int .i64 0, .int .i64 0, .int .i64 0, .int .u64 0, .slice none 0 0] 133)).alloc (.cells #[.int .i64 0, .int .i64 0, .int .i64 0] 173) = W1 at *
  have c1 := (B1.out.cell (p := ⟨t, 0, none⟩) HT.out).trans C0.out
  obtain ⟨p0, p1, p2, p3, p4, p5, p6⟩ := (show Wv W1 (w.heap.size + 1) 0 0 0 (0, 0, 0) (.slice none 0 0) from Y1.out).all
  have f0 := blk_frz Y1.out 0
  have f1 := blk_frz Y1.out 1
  have f2 := blk_frz Y1.out 2
  have f3 := blk_frz Y1.out 3
  have f4 := blk_frz Y1.out 4
  have f5 := blk_frz Y1.out 5
  have f6 := blk_frz Y1.out 6
  have n0 := blk_cell Y2.out 0 _ rfl
  have m0 := blk_frz Y2.out 0
  have n1 := blk_cell Y2.out 1 _ rfl
  have m1 := blk_frz Y2.out 1
  have n2 := blk_cell Y2.out 2 _ rfl
  have m2 := blk_frz Y2.out 2
  go_wp2_with fail
  have BB : Below w.heap.size W1 ((((set7 W1 (w.heap.size + 1) 0 (.int .i64 12) (.int .i64 0) (.int .i64 0) (.int .i64 0) (.int .i64 0) (.int .u64 0) (.slice none 0 0)).setCell ⟨w.heap.size + 1 + 1, 0, none⟩ (.int .i64 0)).setCell ⟨w.heap.size + 1 + 1, 1, none⟩ (.int .i64 0)).setCell ⟨w.heap.size + 1 + 1, 2, none⟩ (.int .i64 0)) := bel_set (bel_set7 (o := 0) (Below.refl _ _) (by omega)) (by omega) _ _ _
  exact ret_wh (w.heap.size + 1) (w.heap.size + 1 + 1) rfl rfl rfl ⟨_, _, _, rfl⟩ ((ne3 (by omega)).trans (set7_at Y1.out _ _ _ _ _ _ _)) (set3 ((set7_ne (o := 0) (by omega)).trans Y2.out) _ _ _) rfl ⟨_, rfl, ArgN.nilS, fun k hk _ => (BB.block k hk).trans (B1.out.block k hk), G, (HR.out.bel B1.out).low (N := w.heap.size) HR.out.fb BB, (Ch.of_bel B1.out).below BB⟩
end Go.Proofs.YtbiilnpblnjliaaDoor.Ck

/- Package act: a script's next wait. (Written by mk_a.py.) -/
namespace Go.Proofs.YtbiilnpblnjliaaDoor.Ck
open Go.RowKit

set_option maxRecDepth 20000 in
set_option maxHeartbeats 1000000 in
theorem next_wait {w : World} {G Fs Fo R : Nat → Prop} {g gs : Nat} {S : List (List Wt)} {r : Rm} {vC vB vG vE : Value} {ps ts : List Nat} (h : Ru w Fs Fo R g gs S r vC vB vG vE ps ts) (hG : ∀ k, G k ↔ Fs k ∨ Fo k ∨ R k) (i t : Nat) (x : Gr) (hx : r.gs[i]? = some x) (ht : ts[i]? = some t) (y : Wt) (l : List Wt) (hr : x.rest = y :: l) (hk : y.k ≠ 0) (j0 j1 j2 : Int) : Calls Tryd.prog 134 #[.pointer (some ⟨t, 0, none⟩), .agg #[.int .i64 j0, .int .i64 j1, .int .u64 j2]] w (NextP w G g t S { r with gs := r.gs.set i ⟨l, x.w⟩ } y 0 0 0) := by
  obtain ⟨b, hb⟩ : ∃ b, ps[i]? = some b := ⟨_, List.getElem?_eq_getElem (by rw [h.pl]; exact (List.getElem?_eq_some_iff.1 hx).1)⟩
  obtain ⟨⟨va, vw, q1, q2, q3, q4⟩, q5, q6⟩ := h.gr i x b t hx hb ht
  rw [hr] at q4
  have q4' := q4
  obtain ⟨a, c, rfl, hac, hcm, hel⟩ := q4
  obtain ⟨b2, o2, vy, rfl, hRb, hcl, hAy⟩ := hel 0 y rfl
  obtain ⟨ay, ny, cy, rfl⟩ := hAy.form
  obtain ⟨yk, yo, ya, y0, y1, y2⟩ := y
  simp only [List.length_cons] at hac q4' q3
  simp only at hk
  obtain ⟨n, hn⟩ : ∃ n, n = l.length := ⟨_, rfl⟩
  rw [← hn] at hac q4' q3
  have c0 : w.cell? ⟨t, 0, none⟩ = some (.slice (some ⟨b2, o2, none⟩) (n + 1) c) := blk_cell q3 0 _ rfl
  have HT := hide (lt_of_blk q3)
  have e0 : w.cell? ⟨b2, o2, none⟩ = some (.int .i64 yk) := hcl 0 _ rfl
  have e1 : w.cell? ⟨b2, o2 + 1, none⟩ = some (.int .i64 yo) := hcl 1 _ rfl
  have e2 : w.cell? ⟨b2, o2 + 2, none⟩ = some (.int .i64 ya) := hcl 2 _ rfl
  have e3 : w.cell? ⟨b2, o2 + 3, none⟩ = some (.int .i64 y0) := hcl 3 _ rfl
  have e4 : w.cell? ⟨b2, o2 + 4, none⟩ = some (.int .i64 y1) := hcl 4 _ rfl
  have e5 : w.cell? ⟨b2, o2 + 5, none⟩ = some (.int .u64 y2) := hcl 5 _ rfl
  have e6 : w.cell? ⟨b2, o2 + 6, none⟩ = some (.slice ay ny cy) := hcl 6 _ rfl
  have EE := hide (And.intro e0 (And.intro e1 (And.intro e2 (And.intro e3 (And.intro e4 (And.intro e5 e6))))))
  have HB2 := hide (h.rb b2 hRb)
  have HA := hide hAy
  have HQ := hide q4'
  have HN := hide hn
  have HU := hide h
  have HG := hide hG
  have HX := hide (And.intro hx ht)
  have C0 := hide c0
  unfold maxLen at hcm
  clear h hG q1 q2 q3 q4' q5 q6 hx ht hb hr c0 hcl hAy hn e0 e1 e2 e3 e4 e5 e6 hel hRb
  have B1 : Hid (Below w.heap.size w (((w.alloc (.cells #[.int .i64 j0, .int .i64 j1, .int .u64 j2] 41)).alloc (.cells #[.int .i64 0, .int .i64 0, .int .i64 0, .int .i64 0, .int .i64 0, .int .u64 0, .slice none 0 0] 133)).alloc (.cells #[.int .i64 0, .int .i64 0, .int .i64 0] 173))) := hide (bel_al (bel_al (bel_new w _) _) _)
  have Y1 : Hid ((((w.alloc (.cells #[.int .i64 j0, .int .i64 j1, .int .u64 j2] 41)).alloc (.cells #[.int .i64 0, .int .i64 0, .int .i64 0, .int .i64 0, .int .i64 0, .int .u64 0, .slice none 0 0] 133)).alloc (.cells #[.int .i64 0, .int .i64 0, .int .i64 0] 173)).heap[w.heap.size + 1]? = some (.cells #[.int .i64 0, .int .i64 0, .int .i64 0, .int .i64 0, .int .i64 0, .int .u64 0, .slice none 0 0] 133 (0, 0))) := hide (by
    have e1 := Go.Deep.blk_alloc_new (w.alloc (.cells #[.int .i64 j0, .int .i64 j1, .int .u64 j2] 41)) (.cells #[.int .i64 0, .int .i64 0, .int .i64 0, .int .i64 0, .int .i64 0, .int .u64 0, .slice none 0 0] 133)
    have hs : (w.alloc (.cells #[.int .i64 j0, .int .i64 j1, .int .u64 j2] 41)).heap.size = w.heap.size + 1 := by simp
    rw [hs] at e1
    exact ((bel_new _ _).block _ (lt_of_blk e1)).trans e1)
  have Y2 : Hid ((((w.alloc (.cells #[.int .i64 j0, .int .i64 j1, .int .u64 j2] 41)).alloc (.cells #[.int .i64 0, .int .i64 0, .int .i64 0, .int .i64 0, .int .i64 0, .int .u64 0, .slice none 0 0] 133)).alloc (.cells #[.int .i64 0, .int .i64 0, .int .i64 0] 173)).heap[w.heap.size + 1 + 1]? = some (.cells #[.int .i64 0, .int .i64 0, .int .i64 0] 173 (0, 0))) := hide (by
    have e1 := Go.Deep.blk_alloc_new ((w.alloc (.cells #[.int .i64 j0, .int .i64 j1, .int .u64 j2] 41)).alloc (.cells #[.int .i64 0, .int .i64 0, .int .i64 0, .int .i64 0, .int .i64 0, .int .u64 0, .slice none 0 0] 133)) (.cells #[.int .i64 0, .int .i64 0, .int .i64 0] 173)
    have hs : ((w.alloc (.cells #[.int .i64 j0, .int .i64 j1, .int .u64 j2] 41)).alloc (.cells #[.int .i64 0, .int .i64 0, .int .i64 0, .int .i64 0, .int .i64 0, .int .u64 0, .slice none 0 0] 133)).heap.size = w.heap.size + 1 + 1 := by simp
    rw [hs] at e1
    exact e1)
  go_enter Tryd.func134, Tryd.ntmps134
  go_upto_region 1 with fail
  generalize ((w.alloc (.cells #[.int .i64 j0, .int .i64 j1, .int .u64 j2] 41)).alloc (.cells #[.int .i64 0, .int .i64 0, .int .i64 0, .int .i64 0, .int .i64 0, .int .u64 0, .slice none 0 0] 133)).alloc (.cells #[.int .i64 0, .int .i64 0, .int .i64 0] 173) = W1 at *
  have c1 := (B1.out.cell (p := ⟨t, 0, none⟩) HT.out).trans C0.out
  obtain ⟨e0, e1, e2, e3, e4, e5, e6⟩ := EE.out
  have e0 := (B1.out.cell (p := ⟨b2, o2, none⟩) HB2.out).trans e0
  have e1 := (B1.out.cell (p := ⟨b2, o2 + 1, none⟩) HB2.out).trans e1
  have e2 := (B1.out.cell (p := ⟨b2, o2 + 2, none⟩) HB2.out).trans e2
  have e3 := (B1.out.cell (p := ⟨b2, o2 + 3, none⟩) HB2.out).trans e3
  have e4 := (B1.out.cell (p := ⟨b2, o2 + 4, none⟩) HB2.out).trans e4
  have e5 := (B1.out.cell (p := ⟨b2, o2 + 5, none⟩) HB2.out).trans e5
  have e6 := (B1.out.cell (p := ⟨b2, o2 + 6, none⟩) HB2.out).trans e6
  have hnn : ((n : Int) + 1 == 0) = false := by simp; omega
  go_upto_region 4 with fail
  have B2 : Hid (Below w.heap.size w (W1.alloc (.cells #[.int .i64 yk, .int .i64 yo, .int .i64 ya, .int .i64 y0, .int .i64 y1, .int .u64 y2, .slice ay ny cy] 133))) := hide (bel_al B1.out _)
  have X1 := hide (((bel_new W1 (.cells #[.int .i64 yk, .int .i64 yo, .int .i64 ya, .int .i64 y0, .int .i64 y1, .int .u64 y2, .slice ay ny cy] 133)).block _ (lt_of_blk Y1.out)).trans Y1.out)
  have X2 := hide (((bel_new W1 (.cells #[.int .i64 yk, .int .i64 yo, .int .i64 ya, .int .i64 y0, .int .i64 y1, .int .u64 y2, .slice ay ny cy] 133)).block _ (lt_of_blk Y2.out)).trans Y2.out)
  have X3 := hide (Wv.new W1 yk yo ya y0 y1 y2 (.slice ay ny cy))
  have c2 := ((bel_new W1 (.cells #[.int .i64 yk, .int .i64 yo, .int .i64 ya, .int .i64 y0, .int .i64 y1, .int .u64 y2, .slice ay ny cy] 133)).cell (p := ⟨t, 0, none⟩) (Nat.lt_of_lt_of_le HT.out B1.out.size)).trans c1
  have SZ := hide (And.intro (lt_of_blk Y2.out) B1.out.size)
  obtain ⟨bl, hbl⟩ : ∃ bl, W1.heap.size = bl := ⟨_, rfl⟩
  rw [hbl] at X3 SZ ⊢
  clear e0 e1 e2 e3 e4 e5 e6 c1 Y1 Y2 B1 hbl
  generalize W1.alloc (.cells #[.int .i64 yk, .int .i64 yo, .int .i64 ya, .int .i64 y0, .int .i64 y1, .int .u64 y2, .slice ay ny cy] 133) = W2 at *
  by_cases hc1 : c = 1
  · have hn0 : n = 0 := by omega
    subst hn0
    subst hc1
    have HF := hide (HU.out.bel B2.out)
    have f0 : W2.frozen? ⟨t, 0, none⟩ = false := by
      obtain ⟨b', hb'⟩ : ∃ b', ps[i]? = some b' := ⟨_, List.getElem?_eq_getElem (by rw [HU.out.pl]; exact (List.getElem?_eq_some_iff.1 HX.out.1).1)⟩
      obtain ⟨⟨va', vw', q1, q2, q3, q4⟩, q5, q6⟩ := HF.out.gr i x b' t HX.out.1 hb' HX.out.2
      exact blk_frz q3 0
    have WR : WRow W2 R (.slice (some ⟨b2, o2, none⟩) 0 (1 - 1)) l := by
      have hq := HQ.out
      rw [HN.out] at hq ⊢
      exact (hq.tail rfl (some ⟨b2, o2, none⟩) (fun hl => absurd hl (by have := HN.out; omega))).keep (fun k hk => B2.out.block k (HU.out.rb k hk)) (fun _ h => h)
    simp only [Nat.sub_self] at WR
    have MV := hide (HF.out.moveT HX.out.1 HX.out.2 (.slice (some ⟨b2, o2, none⟩) 0 0) l WR)
    have HTW := hide (Nat.lt_of_lt_of_le HT.out B2.out.size)
    clear WR HF
    go_upto_region 5 with fail
    have Z1 := hide ((Below.heap_setCell W2 ⟨t, 0, none⟩ (.slice (some ⟨b2, o2, none⟩) 0 0) _ (by have := HT.out; simp; omega)).trans X1.out)
    have Z2 := hide ((Below.heap_setCell W2 ⟨t, 0, none⟩ (.slice (some ⟨b2, o2, none⟩) 0 0) _ (by have := HT.out; simp; omega)).trans X2.out)
    have Z3 : Hid (Wv (W2.setCell ⟨t, 0, none⟩ (.slice (some ⟨b2, o2, none⟩) 0 0)) bl yk yo ya (y0, y1, y2) (.slice ay ny cy)) := hide ((Below.heap_setCell W2 ⟨t, 0, none⟩ (.slice (some ⟨b2, o2, none⟩) 0 0) _ (by have := HT.out; have := SZ.out; simp; omega)).trans X3.out)
    have RN := hide (ru_wide HG.out MV.out.1 MV.out.2)
    have AR : Hid (Args (W2.setCell ⟨t, 0, none⟩ (.slice (some ⟨b2, o2, none⟩) 0 0)) R (.slice ay ny cy)) := hide (HA.out.keep (fun k hk => (Below.heap_setCell _ _ _ _ (fun e => by
      obtain ⟨b', hb'⟩ : ∃ b', ps[i]? = some b' := ⟨_, List.getElem?_eq_getElem (by rw [HU.out.pl]; exact (List.getElem?_eq_some_iff.1 HX.out.1).1)⟩
      obtain ⟨_, q5, q6⟩ := HU.out.gr i x b' t HX.out.1 hb' HX.out.2
      have e' : k = t := e
      subst e'
      exact HU.out.ro _ hk q6)).trans (B2.out.block k (HU.out.rb k hk))) (fun _ h => h))
    have B3 := hide (And.intro ((Ch.of_bel B2.out).trans RN.out.2) RN.out.1)
    have K3 : Hid (∀ k, k < w.heap.size → k ≠ t → (W2.setCell ⟨t, 0, none⟩ (.slice (some ⟨b2, o2, none⟩) 0 0)).heap[k]? = w.heap[k]?) := hide (fun k hk hne => (Below.heap_setCell _ _ _ _ hne).trans (B2.out.block k hk))
    have S3 := hide (And.intro B2.out.size (by rw [size_setCell]; exact Nat.le_refl _ : W2.heap.size ≤ (W2.setCell ⟨t, 0, none⟩ (.slice (some ⟨b2, o2, none⟩) 0 0)).heap.size))
    have GL : Hid (∀ k, (Fs k ∨ Fo k ∨ R k) → k < w.heap.size) := hide (fun k hk => HU.out.lt hk)
    clear MV RN X1 X2 X3 f0 c2 HU HQ HN HX HA
    generalize W2.setCell ⟨t, 0, none⟩ (.slice (some ⟨b2, o2, none⟩) 0 0) = W3 at *
    obtain ⟨q0, q1, q2, q3, q4, q5, q6⟩ := Z3.out.all
    have hkb : (yk == 0) = false := by simp [hk]
    have CL := hide (wclone_any yk yo ya y0 y1 y2 (.slice ay ny cy) AR.out)
    go_wp2_with fail
    refine CL.out.mono ?_
    rintro e w4 ⟨v4, rfl, a4, hb4⟩
    obtain ⟨a5, n5, c5, x5, rfl, _⟩ := id a4
    have Y9 := hide ((hb4.block _ (lt_of_blk Z1.out)).trans Z1.out)
    have YH := hide ((hb4.block _ (lt_of_blk Z2.out)).trans Z2.out)
    have A4 := hide a4
    have B4 := hide hb4
    have S4 := hide (And.intro (lt_of_blk Z1.out) (lt_of_blk Z2.out))
    clear a4 hb4 CL q0 q1 q2 q3 q4 q5 q6
    have p0 := blk_cell Y9.out 0 _ rfl
    have p1 := blk_cell Y9.out 1 _ rfl
    have p2 := blk_cell Y9.out 2 _ rfl
    have p3 := blk_cell Y9.out 3 _ rfl
    have p4 := blk_cell Y9.out 4 _ rfl
    have p5 := blk_cell Y9.out 5 _ rfl
    have p6 := blk_cell Y9.out 6 _ rfl
    have f0 := blk_frz Y9.out 0
    have f1 := blk_frz Y9.out 1
    have f2 := blk_frz Y9.out 2
    have f3 := blk_frz Y9.out 3
    have f4 := blk_frz Y9.out 4
    have f5 := blk_frz Y9.out 5
    have f6 := blk_frz Y9.out 6
    have n0 := blk_cell YH.out 0 _ rfl
    have n1 := blk_cell YH.out 1 _ rfl
    have n2 := blk_cell YH.out 2 _ rfl
    have m0 := blk_frz YH.out 0
    have m1 := blk_frz YH.out 1
    have m2 := blk_frz YH.out 2
    go_wp2_with fail
    have BB : Below w.heap.size w4 ((((set7 w4 (w.heap.size + 1) 0 (.int .i64 yk) (.int .i64 yo) (.int .i64 ya) (.int .i64 y0) (.int .i64 y1) (.int .u64 y2) (.slice a5 n5 c5)).setCell ⟨w.heap.size + 1 + 1, 0, none⟩ (.int .i64 0)).setCell ⟨w.heap.size + 1 + 1, 1, none⟩ (.int .i64 0)).setCell ⟨w.heap.size + 1 + 1, 2, none⟩ (.int .i64 0)) := bel_set (bel_set7 (o := 0) (Below.refl _ _) (by omega)) (by omega) _ _ _
    refine ret_wh (w.heap.size + 1) (w.heap.size + 1 + 1) rfl rfl rfl ⟨_, _, _, rfl⟩ ((ne3 (by omega)).trans (set7_at Y9.out _ _ _ _ _ _ _)) (set3 ((set7_ne (o := 0) (by omega)).trans YH.out) _ _ _) rfl ⟨_, rfl, ?_, fun k hk hne => ((BB.block k hk).trans (B4.out.block k (by have := S3.out; omega))).trans (K3.out k hk hne), _, (B3.out.2.bel B4.out).low (N := w.heap.size) GL.out BB, ?_⟩
    · refine (A4.out.low (Nat.zero_le _)).keep fun k _ _ hk => ?_
      have hk1 := (A4.out.at hk).1
      have h1 := S4.out
      exact (ne3 (by omega)).trans (set7_ne (o := 0) (by omega))
    · exact (B3.out.1.trans (Ch.of_bel B4.out)).below BB
  · skip
    have HF := hide (HU.out.bel B2.out)
    have f0 : W2.frozen? ⟨t, 0, none⟩ = false := by
      obtain ⟨b', hb'⟩ : ∃ b', ps[i]? = some b' := ⟨_, List.getElem?_eq_getElem (by rw [HU.out.pl]; exact (List.getElem?_eq_some_iff.1 HX.out.1).1)⟩
      obtain ⟨⟨va', vw', q1, q2, q3, q4⟩, q5, q6⟩ := HF.out.gr i x b' t HX.out.1 hb' HX.out.2
      exact blk_frz q3 0
    have WR : WRow W2 R (.slice (some ⟨b2, o2 + 7, none⟩) n (c - 1)) l := by
      have hq := HQ.out
      rw [HN.out] at hq ⊢
      exact (hq.tail rfl (some ⟨b2, o2 + 7, none⟩) (fun hl => rfl)).keep (fun k hk => B2.out.block k (HU.out.rb k hk)) (fun _ h => h)
    have MV := hide (HF.out.moveT HX.out.1 HX.out.2 (.slice (some ⟨b2, o2 + 7, none⟩) n (c - 1)) l WR)
    have HTW := hide (Nat.lt_of_lt_of_le HT.out B2.out.size)
    clear WR HF
    go_upto_region 5 with fail
    have Z1 := hide ((Below.heap_setCell W2 ⟨t, 0, none⟩ (.slice (some ⟨b2, o2 + 7, none⟩) n (c - 1)) _ (by have := HT.out; simp; omega)).trans X1.out)
    have Z2 := hide ((Below.heap_setCell W2 ⟨t, 0, none⟩ (.slice (some ⟨b2, o2 + 7, none⟩) n (c - 1)) _ (by have := HT.out; simp; omega)).trans X2.out)
    have Z3 : Hid (Wv (W2.setCell ⟨t, 0, none⟩ (.slice (some ⟨b2, o2 + 7, none⟩) n (c - 1))) bl yk yo ya (y0, y1, y2) (.slice ay ny cy)) := hide ((Below.heap_setCell W2 ⟨t, 0, none⟩ (.slice (some ⟨b2, o2 + 7, none⟩) n (c - 1)) _ (by have := HT.out; have := SZ.out; simp; omega)).trans X3.out)
    have RN := hide (ru_wide HG.out MV.out.1 MV.out.2)
    have AR : Hid (Args (W2.setCell ⟨t, 0, none⟩ (.slice (some ⟨b2, o2 + 7, none⟩) n (c - 1))) R (.slice ay ny cy)) := hide (HA.out.keep (fun k hk => (Below.heap_setCell _ _ _ _ (fun e => by
      obtain ⟨b', hb'⟩ : ∃ b', ps[i]? = some b' := ⟨_, List.getElem?_eq_getElem (by rw [HU.out.pl]; exact (List.getElem?_eq_some_iff.1 HX.out.1).1)⟩
      obtain ⟨_, q5, q6⟩ := HU.out.gr i x b' t HX.out.1 hb' HX.out.2
      have e' : k = t := e
      subst e'
      exact HU.out.ro _ hk q6)).trans (B2.out.block k (HU.out.rb k hk))) (fun _ h => h))
    have B3 := hide (And.intro ((Ch.of_bel B2.out).trans RN.out.2) RN.out.1)
    have K3 : Hid (∀ k, k < w.heap.size → k ≠ t → (W2.setCell ⟨t, 0, none⟩ (.slice (some ⟨b2, o2 + 7, none⟩) n (c - 1))).heap[k]? = w.heap[k]?) := hide (fun k hk hne => (Below.heap_setCell _ _ _ _ hne).trans (B2.out.block k hk))
    have S3 := hide (And.intro B2.out.size (by rw [size_setCell]; exact Nat.le_refl _ : W2.heap.size ≤ (W2.setCell ⟨t, 0, none⟩ (.slice (some ⟨b2, o2 + 7, none⟩) n (c - 1))).heap.size))
    have GL : Hid (∀ k, (Fs k ∨ Fo k ∨ R k) → k < w.heap.size) := hide (fun k hk => HU.out.lt hk)
    clear MV RN X1 X2 X3 f0 c2 HU HQ HN HX HA
    generalize W2.setCell ⟨t, 0, none⟩ (.slice (some ⟨b2, o2 + 7, none⟩) n (c - 1)) = W3 at *
    obtain ⟨q0, q1, q2, q3, q4, q5, q6⟩ := Z3.out.all
    have hkb : (yk == 0) = false := by simp [hk]
    have CL := hide (wclone_any yk yo ya y0 y1 y2 (.slice ay ny cy) AR.out)
    go_wp2_with fail
    refine CL.out.mono ?_
    rintro e w4 ⟨v4, rfl, a4, hb4⟩
    obtain ⟨a5, n5, c5, x5, rfl, _⟩ := id a4
    have Y9 := hide ((hb4.block _ (lt_of_blk Z1.out)).trans Z1.out)
    have YH := hide ((hb4.block _ (lt_of_blk Z2.out)).trans Z2.out)
    have A4 := hide a4
    have B4 := hide hb4
    have S4 := hide (And.intro (lt_of_blk Z1.out) (lt_of_blk Z2.out))
    clear a4 hb4 CL q0 q1 q2 q3 q4 q5 q6
    have p0 := blk_cell Y9.out 0 _ rfl
    have p1 := blk_cell Y9.out 1 _ rfl
    have p2 := blk_cell Y9.out 2 _ rfl
    have p3 := blk_cell Y9.out 3 _ rfl
    have p4 := blk_cell Y9.out 4 _ rfl
    have p5 := blk_cell Y9.out 5 _ rfl
    have p6 := blk_cell Y9.out 6 _ rfl
    have f0 := blk_frz Y9.out 0
    have f1 := blk_frz Y9.out 1
    have f2 := blk_frz Y9.out 2
    have f3 := blk_frz Y9.out 3
    have f4 := blk_frz Y9.out 4
    have f5 := blk_frz Y9.out 5
    have f6 := blk_frz Y9.out 6
    have n0 := blk_cell YH.out 0 _ rfl
    have n1 := blk_cell YH.out 1 _ rfl
    have n2 := blk_cell YH.out 2 _ rfl
    have m0 := blk_frz YH.out 0
    have m1 := blk_frz YH.out 1
    have m2 := blk_frz YH.out 2
    go_wp2_with fail
    have BB : Below w.heap.size w4 ((((set7 w4 (w.heap.size + 1) 0 (.int .i64 yk) (.int .i64 yo) (.int .i64 ya) (.int .i64 y0) (.int .i64 y1) (.int .u64 y2) (.slice a5 n5 c5)).setCell ⟨w.heap.size + 1 + 1, 0, none⟩ (.int .i64 0)).setCell ⟨w.heap.size + 1 + 1, 1, none⟩ (.int .i64 0)).setCell ⟨w.heap.size + 1 + 1, 2, none⟩ (.int .i64 0)) := bel_set (bel_set7 (o := 0) (Below.refl _ _) (by omega)) (by omega) _ _ _
    refine ret_wh (w.heap.size + 1) (w.heap.size + 1 + 1) rfl rfl rfl ⟨_, _, _, rfl⟩ ((ne3 (by omega)).trans (set7_at Y9.out _ _ _ _ _ _ _)) (set3 ((set7_ne (o := 0) (by omega)).trans YH.out) _ _ _) rfl ⟨_, rfl, ?_, fun k hk hne => ((BB.block k hk).trans (B4.out.block k (by have := S3.out; omega))).trans (K3.out k hk hne), _, (B3.out.2.bel B4.out).low (N := w.heap.size) GL.out BB, ?_⟩
    · refine (A4.out.low (Nat.zero_le _)).keep fun k _ _ hk => ?_
      have hk1 := (A4.out.at hk).1
      have h1 := S4.out
      exact (ne3 (by omega)).trans (set7_ne (o := 0) (by omega))
    · exact (B3.out.1.trans (Ch.of_bel B4.out)).below BB
end Go.Proofs.YtbiilnpblnjliaaDoor.Ck
