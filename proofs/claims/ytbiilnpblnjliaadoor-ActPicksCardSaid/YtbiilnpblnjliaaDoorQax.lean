/- Texts of this proof, packed: contracts of the program's functions, and the plain model that they are held against. -/
import Derived.Test.YtbiilnpblnjliaaDoorQaw
/- Package act: an event is done (unlock, send). (Written by mk_a.py.) -/
namespace Go.Proofs.YtbiilnpblnjliaaDoor.Ck
open Go.RowKit

set_option maxRecDepth 20000 in
set_option maxHeartbeats 3000000 in
theorem step_4 {w : World} {G : Nat → Prop} {g : Nat} {S : List (List Wt)} {r : Rm} {p : List Addr} (h : Rn w G g S r) (h17 : E2 w p) (i : Nat) (x : Gr) (hx : r.gs[i]? = some x) (hl : r.ev.length ≤ 90000) (hk : x.w.k = 4) (hc : canW r x.w = true) (hm : lk r.s.M x.w.o = some true) : Calls Tryd.prog 95 #[.pointer (some ⟨g, 0, none⟩), .int .i64 (i : Nat)] w (RnP w G g S (stepR S r i) (.tuple #[])) := by
  have hst : stepR S r i = (askR (noteR { r with s := (shareR r.s x.w).1 } i x.w.o) i).1 := by
    unfold stepR
    rw [hx]
    simp only
    rw [if_neg (fun e => e.2 hm), if_neg (by omega), if_neg (by omega), if_neg (by omega)]
  rw [hst]
  clear hst
  have NG : Hid (¬ G w.heap.size) := hide (fun hG => absurd (h.fb _ hG) (by omega))
  have HX := hide hx
  obtain ⟨Fs, Fo, R, gs, vC, vB, vG, vE, ps, ts, h, hG⟩ := h
  obtain ⟨bG, cG, b, t, va, eG, _, _, _, _, _, hA, ⟨s1, s2, s3⟩, s4⟩ := h.see hx
  subst eG
  obtain ⟨aa, na, ca, rfl⟩ := hA.form
  have hi : i < r.gs.length := (List.getElem?_eq_some_iff.1 hx).1
  have hn8 := h.n8
  obtain ⟨⟨c0, c1, c2, c3, c4⟩, c5, c6, c7, c8, c9⟩ := h.cells
  have hgl := h.fb g h.fg
  obtain ⟨rest, ⟨k, o, a, v0, v1, v2⟩⟩ := x
  simp only at s4
  have b1 := blk_cell s4 1 _ rfl
  have b2 := blk_cell s4 2 _ rfl
  have b3 := blk_cell s4 3 _ rfl
  have b4 := blk_cell s4 4 _ rfl
  have b5 := blk_cell s4 5 _ rfl
  have b6 := blk_cell s4 6 _ rfl
  have b7 := blk_cell s4 7 _ rfl
  obtain ⟨n, hn⟩ : ∃ n, n = r.gs.length := ⟨_, rfl⟩
  rw [← hn] at hi hn8 c3
  have HN := hide hn
  have hi1 : (i : Int) < (n : Int) := by omega
  have hi0 : (0 : Int) ≤ (i : Int) := by omega
  have hd0 : decide ((i : Int) < 0) = false := by simp
  have hd1 : decide ((n : Int) ≤ (i : Int)) = false := by simp; omega
  clear hn
  have B0 := hide (bel_new w (.cells #[.int .i64 k, .int .i64 o, .int .i64 a, .int .i64 v0, .int .i64 v1, .int .u64 v2, .slice aa na ca] 133))
  have V0 := hide (Wv.new w k o a v0 v1 v2 (.slice aa na ca))
  have HU := hide (h.bel B0.out)
  have HG := hide hG
  have H7 := hide (h17.below (Nat.le_refl _) B0.out)
  have HL := hide hl
  have AR := hide (hA.keep (fun k hk => B0.out.block k (h.rb k hk)) (fun _ h => h))
  have U0 := hide ((B0.out.cell (p := ⟨g, 0, none⟩) hgl).trans c0)
  have hsl := h.st.lt
  simp only at hc hk hm
  subst hk
  have hlo : (lk r.s.M o).getD false = true := by rw [hm]; rfl
  have LO := hide (fun (m : Nat) => Locked_q (HU.out.st.bel (below_drewN (Below.refl _ _) m)) (H7.out.below (Nat.le_refl _) (below_drewN (Below.refl _ _) m)) o)
  rw [hlo] at LO
  have HZ : (4 : Int) = 5 → roomZ r.s o = false := fun e => absurd e (by decide)
  clear hlo hm
  obtain ⟨sh, hsh⟩ : ∃ sh, sh = shareR r.s ⟨4, o, a, (v0, v1, v2)⟩ := ⟨_, rfl⟩
  have SH := hide (fun (W : World) (hS : Stt W Fs gs r.s) (h7 : E2 W p) => share_any hS h7 4 o a v0 v1 v2 aa na ca hc (by first | decide | exact h10) (by first | decide | exact h12) HZ)
  have SM := hide (share_t r.s ⟨4, o, a, (v0, v1, v2)⟩)
  rw [← hsh] at SH SM ⊢
  clear hsh hc
  clear h hG h17 hl hA hx c0 c1 c2 c4 c5 c6 c7 c8 c9
  go_enter Tryd.func95, Tryd.ntmps95
  go_upto_region 4 with fail
  generalize w.alloc (.cells #[.int .i64 4, .int .i64 o, .int .i64 a, .int .i64 v0, .int .i64 v1, .int .u64 v2, .slice aa na ca] 133) = w1 at *
  clear b1 b2 b3 b4 b5 b6 b7 s1 c3
  obtain ⟨q0, q1, q2, q3, q4, q5, q6⟩ := V0.out.all
  have u0 := U0.out
  go_quiet (first | (go_at_call 15; exact Calls.quiet_of (LO.out _)))
  have HU' := hide (HU.out.bel (w' := w1.drewN nq) (below_drewN (Below.refl _ _) nq))
  have B0' := hide (below_drewN B0.out nq)
  have V0' : Hid (Wv (w1.drewN nq) w.heap.size 4 o a (v0, v1, v2) (.slice aa na ca)) := V0
  have H7' : Hid (E2 (w1.drewN nq) p) := hide (H7.out.below (Nat.le_refl _) (below_drewN (Below.refl _ _) nq))
  have U0' : Hid ((w1.drewN nq).cell? ⟨g, 0, none⟩ = some (.pointer (some ⟨gs, 0, none⟩))) := U0
  have AR' := hide (AR.out.keep (w' := w1.drewN nq) (fun _ _ => rfl) (fun _ h => h))
  clear HU B0 V0 H7 U0 AR q0 q1 q2 q3 q4 q5 q6 u0
  have HU := HU'
  have B0 := B0'
  have V0 := V0'
  have H7 := H7'
  have U0 := U0'
  have AR := AR'
  clear HU' B0' V0' H7' U0' AR'
  generalize w1.drewN nq = w2 at *
  obtain ⟨q0, q1, q2, q3, q4, q5, q6⟩ := V0.out.all
  have u0 := U0.out
  go_upto_region 8 with fail
  go_quiet (fail)
  have HU' := hide (HU.out.bel (w' := w2.drewN nq) (below_drewN (Below.refl _ _) nq))
  have B0' := hide (below_drewN B0.out nq)
  have V0' : Hid (Wv (w2.drewN nq) w.heap.size 4 o a (v0, v1, v2) (.slice aa na ca)) := V0
  have H7' : Hid (E2 (w2.drewN nq) p) := hide (H7.out.below (Nat.le_refl _) (below_drewN (Below.refl _ _) nq))
  have U0' : Hid ((w2.drewN nq).cell? ⟨g, 0, none⟩ = some (.pointer (some ⟨gs, 0, none⟩))) := U0
  have AR' := hide (AR.out.keep (w' := w2.drewN nq) (fun _ _ => rfl) (fun _ h => h))
  clear HU B0 V0 H7 U0 AR q0 q1 q2 q3 q4 q5 q6 u0
  have HU := HU'
  have B0 := B0'
  have V0 := V0'
  have H7 := H7'
  have U0 := U0'
  have AR := AR'
  clear HU' B0' V0' H7' U0' AR'
  generalize w2.drewN nq = w3 at *
  obtain ⟨q0, q1, q2, q3, q4, q5, q6⟩ := V0.out.all
  have u0 := U0.out
  have KG : Hid (g < w.heap.size) := hide hgl
  have NF : Hid (¬ Fs w.heap.size) := hide (fun e => NG.out ((HG.out _).2 (.inl e)))
  have KL0 : Hid (∀ k ∈ [g, w.heap.size], k < w3.drew.heap.size) := hide (fun k hk => by
    show k < w3.heap.size
    have h1 := V0.out.lt
    simp only [List.mem_cons, List.mem_nil_iff, or_false] at hk
    have h2 := hgl
    rcases hk with rfl | rfl <;> omega)
  go_upto_region 1 with fail
  go_cut [5] from 16 to 21 (fun x5 wc => ∃ bl G', x5 = .pointer (some ⟨bl, 0, none⟩) ∧ Hid ((Rn wc G' g S { r with s := sh.1 } ∧ Ch G G' w wc) ∧ Val wc bl sh.2.1 sh.2.2.1 sh.2.2.2 ∧ (Wv wc w.heap.size 4 o a (v0, v1, v2) (.slice aa na ca) ∧ ¬ G' w.heap.size ∧ ¬ G' bl)))
  case first =>
    refine wp_region_held_drew (S := fun w' => SameB [g, w.heap.size] w3.drew w') mixed (SameB.refl KL0.out) (fun hH => ?_)
    have HU' := hide (HU.out.bel (w' := w3.drew) (below_drewN (Below.refl _ _) 1))
    have B0' := hide (bel_drawn B0.out)
    have H7' : Hid (E2 w3.drew p) := hide (H7.out.below (Nat.le_refl _) (below_drewN (Below.refl _ _) 1))
    have V0' : Hid (Wv w3.drew w.heap.size 4 o a (v0, v1, v2) (.slice aa na ca)) := V0
    have U0' : Hid (w3.drew.cell? ⟨g, 0, none⟩ = some (.pointer (some ⟨gs, 0, none⟩))) := U0
    clear HU B0 H7 V0 U0 q0 q1 q2 q3 q4 q5 q6 u0 AR
    have HU := HU'
    have B0 := B0'
    have H7 := H7'
    have V0 := V0'
    have U0 := U0'
    clear HU' B0' H7' V0' U0'
    generalize w3.drew = Y0 at *
    refine wpAnyH_take (i := 0) (v := ?_) rfl (by kernel_rfl) (by kernel_rfl) (by kernel_rfl) (fun _ _ _ h => h) (Or.inl ⟨by rfl, ?_⟩) hH ?_
    rotate_left 1
    · (intro w hSw; skip; clear hSw; go_simp <;> with_reducible rfl)
    simp only [Act.put, List.getElem_toArray, List.getElem_cons_zero, List.setIfInBounds_toArray, List.set_cons_zero, List.set_cons_succ]
    refine wpAnyH_take (i := 1) (v := ?_) rfl (by kernel_rfl) (by kernel_rfl) (by kernel_rfl) (fun _ _ _ h => h) (Or.inl ⟨by rfl, ?_⟩) hH ?_
    rotate_left 1
    · (intro w hSw; skip; clear hSw; go_simp <;> with_reducible rfl)
    simp only [Act.put, List.getElem_toArray, List.getElem_cons_zero, List.getElem_cons_succ, List.setIfInBounds_toArray, List.set_cons_zero, List.set_cons_succ]
    refine wpAnyH_take (i := 2) (v := ?_) rfl (by kernel_rfl) (by kernel_rfl) (by kernel_rfl) (fun _ _ _ h => h) (Or.inl ⟨by rfl, ?_⟩) hH ?_
    rotate_left 1
    · (intro w hSw; skip; clear hSw; go_simp <;> with_reducible rfl)
    simp only [Act.put, List.getElem_toArray, List.getElem_cons_zero, List.getElem_cons_succ, List.setIfInBounds_toArray, List.set_cons_zero, List.set_cons_succ]
    refine wpAnyH_take (i := 3) (v := ?_) rfl (by kernel_rfl) (by kernel_rfl) (by kernel_rfl) (fun _ _ _ h => h) (Or.inl ⟨by rfl, ?_⟩) hH ?_
    rotate_left 1
    · (intro w hSw; have q := hSw.cell (by simp) U0.out; clear hSw; go_simp <;> with_reducible rfl)
    simp only [Act.put, List.getElem_toArray, List.getElem_cons_zero, List.getElem_cons_succ, List.setIfInBounds_toArray, List.set_cons_zero, List.set_cons_succ]
    refine wpAnyH_take (i := 4) (v := ?_) rfl (by kernel_rfl) (by kernel_rfl) (by kernel_rfl) (fun _ _ _ h => h) (Or.inl ⟨by rfl, ?_⟩) hH ?_
    rotate_left 1
    · (intro w hSw; obtain ⟨z0, z1, z2, z3, z4, z5, z6⟩ := V0.out.all; have q0 := hSw.cell (by simp) z0; have q1 := hSw.cell (by simp) z1; have q2 := hSw.cell (by simp) z2; have q3 := hSw.cell (by simp) z3; have q4 := hSw.cell (by simp) z4; have q5 := hSw.cell (by simp) z5; have q6 := hSw.cell (by simp) z6; clear hSw; go_simp <;> with_reducible rfl)
    simp only [Act.put, List.getElem_toArray, List.getElem_cons_zero, List.getElem_cons_succ, List.setIfInBounds_toArray, List.set_cons_zero, List.set_cons_succ]
    refine wpAnyH_ready (rs := [5, 6]) (by kernel_rfl) (by decide) ?_
    refine AllReadyH.cons rfl (fun K1 hK1 => ?_) (AllReadyH.cons rfl (fun K1 hK1 => ?_) AllReadyH.nil)
    · have hH0 : w.heap.size < Y0.heap.size := by have h1 := hH.1; have h2 := hH.2.1 w.heap.size (by simp); omega
      go_simp
      refine (SH.out Y0 HU.out.st H7.out).mono ?_
      rintro e Y1 ⟨rfl, Fs', st, ch⟩
      have hU := HU.out.state st ch SM.out
      refine hK1.out _ _ (hH.ch ch (fun k hk => by
        simp only [List.mem_cons, List.mem_nil_iff, or_false] at hk
        rcases hk with rfl | rfl
        · exact fun e => HU.out.so _ e HU.out.fg
        · exact fun e => NF.out e)) (fun hH => ?_)
      clear hK1 K1
      have HQ := hide (And.intro hU ((Ch.of_bel B0.out).trans (ch.wide (G := G) (G' := fun k => Fs' k ∨ Fo k ∨ R k) (fun k hk => (HG.out k).2 (.inl hk)) (fun k hk => by
        rcases hk with h1 | h1 | h1
        · rcases ch.grow k h1 with h2 | h2
          · exact .inl ((HG.out k).2 (.inl h2))
          · exact .inr h2
        · exact .inl ((HG.out k).2 (.inr (.inl h1)))
        · exact .inl ((HG.out k).2 (.inr (.inr h1))))))) 
      have GL : Hid (¬ Fs' w.heap.size) := hide (fun hF => by
        rcases ch.grow _ hF with h2 | h2
        · exact NF.out h2
        · have h1 := hH.1
          have h3 := hH.2.1 w.heap.size (by simp)
          have h4 := hH0
          omega)
      clear st ch hU HU B0 H7 hH0
      refine wpAnyH_ready (rs := [6]) (by kernel_rfl) (by decide) ?_
      refine AllReadyH.cons rfl (fun K1 hK1 => ?_) AllReadyH.nil
      have A2 := bel_new Y1 (.cells #[.int .i64 0, .int .i64 0, .int .u64 0] 41)
      have N2 := Val.new Y1 0 0 0
      have L0 : w.heap.size < Y1.heap.size := by have h1 := hH.1; have h2 := hH.2.1 w.heap.size (by simp); omega
      go_simp
      refine hK1.out _ _ (hH.al A2) (fun hH => ?_)
      clear hK1 K1
      obtain ⟨bl, hbl⟩ : ∃ bl, Y1.heap.size = bl := ⟨_, rfl⟩
      rw [hbl] at N2 L0 ⊢
      have LB := hide L0
      have ZB := hide N2
      have GB : Hid (¬ (Fs' bl ∨ Fo bl ∨ R bl)) := hide (fun hF => absurd (HQ.out.1.lt hF) (by omega))
      have HQ' := hide (And.intro (HQ.out.1.bel A2) (HQ.out.2.trans (Ch.of_bel A2)))
      clear HQ
      have HQ := HQ'
      clear HQ'
      clear A2 N2 L0 hbl
      generalize Y1.alloc (.cells #[.int .i64 0, .int .i64 0, .int .u64 0] 41) = Y2 at *
      refine wpAnyH_ready (rs := [7]) (by kernel_rfl) (by decide) ?_
      refine AllReadyH.cons rfl (fun K1 hK1 => ?_) AllReadyH.nil
      obtain ⟨⟨f0, f1, f2⟩, e0, e1, e2⟩ := ZB.out.all
      have BB : Below w.heap.size Y2 (((Y2.setCell ⟨bl, 0, none⟩ (.int .i64 sh.2.1)).setCell ⟨bl, 1, none⟩ (.int .i64 sh.2.2.1)).setCell ⟨bl, 2, none⟩ (.int .u64 sh.2.2.2)) := bel_set (Below.refl _ _) (Nat.le_of_lt LB.out) _ _ _
      have OO_ : ∀ k, k ≠ bl → (((Y2.setCell ⟨bl, 0, none⟩ (.int .i64 sh.2.1)).setCell ⟨bl, 1, none⟩ (.int .i64 sh.2.2.1)).setCell ⟨bl, 2, none⟩ (.int .u64 sh.2.2.2)).heap[k]? = Y2.heap[k]? := fun k hk => ne3 hk
      have SS : Y2.heap.size = (((Y2.setCell ⟨bl, 0, none⟩ (.int .i64 sh.2.1)).setCell ⟨bl, 1, none⟩ (.int .i64 sh.2.2.1)).setCell ⟨bl, 2, none⟩ (.int .u64 sh.2.2.2)).heap.size := by simp only [size_setCell]
      have EE : Val (((Y2.setCell ⟨bl, 0, none⟩ (.int .i64 sh.2.1)).setCell ⟨bl, 1, none⟩ (.int .i64 sh.2.2.1)).setCell ⟨bl, 2, none⟩ (.int .u64 sh.2.2.2)) bl sh.2.1 sh.2.2.1 sh.2.2.2 := ZB.out.set _ _ _
      go_simp
      refine hK1.out _ _ (hH.turn (t := bl) (Nat.le_of_eq SS) (fun k _ hk => OO_ k hk) (fun hm => by have := LB.out; have := KG.out; simp at hm; omega)) (fun hH => ?_)
      clear hK1 K1 f0 f1 f2 e0 e1 e2
      have RN9 := hide (And.intro (HQ.out.1.rn.keep (w' := (((Y2.setCell ⟨bl, 0, none⟩ (.int .i64 sh.2.1)).setCell ⟨bl, 1, none⟩ (.int .i64 sh.2.2.1)).setCell ⟨bl, 2, none⟩ (.int .u64 sh.2.2.2))) (fun k hk => OO_ k (fun e => GB.out (e ▸ hk))) (Nat.le_of_eq SS)) (HQ.out.2.below BB))
      have ZV := hide EE
      have WV := hide (show Wv (((Y2.setCell ⟨bl, 0, none⟩ (.int .i64 sh.2.1)).setCell ⟨bl, 1, none⟩ (.int .i64 sh.2.2.1)).setCell ⟨bl, 2, none⟩ (.int .u64 sh.2.2.2)) w.heap.size 4 o a (v0, v1, v2) (.slice aa na ca) from (hH.2.2 w.heap.size (by simp)).trans V0.out)
      have NL : Hid (¬ (Fs' w.heap.size ∨ Fo w.heap.size ∨ R w.heap.size)) := hide (fun hF => by
        rcases hF with h1 | h1
        · exact GL.out h1
        · exact NG.out ((HG.out _).2 (.inr h1)))
      clear BB OO_ SS EE hH
      generalize (((Y2.setCell ⟨bl, 0, none⟩ (.int .i64 sh.2.1)).setCell ⟨bl, 1, none⟩ (.int .i64 sh.2.2.1)).setCell ⟨bl, 2, none⟩ (.int .u64 sh.2.2.2)) = Y3 at *
      refine wpAnyH_done (by kernel_rfl) ?_ _
      go_wp2_with fail
      go_meet
      case rel => exact ⟨bl, _, rfl, hide ⟨RN9.out, ZV.out, WV.out, NL.out, GB.out⟩⟩
    · have A1 := bel_new Y0 (.cells #[.int .i64 0, .int .i64 0, .int .u64 0] 41)
      have N1 := Val.new Y0 0 0 0
      have L0 : w.heap.size < Y0.heap.size := by have h1 := hH.1; have h2 := hH.2.1 w.heap.size (by simp); omega
      go_simp
      refine hK1.out _ _ (hH.al A1) (fun hH => ?_)
      clear hK1 K1
      obtain ⟨bl, hbl⟩ : ∃ bl, Y0.heap.size = bl := ⟨_, rfl⟩
      rw [hbl] at N1 L0 ⊢
      have LB := hide L0
      have ZB := hide N1
      have GB0 : Hid (¬ (Fs bl ∨ Fo bl ∨ R bl)) := hide (fun hF => absurd (HU.out.lt hF) (by omega))
      have HU' := hide (HU.out.bel A1)
      have B0' := hide (bel_trans B0.out A1)
      have H7' := hide (H7.out.below (Nat.le_refl _) A1)
      clear HU B0 H7
      have HU := HU'
      have B0 := B0'
      have H7 := H7'
      clear HU' B0' H7'
      clear A1 N1 L0 hbl
      generalize Y0.alloc (.cells #[.int .i64 0, .int .i64 0, .int .u64 0] 41) = Y1 at *
      refine wpAnyH_ready (rs := [5]) (by kernel_rfl) (by decide) ?_
      refine AllReadyH.cons rfl (fun K1 hK1 => ?_) AllReadyH.nil
      have hH0 : w.heap.size < Y1.heap.size := by have h1 := hH.1; have h2 := hH.2.1 w.heap.size (by simp); omega
      go_simp
      refine (SH.out Y1 HU.out.st H7.out).mono ?_
      rintro e Y2 ⟨rfl, Fs', st, ch⟩
      have hU := HU.out.state st ch SM.out
      refine hK1.out _ _ (hH.ch ch (fun k hk => by
        simp only [List.mem_cons, List.mem_nil_iff, or_false] at hk
        rcases hk with rfl | rfl
        · exact fun e => HU.out.so _ e HU.out.fg
        · exact fun e => NF.out e)) (fun hH => ?_)
      clear hK1 K1
      have HQ := hide (And.intro hU ((Ch.of_bel B0.out).trans (ch.wide (G := G) (G' := fun k => Fs' k ∨ Fo k ∨ R k) (fun k hk => (HG.out k).2 (.inl hk)) (fun k hk => by
        rcases hk with h1 | h1 | h1
        · rcases ch.grow k h1 with h2 | h2
          · exact .inl ((HG.out k).2 (.inl h2))
          · exact .inr h2
        · exact .inl ((HG.out k).2 (.inr (.inl h1)))
        · exact .inl ((HG.out k).2 (.inr (.inr h1))))))) 
      have GL : Hid (¬ Fs' w.heap.size) := hide (fun hF => by
        rcases ch.grow _ hF with h2 | h2
        · exact NF.out h2
        · have h1 := hH.1
          have h3 := hH.2.1 w.heap.size (by simp)
          have h4 := hH0
          omega)
      have GB : Hid (¬ (Fs' bl ∨ Fo bl ∨ R bl)) := hide (fun hF => by
        rcases hF with h1 | h1
        · rcases ch.grow _ h1 with h2 | h2
          · exact GB0.out (.inl h2)
          · exact absurd ZB.out.lt (by omega)
        · exact GB0.out (.inr h1))
      have ZB' : Hid (Val Y2 bl 0 0 0) := hide ((ch.blk bl ZB.out.lt (fun e => GB0.out (.inl e))).trans ZB.out)
      clear ZB
      have ZB := ZB'
      clear ZB'
      clear st ch hU HU B0 H7 hH0
      refine wpAnyH_ready (rs := [7]) (by kernel_rfl) (by decide) ?_
      refine AllReadyH.cons rfl (fun K1 hK1 => ?_) AllReadyH.nil
      obtain ⟨⟨f0, f1, f2⟩, e0, e1, e2⟩ := ZB.out.all
      have BB : Below w.heap.size Y2 (((Y2.setCell ⟨bl, 0, none⟩ (.int .i64 sh.2.1)).setCell ⟨bl, 1, none⟩ (.int .i64 sh.2.2.1)).setCell ⟨bl, 2, none⟩ (.int .u64 sh.2.2.2)) := bel_set (Below.refl _ _) (Nat.le_of_lt LB.out) _ _ _
      have OO_ : ∀ k, k ≠ bl → (((Y2.setCell ⟨bl, 0, none⟩ (.int .i64 sh.2.1)).setCell ⟨bl, 1, none⟩ (.int .i64 sh.2.2.1)).setCell ⟨bl, 2, none⟩ (.int .u64 sh.2.2.2)).heap[k]? = Y2.heap[k]? := fun k hk => ne3 hk
      have SS : Y2.heap.size = (((Y2.setCell ⟨bl, 0, none⟩ (.int .i64 sh.2.1)).setCell ⟨bl, 1, none⟩ (.int .i64 sh.2.2.1)).setCell ⟨bl, 2, none⟩ (.int .u64 sh.2.2.2)).heap.size := by simp only [size_setCell]
      have EE : Val (((Y2.setCell ⟨bl, 0, none⟩ (.int .i64 sh.2.1)).setCell ⟨bl, 1, none⟩ (.int .i64 sh.2.2.1)).setCell ⟨bl, 2, none⟩ (.int .u64 sh.2.2.2)) bl sh.2.1 sh.2.2.1 sh.2.2.2 := ZB.out.set _ _ _
      go_simp
      refine hK1.out _ _ (hH.turn (t := bl) (Nat.le_of_eq SS) (fun k _ hk => OO_ k hk) (fun hm => by have := LB.out; have := KG.out; simp at hm; omega)) (fun hH => ?_)
      clear hK1 K1 f0 f1 f2 e0 e1 e2
      have RN9 := hide (And.intro (HQ.out.1.rn.keep (w' := (((Y2.setCell ⟨bl, 0, none⟩ (.int .i64 sh.2.1)).setCell ⟨bl, 1, none⟩ (.int .i64 sh.2.2.1)).setCell ⟨bl, 2, none⟩ (.int .u64 sh.2.2.2))) (fun k hk => OO_ k (fun e => GB.out (e ▸ hk))) (Nat.le_of_eq SS)) (HQ.out.2.below BB))
      have ZV := hide EE
      have WV := hide (show Wv (((Y2.setCell ⟨bl, 0, none⟩ (.int .i64 sh.2.1)).setCell ⟨bl, 1, none⟩ (.int .i64 sh.2.2.1)).setCell ⟨bl, 2, none⟩ (.int .u64 sh.2.2.2)) w.heap.size 4 o a (v0, v1, v2) (.slice aa na ca) from (hH.2.2 w.heap.size (by simp)).trans V0.out)
      have NL : Hid (¬ (Fs' w.heap.size ∨ Fo w.heap.size ∨ R w.heap.size)) := hide (fun hF => by
        rcases hF with h1 | h1
        · exact GL.out h1
        · exact NG.out ((HG.out _).2 (.inr h1)))
      clear BB OO_ SS EE hH
      generalize (((Y2.setCell ⟨bl, 0, none⟩ (.int .i64 sh.2.1)).setCell ⟨bl, 1, none⟩ (.int .i64 sh.2.2.1)).setCell ⟨bl, 2, none⟩ (.int .u64 sh.2.2.2)) = Y3 at *
      refine wpAnyH_done (by kernel_rfl) ?_ _
      go_wp2_with fail
      go_meet
      case rel => exact ⟨bl, _, rfl, hide ⟨RN9.out, ZV.out, WV.out, NL.out, GB.out⟩⟩
  case rest =>
    clear HU B0 H7 V0 U0 q0 q1 q2 q3 q4 q5 q6 u0 AR KL0 SH SM NF
    obtain ⟨bl, G', rfl, CU⟩ := hcut
    obtain ⟨q0, q1, q2, q3, q4, q5, q6⟩ := CU.out.2.2.1.all
    have NO := hide (note_any CU.out.1.1 i _ HX.out o (by have := HL.out; show r.ev.length ≤ 100000; omega))
    have hlb := CU.out.2.1.lt
    have NBL := hide CU.out.2.2.2.2
    go_wp2_with fail
    refine NO.out.mono ?_
    rintro e w8 ⟨rfl, G8, rn8, c8⟩
    have HX8 := hide (show (noteR { r with s := sh.1 } i o).gs[i]? = _ from (congrArg (fun l => l[i]?) (note_gs _ i o)).trans HX.out)
    have AK := hide (ask_any rn8 i _ HX8.out sh.2.1 sh.2.2.1 sh.2.2.2)
    have C8 := hide (CU.out.1.2.trans c8)
    have V8 : Hid (Val w8 bl sh.2.1 sh.2.2.1 sh.2.2.2) := hide ((c8.blk bl CU.out.2.1.lt NBL.out).trans CU.out.2.1)
    clear rn8 c8 NO q0 q1 q2 q3 q4 q5 q6 CU
    obtain ⟨_, e0, e1, e2⟩ := V8.out.all
    go_wp2_with fail
    refine AK.out.mono ?_
    rintro e w9 ⟨rfl, G9, rn9, c9⟩
    have Z := hide (And.intro rn9 (C8.out.trans c9))
    clear rn9 c9 AK
    go_wp2_with fail
    go_end0
    exact RnP.mk rfl Z.out.1 Z.out.2
set_option maxRecDepth 20000 in
set_option maxHeartbeats 3000000 in
theorem step_5 {w : World} {G : Nat → Prop} {g : Nat} {S : List (List Wt)} {r : Rm} {p : List Addr} (h : Rn w G g S r) (h17 : E2 w p) (i : Nat) (x : Gr) (hx : r.gs[i]? = some x) (hl : r.ev.length ≤ 90000) (hk : x.w.k = 5) (hc : canW r x.w = true) (hz : roomZ r.s x.w.o = false) : Calls Tryd.prog 95 #[.pointer (some ⟨g, 0, none⟩), .int .i64 (i : Nat)] w (RnP w G g S (stepR S r i) (.tuple #[])) := by
  have hst : stepR S r i = (askR (noteR { r with s := (shareR r.s x.w).1 } i x.w.o) i).1 := by
    unfold stepR
    rw [hx]
    simp only
    rw [if_neg (by omega), if_neg (by omega), if_neg (fun e => by rw [hz] at e; cases e.2), if_neg (by omega)]
  rw [hst]
  clear hst
  have NG : Hid (¬ G w.heap.size) := hide (fun hG => absurd (h.fb _ hG) (by omega))
  have HX := hide hx
  obtain ⟨Fs, Fo, R, gs, vC, vB, vG, vE, ps, ts, h, hG⟩ := h
  obtain ⟨bG, cG, b, t, va, eG, _, _, _, _, _, hA, ⟨s1, s2, s3⟩, s4⟩ := h.see hx
  subst eG
  obtain ⟨aa, na, ca, rfl⟩ := hA.form
  have hi : i < r.gs.length := (List.getElem?_eq_some_iff.1 hx).1
  have hn8 := h.n8
  obtain ⟨⟨c0, c1, c2, c3, c4⟩, c5, c6, c7, c8, c9⟩ := h.cells
  have hgl := h.fb g h.fg
  obtain ⟨rest, ⟨k, o, a, v0, v1, v2⟩⟩ := x
  simp only at s4
  have b1 := blk_cell s4 1 _ rfl
  have b2 := blk_cell s4 2 _ rfl
  have b3 := blk_cell s4 3 _ rfl
  have b4 := blk_cell s4 4 _ rfl
  have b5 := blk_cell s4 5 _ rfl
  have b6 := blk_cell s4 6 _ rfl
  have b7 := blk_cell s4 7 _ rfl
  obtain ⟨n, hn⟩ : ∃ n, n = r.gs.length := ⟨_, rfl⟩
  rw [← hn] at hi hn8 c3
  have HN := hide hn
  have hi1 : (i : Int) < (n : Int) := by omega
  have hi0 : (0 : Int) ≤ (i : Int) := by omega
  have hd0 : decide ((i : Int) < 0) = false := by simp
  have hd1 : decide ((n : Int) ≤ (i : Int)) = false := by simp; omega
  clear hn
  have B0 := hide (bel_new w (.cells #[.int .i64 k, .int .i64 o, .int .i64 a, .int .i64 v0, .int .i64 v1, .int .u64 v2, .slice aa na ca] 133))
  have V0 := hide (Wv.new w k o a v0 v1 v2 (.slice aa na ca))
  have HU := hide (h.bel B0.out)
  have HG := hide hG
  have H7 := hide (h17.below (Nat.le_refl _) B0.out)
  have HL := hide hl
  have AR := hide (hA.keep (fun k hk => B0.out.block k (h.rb k hk)) (fun _ h => h))
  have U0 := hide ((B0.out.cell (p := ⟨g, 0, none⟩) hgl).trans c0)
  have hsl := h.st.lt
  simp only at hc hk hz
  subst hk
  have hq' : ∃ ci q, o = (ci : Nat) ∧ r.s.C[ci]? = some q ∧ q.room ≠ 0 := by
    unfold roomZ at hz
    cases hl' : lk r.s.C o with
    | none => simp [hl'] at hz
    | some q =>
      rw [hl'] at hz
      obtain ⟨ci, e, hci⟩ := lk_some hl'
      exact ⟨ci, q, e, hci, by simpa using hz⟩
  obtain ⟨ci, q, rfl, hq, hr0⟩ := hq'
  have HZ : (5 : Int) = 5 → roomZ r.s (ci : Nat) = false := fun _ => hz
  obtain ⟨sh, hsh⟩ : ∃ sh, sh = shareR r.s ⟨5, (ci : Nat), a, (v0, v1, v2)⟩ := ⟨_, rfl⟩
  have SH := hide (fun (W : World) (hS : Stt W Fs gs r.s) (h7 : E2 W p) => share_any hS h7 5 (ci : Nat) a v0 v1 v2 aa na ca hc (by first | decide | exact h10) (by first | decide | exact h12) HZ)
  have SM := hide (share_t r.s ⟨5, (ci : Nat), a, (v0, v1, v2)⟩)
  rw [← hsh] at SH SM ⊢
  clear hsh hc
  clear h hG h17 hl hA hx c0 c1 c2 c4 c5 c6 c7 c8 c9
  go_enter Tryd.func95, Tryd.ntmps95
  go_upto_region 4 with fail
  generalize w.alloc (.cells #[.int .i64 5, .int .i64 (ci : Nat), .int .i64 a, .int .i64 v0, .int .i64 v1, .int .u64 v2, .slice aa na ca] 133) = w1 at *
  clear b1 b2 b3 b4 b5 b6 b7 s1 c3
  obtain ⟨q0, q1, q2, q3, q4, q5, q6⟩ := V0.out.all
  have u0 := U0.out
  go_quiet (fail)
  have HU' := hide (HU.out.bel (w' := w1.drewN nq) (below_drewN (Below.refl _ _) nq))
  have B0' := hide (below_drewN B0.out nq)
  have V0' : Hid (Wv (w1.drewN nq) w.heap.size 5 (ci : Nat) a (v0, v1, v2) (.slice aa na ca)) := V0
  have H7' : Hid (E2 (w1.drewN nq) p) := hide (H7.out.below (Nat.le_refl _) (below_drewN (Below.refl _ _) nq))
  have U0' : Hid ((w1.drewN nq).cell? ⟨g, 0, none⟩ = some (.pointer (some ⟨gs, 0, none⟩))) := U0
  have AR' := hide (AR.out.keep (w' := w1.drewN nq) (fun _ _ => rfl) (fun _ h => h))
  clear HU B0 V0 H7 U0 AR q0 q1 q2 q3 q4 q5 q6 u0
  have HU := HU'
  have B0 := B0'
  have V0 := V0'
  have H7 := H7'
  have U0 := U0'
  have AR := AR'
  clear HU' B0' V0' H7' U0' AR'
  generalize w1.drewN nq = w2 at *
  obtain ⟨q0, q1, q2, q3, q4, q5, q6⟩ := V0.out.all
  have u0 := U0.out
  have RM := hide (fun (m : Nat) => calls_flip (Room_in (w := w2.drewN m) (HU.out.st.bel (below_drewN (Below.refl _ _) m)) ci q hq))
  obtain ⟨qt, qr, ql⟩ := q
  simp only at hr0
  have hrb : (qr == 0) = false := by simp [hr0]
  clear hq
  go_upto_region 8 with fail
  go_quiet (first | (go_at_call 18; exact Calls.quiet_of_same (RM.out _)))
  have HU' := hide (HU.out.bel (w' := w2.drewN nq) (below_drewN (Below.refl _ _) nq))
  have B0' := hide (below_drewN B0.out nq)
  have V0' : Hid (Wv (w2.drewN nq) w.heap.size 5 (ci : Nat) a (v0, v1, v2) (.slice aa na ca)) := V0
  have H7' : Hid (E2 (w2.drewN nq) p) := hide (H7.out.below (Nat.le_refl _) (below_drewN (Below.refl _ _) nq))
  have U0' : Hid ((w2.drewN nq).cell? ⟨g, 0, none⟩ = some (.pointer (some ⟨gs, 0, none⟩))) := U0
  have AR' := hide (AR.out.keep (w' := w2.drewN nq) (fun _ _ => rfl) (fun _ h => h))
  clear HU B0 V0 H7 U0 AR q0 q1 q2 q3 q4 q5 q6 u0
  have HU := HU'
  have B0 := B0'
  have V0 := V0'
  have H7 := H7'
  have U0 := U0'
  have AR := AR'
  clear HU' B0' V0' H7' U0' AR'
  generalize w2.drewN nq = w3 at *
  obtain ⟨q0, q1, q2, q3, q4, q5, q6⟩ := V0.out.all
  have u0 := U0.out
  have KG : Hid (g < w.heap.size) := hide hgl
  have NF : Hid (¬ Fs w.heap.size) := hide (fun e => NG.out ((HG.out _).2 (.inl e)))
  have KL0 : Hid (∀ k ∈ [g, w.heap.size], k < w3.drew.heap.size) := hide (fun k hk => by
    show k < w3.heap.size
    have h1 := V0.out.lt
    simp only [List.mem_cons, List.mem_nil_iff, or_false] at hk
    have h2 := hgl
    rcases hk with rfl | rfl <;> omega)
  go_upto_region 1 with fail
  go_cut [5] from 16 to 21 (fun x5 wc => ∃ bl G', x5 = .pointer (some ⟨bl, 0, none⟩) ∧ Hid ((Rn wc G' g S { r with s := sh.1 } ∧ Ch G G' w wc) ∧ Val wc bl sh.2.1 sh.2.2.1 sh.2.2.2 ∧ (Wv wc w.heap.size 5 (ci : Nat) a (v0, v1, v2) (.slice aa na ca) ∧ ¬ G' w.heap.size ∧ ¬ G' bl)))
  case first =>
    refine wp_region_held_drew (S := fun w' => SameB [g, w.heap.size] w3.drew w') mixed (SameB.refl KL0.out) (fun hH => ?_)
    have HU' := hide (HU.out.bel (w' := w3.drew) (below_drewN (Below.refl _ _) 1))
    have B0' := hide (bel_drawn B0.out)
    have H7' : Hid (E2 w3.drew p) := hide (H7.out.below (Nat.le_refl _) (below_drewN (Below.refl _ _) 1))
    have V0' : Hid (Wv w3.drew w.heap.size 5 (ci : Nat) a (v0, v1, v2) (.slice aa na ca)) := V0
    have U0' : Hid (w3.drew.cell? ⟨g, 0, none⟩ = some (.pointer (some ⟨gs, 0, none⟩))) := U0
    clear HU B0 H7 V0 U0 q0 q1 q2 q3 q4 q5 q6 u0 AR
    have HU := HU'
    have B0 := B0'
    have H7 := H7'
    have V0 := V0'
    have U0 := U0'
    clear HU' B0' H7' V0' U0'
    generalize w3.drew = Y0 at *
    refine wpAnyH_take (i := 0) (v := ?_) rfl (by kernel_rfl) (by kernel_rfl) (by kernel_rfl) (fun _ _ _ h => h) (Or.inl ⟨by rfl, ?_⟩) hH ?_
    rotate_left 1
    · (intro w hSw; skip; clear hSw; go_simp <;> with_reducible rfl)
    simp only [Act.put, List.getElem_toArray, List.getElem_cons_zero, List.setIfInBounds_toArray, List.set_cons_zero, List.set_cons_succ]
    refine wpAnyH_take (i := 1) (v := ?_) rfl (by kernel_rfl) (by kernel_rfl) (by kernel_rfl) (fun _ _ _ h => h) (Or.inl ⟨by rfl, ?_⟩) hH ?_
    rotate_left 1
    · (intro w hSw; skip; clear hSw; go_simp <;> with_reducible rfl)
    simp only [Act.put, List.getElem_toArray, List.getElem_cons_zero, List.getElem_cons_succ, List.setIfInBounds_toArray, List.set_cons_zero, List.set_cons_succ]
    refine wpAnyH_take (i := 2) (v := ?_) rfl (by kernel_rfl) (by kernel_rfl) (by kernel_rfl) (fun _ _ _ h => h) (Or.inl ⟨by rfl, ?_⟩) hH ?_
    rotate_left 1
    · (intro w hSw; skip; clear hSw; go_simp <;> with_reducible rfl)
    simp only [Act.put, List.getElem_toArray, List.getElem_cons_zero, List.getElem_cons_succ, List.setIfInBounds_toArray, List.set_cons_zero, List.set_cons_succ]
    refine wpAnyH_take (i := 3) (v := ?_) rfl (by kernel_rfl) (by kernel_rfl) (by kernel_rfl) (fun _ _ _ h => h) (Or.inl ⟨by rfl, ?_⟩) hH ?_
    rotate_left 1
    · (intro w hSw; have q := hSw.cell (by simp) U0.out; clear hSw; go_simp <;> with_reducible rfl)
    simp only [Act.put, List.getElem_toArray, List.getElem_cons_zero, List.getElem_cons_succ, List.setIfInBounds_toArray, List.set_cons_zero, List.set_cons_succ]
    refine wpAnyH_take (i := 4) (v := ?_) rfl (by kernel_rfl) (by kernel_rfl) (by kernel_rfl) (fun _ _ _ h => h) (Or.inl ⟨by rfl, ?_⟩) hH ?_
    rotate_left 1
    · (intro w hSw; obtain ⟨z0, z1, z2, z3, z4, z5, z6⟩ := V0.out.all; have q0 := hSw.cell (by simp) z0; have q1 := hSw.cell (by simp) z1; have q2 := hSw.cell (by simp) z2; have q3 := hSw.cell (by simp) z3; have q4 := hSw.cell (by simp) z4; have q5 := hSw.cell (by simp) z5; have q6 := hSw.cell (by simp) z6; clear hSw; go_simp <;> with_reducible rfl)
    simp only [Act.put, List.getElem_toArray, List.getElem_cons_zero, List.getElem_cons_succ, List.setIfInBounds_toArray, List.set_cons_zero, List.set_cons_succ]
    refine wpAnyH_ready (rs := [5, 6]) (by kernel_rfl) (by decide) ?_
    refine AllReadyH.cons rfl (fun K1 hK1 => ?_) (AllReadyH.cons rfl (fun K1 hK1 => ?_) AllReadyH.nil)
    · have hH0 : w.heap.size < Y0.heap.size := by have h1 := hH.1; have h2 := hH.2.1 w.heap.size (by simp); omega
      go_simp
      refine (SH.out Y0 HU.out.st H7.out).mono ?_
      rintro e Y1 ⟨rfl, Fs', st, ch⟩
      have hU := HU.out.state st ch SM.out
      refine hK1.out _ _ (hH.ch ch (fun k hk => by
        simp only [List.mem_cons, List.mem_nil_iff, or_false] at hk
        rcases hk with rfl | rfl
        · exact fun e => HU.out.so _ e HU.out.fg
        · exact fun e => NF.out e)) (fun hH => ?_)
      clear hK1 K1
      have HQ := hide (And.intro hU ((Ch.of_bel B0.out).trans (ch.wide (G := G) (G' := fun k => Fs' k ∨ Fo k ∨ R k) (fun k hk => (HG.out k).2 (.inl hk)) (fun k hk => by
        rcases hk with h1 | h1 | h1
        · rcases ch.grow k h1 with h2 | h2
          · exact .inl ((HG.out k).2 (.inl h2))
          · exact .inr h2
        · exact .inl ((HG.out k).2 (.inr (.inl h1)))
        · exact .inl ((HG.out k).2 (.inr (.inr h1))))))) 
      have GL : Hid (¬ Fs' w.heap.size) := hide (fun hF => by
        rcases ch.grow _ hF with h2 | h2
        · exact NF.out h2
        · have h1 := hH.1
          have h3 := hH.2.1 w.heap.size (by simp)
          have h4 := hH0
          omega)
      clear st ch hU HU B0 H7 hH0
      refine wpAnyH_ready (rs := [6]) (by kernel_rfl) (by decide) ?_
      refine AllReadyH.cons rfl (fun K1 hK1 => ?_) AllReadyH.nil
      have A2 := bel_new Y1 (.cells #[.int .i64 0, .int .i64 0, .int .u64 0] 41)
      have N2 := Val.new Y1 0 0 0
      have L0 : w.heap.size < Y1.heap.size := by have h1 := hH.1; have h2 := hH.2.1 w.heap.size (by simp); omega
      go_simp
      refine hK1.out _ _ (hH.al A2) (fun hH => ?_)
      clear hK1 K1
      obtain ⟨bl, hbl⟩ : ∃ bl, Y1.heap.size = bl := ⟨_, rfl⟩
      rw [hbl] at N2 L0 ⊢
      have LB := hide L0
      have ZB := hide N2
      have GB : Hid (¬ (Fs' bl ∨ Fo bl ∨ R bl)) := hide (fun hF => absurd (HQ.out.1.lt hF) (by omega))
      have HQ' := hide (And.intro (HQ.out.1.bel A2) (HQ.out.2.trans (Ch.of_bel A2)))
      clear HQ
      have HQ := HQ'
      clear HQ'
      clear A2 N2 L0 hbl
      generalize Y1.alloc (.cells #[.int .i64 0, .int .i64 0, .int .u64 0] 41) = Y2 at *
      refine wpAnyH_ready (rs := [7]) (by kernel_rfl) (by decide) ?_
      refine AllReadyH.cons rfl (fun K1 hK1 => ?_) AllReadyH.nil
      obtain ⟨⟨f0, f1, f2⟩, e0, e1, e2⟩ := ZB.out.all
      have BB : Below w.heap.size Y2 (((Y2.setCell ⟨bl, 0, none⟩ (.int .i64 sh.2.1)).setCell ⟨bl, 1, none⟩ (.int .i64 sh.2.2.1)).setCell ⟨bl, 2, none⟩ (.int .u64 sh.2.2.2)) := bel_set (Below.refl _ _) (Nat.le_of_lt LB.out) _ _ _
      have OO_ : ∀ k, k ≠ bl → (((Y2.setCell ⟨bl, 0, none⟩ (.int .i64 sh.2.1)).setCell ⟨bl, 1, none⟩ (.int .i64 sh.2.2.1)).setCell ⟨bl, 2, none⟩ (.int .u64 sh.2.2.2)).heap[k]? = Y2.heap[k]? := fun k hk => ne3 hk
      have SS : Y2.heap.size = (((Y2.setCell ⟨bl, 0, none⟩ (.int .i64 sh.2.1)).setCell ⟨bl, 1, none⟩ (.int .i64 sh.2.2.1)).setCell ⟨bl, 2, none⟩ (.int .u64 sh.2.2.2)).heap.size := by simp only [size_setCell]
      have EE : Val (((Y2.setCell ⟨bl, 0, none⟩ (.int .i64 sh.2.1)).setCell ⟨bl, 1, none⟩ (.int .i64 sh.2.2.1)).setCell ⟨bl, 2, none⟩ (.int .u64 sh.2.2.2)) bl sh.2.1 sh.2.2.1 sh.2.2.2 := ZB.out.set _ _ _
      go_simp
      refine hK1.out _ _ (hH.turn (t := bl) (Nat.le_of_eq SS) (fun k _ hk => OO_ k hk) (fun hm => by have := LB.out; have := KG.out; simp at hm; omega)) (fun hH => ?_)
      clear hK1 K1 f0 f1 f2 e0 e1 e2
      have RN9 := hide (And.intro (HQ.out.1.rn.keep (w' := (((Y2.setCell ⟨bl, 0, none⟩ (.int .i64 sh.2.1)).setCell ⟨bl, 1, none⟩ (.int .i64 sh.2.2.1)).setCell ⟨bl, 2, none⟩ (.int .u64 sh.2.2.2))) (fun k hk => OO_ k (fun e => GB.out (e ▸ hk))) (Nat.le_of_eq SS)) (HQ.out.2.below BB))
      have ZV := hide EE
      have WV := hide (show Wv (((Y2.setCell ⟨bl, 0, none⟩ (.int .i64 sh.2.1)).setCell ⟨bl, 1, none⟩ (.int .i64 sh.2.2.1)).setCell ⟨bl, 2, none⟩ (.int .u64 sh.2.2.2)) w.heap.size 5 (ci : Nat) a (v0, v1, v2) (.slice aa na ca) from (hH.2.2 w.heap.size (by simp)).trans V0.out)
      have NL : Hid (¬ (Fs' w.heap.size ∨ Fo w.heap.size ∨ R w.heap.size)) := hide (fun hF => by
        rcases hF with h1 | h1
        · exact GL.out h1
        · exact NG.out ((HG.out _).2 (.inr h1)))
      clear BB OO_ SS EE hH
      generalize (((Y2.setCell ⟨bl, 0, none⟩ (.int .i64 sh.2.1)).setCell ⟨bl, 1, none⟩ (.int .i64 sh.2.2.1)).setCell ⟨bl, 2, none⟩ (.int .u64 sh.2.2.2)) = Y3 at *
      refine wpAnyH_done (by kernel_rfl) ?_ _
      go_wp2_with fail
      go_meet
      case rel => exact ⟨bl, _, rfl, hide ⟨RN9.out, ZV.out, WV.out, NL.out, GB.out⟩⟩
    · have A1 := bel_new Y0 (.cells #[.int .i64 0, .int .i64 0, .int .u64 0] 41)
      have N1 := Val.new Y0 0 0 0
      have L0 : w.heap.size < Y0.heap.size := by have h1 := hH.1; have h2 := hH.2.1 w.heap.size (by simp); omega
      go_simp
      refine hK1.out _ _ (hH.al A1) (fun hH => ?_)
      clear hK1 K1
      obtain ⟨bl, hbl⟩ : ∃ bl, Y0.heap.size = bl := ⟨_, rfl⟩
      rw [hbl] at N1 L0 ⊢
      have LB := hide L0
      have ZB := hide N1
      have GB0 : Hid (¬ (Fs bl ∨ Fo bl ∨ R bl)) := hide (fun hF => absurd (HU.out.lt hF) (by omega))
      have HU' := hide (HU.out.bel A1)
      have B0' := hide (bel_trans B0.out A1)
      have H7' := hide (H7.out.below (Nat.le_refl _) A1)
      clear HU B0 H7
      have HU := HU'
      have B0 := B0'
      have H7 := H7'
      clear HU' B0' H7'
      clear A1 N1 L0 hbl
      generalize Y0.alloc (.cells #[.int .i64 0, .int .i64 0, .int .u64 0] 41) = Y1 at *
      refine wpAnyH_ready (rs := [5]) (by kernel_rfl) (by decide) ?_
      refine AllReadyH.cons rfl (fun K1 hK1 => ?_) AllReadyH.nil
      have hH0 : w.heap.size < Y1.heap.size := by have h1 := hH.1; have h2 := hH.2.1 w.heap.size (by simp); omega
      go_simp
      refine (SH.out Y1 HU.out.st H7.out).mono ?_
      rintro e Y2 ⟨rfl, Fs', st, ch⟩
      have hU := HU.out.state st ch SM.out
      refine hK1.out _ _ (hH.ch ch (fun k hk => by
        simp only [List.mem_cons, List.mem_nil_iff, or_false] at hk
        rcases hk with rfl | rfl
        · exact fun e => HU.out.so _ e HU.out.fg
        · exact fun e => NF.out e)) (fun hH => ?_)
      clear hK1 K1
      have HQ := hide (And.intro hU ((Ch.of_bel B0.out).trans (ch.wide (G := G) (G' := fun k => Fs' k ∨ Fo k ∨ R k) (fun k hk => (HG.out k).2 (.inl hk)) (fun k hk => by
        rcases hk with h1 | h1 | h1
        · rcases ch.grow k h1 with h2 | h2
          · exact .inl ((HG.out k).2 (.inl h2))
          · exact .inr h2
        · exact .inl ((HG.out k).2 (.inr (.inl h1)))
        · exact .inl ((HG.out k).2 (.inr (.inr h1))))))) 
      have GL : Hid (¬ Fs' w.heap.size) := hide (fun hF => by
        rcases ch.grow _ hF with h2 | h2
        · exact NF.out h2
        · have h1 := hH.1
          have h3 := hH.2.1 w.heap.size (by simp)
          have h4 := hH0
          omega)
      have GB : Hid (¬ (Fs' bl ∨ Fo bl ∨ R bl)) := hide (fun hF => by
        rcases hF with h1 | h1
        · rcases ch.grow _ h1 with h2 | h2
          · exact GB0.out (.inl h2)
          · exact absurd ZB.out.lt (by omega)
        · exact GB0.out (.inr h1))
      have ZB' : Hid (Val Y2 bl 0 0 0) := hide ((ch.blk bl ZB.out.lt (fun e => GB0.out (.inl e))).trans ZB.out)
      clear ZB
      have ZB := ZB'
      clear ZB'
      clear st ch hU HU B0 H7 hH0
      refine wpAnyH_ready (rs := [7]) (by kernel_rfl) (by decide) ?_
      refine AllReadyH.cons rfl (fun K1 hK1 => ?_) AllReadyH.nil
      obtain ⟨⟨f0, f1, f2⟩, e0, e1, e2⟩ := ZB.out.all
      have BB : Below w.heap.size Y2 (((Y2.setCell ⟨bl, 0, none⟩ (.int .i64 sh.2.1)).setCell ⟨bl, 1, none⟩ (.int .i64 sh.2.2.1)).setCell ⟨bl, 2, none⟩ (.int .u64 sh.2.2.2)) := bel_set (Below.refl _ _) (Nat.le_of_lt LB.out) _ _ _
      have OO_ : ∀ k, k ≠ bl → (((Y2.setCell ⟨bl, 0, none⟩ (.int .i64 sh.2.1)).setCell ⟨bl, 1, none⟩ (.int .i64 sh.2.2.1)).setCell ⟨bl, 2, none⟩ (.int .u64 sh.2.2.2)).heap[k]? = Y2.heap[k]? := fun k hk => ne3 hk
      have SS : Y2.heap.size = (((Y2.setCell ⟨bl, 0, none⟩ (.int .i64 sh.2.1)).setCell ⟨bl, 1, none⟩ (.int .i64 sh.2.2.1)).setCell ⟨bl, 2, none⟩ (.int .u64 sh.2.2.2)).heap.size := by simp only [size_setCell]
      have EE : Val (((Y2.setCell ⟨bl, 0, none⟩ (.int .i64 sh.2.1)).setCell ⟨bl, 1, none⟩ (.int .i64 sh.2.2.1)).setCell ⟨bl, 2, none⟩ (.int .u64 sh.2.2.2)) bl sh.2.1 sh.2.2.1 sh.2.2.2 := ZB.out.set _ _ _
      go_simp
      refine hK1.out _ _ (hH.turn (t := bl) (Nat.le_of_eq SS) (fun k _ hk => OO_ k hk) (fun hm => by have := LB.out; have := KG.out; simp at hm; omega)) (fun hH => ?_)
      clear hK1 K1 f0 f1 f2 e0 e1 e2
      have RN9 := hide (And.intro (HQ.out.1.rn.keep (w' := (((Y2.setCell ⟨bl, 0, none⟩ (.int .i64 sh.2.1)).setCell ⟨bl, 1, none⟩ (.int .i64 sh.2.2.1)).setCell ⟨bl, 2, none⟩ (.int .u64 sh.2.2.2))) (fun k hk => OO_ k (fun e => GB.out (e ▸ hk))) (Nat.le_of_eq SS)) (HQ.out.2.below BB))
      have ZV := hide EE
      have WV := hide (show Wv (((Y2.setCell ⟨bl, 0, none⟩ (.int .i64 sh.2.1)).setCell ⟨bl, 1, none⟩ (.int .i64 sh.2.2.1)).setCell ⟨bl, 2, none⟩ (.int .u64 sh.2.2.2)) w.heap.size 5 (ci : Nat) a (v0, v1, v2) (.slice aa na ca) from (hH.2.2 w.heap.size (by simp)).trans V0.out)
      have NL : Hid (¬ (Fs' w.heap.size ∨ Fo w.heap.size ∨ R w.heap.size)) := hide (fun hF => by
        rcases hF with h1 | h1
        · exact GL.out h1
        · exact NG.out ((HG.out _).2 (.inr h1)))
      clear BB OO_ SS EE hH
      generalize (((Y2.setCell ⟨bl, 0, none⟩ (.int .i64 sh.2.1)).setCell ⟨bl, 1, none⟩ (.int .i64 sh.2.2.1)).setCell ⟨bl, 2, none⟩ (.int .u64 sh.2.2.2)) = Y3 at *
      refine wpAnyH_done (by kernel_rfl) ?_ _
      go_wp2_with fail
      go_meet
      case rel => exact ⟨bl, _, rfl, hide ⟨RN9.out, ZV.out, WV.out, NL.out, GB.out⟩⟩
  case rest =>
    clear HU B0 H7 V0 U0 q0 q1 q2 q3 q4 q5 q6 u0 AR KL0 SH SM NF
    obtain ⟨bl, G', rfl, CU⟩ := hcut
    obtain ⟨q0, q1, q2, q3, q4, q5, q6⟩ := CU.out.2.2.1.all
    have NO := hide (note_any CU.out.1.1 i _ HX.out (ci : Nat) (by have := HL.out; show r.ev.length ≤ 100000; omega))
    have hlb := CU.out.2.1.lt
    have NBL := hide CU.out.2.2.2.2
    go_wp2_with fail
    refine NO.out.mono ?_
    rintro e w8 ⟨rfl, G8, rn8, c8⟩
    have HX8 := hide (show (noteR { r with s := sh.1 } i (ci : Nat)).gs[i]? = _ from (congrArg (fun l => l[i]?) (note_gs _ i (ci : Nat))).trans HX.out)
    have AK := hide (ask_any rn8 i _ HX8.out sh.2.1 sh.2.2.1 sh.2.2.2)
    have C8 := hide (CU.out.1.2.trans c8)
    have V8 : Hid (Val w8 bl sh.2.1 sh.2.2.1 sh.2.2.2) := hide ((c8.blk bl CU.out.2.1.lt NBL.out).trans CU.out.2.1)
    clear rn8 c8 NO q0 q1 q2 q3 q4 q5 q6 CU
    obtain ⟨_, e0, e1, e2⟩ := V8.out.all
    go_wp2_with fail
    refine AK.out.mono ?_
    rintro e w9 ⟨rfl, G9, rn9, c9⟩
    have Z := hide (And.intro rn9 (C8.out.trans c9))
    clear rn9 c9 AK
    go_wp2_with fail
    go_end0
    exact RnP.mk rfl Z.out.1 Z.out.2
end Go.Proofs.YtbiilnpblnjliaaDoor.Ck

/- Package act: Do. (Written by mk_a.py.) -/
namespace Go.Proofs.YtbiilnpblnjliaaDoor.Ck
open Go.RowKit

theorem step_any {w : World} {G : Nat → Prop} {g : Nat} {S : List (List Wt)} {r : Rm} {p : List Addr} (h : Rn w G g S r) (h17 : E2 w p) (i : Nat) (x : Gr) (hx : r.gs[i]? = some x) (hl : r.ev.length ≤ 90000) (hc : can r (i : Int) = true) : Calls Tryd.prog 95 #[.pointer (some ⟨g, 0, none⟩), .int .i64 (i : Nat)] w (RnP w G g S (stepR S r i) (.tuple #[])) := by
  rw [can_at hx] at hc
  by_cases h4 : x.w.k = 4
  · by_cases hm : lk r.s.M x.w.o = some true
    · exact step_4 h h17 i x hx hl h4 hc hm
    · exact step_4f h h17 i x hx hl h4 hm
  by_cases h10 : x.w.k = 10
  · exact step_10 h h17 i x hx hl h10
  by_cases h5 : x.w.k = 5
  · cases hz : roomZ r.s x.w.o with
    | true => exact step_5m h h17 i x hx hl h5 hc hz
    | false => exact step_5 h h17 i x hx hl h5 hc hz
  by_cases h12 : x.w.k = 12
  · have e : stepR S r i = { noteR r i x.w.o with gs := (noteR r i x.w.o).gs.set i ⟨x.rest, zW⟩ } := by
      unfold stepR
      rw [hx]
      simp only
      rw [if_neg (by omega), if_neg (by omega), if_neg (by omega), if_pos h12, note_gs]
    exact step_12 h h17 i x hx hl h12
  · exact step_d h h17 i x hx hl hc h4 h5 h10 h12
/-- the errors that a run's calls answer -/
structure E3 (w : World) (p : List Addr) : Prop where
  e2 : E2 w p
  l9 : 9 < w.heap.size
  c9 : w.cell? ⟨9, 0, none⟩ = some (errV p 9)
theorem E3.below {w w' : World} {p : List Addr} (h : E3 w p) {B : Nat} (hB : w.heap.size ≤ B) (hb : Below B w w') : E3 w' p :=
  ⟨h.e2.below hB hb, Nat.lt_of_lt_of_le h.l9 hb.size, (hb.cell (p := ⟨9, 0, none⟩) (Nat.lt_of_lt_of_le h.l9 hB)).trans h.c9⟩
/-- they lie elsewhere -/
def Off (G : Nat → Prop) : Prop := ¬ G 0 ∧ ¬ G 4 ∧ ¬ G 9
theorem E3.ch {w w' : World} {p : List Addr} {G G' : Nat → Prop} (h : E3 w p) (hG : Off G) (c : Ch G G' w w') : E3 w' p ∧ Off G' := by
  obtain ⟨h1, h2, h3⟩ := hG
  obtain ⟨a1, b1, c1⟩ := c.keepB h1 h.e2.l0
  obtain ⟨a2, b2, c2⟩ := c.keepB h2 h.e2.l4
  obtain ⟨a3, b3, c3⟩ := c.keepB h3 h.l9
  exact ⟨⟨⟨c1, c2, cell_keep a1 h.e2.c0, cell_keep a2 h.e2.c4⟩, c3, cell_keep a3 h.c9⟩, b1, b2, b3⟩
set_option maxRecDepth 20000 in
set_option maxHeartbeats 1000000 in
theorem Do_ended {w : World} {G : Nat → Prop} {g : Nat} {S : List (List Wt)} {r : Rm} {p : List Addr} (h : Rn w G g S r) (h17 : E3 w p) (i : Int) (hr : runs r = false) : Calls Tryd.prog 67 #[.pointer (some ⟨g, 0, none⟩), .int .i64 i] w (Vb w (errV p 9)) := by
  have E := hide (ended_any h h17.e2)
  rw [hr] at E
  have H7 := hide h17
  clear h h17 hr
  go_enter Tryd.func67, Tryd.ntmps67
  go_wp2_with fail
  refine E.out.mono ?_
  rintro e w1 ⟨rfl, hb⟩
  have x9 := (H7.out.below (Nat.le_refl _) hb).c9
  generalize errV p 9 = ev at *
  go_wp2_with fail
  go_ret
  exact Vb.mk rfl hb
set_option maxRecDepth 20000 in
set_option maxHeartbeats 1000000 in
theorem Do_cant {w : World} {G : Nat → Prop} {g : Nat} {S : List (List Wt)} {r : Rm} {p : List Addr} (h : Rn w G g S r) (h17 : E3 w p) (i : Int) (hr : runs r = true) (hc : can r i = false) : Calls Tryd.prog 67 #[.pointer (some ⟨g, 0, none⟩), .int .i64 i] w (Vb w (errV p 0)) := by
  have E := hide (ended_any h h17.e2)
  rw [hr] at E
  have H7 := hide h17
  have CR := hide (fun (w1 : World) (hb : Below w.heap.size w w1) => canRun_any (h.bel hb) (h17.below (Nat.le_refl _) hb).e2 i)
  rw [hc] at CR
  clear h h17 hr hc
  go_enter Tryd.func67, Tryd.ntmps67
  go_wp2_with fail
  refine E.out.mono ?_
  rintro e w1 ⟨rfl, hb⟩
  have HB := hide hb
  clear hb
  go_wp2_with fail
  refine (CR.out w1 HB.out).mono ?_
  rintro e w2 ⟨rfl, hb⟩
  have HB2 := hide (bel_trans HB.out hb)
  have x0 := (H7.out.below (Nat.le_refl _) HB2.out).e2.c0
  clear hb
  generalize errV p 0 = ev at *
  go_wp2_with fail
  go_ret
  exact Vb.mk rfl HB2.out
set_option maxRecDepth 20000 in
set_option maxHeartbeats 1000000 in
theorem Do_ok {w : World} {G : Nat → Prop} {g : Nat} {S : List (List Wt)} {r : Rm} {p : List Addr} (h : Rn w G g S r) (h17 : E3 w p) (hO : Off G) (i : Nat) (hr : runs r = true) (hc : can r (i : Int) = true) (hl : r.ev.length ≤ 90000) : Calls Tryd.prog 67 #[.pointer (some ⟨g, 0, none⟩), .int .i64 (i : Nat)] w (RnP w G g S (doR S r i) .nilIface) := by
  have E := hide (ended_any h h17.e2)
  rw [hr] at E
  have CR := hide (fun (w1 : World) (hb : Below w.heap.size w w1) => canRun_any (h.bel hb) (h17.below (Nat.le_refl _) hb).e2 (i : Int))
  rw [hc] at CR
  obtain ⟨x, hx⟩ : ∃ x, r.gs[i]? = some x := by
    unfold can at hc
    rw [lk_nat] at hc
    cases hx : r.gs[i]? with
    | none => rw [hx] at hc; cases hc
    | some x => exact ⟨x, rfl⟩
  have SA := hide (fun (w1 : World) (hb : Below w.heap.size w w1) => step_any (h.bel hb) (h17.below (Nat.le_refl _) hb).e2 i x hx hl hc)
  have H7 := hide (And.intro h17 hO)
  clear h h17 hO hr hc hl hx
  go_enter Tryd.func67, Tryd.ntmps67
  go_wp2_with fail
  refine E.out.mono ?_
  rintro e w1 ⟨rfl, hb⟩
  have HB := hide hb
  clear hb
  go_wp2_with fail
  refine (CR.out w1 HB.out).mono ?_
  rintro e w2 ⟨rfl, hb⟩
  have HB2 := hide (bel_trans HB.out hb)
  clear hb
  go_wp2_with fail
  refine (SA.out w2 HB2.out).mono ?_
  rintro e w3 ⟨rfl, G3, rn3, c3⟩
  have C3 := hide ((Ch.of_bel HB2.out).trans c3)
  have SE := hide (settle_any rn3 (H7.out.1.ch H7.out.2 C3.out).1.e2)
  clear rn3 c3
  go_wp2_with fail
  refine SE.out.mono ?_
  rintro e w4 ⟨rfl, G4, rn4, c4⟩
  have Z := hide (And.intro rn4 (C3.out.trans c4))
  clear rn4 c4
  go_wp2_with fail
  go_ret
  exact RnP.mk rfl Z.out.1 Z.out.2
end Go.Proofs.YtbiilnpblnjliaaDoor.Ck

/- Package act: Start. (Written by mk_a.py.) -/
namespace Go.Proofs.YtbiilnpblnjliaaDoor.Ck
open Go.RowKit

/-- a state and scripts, of which a run can be made -/
structure Pre (w : World) (Fs R : Nat → Prop) (gs : Nat) (s : St) (vB : Value) (S : List (List Wt)) : Prop where
  st : Stt w Fs gs s
  ty : ∀ q ∈ s.C, 1 ≤ q.t ∧ q.t ≤ 3
  bg : Beg w R vB S
  rs : ∀ k, R k → ¬ Fs k
  rb : ∀ k, R k → k < w.heap.size
theorem Pre.bel {w w' : World} {Fs R : Nat → Prop} {gs : Nat} {s : St} {vB : Value} {S : List (List Wt)} (h : Pre w Fs R gs s vB S) (hb : Below w.heap.size w w') : Pre w' Fs R gs s vB S :=
  ⟨h.st.bel hb, h.ty, h.bg.keep (fun k hk => hb.block k (h.rb k hk)) (fun _ h => h), h.rs, fun k hk => Nat.lt_of_lt_of_le (h.rb k hk) hb.size⟩
theorem ru_new {w : World} {Fs R : Nat → Prop} {gs : Nat} {s : St} {vB vC : Value} {S : List (List Wt)} (h : Pre w Fs R gs s vB S) (g : Nat) {w' : World} (hb : Below w.heap.size w w') (hg : w'.heap[g]? = some (.cells #[.pointer (some ⟨gs, 0, none⟩), vC, vB, .slice none 0 0, .slice none 0 0, .int .i64 0, .int .i64 0, .int .i64 0, .int .i64 0, .int .i64 0] 150 (0, 0))) (hgn : w.heap.size ≤ g)
    (hC : w'.ownsRow w.heap.size 3 1 vC s.C.length (nts (s.C.map Qu.t))) : Ru w' Fs (fun k => k = g ∨ vC.ownBlock = some k) R g gs S ⟨s, [], [], zE⟩ vC vB (.slice none 0 0) (.slice none 0 0) [] [] := by
  have h' := h.bel hb
  exact { at_ := hg, st := h'.st, ch := own_zero hC, bg := h'.bg, go := own_nil _ _ _, ev := own_nil _ _ _, tl := rfl, gr := fun i x b t hx => (by simp at hx), np := List.nodup_nil, nt := List.nodup_nil, fg := .inl rfl, fC := fun k hk => .inr hk, fG := fun k hk => (by cases hk), fE := fun k hk => (by cases hk)
          so := fun k hk hF => (by
            have h1 := h.st.fb k hk
            rcases hF with rfl | hF
            · omega
            · have := (own_type hC hF).1
              omega)
          rs := h.rs
          ro := fun k hk hF => (by
            have h1 := h.rb k hk
            rcases hF with rfl | hF
            · omega
            · have := (own_type hC hF).1
              omega)
          fb := fun k hk => (by
            rcases hk with rfl | hk
            · exact lt_of_blk hg
            · exact (own_type hC hk).2.1)
          rb := h'.rb, n8 := (by simp) }
theorem start_ch {w w1 w2 : World} {Fs Fo R G : Nat → Prop} {g gs : Nat} {S : List (List Wt)} {r : Rm} {vC vB vG vE : Value} {ps ts : List Nat} (_h : Ru w1 Fs Fo R g gs S r vC vB vG vE ps ts) (hb : Below w.heap.size w w1) (c : Ch (fun k => Fs k ∨ Fo k ∨ R k) G w1 w2) (hF : ∀ k, Fo k → w.heap.size ≤ k) : Ch (fun k => Fs k ∨ R k) G w w2 :=
  ⟨c.os.trans hb.os, c.tape.trans hb.tape, c.output.trans hb.output, Nat.le_trans hb.size c.size, fun k hk hn => (c.blk k (Nat.lt_of_lt_of_le hk hb.size) (fun hG => by
    rcases hG with h1 | h1 | h1
    · exact hn (.inl h1)
    · have := hF k h1
      omega
    · exact hn (.inr h1))).trans (hb.block k hk), fun k hk => by
    rcases c.grow k hk with h1 | h1
    · rcases h1 with h1 | h1 | h1
      · exact .inl (.inl h1)
      · exact .inr (hF k h1)
      · exact .inl (.inr h1)
    · exact .inr (Nat.le_trans hb.size h1)⟩
def StartP (w : World) (G : Nat → Prop) (S : List (List Wt)) (r : Rm) (e : Ending) (w' : World) : Prop := ∃ g G', e = .returned (.pointer (some ⟨g, 0, none⟩)) ∧ Rn w' G' g S r ∧ Ch G G' w w'
set_option maxRecDepth 20000 in
set_option maxHeartbeats 1000000 in
theorem start_any {w : World} {Fs R : Nat → Prop} {gs : Nat} {s : St} {vB : Value} {S : List (List Wt)} {p : List Addr} (h : Pre w Fs R gs s vB S) (h17 : E3 w p) (hO : Off (fun k => Fs k ∨ R k)) (fn : Int) :
    Calls Tryd.prog 65 #[.pointer (some ⟨gs, 0, none⟩), vB, .int .i64 fn] w (StartP w (fun k => Fs k ∨ R k) S (startR S s fn)) := by
  have CT := hide (chanTypes_any h.st h17.e2 h.ty)
  obtain ⟨cB, vS, vs, eB, _⟩ := id h.bg
  subst eB
  have HP := hide h
  have H7 := hide (And.intro h17 hO)
  obtain ⟨nC, hnC⟩ : ∃ nC, nC = s.C.length := ⟨_, rfl⟩
  rw [← hnC] at CT
  have HN := hide hnC
  unfold startR enterR
  clear h h17 hO hnC
  cases hl : lk S fn with
  | none =>
    simp only
    have HL := hide hl
    clear hl
    go_enter Tryd.func65, Tryd.ntmps65
    go_wp2_with fail
    refine CT.out.mono ?_
    rintro e w1 ⟨aC, cC, rfl, oC, hb⟩
    have U1 := hide (ru_new HP.out w1.heap.size (bel_al hb (.cells #[.pointer (some ⟨gs, 0, none⟩), .slice aC nC cC, .func (.func 93) #[] #[.pointer (some ⟨cB, 0, none⟩)], .slice none 0 0, .slice none 0 0, .int .i64 0, .int .i64 0, .int .i64 0, .int .i64 0, .int .i64 0] 150)) (Go.Deep.blk_alloc_new w1 _) hb.size (by rw [← HN.out]; exact own_keep oC (fun k hk => (bel_new w1 _).block k (own_type oC hk).2.1)))
    have B1 := hide (bel_al hb (.cells #[.pointer (some ⟨gs, 0, none⟩), .slice aC nC cC, .func (.func 93) #[] #[.pointer (some ⟨cB, 0, none⟩)], .slice none 0 0, .slice none 0 0, .int .i64 0, .int .i64 0, .int .i64 0, .int .i64 0, .int .i64 0] 150))
    have NB : Hid (∀ k, (k = w1.heap.size ∨ (Value.slice aC nC cC).ownBlock = some k) → w.heap.size ≤ k) := hide (fun k hk => by
      rcases hk with rfl | hk
      · exact hb.size
      · exact (own_type oC hk).1)
    clear oC hb CT
    have EN := hide (enter_none U1.out.rn fn (R0 := fun _ => True) Args.nilS HL.out)
    go_wp2_with fail
    refine EN.out.mono ?_
    rintro e w2 ⟨rfl, G2, rn2, c2⟩
    have FA := hide (fault_any rn2 0 5 0 0)
    have C2 := hide c2
    clear rn2 c2 EN
    go_wp2_with fail
    refine FA.out.mono ?_
    rintro e w3 ⟨rfl, G3, rn3, c3⟩
    have C3 := hide (start_ch U1.out B1.out (C2.out.trans c3) NB.out)
    have SE := hide (settle_any rn3 (H7.out.1.ch H7.out.2 C3.out).1.e2)
    clear rn3 c3 FA
    go_wp2_with fail
    refine SE.out.mono ?_
    rintro e w4 ⟨rfl, G4, rn4, c4⟩
    have Z := hide (And.intro rn4 (C3.out.trans c4))
    clear rn4 c4 SE
    go_wp2_with fail
    go_ret
    exact ⟨_, _, rfl, Z.out.1, Z.out.2⟩
  | some l =>
    simp only [List.nil_append]
    have HL := hide hl
    clear hl
    go_enter Tryd.func65, Tryd.ntmps65
    go_wp2_with fail
    refine CT.out.mono ?_
    rintro e w1 ⟨aC, cC, rfl, oC, hb⟩
    have U1 := hide (ru_new HP.out w1.heap.size (bel_al hb (.cells #[.pointer (some ⟨gs, 0, none⟩), .slice aC nC cC, .func (.func 93) #[] #[.pointer (some ⟨cB, 0, none⟩)], .slice none 0 0, .slice none 0 0, .int .i64 0, .int .i64 0, .int .i64 0, .int .i64 0, .int .i64 0] 150)) (Go.Deep.blk_alloc_new w1 _) hb.size (by rw [← HN.out]; exact own_keep oC (fun k hk => (bel_new w1 _).block k (own_type oC hk).2.1)))
    have B1 := hide (bel_al hb (.cells #[.pointer (some ⟨gs, 0, none⟩), .slice aC nC cC, .func (.func 93) #[] #[.pointer (some ⟨cB, 0, none⟩)], .slice none 0 0, .slice none 0 0, .int .i64 0, .int .i64 0, .int .i64 0, .int .i64 0, .int .i64 0] 150))
    have NB : Hid (∀ k, (k = w1.heap.size ∨ (Value.slice aC nC cC).ownBlock = some k) → w.heap.size ≤ k) := hide (fun k hk => by
      rcases hk with rfl | hk
      · exact hb.size
      · exact (own_type oC hk).1)
    clear oC hb CT
    have EN := hide (enter_some U1.out.rn fn (R0 := fun _ => True) Args.nilS l HL.out (by simp))
    simp only [List.nil_append] at EN
    go_wp2_with fail
    refine EN.out.mono ?_
    rintro e w2 ⟨rfl, G2, rn2, c2⟩
    have AK := hide (ask_any rn2 0 ⟨l, zW⟩ rfl 0 0 0)
    have C2 := hide c2
    clear rn2 c2 EN
    go_wp2_with fail
    refine AK.out.mono ?_
    rintro e w3 ⟨rfl, G3, rn3, c3⟩
    have C3 := hide (start_ch U1.out B1.out (C2.out.trans c3) NB.out)
    have SE := hide (settle_any rn3 (H7.out.1.ch H7.out.2 C3.out).1.e2)
    clear rn3 c3 AK
    go_wp2_with fail
    refine SE.out.mono ?_
    rintro e w4 ⟨rfl, G4, rn4, c4⟩
    have Z := hide (And.intro rn4 (C3.out.trans c4))
    clear rn4 c4 SE
    go_wp2_with fail
    go_ret
    exact ⟨_, _, rfl, Z.out.1, Z.out.2⟩
end Go.Proofs.YtbiilnpblnjliaaDoor.Ck
