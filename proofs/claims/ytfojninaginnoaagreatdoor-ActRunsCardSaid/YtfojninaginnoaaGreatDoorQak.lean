/- Texts of this proof, packed: contracts of the program's functions, and the plain model that they are held against. -/
import Derived.Test.YtfojninaginnoaaGreatDoorQaj
set_option maxRecDepth 20000
set_option maxHeartbeats 4000000
namespace Go.Proofs.YtfojninaginnoaaGreatDoor.Ck
open Go.RowKit
theorem step_d {w : World} {G : Nat -> Prop} {g : Nat} {S : List (List Wt)} {r : Rm} {p : List Addr} (h : Rn w G g S r) (h17 : E2 w p) (i : Nat) (x : Gr) (hx : r.gs[i]? = some x) (hl : r.ev.length <= 90000) (hc : ZY r x.w = true) (h4 : x.w.k ≠ 4) (h5 : x.w.k ≠ 5) (h10 : x.w.k ≠ 10) (h12 : x.w.k ≠ 12) : Calls Tryz.prog 31 #[P_ g, I_ (i : Nat)] w (RnP w G g S (Yd S r i) (.tuple #[])) := by
  have hst : Yd S r i = (Yg (Zz { r with s := (ZF r.s x.w).1 } i x.w.o) i).1 := by
    unfold Yd
    rw [hx]
    simp only
    rw [if_neg (fun e => h4 e.1), if_neg h10, if_neg (fun e => h5 e.1), if_neg h12]
  rw [hst]
  clear hst
  have NG : Hid (¬ G w.heap.size) := Za (fun hG => absurd (h.fb _ hG) (by omega))
  have HX := Za hx
  obtain ⟨Fs, Fo, R, gs, vC, vB, vG, vE, ps, ts, h, hG⟩ := h
  obtain ⟨bG, cG, b, t, va, eG, _, _, _, _, _, hA, ⟨s1, s2, s3⟩, s4⟩ := h.see hx
  subst eG
  obtain ⟨aa, na, ca, rfl⟩ := hA.form
  have hi : i < r.gs.length := (G_ hx)
  have hn8 := h.n8
  obtain ⟨⟨c0, c1, c2, c3, c4⟩, c5, c6, c7, c8, c9⟩ := h.cells
  have hgl := h.fb g h.fg
  obtain ⟨rest, ⟨k, o, a, v0, v1, v2⟩⟩ := x
  simp only at s4
  have b1 := Zb s4 1 _ rfl
  have b2 := Zb s4 2 _ rfl
  have b3 := Zb s4 3 _ rfl
  have b4 := Zb s4 4 _ rfl
  have b5 := Zb s4 5 _ rfl
  have b6 := Zb s4 6 _ rfl
  have b7 := Zb s4 7 _ rfl
  obtain ⟨n, hn⟩ : ∃ n, n = r.gs.length := ⟨_, rfl⟩
  rw [← hn] at hi hn8 c3
  have HN := Za hn
  have hi1 : (i : Int) < (n : Int) := by omega
  have hi0 : (0 : Int) <= (i : Int) := by omega
  have hd0 : decide ((i : Int) < 0) = false := by simp
  have hd1 : decide ((n : Int) <= (i : Int)) = false := by simp; omega
  clear hn
  have B0 := Za (Zd w (.cells #[I_ k, I_ o, I_ a, I_ v0, I_ v1, .int .u64 v2, .slice aa na ca] 67))
  have V0 := Za (Wv.new w k o a v0 v1 v2 (.slice aa na ca))
  have HU := Za (h.bel B0.out)
  have HG := Za hG
  have H7 := Za (h17.below (Nat.le_refl _) B0.out)
  have HL := Za hl
  have AR := Za (hA.keep (fun k hk => B0.out.block k (h.rb k hk)) (fun _ h => h))
  have U0 := Za ((B0.out.cell (p := ⟨g, 0, none⟩) hgl).trans c0)
  have hsl := h.st.lt
  simp only at hc h4 h5 h10 h12
  have hb4 : (k == 4) = false := by simp [h4]
  have hb5 : (k == 5) = false := by simp [h5]
  have hb10 : (k == 10) = false := by simp [h10]
  have hb12 : (k == 12) = false := by simp [h12]
  have HZ : k = 5 -> YF r.s o = false := fun e => absurd e h5
  obtain ⟨sh, hsh⟩ : ∃ sh, sh = ZF r.s ⟨k, o, a, (v0, v1, v2)⟩ := ⟨_, rfl⟩
  have SH := Za (fun (W : World) (hS : Stt W Fs gs r.s) (h7 : E2 W p) => share_any hS h7 k o a v0 v1 v2 aa na ca hc (by first | decide | exact h10) (by first | decide | exact h12) HZ)
  have SM := Za (share_t r.s ⟨k, o, a, (v0, v1, v2)⟩)
  rw [← hsh] at SH SM ⊢
  clear hsh hc
  clear h hG h17 hl hA hx c0 c1 c2 c4 c5 c6 c7 c8 c9
  go_enter Tryz.func31, Tryz.ntmps31
  go_upto_region 4 with fail
  generalize w.alloc _ = w1 at *
  clear b1 b2 b3 b4 b5 b6 b7 s1 c3
  obtain ⟨q0, q1, q2, q3, q4, q5, q6⟩ := V0.out.all
  have u0 := U0.out
  go_quiet (fail)
  have HU' := Za (HU.out.bel (w' := w1.drewN nq) (below_drewN (Below.refl _ _) nq))
  have B0' := Za (below_drewN B0.out nq)
  have V0' : Hid (Wv (w1.drewN nq) w.heap.size k o a (v0, v1, v2) (.slice aa na ca)) := V0
  have H7' : Hid (E2 (w1.drewN nq) p) := Za (H7.out.below (Nat.le_refl _) (below_drewN (Below.refl _ _) nq))
  have U0' : Hid ((w1.drewN nq).cell? ⟨g, 0, none⟩ = some (P_ gs)) := U0
  have AR' := Za (AR.out.keep (w' := w1.drewN nq) (fun _ _ => rfl) (fun _ h => h))
  clear HU B0 V0 H7 U0 AR q0 q1 q2 q3 q4 q5 q6 u0
  have HU := HU'
  have B0 := B0'
  have V0 := V0'
  have H7 := H7'
  have U0 := U0'
  have AR := AR'
  clear HU' B0' V0' H7' U0' AR'
  generalize w1.drewN nq = w2 at *
  obtain ⟨q0, q1, q2, q3, q4, q5, q6⟩ := V0.out.all
  have u0 := U0.out
  go_upto_region 8 with fail
  go_quiet (fail)
  have HU' := Za (HU.out.bel (w' := w2.drewN nq) (below_drewN (Below.refl _ _) nq))
  have B0' := Za (below_drewN B0.out nq)
  have V0' : Hid (Wv (w2.drewN nq) w.heap.size k o a (v0, v1, v2) (.slice aa na ca)) := V0
  have H7' : Hid (E2 (w2.drewN nq) p) := Za (H7.out.below (Nat.le_refl _) (below_drewN (Below.refl _ _) nq))
  have U0' : Hid ((w2.drewN nq).cell? ⟨g, 0, none⟩ = some (P_ gs)) := U0
  have AR' := Za (AR.out.keep (w' := w2.drewN nq) (fun _ _ => rfl) (fun _ h => h))
  clear HU B0 V0 H7 U0 AR q0 q1 q2 q3 q4 q5 q6 u0
  have HU := HU'
  have B0 := B0'
  have V0 := V0'
  have H7 := H7'
  have U0 := U0'
  have AR := AR'
  clear HU' B0' V0' H7' U0' AR'
  generalize w2.drewN nq = w3 at *
  obtain ⟨q0, q1, q2, q3, q4, q5, q6⟩ := V0.out.all
  have u0 := U0.out
  have KG : Hid (g < w.heap.size) := Za hgl
  have NF : Hid (¬ Fs w.heap.size) := Za (fun e => NG.out ((HG.out _).2 (.inl e)))
  have KL0 : Hid (∀ k ∈ [g, w.heap.size], k < w3.drew.heap.size) := Za (fun k hk => by
    show k < w3.heap.size
    have h1 := V0.out.lt
    simp only [List.mem_cons, List.mem_nil_iff, or_false] at hk
    have h2 := hgl
    rcases hk with rfl | rfl <;> omega)
  go_upto_region 1 with fail
  go_cut [5] from 16 to 21 (fun x5 wc => ∃ bl G', x5 = P_ bl /\ Hid ((Rn wc G' g S { r with s := sh.1 } /\ Ch G G' w wc) /\ Val wc bl sh.2.1 sh.2.2.1 sh.2.2.2 /\ (Wv wc w.heap.size k o a (v0, v1, v2) (.slice aa na ca) /\ ¬ G' w.heap.size /\ ¬ G' bl)))
  case first =>
    refine wp_region_held_drew (S := fun w' => Yr [g, w.heap.size] w3.drew w') ZK (Yr.refl KL0.out) (fun hH => ?_)
    have HU' := Za (HU.out.bel (w' := w3.drew) (below_drewN (Below.refl _ _) 1))
    have B0' := Za (Zp B0.out)
    have H7' : Hid (E2 w3.drew p) := Za (H7.out.below (Nat.le_refl _) (below_drewN (Below.refl _ _) 1))
    have V0' : Hid (Wv w3.drew w.heap.size k o a (v0, v1, v2) (.slice aa na ca)) := V0
    have U0' : Hid (w3.drew.cell? ⟨g, 0, none⟩ = some (P_ gs)) := U0
    clear HU B0 H7 V0 U0 q0 q1 q2 q3 q4 q5 q6 u0 AR
    have HU := HU'
    have B0 := B0'
    have H7 := H7'
    have V0 := V0'
    have U0 := U0'
    clear HU' B0' H7' V0' U0'
    generalize w3.drew = Y0 at *
    refine H2_ 0 hH ?_
    simp only [Act.put, S_]
    refine H2_ 1 hH ?_
    simp only [Act.put, S_]
    refine H2_ 2 hH ?_
    simp only [Act.put, S_]
    refine H_ 3 (v := ?_) ?_ hH ?_
    rotate_left 1
    · (intro w hSw; have q := hSw.cell (by simp) U0.out; clear hSw; go_simp <;> with_reducible rfl)
    simp only [Act.put, S_]
    refine H_ 4 (v := ?_) ?_ hH ?_
    rotate_left 1
    · (intro w hSw; obtain ⟨z0, z1, z2, z3, z4, z5, z6⟩ := V0.out.all; have q0 := hSw.cell (by simp) z0; have q1 := hSw.cell (by simp) z1; have q2 := hSw.cell (by simp) z2; have q3 := hSw.cell (by simp) z3; have q4 := hSw.cell (by simp) z4; have q5 := hSw.cell (by simp) z5; have q6 := hSw.cell (by simp) z6; clear hSw; go_simp <;> with_reducible rfl)
    simp only [Act.put, S_]
    refine wpAnyH_ready (rs := [5, 6]) (by kernel_rfl) (by decide) ?_
    refine AllReadyH.cons rfl (fun K1 hK1 => ?_) (AllReadyH.cons rfl (fun K1 hK1 => ?_) AllReadyH.nil)
    · have hH0 : w.heap.size < Y0.heap.size := by have h1 := hH.1; have h2 := hH.2.1 w.heap.size (by simp); omega
      go_simp
      refine (SH.out Y0 HU.out.st H7.out).mono ?_
      rintro e Y1 ⟨rfl, Fs', st, ch⟩
      have hU := HU.out.state st ch SM.out
      refine hK1.out _ _ (hH.ch ch (fun k hk => by
        simp only [List.mem_cons, List.mem_nil_iff, or_false] at hk
        rcases hk with rfl | rfl
        · exact fun e => HU.out.so _ e HU.out.fg
        · exact fun e => NF.out e)) (fun hH => ?_)
      clear hK1 K1
      have HQ := Za (And.intro hU ((Ch.of_bel B0.out).trans (ch.wide (G := G) (G' := fun k => Fs' k ∨ Fo k ∨ R k) (fun k hk => (HG.out k).2 (.inl hk)) (fun k hk => by
        rcases hk with h1 | h1 | h1
        · rcases ch.grow k h1 with h2 | h2
          · exact .inl ((HG.out k).2 (.inl h2))
          · exact .inr h2
        · exact .inl ((HG.out k).2 (.inr (.inl h1)))
        · exact .inl ((HG.out k).2 (.inr (.inr h1))))))) 
      have GL : Hid (¬ Fs' w.heap.size) := Za (fun hF => by
        rcases ch.grow _ hF with h2 | h2
        · exact NF.out h2
        · have h1 := hH.1
          have h3 := hH.2.1 w.heap.size (by simp)
          have h4 := hH0
          omega)
      clear st ch hU HU B0 H7 hH0
      refine RH_ 6 (fun K1 hK1 => ?_)
      have A2 := Zd Y1 (.cells #[I_ 0, I_ 0, .int .u64 0] 64)
      have N2 := Val.new Y1 0 0 0
      have L0 : w.heap.size < Y1.heap.size := by have h1 := hH.1; have h2 := hH.2.1 w.heap.size (by simp); omega
      go_simp
      refine hK1.out _ _ (hH.al A2) (fun hH => ?_)
      clear hK1 K1
      obtain ⟨bl, hbl⟩ : ∃ bl, Y1.heap.size = bl := ⟨_, rfl⟩
      rw [hbl] at N2 L0 ⊢
      have LB := Za L0
      have ZB := Za N2
      have GB : Hid (¬ (Fs' bl ∨ Fo bl ∨ R bl)) := Za (fun hF => absurd (HQ.out.1.lt hF) (by omega))
      have HQ' := Za (And.intro (HQ.out.1.bel A2) (HQ.out.2.trans (Ch.of_bel A2)))
      clear HQ
      have HQ := HQ'
      clear HQ'
      clear A2 N2 L0 hbl
      generalize Y1.alloc _ = Y2 at *
      refine RH_ 7 (fun K1 hK1 => ?_)
      obtain ⟨⟨f0, f1, f2⟩, e0, e1, e2⟩ := ZB.out.all
      have BB : Below w.heap.size Y2 (((Y2.setCell ⟨bl, 0, none⟩ (I_ sh.2.1)).setCell ⟨bl, 1, none⟩ (I_ sh.2.2.1)).setCell ⟨bl, 2, none⟩ (.int .u64 sh.2.2.2)) := Zt (Below.refl _ _) (Nat.le_of_lt LB.out) _ _ _
      have OO_ : ∀ k, k ≠ bl -> (((Y2.setCell ⟨bl, 0, none⟩ (I_ sh.2.1)).setCell ⟨bl, 1, none⟩ (I_ sh.2.2.1)).setCell ⟨bl, 2, none⟩ (.int .u64 sh.2.2.2)).heap[k]? = Y2.heap[k]? := fun k hk => ne3 hk
      have SS : Y2.heap.size = (((Y2.setCell ⟨bl, 0, none⟩ (I_ sh.2.1)).setCell ⟨bl, 1, none⟩ (I_ sh.2.2.1)).setCell ⟨bl, 2, none⟩ (.int .u64 sh.2.2.2)).heap.size := by simp only [Zi]
      have EE : Val (((Y2.setCell ⟨bl, 0, none⟩ (I_ sh.2.1)).setCell ⟨bl, 1, none⟩ (I_ sh.2.2.1)).setCell ⟨bl, 2, none⟩ (.int .u64 sh.2.2.2)) bl sh.2.1 sh.2.2.1 sh.2.2.2 := ZB.out.set _ _ _
      go_simp
      refine hK1.out _ _ (hH.turn (t := bl) (Nat.le_of_eq SS) (fun k _ hk => OO_ k hk) (fun hm => by have := LB.out; have := KG.out; simp at hm; omega)) (fun hH => ?_)
      clear hK1 K1 f0 f1 f2 e0 e1 e2
      have RN9 := Za (And.intro (HQ.out.1.rn.keep (w' := (((Y2.setCell ⟨bl, 0, none⟩ (I_ sh.2.1)).setCell ⟨bl, 1, none⟩ (I_ sh.2.2.1)).setCell ⟨bl, 2, none⟩ (.int .u64 sh.2.2.2))) (fun k hk => OO_ k (fun e => GB.out (e ▸ hk))) (Nat.le_of_eq SS)) (HQ.out.2.below BB))
      have ZV := Za EE
      have WV := Za (show Wv (((Y2.setCell ⟨bl, 0, none⟩ (I_ sh.2.1)).setCell ⟨bl, 1, none⟩ (I_ sh.2.2.1)).setCell ⟨bl, 2, none⟩ (.int .u64 sh.2.2.2)) w.heap.size k o a (v0, v1, v2) (.slice aa na ca) from (hH.2.2 w.heap.size (by simp)).trans V0.out)
      have NL : Hid (¬ (Fs' w.heap.size ∨ Fo w.heap.size ∨ R w.heap.size)) := Za (fun hF => by
        rcases hF with h1 | h1
        · exact GL.out h1
        · exact NG.out ((HG.out _).2 (.inr h1)))
      clear BB OO_ SS EE hH
      generalize (((Y2.setCell ⟨bl, 0, none⟩ (I_ sh.2.1)).setCell ⟨bl, 1, none⟩ (I_ sh.2.2.1)).setCell ⟨bl, 2, none⟩ (.int .u64 sh.2.2.2)) = Y3 at *
      refine wpAnyH_done (by kernel_rfl) ?_ _
      go_wp2_with fail
      go_meet
      case rel => exact ⟨bl, _, rfl, Za ⟨RN9.out, ZV.out, WV.out, NL.out, GB.out⟩⟩
    · have A1 := Zd Y0 (.cells #[I_ 0, I_ 0, .int .u64 0] 64)
      have N1 := Val.new Y0 0 0 0
      have L0 : w.heap.size < Y0.heap.size := by have h1 := hH.1; have h2 := hH.2.1 w.heap.size (by simp); omega
      go_simp
      refine hK1.out _ _ (hH.al A1) (fun hH => ?_)
      clear hK1 K1
      obtain ⟨bl, hbl⟩ : ∃ bl, Y0.heap.size = bl := ⟨_, rfl⟩
      rw [hbl] at N1 L0 ⊢
      have LB := Za L0
      have ZB := Za N1
      have GB0 : Hid (¬ (Fs bl ∨ Fo bl ∨ R bl)) := Za (fun hF => absurd (HU.out.lt hF) (by omega))
      have HU' := Za (HU.out.bel A1)
      have B0' := Za (Zg B0.out A1)
      have H7' := Za (H7.out.below (Nat.le_refl _) A1)
      clear HU B0 H7
      have HU := HU'
      have B0 := B0'
      have H7 := H7'
      clear HU' B0' H7'
      clear A1 N1 L0 hbl
      generalize Y0.alloc _ = Y1 at *
      refine RH_ 5 (fun K1 hK1 => ?_)
      have hH0 : w.heap.size < Y1.heap.size := by have h1 := hH.1; have h2 := hH.2.1 w.heap.size (by simp); omega
      go_simp
      refine (SH.out Y1 HU.out.st H7.out).mono ?_
      rintro e Y2 ⟨rfl, Fs', st, ch⟩
      have hU := HU.out.state st ch SM.out
      refine hK1.out _ _ (hH.ch ch (fun k hk => by
        simp only [List.mem_cons, List.mem_nil_iff, or_false] at hk
        rcases hk with rfl | rfl
        · exact fun e => HU.out.so _ e HU.out.fg
        · exact fun e => NF.out e)) (fun hH => ?_)
      clear hK1 K1
      have HQ := Za (And.intro hU ((Ch.of_bel B0.out).trans (ch.wide (G := G) (G' := fun k => Fs' k ∨ Fo k ∨ R k) (fun k hk => (HG.out k).2 (.inl hk)) (fun k hk => by
        rcases hk with h1 | h1 | h1
        · rcases ch.grow k h1 with h2 | h2
          · exact .inl ((HG.out k).2 (.inl h2))
          · exact .inr h2
        · exact .inl ((HG.out k).2 (.inr (.inl h1)))
        · exact .inl ((HG.out k).2 (.inr (.inr h1))))))) 
      have GL : Hid (¬ Fs' w.heap.size) := Za (fun hF => by
        rcases ch.grow _ hF with h2 | h2
        · exact NF.out h2
        · have h1 := hH.1
          have h3 := hH.2.1 w.heap.size (by simp)
          have h4 := hH0
          omega)
      have GB : Hid (¬ (Fs' bl ∨ Fo bl ∨ R bl)) := Za (fun hF => by
        rcases hF with h1 | h1
        · rcases ch.grow _ h1 with h2 | h2
          · exact GB0.out (.inl h2)
          · exact absurd ZB.out.lt (by omega)
        · exact GB0.out (.inr h1))
      have ZB' : Hid (Val Y2 bl 0 0 0) := Za ((ch.blk bl ZB.out.lt (fun e => GB0.out (.inl e))).trans ZB.out)
      clear ZB
      have ZB := ZB'
      clear ZB'
      clear st ch hU HU B0 H7 hH0
      refine RH_ 7 (fun K1 hK1 => ?_)
      obtain ⟨⟨f0, f1, f2⟩, e0, e1, e2⟩ := ZB.out.all
      have BB : Below w.heap.size Y2 (((Y2.setCell ⟨bl, 0, none⟩ (I_ sh.2.1)).setCell ⟨bl, 1, none⟩ (I_ sh.2.2.1)).setCell ⟨bl, 2, none⟩ (.int .u64 sh.2.2.2)) := Zt (Below.refl _ _) (Nat.le_of_lt LB.out) _ _ _
      have OO_ : ∀ k, k ≠ bl -> (((Y2.setCell ⟨bl, 0, none⟩ (I_ sh.2.1)).setCell ⟨bl, 1, none⟩ (I_ sh.2.2.1)).setCell ⟨bl, 2, none⟩ (.int .u64 sh.2.2.2)).heap[k]? = Y2.heap[k]? := fun k hk => ne3 hk
      have SS : Y2.heap.size = (((Y2.setCell ⟨bl, 0, none⟩ (I_ sh.2.1)).setCell ⟨bl, 1, none⟩ (I_ sh.2.2.1)).setCell ⟨bl, 2, none⟩ (.int .u64 sh.2.2.2)).heap.size := by simp only [Zi]
      have EE : Val (((Y2.setCell ⟨bl, 0, none⟩ (I_ sh.2.1)).setCell ⟨bl, 1, none⟩ (I_ sh.2.2.1)).setCell ⟨bl, 2, none⟩ (.int .u64 sh.2.2.2)) bl sh.2.1 sh.2.2.1 sh.2.2.2 := ZB.out.set _ _ _
      go_simp
      refine hK1.out _ _ (hH.turn (t := bl) (Nat.le_of_eq SS) (fun k _ hk => OO_ k hk) (fun hm => by have := LB.out; have := KG.out; simp at hm; omega)) (fun hH => ?_)
      clear hK1 K1 f0 f1 f2 e0 e1 e2
      have RN9 := Za (And.intro (HQ.out.1.rn.keep (w' := (((Y2.setCell ⟨bl, 0, none⟩ (I_ sh.2.1)).setCell ⟨bl, 1, none⟩ (I_ sh.2.2.1)).setCell ⟨bl, 2, none⟩ (.int .u64 sh.2.2.2))) (fun k hk => OO_ k (fun e => GB.out (e ▸ hk))) (Nat.le_of_eq SS)) (HQ.out.2.below BB))
      have ZV := Za EE
      have WV := Za (show Wv (((Y2.setCell ⟨bl, 0, none⟩ (I_ sh.2.1)).setCell ⟨bl, 1, none⟩ (I_ sh.2.2.1)).setCell ⟨bl, 2, none⟩ (.int .u64 sh.2.2.2)) w.heap.size k o a (v0, v1, v2) (.slice aa na ca) from (hH.2.2 w.heap.size (by simp)).trans V0.out)
      have NL : Hid (¬ (Fs' w.heap.size ∨ Fo w.heap.size ∨ R w.heap.size)) := Za (fun hF => by
        rcases hF with h1 | h1
        · exact GL.out h1
        · exact NG.out ((HG.out _).2 (.inr h1)))
      clear BB OO_ SS EE hH
      generalize (((Y2.setCell ⟨bl, 0, none⟩ (I_ sh.2.1)).setCell ⟨bl, 1, none⟩ (I_ sh.2.2.1)).setCell ⟨bl, 2, none⟩ (.int .u64 sh.2.2.2)) = Y3 at *
      refine wpAnyH_done (by kernel_rfl) ?_ _
      go_wp2_with fail
      go_meet
      case rel => exact ⟨bl, _, rfl, Za ⟨RN9.out, ZV.out, WV.out, NL.out, GB.out⟩⟩
  case rest =>
    clear HU B0 H7 V0 U0 q0 q1 q2 q3 q4 q5 q6 u0 AR KL0 SH SM NF
    obtain ⟨bl, G', rfl, CU⟩ := hcut
    obtain ⟨q0, q1, q2, q3, q4, q5, q6⟩ := CU.out.2.2.1.all
    have NO := Za (note_any CU.out.1.1 i _ HX.out o (by have := HL.out; show r.ev.length <= 100000; omega))
    have hlb := CU.out.2.1.lt
    have NBL := Za CU.out.2.2.2.2
    go_wp2_with fail
    refine NO.out.mono ?_
    rintro e w8 ⟨rfl, G8, rn8, c8⟩
    have HX8 := Za (show (Zz { r with s := sh.1 } i o).gs[i]? = _ from (congrArg (fun l => l[i]?) (note_gs _ i o)).trans HX.out)
    have AK := Za (ask_any rn8 i _ HX8.out sh.2.1 sh.2.2.1 sh.2.2.2)
    have C8 := Za (CU.out.1.2.trans c8)
    have V8 : Hid (Val w8 bl sh.2.1 sh.2.2.1 sh.2.2.2) := Za ((c8.blk bl CU.out.2.1.lt NBL.out).trans CU.out.2.1)
    clear rn8 c8 NO q0 q1 q2 q3 q4 q5 q6 CU
    obtain ⟨_, e0, e1, e2⟩ := V8.out.all
    go_wp2_with fail
    refine AK.out.mono ?_
    rintro e w9 ⟨rfl, G9, rn9, c9⟩
    have Z := Za (And.intro rn9 (C8.out.trans c9))
    clear rn9 c9 AK
    go_wp2_with fail
    go_end0
    exact RnP.mk rfl Z.out.1 Z.out.2
theorem step_4 {w : World} {G : Nat -> Prop} {g : Nat} {S : List (List Wt)} {r : Rm} {p : List Addr} (h : Rn w G g S r) (h17 : E2 w p) (i : Nat) (x : Gr) (hx : r.gs[i]? = some x) (hl : r.ev.length <= 90000) (hk : x.w.k = 4) (hc : ZY r x.w = true) (hm : lk r.s.M x.w.o = some true) : Calls Tryz.prog 31 #[P_ g, I_ (i : Nat)] w (RnP w G g S (Yd S r i) (.tuple #[])) := by
  have hst : Yd S r i = (Yg (Zz { r with s := (ZF r.s x.w).1 } i x.w.o) i).1 := by
    unfold Yd
    rw [hx]
    simp only
    rw [if_neg (fun e => e.2 hm), if_neg (by omega), if_neg (by omega), if_neg (by omega)]
  rw [hst]
  clear hst
  have NG : Hid (¬ G w.heap.size) := Za (fun hG => absurd (h.fb _ hG) (by omega))
  have HX := Za hx
  obtain ⟨Fs, Fo, R, gs, vC, vB, vG, vE, ps, ts, h, hG⟩ := h
  obtain ⟨bG, cG, b, t, va, eG, _, _, _, _, _, hA, ⟨s1, s2, s3⟩, s4⟩ := h.see hx
  subst eG
  obtain ⟨aa, na, ca, rfl⟩ := hA.form
  have hi : i < r.gs.length := (G_ hx)
  have hn8 := h.n8
  obtain ⟨⟨c0, c1, c2, c3, c4⟩, c5, c6, c7, c8, c9⟩ := h.cells
  have hgl := h.fb g h.fg
  obtain ⟨rest, ⟨k, o, a, v0, v1, v2⟩⟩ := x
  simp only at s4
  have b1 := Zb s4 1 _ rfl
  have b2 := Zb s4 2 _ rfl
  have b3 := Zb s4 3 _ rfl
  have b4 := Zb s4 4 _ rfl
  have b5 := Zb s4 5 _ rfl
  have b6 := Zb s4 6 _ rfl
  have b7 := Zb s4 7 _ rfl
  obtain ⟨n, hn⟩ : ∃ n, n = r.gs.length := ⟨_, rfl⟩
  rw [← hn] at hi hn8 c3
  have HN := Za hn
  have hi1 : (i : Int) < (n : Int) := by omega
  have hi0 : (0 : Int) <= (i : Int) := by omega
  have hd0 : decide ((i : Int) < 0) = false := by simp
  have hd1 : decide ((n : Int) <= (i : Int)) = false := by simp; omega
  clear hn
  have B0 := Za (Zd w (.cells #[I_ k, I_ o, I_ a, I_ v0, I_ v1, .int .u64 v2, .slice aa na ca] 67))
  have V0 := Za (Wv.new w k o a v0 v1 v2 (.slice aa na ca))
  have HU := Za (h.bel B0.out)
  have HG := Za hG
  have H7 := Za (h17.below (Nat.le_refl _) B0.out)
  have HL := Za hl
  have AR := Za (hA.keep (fun k hk => B0.out.block k (h.rb k hk)) (fun _ h => h))
  have U0 := Za ((B0.out.cell (p := ⟨g, 0, none⟩) hgl).trans c0)
  have hsl := h.st.lt
  simp only at hc hk hm
  subst hk
  have hlo : (lk r.s.M o).getD false = true := by rw [hm]; rfl
  have LO := Za (fun (m : Nat) => Locked_q (HU.out.st.bel (below_drewN (Below.refl _ _) m)) (H7.out.below (Nat.le_refl _) (below_drewN (Below.refl _ _) m)) o)
  rw [hlo] at LO
  have HZ : (4 : Int) = 5 -> YF r.s o = false := fun e => absurd e (by decide)
  clear hlo hm
  obtain ⟨sh, hsh⟩ : ∃ sh, sh = ZF r.s ⟨4, o, a, (v0, v1, v2)⟩ := ⟨_, rfl⟩
  have SH := Za (fun (W : World) (hS : Stt W Fs gs r.s) (h7 : E2 W p) => share_any hS h7 4 o a v0 v1 v2 aa na ca hc (by first | decide | exact h10) (by first | decide | exact h12) HZ)
  have SM := Za (share_t r.s ⟨4, o, a, (v0, v1, v2)⟩)
  rw [← hsh] at SH SM ⊢
  clear hsh hc
  clear h hG h17 hl hA hx c0 c1 c2 c4 c5 c6 c7 c8 c9
  go_enter Tryz.func31, Tryz.ntmps31
  go_upto_region 4 with fail
  generalize w.alloc _ = w1 at *
  clear b1 b2 b3 b4 b5 b6 b7 s1 c3
  obtain ⟨q0, q1, q2, q3, q4, q5, q6⟩ := V0.out.all
  have u0 := U0.out
  go_quiet (first | (go_at_call 64; exact Calls.quiet_of (LO.out _)))
  have HU' := Za (HU.out.bel (w' := w1.drewN nq) (below_drewN (Below.refl _ _) nq))
  have B0' := Za (below_drewN B0.out nq)
  have V0' : Hid (Wv (w1.drewN nq) w.heap.size 4 o a (v0, v1, v2) (.slice aa na ca)) := V0
  have H7' : Hid (E2 (w1.drewN nq) p) := Za (H7.out.below (Nat.le_refl _) (below_drewN (Below.refl _ _) nq))
  have U0' : Hid ((w1.drewN nq).cell? ⟨g, 0, none⟩ = some (P_ gs)) := U0
  have AR' := Za (AR.out.keep (w' := w1.drewN nq) (fun _ _ => rfl) (fun _ h => h))
  clear HU B0 V0 H7 U0 AR q0 q1 q2 q3 q4 q5 q6 u0
  have HU := HU'
  have B0 := B0'
  have V0 := V0'
  have H7 := H7'
  have U0 := U0'
  have AR := AR'
  clear HU' B0' V0' H7' U0' AR'
  generalize w1.drewN nq = w2 at *
  obtain ⟨q0, q1, q2, q3, q4, q5, q6⟩ := V0.out.all
  have u0 := U0.out
  go_upto_region 8 with fail
  go_quiet (fail)
  have HU' := Za (HU.out.bel (w' := w2.drewN nq) (below_drewN (Below.refl _ _) nq))
  have B0' := Za (below_drewN B0.out nq)
  have V0' : Hid (Wv (w2.drewN nq) w.heap.size 4 o a (v0, v1, v2) (.slice aa na ca)) := V0
  have H7' : Hid (E2 (w2.drewN nq) p) := Za (H7.out.below (Nat.le_refl _) (below_drewN (Below.refl _ _) nq))
  have U0' : Hid ((w2.drewN nq).cell? ⟨g, 0, none⟩ = some (P_ gs)) := U0
  have AR' := Za (AR.out.keep (w' := w2.drewN nq) (fun _ _ => rfl) (fun _ h => h))
  clear HU B0 V0 H7 U0 AR q0 q1 q2 q3 q4 q5 q6 u0
  have HU := HU'
  have B0 := B0'
  have V0 := V0'
  have H7 := H7'
  have U0 := U0'
  have AR := AR'
  clear HU' B0' V0' H7' U0' AR'
  generalize w2.drewN nq = w3 at *
  obtain ⟨q0, q1, q2, q3, q4, q5, q6⟩ := V0.out.all
  have u0 := U0.out
  have KG : Hid (g < w.heap.size) := Za hgl
  have NF : Hid (¬ Fs w.heap.size) := Za (fun e => NG.out ((HG.out _).2 (.inl e)))
  have KL0 : Hid (∀ k ∈ [g, w.heap.size], k < w3.drew.heap.size) := Za (fun k hk => by
    show k < w3.heap.size
    have h1 := V0.out.lt
    simp only [List.mem_cons, List.mem_nil_iff, or_false] at hk
    have h2 := hgl
    rcases hk with rfl | rfl <;> omega)
  go_upto_region 1 with fail
  go_cut [5] from 16 to 21 (fun x5 wc => ∃ bl G', x5 = P_ bl /\ Hid ((Rn wc G' g S { r with s := sh.1 } /\ Ch G G' w wc) /\ Val wc bl sh.2.1 sh.2.2.1 sh.2.2.2 /\ (Wv wc w.heap.size 4 o a (v0, v1, v2) (.slice aa na ca) /\ ¬ G' w.heap.size /\ ¬ G' bl)))
  case first =>
    refine wp_region_held_drew (S := fun w' => Yr [g, w.heap.size] w3.drew w') ZK (Yr.refl KL0.out) (fun hH => ?_)
    have HU' := Za (HU.out.bel (w' := w3.drew) (below_drewN (Below.refl _ _) 1))
    have B0' := Za (Zp B0.out)
    have H7' : Hid (E2 w3.drew p) := Za (H7.out.below (Nat.le_refl _) (below_drewN (Below.refl _ _) 1))
    have V0' : Hid (Wv w3.drew w.heap.size 4 o a (v0, v1, v2) (.slice aa na ca)) := V0
    have U0' : Hid (w3.drew.cell? ⟨g, 0, none⟩ = some (P_ gs)) := U0
    clear HU B0 H7 V0 U0 q0 q1 q2 q3 q4 q5 q6 u0 AR
    have HU := HU'
    have B0 := B0'
    have H7 := H7'
    have V0 := V0'
    have U0 := U0'
    clear HU' B0' H7' V0' U0'
    generalize w3.drew = Y0 at *
    refine H2_ 0 hH ?_
    simp only [Act.put, S_]
    refine H2_ 1 hH ?_
    simp only [Act.put, S_]
    refine H2_ 2 hH ?_
    simp only [Act.put, S_]
    refine H_ 3 (v := ?_) ?_ hH ?_
    rotate_left 1
    · (intro w hSw; have q := hSw.cell (by simp) U0.out; clear hSw; go_simp <;> with_reducible rfl)
    simp only [Act.put, S_]
    refine H_ 4 (v := ?_) ?_ hH ?_
    rotate_left 1
    · (intro w hSw; obtain ⟨z0, z1, z2, z3, z4, z5, z6⟩ := V0.out.all; have q0 := hSw.cell (by simp) z0; have q1 := hSw.cell (by simp) z1; have q2 := hSw.cell (by simp) z2; have q3 := hSw.cell (by simp) z3; have q4 := hSw.cell (by simp) z4; have q5 := hSw.cell (by simp) z5; have q6 := hSw.cell (by simp) z6; clear hSw; go_simp <;> with_reducible rfl)
    simp only [Act.put, S_]
    refine wpAnyH_ready (rs := [5, 6]) (by kernel_rfl) (by decide) ?_
    refine AllReadyH.cons rfl (fun K1 hK1 => ?_) (AllReadyH.cons rfl (fun K1 hK1 => ?_) AllReadyH.nil)
    · have hH0 : w.heap.size < Y0.heap.size := by have h1 := hH.1; have h2 := hH.2.1 w.heap.size (by simp); omega
      go_simp
      refine (SH.out Y0 HU.out.st H7.out).mono ?_
      rintro e Y1 ⟨rfl, Fs', st, ch⟩
      have hU := HU.out.state st ch SM.out
      refine hK1.out _ _ (hH.ch ch (fun k hk => by
        simp only [List.mem_cons, List.mem_nil_iff, or_false] at hk
        rcases hk with rfl | rfl
        · exact fun e => HU.out.so _ e HU.out.fg
        · exact fun e => NF.out e)) (fun hH => ?_)
      clear hK1 K1
      have HQ := Za (And.intro hU ((Ch.of_bel B0.out).trans (ch.wide (G := G) (G' := fun k => Fs' k ∨ Fo k ∨ R k) (fun k hk => (HG.out k).2 (.inl hk)) (fun k hk => by
        rcases hk with h1 | h1 | h1
        · rcases ch.grow k h1 with h2 | h2
          · exact .inl ((HG.out k).2 (.inl h2))
          · exact .inr h2
        · exact .inl ((HG.out k).2 (.inr (.inl h1)))
        · exact .inl ((HG.out k).2 (.inr (.inr h1))))))) 
      have GL : Hid (¬ Fs' w.heap.size) := Za (fun hF => by
        rcases ch.grow _ hF with h2 | h2
        · exact NF.out h2
        · have h1 := hH.1
          have h3 := hH.2.1 w.heap.size (by simp)
          have h4 := hH0
          omega)
      clear st ch hU HU B0 H7 hH0
      refine RH_ 6 (fun K1 hK1 => ?_)
      have A2 := Zd Y1 (.cells #[I_ 0, I_ 0, .int .u64 0] 64)
      have N2 := Val.new Y1 0 0 0
      have L0 : w.heap.size < Y1.heap.size := by have h1 := hH.1; have h2 := hH.2.1 w.heap.size (by simp); omega
      go_simp
      refine hK1.out _ _ (hH.al A2) (fun hH => ?_)
      clear hK1 K1
      obtain ⟨bl, hbl⟩ : ∃ bl, Y1.heap.size = bl := ⟨_, rfl⟩
      rw [hbl] at N2 L0 ⊢
      have LB := Za L0
      have ZB := Za N2
      have GB : Hid (¬ (Fs' bl ∨ Fo bl ∨ R bl)) := Za (fun hF => absurd (HQ.out.1.lt hF) (by omega))
      have HQ' := Za (And.intro (HQ.out.1.bel A2) (HQ.out.2.trans (Ch.of_bel A2)))
      clear HQ
      have HQ := HQ'
      clear HQ'
      clear A2 N2 L0 hbl
      generalize Y1.alloc _ = Y2 at *
      refine RH_ 7 (fun K1 hK1 => ?_)
      obtain ⟨⟨f0, f1, f2⟩, e0, e1, e2⟩ := ZB.out.all
      have BB : Below w.heap.size Y2 (((Y2.setCell ⟨bl, 0, none⟩ (I_ sh.2.1)).setCell ⟨bl, 1, none⟩ (I_ sh.2.2.1)).setCell ⟨bl, 2, none⟩ (.int .u64 sh.2.2.2)) := Zt (Below.refl _ _) (Nat.le_of_lt LB.out) _ _ _
      have OO_ : ∀ k, k ≠ bl -> (((Y2.setCell ⟨bl, 0, none⟩ (I_ sh.2.1)).setCell ⟨bl, 1, none⟩ (I_ sh.2.2.1)).setCell ⟨bl, 2, none⟩ (.int .u64 sh.2.2.2)).heap[k]? = Y2.heap[k]? := fun k hk => ne3 hk
      have SS : Y2.heap.size = (((Y2.setCell ⟨bl, 0, none⟩ (I_ sh.2.1)).setCell ⟨bl, 1, none⟩ (I_ sh.2.2.1)).setCell ⟨bl, 2, none⟩ (.int .u64 sh.2.2.2)).heap.size := by simp only [Zi]
      have EE : Val (((Y2.setCell ⟨bl, 0, none⟩ (I_ sh.2.1)).setCell ⟨bl, 1, none⟩ (I_ sh.2.2.1)).setCell ⟨bl, 2, none⟩ (.int .u64 sh.2.2.2)) bl sh.2.1 sh.2.2.1 sh.2.2.2 := ZB.out.set _ _ _
      go_simp
      refine hK1.out _ _ (hH.turn (t := bl) (Nat.le_of_eq SS) (fun k _ hk => OO_ k hk) (fun hm => by have := LB.out; have := KG.out; simp at hm; omega)) (fun hH => ?_)
      clear hK1 K1 f0 f1 f2 e0 e1 e2
      have RN9 := Za (And.intro (HQ.out.1.rn.keep (w' := (((Y2.setCell ⟨bl, 0, none⟩ (I_ sh.2.1)).setCell ⟨bl, 1, none⟩ (I_ sh.2.2.1)).setCell ⟨bl, 2, none⟩ (.int .u64 sh.2.2.2))) (fun k hk => OO_ k (fun e => GB.out (e ▸ hk))) (Nat.le_of_eq SS)) (HQ.out.2.below BB))
      have ZV := Za EE
      have WV := Za (show Wv (((Y2.setCell ⟨bl, 0, none⟩ (I_ sh.2.1)).setCell ⟨bl, 1, none⟩ (I_ sh.2.2.1)).setCell ⟨bl, 2, none⟩ (.int .u64 sh.2.2.2)) w.heap.size 4 o a (v0, v1, v2) (.slice aa na ca) from (hH.2.2 w.heap.size (by simp)).trans V0.out)
      have NL : Hid (¬ (Fs' w.heap.size ∨ Fo w.heap.size ∨ R w.heap.size)) := Za (fun hF => by
        rcases hF with h1 | h1
        · exact GL.out h1
        · exact NG.out ((HG.out _).2 (.inr h1)))
      clear BB OO_ SS EE hH
      generalize (((Y2.setCell ⟨bl, 0, none⟩ (I_ sh.2.1)).setCell ⟨bl, 1, none⟩ (I_ sh.2.2.1)).setCell ⟨bl, 2, none⟩ (.int .u64 sh.2.2.2)) = Y3 at *
      refine wpAnyH_done (by kernel_rfl) ?_ _
      go_wp2_with fail
      go_meet
      case rel => exact ⟨bl, _, rfl, Za ⟨RN9.out, ZV.out, WV.out, NL.out, GB.out⟩⟩
    · have A1 := Zd Y0 (.cells #[I_ 0, I_ 0, .int .u64 0] 64)
      have N1 := Val.new Y0 0 0 0
      have L0 : w.heap.size < Y0.heap.size := by have h1 := hH.1; have h2 := hH.2.1 w.heap.size (by simp); omega
      go_simp
      refine hK1.out _ _ (hH.al A1) (fun hH => ?_)
      clear hK1 K1
      obtain ⟨bl, hbl⟩ : ∃ bl, Y0.heap.size = bl := ⟨_, rfl⟩
      rw [hbl] at N1 L0 ⊢
      have LB := Za L0
      have ZB := Za N1
      have GB0 : Hid (¬ (Fs bl ∨ Fo bl ∨ R bl)) := Za (fun hF => absurd (HU.out.lt hF) (by omega))
      have HU' := Za (HU.out.bel A1)
      have B0' := Za (Zg B0.out A1)
      have H7' := Za (H7.out.below (Nat.le_refl _) A1)
      clear HU B0 H7
      have HU := HU'
      have B0 := B0'
      have H7 := H7'
      clear HU' B0' H7'
      clear A1 N1 L0 hbl
      generalize Y0.alloc _ = Y1 at *
      refine RH_ 5 (fun K1 hK1 => ?_)
      have hH0 : w.heap.size < Y1.heap.size := by have h1 := hH.1; have h2 := hH.2.1 w.heap.size (by simp); omega
      go_simp
      refine (SH.out Y1 HU.out.st H7.out).mono ?_
      rintro e Y2 ⟨rfl, Fs', st, ch⟩
      have hU := HU.out.state st ch SM.out
      refine hK1.out _ _ (hH.ch ch (fun k hk => by
        simp only [List.mem_cons, List.mem_nil_iff, or_false] at hk
        rcases hk with rfl | rfl
        · exact fun e => HU.out.so _ e HU.out.fg
        · exact fun e => NF.out e)) (fun hH => ?_)
      clear hK1 K1
      have HQ := Za (And.intro hU ((Ch.of_bel B0.out).trans (ch.wide (G := G) (G' := fun k => Fs' k ∨ Fo k ∨ R k) (fun k hk => (HG.out k).2 (.inl hk)) (fun k hk => by
        rcases hk with h1 | h1 | h1
        · rcases ch.grow k h1 with h2 | h2
          · exact .inl ((HG.out k).2 (.inl h2))
          · exact .inr h2
        · exact .inl ((HG.out k).2 (.inr (.inl h1)))
        · exact .inl ((HG.out k).2 (.inr (.inr h1))))))) 
      have GL : Hid (¬ Fs' w.heap.size) := Za (fun hF => by
        rcases ch.grow _ hF with h2 | h2
        · exact NF.out h2
        · have h1 := hH.1
          have h3 := hH.2.1 w.heap.size (by simp)
          have h4 := hH0
          omega)
      have GB : Hid (¬ (Fs' bl ∨ Fo bl ∨ R bl)) := Za (fun hF => by
        rcases hF with h1 | h1
        · rcases ch.grow _ h1 with h2 | h2
          · exact GB0.out (.inl h2)
          · exact absurd ZB.out.lt (by omega)
        · exact GB0.out (.inr h1))
      have ZB' : Hid (Val Y2 bl 0 0 0) := Za ((ch.blk bl ZB.out.lt (fun e => GB0.out (.inl e))).trans ZB.out)
      clear ZB
      have ZB := ZB'
      clear ZB'
      clear st ch hU HU B0 H7 hH0
      refine RH_ 7 (fun K1 hK1 => ?_)
      obtain ⟨⟨f0, f1, f2⟩, e0, e1, e2⟩ := ZB.out.all
      have BB : Below w.heap.size Y2 (((Y2.setCell ⟨bl, 0, none⟩ (I_ sh.2.1)).setCell ⟨bl, 1, none⟩ (I_ sh.2.2.1)).setCell ⟨bl, 2, none⟩ (.int .u64 sh.2.2.2)) := Zt (Below.refl _ _) (Nat.le_of_lt LB.out) _ _ _
      have OO_ : ∀ k, k ≠ bl -> (((Y2.setCell ⟨bl, 0, none⟩ (I_ sh.2.1)).setCell ⟨bl, 1, none⟩ (I_ sh.2.2.1)).setCell ⟨bl, 2, none⟩ (.int .u64 sh.2.2.2)).heap[k]? = Y2.heap[k]? := fun k hk => ne3 hk
      have SS : Y2.heap.size = (((Y2.setCell ⟨bl, 0, none⟩ (I_ sh.2.1)).setCell ⟨bl, 1, none⟩ (I_ sh.2.2.1)).setCell ⟨bl, 2, none⟩ (.int .u64 sh.2.2.2)).heap.size := by simp only [Zi]
      have EE : Val (((Y2.setCell ⟨bl, 0, none⟩ (I_ sh.2.1)).setCell ⟨bl, 1, none⟩ (I_ sh.2.2.1)).setCell ⟨bl, 2, none⟩ (.int .u64 sh.2.2.2)) bl sh.2.1 sh.2.2.1 sh.2.2.2 := ZB.out.set _ _ _
      go_simp
      refine hK1.out _ _ (hH.turn (t := bl) (Nat.le_of_eq SS) (fun k _ hk => OO_ k hk) (fun hm => by have := LB.out; have := KG.out; simp at hm; omega)) (fun hH => ?_)
      clear hK1 K1 f0 f1 f2 e0 e1 e2
      have RN9 := Za (And.intro (HQ.out.1.rn.keep (w' := (((Y2.setCell ⟨bl, 0, none⟩ (I_ sh.2.1)).setCell ⟨bl, 1, none⟩ (I_ sh.2.2.1)).setCell ⟨bl, 2, none⟩ (.int .u64 sh.2.2.2))) (fun k hk => OO_ k (fun e => GB.out (e ▸ hk))) (Nat.le_of_eq SS)) (HQ.out.2.below BB))
      have ZV := Za EE
      have WV := Za (show Wv (((Y2.setCell ⟨bl, 0, none⟩ (I_ sh.2.1)).setCell ⟨bl, 1, none⟩ (I_ sh.2.2.1)).setCell ⟨bl, 2, none⟩ (.int .u64 sh.2.2.2)) w.heap.size 4 o a (v0, v1, v2) (.slice aa na ca) from (hH.2.2 w.heap.size (by simp)).trans V0.out)
      have NL : Hid (¬ (Fs' w.heap.size ∨ Fo w.heap.size ∨ R w.heap.size)) := Za (fun hF => by
        rcases hF with h1 | h1
        · exact GL.out h1
        · exact NG.out ((HG.out _).2 (.inr h1)))
      clear BB OO_ SS EE hH
      generalize (((Y2.setCell ⟨bl, 0, none⟩ (I_ sh.2.1)).setCell ⟨bl, 1, none⟩ (I_ sh.2.2.1)).setCell ⟨bl, 2, none⟩ (.int .u64 sh.2.2.2)) = Y3 at *
      refine wpAnyH_done (by kernel_rfl) ?_ _
      go_wp2_with fail
      go_meet
      case rel => exact ⟨bl, _, rfl, Za ⟨RN9.out, ZV.out, WV.out, NL.out, GB.out⟩⟩
  case rest =>
    clear HU B0 H7 V0 U0 q0 q1 q2 q3 q4 q5 q6 u0 AR KL0 SH SM NF
    obtain ⟨bl, G', rfl, CU⟩ := hcut
    obtain ⟨q0, q1, q2, q3, q4, q5, q6⟩ := CU.out.2.2.1.all
    have NO := Za (note_any CU.out.1.1 i _ HX.out o (by have := HL.out; show r.ev.length <= 100000; omega))
    have hlb := CU.out.2.1.lt
    have NBL := Za CU.out.2.2.2.2
    go_wp2_with fail
    refine NO.out.mono ?_
    rintro e w8 ⟨rfl, G8, rn8, c8⟩
    have HX8 := Za (show (Zz { r with s := sh.1 } i o).gs[i]? = _ from (congrArg (fun l => l[i]?) (note_gs _ i o)).trans HX.out)
    have AK := Za (ask_any rn8 i _ HX8.out sh.2.1 sh.2.2.1 sh.2.2.2)
    have C8 := Za (CU.out.1.2.trans c8)
    have V8 : Hid (Val w8 bl sh.2.1 sh.2.2.1 sh.2.2.2) := Za ((c8.blk bl CU.out.2.1.lt NBL.out).trans CU.out.2.1)
    clear rn8 c8 NO q0 q1 q2 q3 q4 q5 q6 CU
    obtain ⟨_, e0, e1, e2⟩ := V8.out.all
    go_wp2_with fail
    refine AK.out.mono ?_
    rintro e w9 ⟨rfl, G9, rn9, c9⟩
    have Z := Za (And.intro rn9 (C8.out.trans c9))
    clear rn9 c9 AK
    go_wp2_with fail
    go_end0
    exact RnP.mk rfl Z.out.1 Z.out.2
theorem step_5 {w : World} {G : Nat -> Prop} {g : Nat} {S : List (List Wt)} {r : Rm} {p : List Addr} (h : Rn w G g S r) (h17 : E2 w p) (i : Nat) (x : Gr) (hx : r.gs[i]? = some x) (hl : r.ev.length <= 90000) (hk : x.w.k = 5) (hc : ZY r x.w = true) (hz : YF r.s x.w.o = false) : Calls Tryz.prog 31 #[P_ g, I_ (i : Nat)] w (RnP w G g S (Yd S r i) (.tuple #[])) := by
  have hst : Yd S r i = (Yg (Zz { r with s := (ZF r.s x.w).1 } i x.w.o) i).1 := by
    unfold Yd
    rw [hx]
    simp only
    rw [if_neg (by omega), if_neg (by omega), if_neg (fun e => by rw [hz] at e; cases e.2), if_neg (by omega)]
  rw [hst]
  clear hst
  have NG : Hid (¬ G w.heap.size) := Za (fun hG => absurd (h.fb _ hG) (by omega))
  have HX := Za hx
  obtain ⟨Fs, Fo, R, gs, vC, vB, vG, vE, ps, ts, h, hG⟩ := h
  obtain ⟨bG, cG, b, t, va, eG, _, _, _, _, _, hA, ⟨s1, s2, s3⟩, s4⟩ := h.see hx
  subst eG
  obtain ⟨aa, na, ca, rfl⟩ := hA.form
  have hi : i < r.gs.length := (G_ hx)
  have hn8 := h.n8
  obtain ⟨⟨c0, c1, c2, c3, c4⟩, c5, c6, c7, c8, c9⟩ := h.cells
  have hgl := h.fb g h.fg
  obtain ⟨rest, ⟨k, o, a, v0, v1, v2⟩⟩ := x
  simp only at s4
  have b1 := Zb s4 1 _ rfl
  have b2 := Zb s4 2 _ rfl
  have b3 := Zb s4 3 _ rfl
  have b4 := Zb s4 4 _ rfl
  have b5 := Zb s4 5 _ rfl
  have b6 := Zb s4 6 _ rfl
  have b7 := Zb s4 7 _ rfl
  obtain ⟨n, hn⟩ : ∃ n, n = r.gs.length := ⟨_, rfl⟩
  rw [← hn] at hi hn8 c3
  have HN := Za hn
  have hi1 : (i : Int) < (n : Int) := by omega
  have hi0 : (0 : Int) <= (i : Int) := by omega
  have hd0 : decide ((i : Int) < 0) = false := by simp
  have hd1 : decide ((n : Int) <= (i : Int)) = false := by simp; omega
  clear hn
  have B0 := Za (Zd w (.cells #[I_ k, I_ o, I_ a, I_ v0, I_ v1, .int .u64 v2, .slice aa na ca] 67))
  have V0 := Za (Wv.new w k o a v0 v1 v2 (.slice aa na ca))
  have HU := Za (h.bel B0.out)
  have HG := Za hG
  have H7 := Za (h17.below (Nat.le_refl _) B0.out)
  have HL := Za hl
  have AR := Za (hA.keep (fun k hk => B0.out.block k (h.rb k hk)) (fun _ h => h))
  have U0 := Za ((B0.out.cell (p := ⟨g, 0, none⟩) hgl).trans c0)
  have hsl := h.st.lt
  simp only at hc hk hz
  subst hk
  have hq' : ∃ ci q, o = (ci : Nat) /\ r.s.C[ci]? = some q /\ q.room ≠ 0 := by
    unfold YF at hz
    cases hl' : lk r.s.C o with
    | none => simp [hl'] at hz
    | some q =>
      rw [hl'] at hz
      obtain ⟨ci, e, hci⟩ := ZD hl'
      exact ⟨ci, q, e, hci, by simpa using hz⟩
  obtain ⟨ci, q, rfl, hq, hr0⟩ := hq'
  have HZ : (5 : Int) = 5 -> YF r.s (ci : Nat) = false := fun _ => hz
  obtain ⟨sh, hsh⟩ : ∃ sh, sh = ZF r.s ⟨5, (ci : Nat), a, (v0, v1, v2)⟩ := ⟨_, rfl⟩
  have SH := Za (fun (W : World) (hS : Stt W Fs gs r.s) (h7 : E2 W p) => share_any hS h7 5 (ci : Nat) a v0 v1 v2 aa na ca hc (by first | decide | exact h10) (by first | decide | exact h12) HZ)
  have SM := Za (share_t r.s ⟨5, (ci : Nat), a, (v0, v1, v2)⟩)
  rw [← hsh] at SH SM ⊢
  clear hsh hc
  clear h hG h17 hl hA hx c0 c1 c2 c4 c5 c6 c7 c8 c9
  go_enter Tryz.func31, Tryz.ntmps31
  go_upto_region 4 with fail
  generalize w.alloc _ = w1 at *
  clear b1 b2 b3 b4 b5 b6 b7 s1 c3
  obtain ⟨q0, q1, q2, q3, q4, q5, q6⟩ := V0.out.all
  have u0 := U0.out
  go_quiet (fail)
  have HU' := Za (HU.out.bel (w' := w1.drewN nq) (below_drewN (Below.refl _ _) nq))
  have B0' := Za (below_drewN B0.out nq)
  have V0' : Hid (Wv (w1.drewN nq) w.heap.size 5 (ci : Nat) a (v0, v1, v2) (.slice aa na ca)) := V0
  have H7' : Hid (E2 (w1.drewN nq) p) := Za (H7.out.below (Nat.le_refl _) (below_drewN (Below.refl _ _) nq))
  have U0' : Hid ((w1.drewN nq).cell? ⟨g, 0, none⟩ = some (P_ gs)) := U0
  have AR' := Za (AR.out.keep (w' := w1.drewN nq) (fun _ _ => rfl) (fun _ h => h))
  clear HU B0 V0 H7 U0 AR q0 q1 q2 q3 q4 q5 q6 u0
  have HU := HU'
  have B0 := B0'
  have V0 := V0'
  have H7 := H7'
  have U0 := U0'
  have AR := AR'
  clear HU' B0' V0' H7' U0' AR'
  generalize w1.drewN nq = w2 at *
  obtain ⟨q0, q1, q2, q3, q4, q5, q6⟩ := V0.out.all
  have u0 := U0.out
  have RM := Za (fun (m : Nat) => calls_flip (Room_in (w := w2.drewN m) (HU.out.st.bel (below_drewN (Below.refl _ _) m)) ci q hq))
  obtain ⟨qt, qr, ql⟩ := q
  simp only at hr0
  have hrb : (qr == 0) = false := by simp [hr0]
  clear hq
  go_upto_region 8 with fail
  go_quiet (first | (go_at_call 69; exact Calls.quiet_of_same (RM.out _)))
  have HU' := Za (HU.out.bel (w' := w2.drewN nq) (below_drewN (Below.refl _ _) nq))
  have B0' := Za (below_drewN B0.out nq)
  have V0' : Hid (Wv (w2.drewN nq) w.heap.size 5 (ci : Nat) a (v0, v1, v2) (.slice aa na ca)) := V0
  have H7' : Hid (E2 (w2.drewN nq) p) := Za (H7.out.below (Nat.le_refl _) (below_drewN (Below.refl _ _) nq))
  have U0' : Hid ((w2.drewN nq).cell? ⟨g, 0, none⟩ = some (P_ gs)) := U0
  have AR' := Za (AR.out.keep (w' := w2.drewN nq) (fun _ _ => rfl) (fun _ h => h))
  clear HU B0 V0 H7 U0 AR q0 q1 q2 q3 q4 q5 q6 u0
  have HU := HU'
  have B0 := B0'
  have V0 := V0'
  have H7 := H7'
  have U0 := U0'
  have AR := AR'
  clear HU' B0' V0' H7' U0' AR'
  generalize w2.drewN nq = w3 at *
  obtain ⟨q0, q1, q2, q3, q4, q5, q6⟩ := V0.out.all
  have u0 := U0.out
  have KG : Hid (g < w.heap.size) := Za hgl
  have NF : Hid (¬ Fs w.heap.size) := Za (fun e => NG.out ((HG.out _).2 (.inl e)))
  have KL0 : Hid (∀ k ∈ [g, w.heap.size], k < w3.drew.heap.size) := Za (fun k hk => by
    show k < w3.heap.size
    have h1 := V0.out.lt
    simp only [List.mem_cons, List.mem_nil_iff, or_false] at hk
    have h2 := hgl
    rcases hk with rfl | rfl <;> omega)
  go_upto_region 1 with fail
  go_cut [5] from 16 to 21 (fun x5 wc => ∃ bl G', x5 = P_ bl /\ Hid ((Rn wc G' g S { r with s := sh.1 } /\ Ch G G' w wc) /\ Val wc bl sh.2.1 sh.2.2.1 sh.2.2.2 /\ (Wv wc w.heap.size 5 (ci : Nat) a (v0, v1, v2) (.slice aa na ca) /\ ¬ G' w.heap.size /\ ¬ G' bl)))
  case first =>
    refine wp_region_held_drew (S := fun w' => Yr [g, w.heap.size] w3.drew w') ZK (Yr.refl KL0.out) (fun hH => ?_)
    have HU' := Za (HU.out.bel (w' := w3.drew) (below_drewN (Below.refl _ _) 1))
    have B0' := Za (Zp B0.out)
    have H7' : Hid (E2 w3.drew p) := Za (H7.out.below (Nat.le_refl _) (below_drewN (Below.refl _ _) 1))
    have V0' : Hid (Wv w3.drew w.heap.size 5 (ci : Nat) a (v0, v1, v2) (.slice aa na ca)) := V0
    have U0' : Hid (w3.drew.cell? ⟨g, 0, none⟩ = some (P_ gs)) := U0
    clear HU B0 H7 V0 U0 q0 q1 q2 q3 q4 q5 q6 u0 AR
    have HU := HU'
    have B0 := B0'
    have H7 := H7'
    have V0 := V0'
    have U0 := U0'
    clear HU' B0' H7' V0' U0'
    generalize w3.drew = Y0 at *
    refine H2_ 0 hH ?_
    simp only [Act.put, S_]
    refine H2_ 1 hH ?_
    simp only [Act.put, S_]
    refine H2_ 2 hH ?_
    simp only [Act.put, S_]
    refine H_ 3 (v := ?_) ?_ hH ?_
    rotate_left 1
    · (intro w hSw; have q := hSw.cell (by simp) U0.out; clear hSw; go_simp <;> with_reducible rfl)
    simp only [Act.put, S_]
    refine H_ 4 (v := ?_) ?_ hH ?_
    rotate_left 1
    · (intro w hSw; obtain ⟨z0, z1, z2, z3, z4, z5, z6⟩ := V0.out.all; have q0 := hSw.cell (by simp) z0; have q1 := hSw.cell (by simp) z1; have q2 := hSw.cell (by simp) z2; have q3 := hSw.cell (by simp) z3; have q4 := hSw.cell (by simp) z4; have q5 := hSw.cell (by simp) z5; have q6 := hSw.cell (by simp) z6; clear hSw; go_simp <;> with_reducible rfl)
    simp only [Act.put, S_]
    refine wpAnyH_ready (rs := [5, 6]) (by kernel_rfl) (by decide) ?_
    refine AllReadyH.cons rfl (fun K1 hK1 => ?_) (AllReadyH.cons rfl (fun K1 hK1 => ?_) AllReadyH.nil)
    · have hH0 : w.heap.size < Y0.heap.size := by have h1 := hH.1; have h2 := hH.2.1 w.heap.size (by simp); omega
      go_simp
      refine (SH.out Y0 HU.out.st H7.out).mono ?_
      rintro e Y1 ⟨rfl, Fs', st, ch⟩
      have hU := HU.out.state st ch SM.out
      refine hK1.out _ _ (hH.ch ch (fun k hk => by
        simp only [List.mem_cons, List.mem_nil_iff, or_false] at hk
        rcases hk with rfl | rfl
        · exact fun e => HU.out.so _ e HU.out.fg
        · exact fun e => NF.out e)) (fun hH => ?_)
      clear hK1 K1
      have HQ := Za (And.intro hU ((Ch.of_bel B0.out).trans (ch.wide (G := G) (G' := fun k => Fs' k ∨ Fo k ∨ R k) (fun k hk => (HG.out k).2 (.inl hk)) (fun k hk => by
        rcases hk with h1 | h1 | h1
        · rcases ch.grow k h1 with h2 | h2
          · exact .inl ((HG.out k).2 (.inl h2))
          · exact .inr h2
        · exact .inl ((HG.out k).2 (.inr (.inl h1)))
        · exact .inl ((HG.out k).2 (.inr (.inr h1))))))) 
      have GL : Hid (¬ Fs' w.heap.size) := Za (fun hF => by
        rcases ch.grow _ hF with h2 | h2
        · exact NF.out h2
        · have h1 := hH.1
          have h3 := hH.2.1 w.heap.size (by simp)
          have h4 := hH0
          omega)
      clear st ch hU HU B0 H7 hH0
      refine RH_ 6 (fun K1 hK1 => ?_)
      have A2 := Zd Y1 (.cells #[I_ 0, I_ 0, .int .u64 0] 64)
      have N2 := Val.new Y1 0 0 0
      have L0 : w.heap.size < Y1.heap.size := by have h1 := hH.1; have h2 := hH.2.1 w.heap.size (by simp); omega
      go_simp
      refine hK1.out _ _ (hH.al A2) (fun hH => ?_)
      clear hK1 K1
      obtain ⟨bl, hbl⟩ : ∃ bl, Y1.heap.size = bl := ⟨_, rfl⟩
      rw [hbl] at N2 L0 ⊢
      have LB := Za L0
      have ZB := Za N2
      have GB : Hid (¬ (Fs' bl ∨ Fo bl ∨ R bl)) := Za (fun hF => absurd (HQ.out.1.lt hF) (by omega))
      have HQ' := Za (And.intro (HQ.out.1.bel A2) (HQ.out.2.trans (Ch.of_bel A2)))
      clear HQ
      have HQ := HQ'
      clear HQ'
      clear A2 N2 L0 hbl
      generalize Y1.alloc _ = Y2 at *
      refine RH_ 7 (fun K1 hK1 => ?_)
      obtain ⟨⟨f0, f1, f2⟩, e0, e1, e2⟩ := ZB.out.all
      have BB : Below w.heap.size Y2 (((Y2.setCell ⟨bl, 0, none⟩ (I_ sh.2.1)).setCell ⟨bl, 1, none⟩ (I_ sh.2.2.1)).setCell ⟨bl, 2, none⟩ (.int .u64 sh.2.2.2)) := Zt (Below.refl _ _) (Nat.le_of_lt LB.out) _ _ _
      have OO_ : ∀ k, k ≠ bl -> (((Y2.setCell ⟨bl, 0, none⟩ (I_ sh.2.1)).setCell ⟨bl, 1, none⟩ (I_ sh.2.2.1)).setCell ⟨bl, 2, none⟩ (.int .u64 sh.2.2.2)).heap[k]? = Y2.heap[k]? := fun k hk => ne3 hk
      have SS : Y2.heap.size = (((Y2.setCell ⟨bl, 0, none⟩ (I_ sh.2.1)).setCell ⟨bl, 1, none⟩ (I_ sh.2.2.1)).setCell ⟨bl, 2, none⟩ (.int .u64 sh.2.2.2)).heap.size := by simp only [Zi]
      have EE : Val (((Y2.setCell ⟨bl, 0, none⟩ (I_ sh.2.1)).setCell ⟨bl, 1, none⟩ (I_ sh.2.2.1)).setCell ⟨bl, 2, none⟩ (.int .u64 sh.2.2.2)) bl sh.2.1 sh.2.2.1 sh.2.2.2 := ZB.out.set _ _ _
      go_simp
      refine hK1.out _ _ (hH.turn (t := bl) (Nat.le_of_eq SS) (fun k _ hk => OO_ k hk) (fun hm => by have := LB.out; have := KG.out; simp at hm; omega)) (fun hH => ?_)
      clear hK1 K1 f0 f1 f2 e0 e1 e2
      have RN9 := Za (And.intro (HQ.out.1.rn.keep (w' := (((Y2.setCell ⟨bl, 0, none⟩ (I_ sh.2.1)).setCell ⟨bl, 1, none⟩ (I_ sh.2.2.1)).setCell ⟨bl, 2, none⟩ (.int .u64 sh.2.2.2))) (fun k hk => OO_ k (fun e => GB.out (e ▸ hk))) (Nat.le_of_eq SS)) (HQ.out.2.below BB))
      have ZV := Za EE
      have WV := Za (show Wv (((Y2.setCell ⟨bl, 0, none⟩ (I_ sh.2.1)).setCell ⟨bl, 1, none⟩ (I_ sh.2.2.1)).setCell ⟨bl, 2, none⟩ (.int .u64 sh.2.2.2)) w.heap.size 5 (ci : Nat) a (v0, v1, v2) (.slice aa na ca) from (hH.2.2 w.heap.size (by simp)).trans V0.out)
      have NL : Hid (¬ (Fs' w.heap.size ∨ Fo w.heap.size ∨ R w.heap.size)) := Za (fun hF => by
        rcases hF with h1 | h1
        · exact GL.out h1
        · exact NG.out ((HG.out _).2 (.inr h1)))
      clear BB OO_ SS EE hH
      generalize (((Y2.setCell ⟨bl, 0, none⟩ (I_ sh.2.1)).setCell ⟨bl, 1, none⟩ (I_ sh.2.2.1)).setCell ⟨bl, 2, none⟩ (.int .u64 sh.2.2.2)) = Y3 at *
      refine wpAnyH_done (by kernel_rfl) ?_ _
      go_wp2_with fail
      go_meet
      case rel => exact ⟨bl, _, rfl, Za ⟨RN9.out, ZV.out, WV.out, NL.out, GB.out⟩⟩
    · have A1 := Zd Y0 (.cells #[I_ 0, I_ 0, .int .u64 0] 64)
      have N1 := Val.new Y0 0 0 0
      have L0 : w.heap.size < Y0.heap.size := by have h1 := hH.1; have h2 := hH.2.1 w.heap.size (by simp); omega
      go_simp
      refine hK1.out _ _ (hH.al A1) (fun hH => ?_)
      clear hK1 K1
      obtain ⟨bl, hbl⟩ : ∃ bl, Y0.heap.size = bl := ⟨_, rfl⟩
      rw [hbl] at N1 L0 ⊢
      have LB := Za L0
      have ZB := Za N1
      have GB0 : Hid (¬ (Fs bl ∨ Fo bl ∨ R bl)) := Za (fun hF => absurd (HU.out.lt hF) (by omega))
      have HU' := Za (HU.out.bel A1)
      have B0' := Za (Zg B0.out A1)
      have H7' := Za (H7.out.below (Nat.le_refl _) A1)
      clear HU B0 H7
      have HU := HU'
      have B0 := B0'
      have H7 := H7'
      clear HU' B0' H7'
      clear A1 N1 L0 hbl
      generalize Y0.alloc _ = Y1 at *
      refine RH_ 5 (fun K1 hK1 => ?_)
      have hH0 : w.heap.size < Y1.heap.size := by have h1 := hH.1; have h2 := hH.2.1 w.heap.size (by simp); omega
      go_simp
      refine (SH.out Y1 HU.out.st H7.out).mono ?_
      rintro e Y2 ⟨rfl, Fs', st, ch⟩
      have hU := HU.out.state st ch SM.out
      refine hK1.out _ _ (hH.ch ch (fun k hk => by
        simp only [List.mem_cons, List.mem_nil_iff, or_false] at hk
        rcases hk with rfl | rfl
        · exact fun e => HU.out.so _ e HU.out.fg
        · exact fun e => NF.out e)) (fun hH => ?_)
      clear hK1 K1
      have HQ := Za (And.intro hU ((Ch.of_bel B0.out).trans (ch.wide (G := G) (G' := fun k => Fs' k ∨ Fo k ∨ R k) (fun k hk => (HG.out k).2 (.inl hk)) (fun k hk => by
        rcases hk with h1 | h1 | h1
        · rcases ch.grow k h1 with h2 | h2
          · exact .inl ((HG.out k).2 (.inl h2))
          · exact .inr h2
        · exact .inl ((HG.out k).2 (.inr (.inl h1)))
        · exact .inl ((HG.out k).2 (.inr (.inr h1))))))) 
      have GL : Hid (¬ Fs' w.heap.size) := Za (fun hF => by
        rcases ch.grow _ hF with h2 | h2
        · exact NF.out h2
        · have h1 := hH.1
          have h3 := hH.2.1 w.heap.size (by simp)
          have h4 := hH0
          omega)
      have GB : Hid (¬ (Fs' bl ∨ Fo bl ∨ R bl)) := Za (fun hF => by
        rcases hF with h1 | h1
        · rcases ch.grow _ h1 with h2 | h2
          · exact GB0.out (.inl h2)
          · exact absurd ZB.out.lt (by omega)
        · exact GB0.out (.inr h1))
      have ZB' : Hid (Val Y2 bl 0 0 0) := Za ((ch.blk bl ZB.out.lt (fun e => GB0.out (.inl e))).trans ZB.out)
      clear ZB
      have ZB := ZB'
      clear ZB'
      clear st ch hU HU B0 H7 hH0
      refine RH_ 7 (fun K1 hK1 => ?_)
      obtain ⟨⟨f0, f1, f2⟩, e0, e1, e2⟩ := ZB.out.all
      have BB : Below w.heap.size Y2 (((Y2.setCell ⟨bl, 0, none⟩ (I_ sh.2.1)).setCell ⟨bl, 1, none⟩ (I_ sh.2.2.1)).setCell ⟨bl, 2, none⟩ (.int .u64 sh.2.2.2)) := Zt (Below.refl _ _) (Nat.le_of_lt LB.out) _ _ _
      have OO_ : ∀ k, k ≠ bl -> (((Y2.setCell ⟨bl, 0, none⟩ (I_ sh.2.1)).setCell ⟨bl, 1, none⟩ (I_ sh.2.2.1)).setCell ⟨bl, 2, none⟩ (.int .u64 sh.2.2.2)).heap[k]? = Y2.heap[k]? := fun k hk => ne3 hk
      have SS : Y2.heap.size = (((Y2.setCell ⟨bl, 0, none⟩ (I_ sh.2.1)).setCell ⟨bl, 1, none⟩ (I_ sh.2.2.1)).setCell ⟨bl, 2, none⟩ (.int .u64 sh.2.2.2)).heap.size := by simp only [Zi]
      have EE : Val (((Y2.setCell ⟨bl, 0, none⟩ (I_ sh.2.1)).setCell ⟨bl, 1, none⟩ (I_ sh.2.2.1)).setCell ⟨bl, 2, none⟩ (.int .u64 sh.2.2.2)) bl sh.2.1 sh.2.2.1 sh.2.2.2 := ZB.out.set _ _ _
      go_simp
      refine hK1.out _ _ (hH.turn (t := bl) (Nat.le_of_eq SS) (fun k _ hk => OO_ k hk) (fun hm => by have := LB.out; have := KG.out; simp at hm; omega)) (fun hH => ?_)
      clear hK1 K1 f0 f1 f2 e0 e1 e2
      have RN9 := Za (And.intro (HQ.out.1.rn.keep (w' := (((Y2.setCell ⟨bl, 0, none⟩ (I_ sh.2.1)).setCell ⟨bl, 1, none⟩ (I_ sh.2.2.1)).setCell ⟨bl, 2, none⟩ (.int .u64 sh.2.2.2))) (fun k hk => OO_ k (fun e => GB.out (e ▸ hk))) (Nat.le_of_eq SS)) (HQ.out.2.below BB))
      have ZV := Za EE
      have WV := Za (show Wv (((Y2.setCell ⟨bl, 0, none⟩ (I_ sh.2.1)).setCell ⟨bl, 1, none⟩ (I_ sh.2.2.1)).setCell ⟨bl, 2, none⟩ (.int .u64 sh.2.2.2)) w.heap.size 5 (ci : Nat) a (v0, v1, v2) (.slice aa na ca) from (hH.2.2 w.heap.size (by simp)).trans V0.out)
      have NL : Hid (¬ (Fs' w.heap.size ∨ Fo w.heap.size ∨ R w.heap.size)) := Za (fun hF => by
        rcases hF with h1 | h1
        · exact GL.out h1
        · exact NG.out ((HG.out _).2 (.inr h1)))
      clear BB OO_ SS EE hH
      generalize (((Y2.setCell ⟨bl, 0, none⟩ (I_ sh.2.1)).setCell ⟨bl, 1, none⟩ (I_ sh.2.2.1)).setCell ⟨bl, 2, none⟩ (.int .u64 sh.2.2.2)) = Y3 at *
      refine wpAnyH_done (by kernel_rfl) ?_ _
      go_wp2_with fail
      go_meet
      case rel => exact ⟨bl, _, rfl, Za ⟨RN9.out, ZV.out, WV.out, NL.out, GB.out⟩⟩
  case rest =>
    clear HU B0 H7 V0 U0 q0 q1 q2 q3 q4 q5 q6 u0 AR KL0 SH SM NF
    obtain ⟨bl, G', rfl, CU⟩ := hcut
    obtain ⟨q0, q1, q2, q3, q4, q5, q6⟩ := CU.out.2.2.1.all
    have NO := Za (note_any CU.out.1.1 i _ HX.out (ci : Nat) (by have := HL.out; show r.ev.length <= 100000; omega))
    have hlb := CU.out.2.1.lt
    have NBL := Za CU.out.2.2.2.2
    go_wp2_with fail
    refine NO.out.mono ?_
    rintro e w8 ⟨rfl, G8, rn8, c8⟩
    have HX8 := Za (show (Zz { r with s := sh.1 } i (ci : Nat)).gs[i]? = _ from (congrArg (fun l => l[i]?) (note_gs _ i (ci : Nat))).trans HX.out)
    have AK := Za (ask_any rn8 i _ HX8.out sh.2.1 sh.2.2.1 sh.2.2.2)
    have C8 := Za (CU.out.1.2.trans c8)
    have V8 : Hid (Val w8 bl sh.2.1 sh.2.2.1 sh.2.2.2) := Za ((c8.blk bl CU.out.2.1.lt NBL.out).trans CU.out.2.1)
    clear rn8 c8 NO q0 q1 q2 q3 q4 q5 q6 CU
    obtain ⟨_, e0, e1, e2⟩ := V8.out.all
    go_wp2_with fail
    refine AK.out.mono ?_
    rintro e w9 ⟨rfl, G9, rn9, c9⟩
    have Z := Za (And.intro rn9 (C8.out.trans c9))
    clear rn9 c9 AK
    go_wp2_with fail
    go_end0
    exact RnP.mk rfl Z.out.1 Z.out.2
theorem step_any {w : World} {G : Nat -> Prop} {g : Nat} {S : List (List Wt)} {r : Rm} {p : List Addr} (h : Rn w G g S r) (h17 : E2 w p) (i : Nat) (x : Gr) (hx : r.gs[i]? = some x) (hl : r.ev.length <= 90000) (hc : can r (i : Int) = true) : Calls Tryz.prog 31 #[P_ g, I_ (i : Nat)] w (RnP w G g S (Yd S r i) (.tuple #[])) := by
 rw [can_at hx] at hc
 by_cases h4 : x.w.k = 4
 · by_cases hm : lk r.s.M x.w.o = some true
   · exact step_4 h h17 i x hx hl h4 hc hm
   · exact step_4f h h17 i x hx hl h4 hm
 by_cases h10 : x.w.k = 10
 · exact step_10 h h17 i x hx hl h10
 by_cases h5 : x.w.k = 5
 · cases hz : YF r.s x.w.o with
   | true => exact step_5m h h17 i x hx hl h5 hc hz
   | false => exact step_5 h h17 i x hx hl h5 hc hz
 by_cases h12 : x.w.k = 12
 · have e : Yd S r i = { Zz r i x.w.o with gs := (Zz r i x.w.o).gs.set i ⟨x.rest, zW⟩ } := by
    unfold Yd
    rw [hx]
    simp only
    rw [if_neg (by omega), if_neg (by omega), if_neg (by omega), if_pos h12, note_gs]
   exact step_12 h h17 i x hx hl h12
 · exact step_d h h17 i x hx hl hc h4 h5 h10 h12
structure E3 (w : World) (p : List Addr) : Prop where
 e2 : E2 w p
 l9 : 0 < w.heap.size
 c9 : w.cell? ⟨0, 0, none⟩ = some (errV p 9)
theorem E3.below {w w' : World} {p : List Addr} (h : E3 w p) {B : Nat} (hB : w.heap.size <= B) (hb : Below B w w') : E3 w' p :=
 ⟨h.e2.below hB hb, Nat.lt_of_lt_of_le h.l9 hb.size, (hb.cell (p := ⟨0, 0, none⟩) (Nat.lt_of_lt_of_le h.l9 hB)).trans h.c9⟩
def Off (G : Nat -> Prop) : Prop := ¬ G 1 /\ ¬ G 5 /\ ¬ G 0
theorem E3.ch {w w' : World} {p : List Addr} {G G' : Nat -> Prop} (h : E3 w p) (hG : Off G) (c : Ch G G' w w') : E3 w' p /\ Off G' := by
 obtain ⟨h1, h2, h3⟩ := hG
 obtain ⟨a1, b1, c1⟩ := c.keepB h1 h.e2.l0
 obtain ⟨a2, b2, c2⟩ := c.keepB h2 h.e2.l4
 obtain ⟨a3, b3, c3⟩ := c.keepB h3 h.l9
 exact ⟨⟨⟨c1, c2, Yh a1 h.e2.c0, Yh a2 h.e2.c4⟩, c3, Yh a3 h.c9⟩, b1, b2, b3⟩
theorem Do_ok {w : World} {G : Nat -> Prop} {g : Nat} {S : List (List Wt)} {r : Rm} {p : List Addr} (h : Rn w G g S r) (h17 : E3 w p) (hO : Off G) (i : Nat) (hr : runs r = true) (hc : can r (i : Int) = true) (hl : r.ev.length <= 90000) : Calls Tryz.prog 9 #[P_ g, I_ (i : Nat)] w (RnP w G g S (doR S r i) .nilIface) := by
 have E := Za (ended_any h h17.e2)
 rw [hr] at E
 have CR := Za (fun (w1 : World) (hb : Below w.heap.size w w1) => canRun_any (h.bel hb) (h17.below (Nat.le_refl _) hb).e2 (i : Int))
 rw [hc] at CR
 obtain ⟨x, hx⟩ : ∃ x, r.gs[i]? = some x := by
  unfold can at hc
  rw [lk_nat] at hc
  cases hx : r.gs[i]? with
  | none => rw [hx] at hc; cases hc
  | some x => exact ⟨x, rfl⟩
 have SA := Za (fun (w1 : World) (hb : Below w.heap.size w w1) => step_any (h.bel hb) (h17.below (Nat.le_refl _) hb).e2 i x hx hl hc)
 have H7 := Za (And.intro h17 hO)
 clear h h17 hO hr hc hl hx
 go_enter Tryz.func9, Tryz.ntmps9
 go_wp2_with fail
 refine E.out.mono ?_
 rintro e w1 ⟨rfl, hb⟩
 have HB := Za hb
 clear hb
 go_wp2_with fail
 refine (CR.out w1 HB.out).mono ?_
 rintro e w2 ⟨rfl, hb⟩
 have HB2 := Za (Zg HB.out hb)
 clear hb
 go_wp2_with fail
 refine (SA.out w2 HB2.out).mono ?_
 rintro e w3 ⟨rfl, G3, rn3, c3⟩
 have C3 := Za ((Ch.of_bel HB2.out).trans c3)
 have SE := Za (settle_any rn3 (H7.out.1.ch H7.out.2 C3.out).1.e2)
 clear rn3 c3
 go_wp2_with fail
 refine SE.out.mono ?_
 rintro e w4 ⟨rfl, G4, rn4, c4⟩
 have Z := Za (And.intro rn4 (C3.out.trans c4))
 clear rn4 c4
 go_wp2_with fail
 go_ret
 exact RnP.mk rfl Z.out.1 Z.out.2
end Go.Proofs.YtfojninaginnoaaGreatDoor.Ck
namespace Go.Proofs.YtfojninaginnoaaGreatDoor.Ck
open Go.ChangeShapes Go.WideShapes Go.RowKit
def laid3 : List (String × DataW Unit) := [("stockade/api.ErrRange", Rows.laid_stockade_api_ErrRange), ("stockade/api.ErrType", Rows.laid_stockade_api_ErrType), ("stockade/api.ErrState", Rows.laid_stockade_api_ErrState)]
def l3 : List (String × List UInt8) := [("stockade/api.ErrRange", [115, 116, 111, 99, 107, 97, 100, 101, 58, 32, 114, 97, 110, 103, 101]), ("stockade/api.ErrType", [115, 116, 111, 99, 107, 97, 100, 101, 58, 32, 116, 121, 112, 101]), ("stockade/api.ErrState", [115, 116, 111, 99, 107, 97, 100, 101, 58, 32, 115, 116, 97, 116, 101])]
theorem laid3_eq : laid3 = l3.map fun x => (x.1, sentD x.2) := rfl
theorem named3 : ((List.range 3).all fun i => Tryz.prog.globalNamed (l3.getD i ("", [])).1 == some ([1, 5, 0].getD i 0) && (Tryz.prog.globals[[1, 5, 0].getD i 0]?).map (·.type) == some 34) = true := by kernel_rfl
theorem e3_of_laid {W : World} (h : laidMetH Tryz.prog laid3 W) : ∃ p, E3 W p := by
  rw [MakeChecks.laidMetH_plain _ _ _ (by kernel_rfl), laid3_eq] at h
  obtain ⟨ps, hv, hnd, hrows⟩ := h
  obtain ⟨p, hs, hsub⟩ := sents_of l3 [1, 5, 0] ps rfl (fun i hi => by
    have h1 := List.all_eq_true.1 named3 i (List.mem_range.2 hi)
    simp only [Bool.and_eq_true, beq_iff_eq] at h1
    exact h1) hv hrows
  have h0 := hs.at 0 (by decide)
  have h1 := hs.at 1 (by decide)
  have h2 := hs.at 2 (by decide)
  exact ⟨[p.getD 0 ⟨0, 0, none⟩, ⟨0, 0, none⟩, ⟨0, 0, none⟩, ⟨0, 0, none⟩, p.getD 1 ⟨0, 0, none⟩, ⟨0, 0, none⟩, ⟨0, 0, none⟩, ⟨0, 0, none⟩, ⟨0, 0, none⟩, p.getD 2 ⟨0, 0, none⟩], ⟨h0.1, h1.1, h0.2.1, h1.2.1⟩, h2.1, h2.2.1⟩
theorem door_met3 (os : Os) (args : Array Value) : laidMetH Tryz.prog laid3 ((World.doorLaid Tryz.prog 332 os).forCall (fun _ _ => 0) ⟨#[], args, []⟩).memory :=
 laidMetH_of_parts3 (fuel := 8) (laidMet_of_run' 8 (by kernel_rfl) (by kernel_rfl)) (by kernel_rfl) (by kernel_rfl)
def w6s : List Wt -> List Value
 | [] => []
 | x :: l => .int .i64 x.k :: .int .i64 x.o :: .int .i64 x.a :: .int .i64 x.v.1 :: .int .i64 x.v.2.1 :: .int .u64 x.v.2.2 :: w6s l
theorem w6s_app : ∀ a b, w6s (a ++ b) = w6s a ++ w6s b
 | [], b => rfl
 | x :: a, b => by simp [w6s, w6s_app a b]
theorem w6s_at : ∀ (l : List Wt) (i : Nat) (x : Wt), l[i]? = some x -> (w6s l)[i * 6]? = some (I_ x.k) /\ (w6s l)[i * 6 + 1]? = some (I_ x.o) /\ (w6s l)[i * 6 + 2]? = some (I_ x.a) /\ (w6s l)[i * 6 + 3]? = some (I_ x.v.1) /\ (w6s l)[i * 6 + 4]? = some (I_ x.v.2.1) /\ (w6s l)[i * 6 + 5]? = some (.int .u64 x.v.2.2)
 | [], i, x, h => by simp at h
 | y :: l, 0, x, h => by
  simp at h
  subst h
  exact ⟨rfl, rfl, rfl, rfl, rfl, rfl⟩
 | y :: l, i + 1, x, h => by
  rw [show (i + 1) * 6 = i * 6 + 6 by omega]
  exact w6s_at l i x (by simpa using h)
theorem w6s_set : ∀ (l : List Wt) (i : Nat) (x : Wt), w6s (l.set i x) = ((((((w6s l).set (i * 6) (I_ x.k)).set (i * 6 + 1) (I_ x.o)).set (i * 6 + 2) (I_ x.a)).set (i * 6 + 3) (I_ x.v.1)).set (i * 6 + 4) (I_ x.v.2.1)).set (i * 6 + 5) (.int .u64 x.v.2.2)
 | [], i, x => by simp [w6s]
 | y :: l, 0, x => by simp [w6s]
 | y :: l, i + 1, x => by
  rw [show (i + 1) * 6 + 5 = i * 6 + 5 + 1 + 1 + 1 + 1 + 1 + 1 by omega, show (i + 1) * 6 + 4 = i * 6 + 4 + 1 + 1 + 1 + 1 + 1 + 1 by omega, show (i + 1) * 6 + 3 = i * 6 + 3 + 1 + 1 + 1 + 1 + 1 + 1 by omega, show (i + 1) * 6 + 2 = i * 6 + 2 + 1 + 1 + 1 + 1 + 1 + 1 by omega, show (i + 1) * 6 + 1 = i * 6 + 1 + 1 + 1 + 1 + 1 + 1 + 1 by omega, show (i + 1) * 6 = i * 6 + 1 + 1 + 1 + 1 + 1 + 1 by omega]
  simp only [List.set_cons_succ, w6s, w6s_set l i x]
theorem w6s_one : ∀ l, ∀ u ∈ w6s l, u.oneCell' = true
 | [], u, h => by simp [w6s] at h
 | x :: l, u, h => by
  simp only [w6s, List.mem_cons] at h
  rcases h with rfl | rfl | rfl | rfl | rfl | rfl | h
  all_goals first | rfl | exact w6s_one l u h
def nns (l : List Nat) : List Value := l.map fun (n : Nat) => Value.int .i64 (n : Int)
theorem nns_at {l : List Nat} {i x : Nat} (h : l[i]? = some x) : (nns l)[i]? = some (I_ (x : Int)) := by simp [nns, h]
structure Rz where
 s : St
 ws : List Wt
 ev : List Evt
 e : En
 pe : List (List Wt)
def Rm.z (r : Rm) : Rz := ⟨r.s, r.gs.map Gr.w, r.ev, r.e, r.gs.map Gr.rest⟩
structure Rq (w : World) (Fs Rs Fo R : Nat -> Prop) (B g gs gt : Nat) (S : List (List Wt)) (r : Rz) (vW vE vL vO vA : Value) (vs : List Value) (os as_ : List Nat) : Prop where
 at_ : w.heap[g]? = some (.cells #[.pointer (some ⟨gs, 0, none⟩), vW, vE, .int .i64 r.e.o, .int .i64 r.e.f, .int .i64 r.e.g, .int .i64 r.e.n, .int .i64 r.e.a, .pointer (some ⟨gt, 0, none⟩)] 45 (0, 0))
 st : Rt w Fs Rs B gs r.s
 wa : w.ownsRow 0 76 6 vW r.ws.length (w6s r.ws)
 ev : w.ownsRow 0 132 4 vE r.ev.length (ecs r.ev)
 tt : w.heap[gt]? = some (.cells #[vL, vO, vA] 79 (0, 0))
 al : w.ownsRow 0 39 1 vL S.length vs
 row : ∀ (i : Nat) (l : List Wt) (v : Value), S[i]? = some l -> vs[i]? = some v -> w.ownsRow 0 76 6 v l.length (w6s l) /\ ∀ k, v.ownBlock = some k -> R k
 of : w.ownsRow 0 3 1 vO r.pe.length (nns os)
 at' : w.ownsRow 0 3 1 vA r.pe.length (nns as_)
 pos : ∀ (i : Nat) (x : List Wt) (o a : Nat), r.pe[i]? = some x -> os[i]? = some o -> as_[i]? = some a -> ∃ l, S[o]? = some l /\ a <= l.length /\ x = l.drop a
 ne : ∀ k, vO.ownBlock = some k -> vA.ownBlock ≠ some k
 fg : Fo g
 ft : Fo gt
 fW : ∀ k, vW.ownBlock = some k -> Fo k
 fE : ∀ k, vE.ownBlock = some k -> Fo k
 fO : ∀ k, vO.ownBlock = some k -> Fo k
 fA : ∀ k, vA.ownBlock = some k -> Fo k
 fL : ∀ k, vL.ownBlock = some k -> R k
 so : ∀ k, Fo k -> ¬ Fs k /\ ¬ Rs k
 ro : ∀ k, R k -> ¬ Fs k /\ ¬ Fo k
 fb : ∀ k, Fo k -> k < w.heap.size
 rb : ∀ k, R k -> k < w.heap.size
 n8 : r.ws.length <= 8 /\ r.pe.length <= 9
 sz : S.length <= 2000 /\ ∀ l ∈ S, l.length <= 2000
def Rr (w : World) (G : Nat -> Prop) (B g : Nat) (S : List (List Wt)) (r : Rz) : Prop := ∃ Fs Rs Fo R gs gt vW vE vL vO vA vs os as_, Rq w Fs Rs Fo R B g gs gt S r vW vE vL vO vA vs os as_ /\ ∀ k, G k ↔ Fs k ∨ Rs k ∨ Fo k ∨ R k
section
variable {w w' : World} {G G' Fs Fs' Rs Rs' Fo Fo' R F F' : Nat → Prop} {B B' g gs gt : Nat} {S : List (List Wt)} {r : Rz} {vW vE vL vO vA : Value} {vs : List Value} {os as_ : List Nat}
theorem Rq.ol (h : Rq w Fs Rs Fo R B g gs gt S r vW vE vL vO vA vs os as_) : os.length = r.pe.length /\ as_.length = r.pe.length /\ vs.length = S.length := by
 have h1 := h.of.1
 have h2 := h.at'.1
 have h3 := h.al.1
 simp [nns] at h1 h2
 omega
theorem Rt.keep {s : St} (h : Rt w F R B g s) (hb : ∀ k, F k ∨ R k -> w'.heap[k]? = w.heap[k]?) (hs : w.heap.size <= w'.heap.size) : Rt w' F R B g s := by
 obtain ⟨vP, vL, vC, vS, vT, vA, ss, tk, h⟩ := h
 exact ⟨_, _, _, _, _, _, _, _, h.keep hb hs⟩
theorem Rq.lt (h : Rq w Fs Rs Fo R B g gs gt S r vW vE vL vO vA vs os as_) {k : Nat} (hk : Fs k ∨ Rs k ∨ Fo k ∨ R k) : k < w.heap.size := by
 rcases hk with hk | hk | hk | hk
 · exact h.st.fb k hk
 · exact h.st.rb k hk
 · exact h.fb k hk
 · exact h.rb k hk
theorem Rq.keep (h : Rq w Fs Rs Fo R B g gs gt S r vW vE vL vO vA vs os as_) (hb : ∀ k, Fs k ∨ Rs k ∨ Fo k ∨ R k -> w'.heap[k]? = w.heap[k]?) (hs : w.heap.size <= w'.heap.size) : Rq w' Fs Rs Fo R B g gs gt S r vW vE vL vO vA vs os as_ :=
 { h with
  at_ := (hb g (.inr (.inr (.inl h.fg)))).trans h.at_
  st := h.st.keep (fun k hk => hb k (hk.elim .inl fun q => .inr (.inl q))) hs
  wa := Zj h.wa fun k hk => hb k (.inr (.inr (.inl (h.fW k hk))))
  ev := Zj h.ev fun k hk => hb k (.inr (.inr (.inl (h.fE k hk))))
  tt := (hb gt (.inr (.inr (.inl h.ft)))).trans h.tt
  al := Zj h.al fun k hk => hb k (.inr (.inr (.inr (h.fL k hk))))
  row := fun i l v hl hv => ⟨Zj (h.row i l v hl hv).1 fun k hk => hb k (.inr (.inr (.inr ((h.row i l v hl hv).2 k hk)))), (h.row i l v hl hv).2⟩
  of := Zj h.of fun k hk => hb k (.inr (.inr (.inl (h.fO k hk))))
  at' := Zj h.at' fun k hk => hb k (.inr (.inr (.inl (h.fA k hk))))
  fb := fun k hk => Nat.lt_of_lt_of_le (h.fb k hk) hs
  rb := fun k hk => Nat.lt_of_lt_of_le (h.rb k hk) hs }
theorem Rq.bel (h : Rq w Fs Rs Fo R B g gs gt S r vW vE vL vO vA vs os as_) (hb : Below w.heap.size w w') : Rq w' Fs Rs Fo R B g gs gt S r vW vE vL vO vA vs os as_ := h.keep (fun k hk => hb.block k (h.lt hk)) hb.size
theorem Rr.fb (h : Rr w G B g S r) : ∀ k, G k -> k < w.heap.size := by
 obtain ⟨Fs, Rs, Fo, R, gs, gt, vW, vE, vL, vO, vA, vs, os, as_, h, hG⟩ := h
 exact fun k hk => h.lt ((hG k).1 hk)
theorem Rr.keep (h : Rr w G B g S r) (hb : ∀ k, G k -> w'.heap[k]? = w.heap[k]?) (hs : w.heap.size <= w'.heap.size) : Rr w' G B g S r := by
 obtain ⟨Fs, Rs, Fo, R, gs, gt, vW, vE, vL, vO, vA, vs, os, as_, h, hG⟩ := h
 exact ⟨Fs, Rs, Fo, R, gs, gt, vW, vE, vL, vO, vA, vs, os, as_, h.keep (fun k hk => hb k ((hG k).2 hk)) hs, hG⟩
theorem Rr.bel (h : Rr w G B g S r) (hb : Below w.heap.size w w') : Rr w' G B g S r := h.keep (fun k hk => hb.block k (h.fb k hk)) hb.size
theorem Rr.ch (h : Rr w G B g S r) (hc : Ch F F' w w') (hd : ∀ k, G k -> ¬ F k) : Rr w' G B g S r /\ ∀ k, G k -> ¬ F' k :=
 ⟨h.keep (fun k hk => hc.blk k (h.fb k hk) (hd k hk)) hc.size, fun k hk hF => by
  rcases hc.grow k hF with h1 | h1
  · exact hd k hk h1
  · have := h.fb k hk
    omega⟩
theorem Rr.lt (h : Rr w G B g S r) : g < w.heap.size := by
 obtain ⟨Fs, Rs, Fo, R, gs, gt, vW, vE, vL, vO, vA, vs, os, as_, h, hG⟩ := h
 exact h.fb g h.fg
theorem Rq.low {N : Nat} (h : Rq w Fs Rs Fo R B g gs gt S r vW vE vL vO vA vs os as_) (hN : ∀ k, Fs k ∨ Rs k ∨ Fo k ∨ R k -> k < N) (hb : Below N w w') : Rq w' Fs Rs Fo R B g gs gt S r vW vE vL vO vA vs os as_ := h.keep (fun k hk => hb.block k (hN k hk)) hb.size
theorem Rr.up (h : Rr w G B g S r) {B' : Nat} (hB : B <= B') : Rr w G B' g S r := by
 obtain ⟨Fs, Rs, Fo, R, gs, gt, vW, vE, vL, vO, vA, vs, os, as_, h, hG⟩ := h
 exact ⟨Fs, Rs, Fo, R, gs, gt, vW, vE, vL, vO, vA, vs, os, as_, { h with st := h.st.more hB (fun _ h => h) h.st.rb h.st.fr }, hG⟩
theorem Rq.rr (h : Rq w Fs Rs Fo R B g gs gt S r vW vE vL vO vA vs os as_) : Rr w (fun k => Fs k ∨ Rs k ∨ Fo k ∨ R k) B g S r := ⟨Fs, Rs, Fo, R, gs, gt, vW, vE, vL, vO, vA, vs, os, as_, h, fun _ => Iff.rfl⟩
theorem Rq.cells (h : Rq w Fs Rs Fo R B g gs gt S r vW vE vL vO vA vs os as_) : (w.cell? ⟨g, 0, none⟩ = some (P_ gs) /\ w.cell? ⟨g, 1, none⟩ = some vW /\ w.cell? ⟨g, 2, none⟩ = some vE /\ w.cell? ⟨g, 8, none⟩ = some (P_ gt)) ∧
 (w.cell? ⟨g, 3, none⟩ = some (I_ r.e.o) /\ w.cell? ⟨g, 4, none⟩ = some (I_ r.e.f) /\ w.cell? ⟨g, 5, none⟩ = some (I_ r.e.g) /\ w.cell? ⟨g, 6, none⟩ = some (I_ r.e.n) /\ w.cell? ⟨g, 7, none⟩ = some (I_ r.e.a)) ∧
 w.cell? ⟨gt, 0, none⟩ = some vL /\ w.cell? ⟨gt, 1, none⟩ = some vO /\ w.cell? ⟨gt, 2, none⟩ = some vA :=
 ⟨⟨Zb h.at_ 0 _ rfl, Zb h.at_ 1 _ rfl, Zb h.at_ 2 _ rfl, Zb h.at_ 8 _ rfl⟩, ⟨Zb h.at_ 3 _ rfl, Zb h.at_ 4 _ rfl, Zb h.at_ 5 _ rfl, Zb h.at_ 6 _ rfl, Zb h.at_ 7 _ rfl⟩, Zb h.tt 0 _ rfl, Zb h.tt 1 _ rfl, Zb h.tt 2 _ rfl⟩
theorem Rq.part (h : Rq w Fs Rs Fo R B g gs gt S r vW vE vL vO vA vs os as_) {c : Nat} (hc : Fo c) (ho : ∀ k, k ≠ c -> k < w.heap.size -> w'.heap[k]? = w.heap[k]?) (hs : w.heap.size <= w'.heap.size) :
 Rt w' Fs Rs B gs r.s /\ (w'.ownsRow 0 39 1 vL S.length vs /\ ∀ (i : Nat) (l : List Wt) (v : Value), S[i]? = some l -> vs[i]? = some v -> w'.ownsRow 0 76 6 v l.length (w6s l) /\ ∀ k, v.ownBlock = some k -> R k) /\ ∀ {T : TypeId} {n : Nat} {v : Value} {len : Nat} {xs : List Value}, w.ownsRow 0 T n v len xs -> v.ownBlock ≠ some c -> w'.ownsRow 0 T n v len xs := by
 have hR : ∀ k, R k -> w'.heap[k]? = w.heap[k]? := fun k hk => ho k (fun e => (h.ro k hk).2 (by rw [e]; exact hc)) (h.rb k hk)
 refine ⟨h.st.keep (fun k hk => ?_) hs, ⟨Zj h.al fun k hk => hR k (h.fL k hk), fun i l v hl hv => ⟨Zj (h.row i l v hl hv).1 fun k hk => hR k ((h.row i l v hl hv).2 k hk), (h.row i l v hl hv).2⟩⟩, fun hr hne => Zj hr fun k hk => ho k (fun e => hne (by rw [hk, e])) (Zf hr hk).2.1⟩
 rcases hk with hk | hk
 · exact ho k (fun e => (h.so c hc).1 (by rw [← e]; exact hk)) (h.st.fb k hk)
 · exact ho k (fun e => (h.so c hc).2 (by rw [← e]; exact hk)) (h.st.rb k hk)
theorem Rq.rowne (h : Rq w Fs Rs Fo R B g gs gt S r vW vE vL vO vA vs os as_) :
 (vW.ownBlock ≠ some g /\ vE.ownBlock ≠ some g /\ vO.ownBlock ≠ some g /\ vA.ownBlock ≠ some g) /\ (vW.ownBlock ≠ some gt /\ vE.ownBlock ≠ some gt /\ vO.ownBlock ≠ some gt /\ vA.ownBlock ≠ some gt) /\ g ≠ gt :=
 ⟨⟨Zv h.wa h.at_ (by decide), Zv h.ev h.at_ (by decide), Zv h.of h.at_ (by decide), Zv h.at' h.at_ (by decide)⟩, ⟨Zv h.wa h.tt (by decide), Zv h.ev h.tt (by decide), Zv h.of h.tt (by decide), Zv h.at' h.tt (by decide)⟩, Zm h.at_ h.tt (by decide)⟩
theorem Rq.endW (h : Rq w Fs Rs Fo R B g gs gt S r vW vE vL vO vA vs os as_) (e : En) (ho : ∀ k, k ≠ g -> w'.heap[k]? = w.heap[k]?) (hs : w'.heap.size = w.heap.size)
 (hat : w'.heap[g]? = some (.cells #[P_ gs, vW, vE, I_ e.o, I_ e.f, I_ e.g, I_ e.n, I_ e.a, P_ gt] 45 (0, 0))) : Rq w' Fs Rs Fo R B g gs gt S { r with e := e } vW vE vL vO vA vs os as_ := by
 obtain ⟨h1, h2, hk⟩ := h.part h.fg (fun k hk _ => ho k hk) (Nat.le_of_eq hs.symm)
 obtain ⟨⟨n1, n2, n3, n4⟩, _, n5⟩ := h.rowne
 exact { h with
  at_ := hat
  st := h1
  wa := hk h.wa n1
  ev := hk h.ev n2
  tt := (ho gt (fun e => n5 e.symm)).trans h.tt
  al := h2.1
  row := h2.2
  of := hk h.of n3
  at' := hk h.at' n4
  fb := fun k hk => by rw [hs]; exact h.fb k hk
  rb := fun k hk => by rw [hs]; exact h.rb k hk }
theorem Rq.waitW {b n c : Nat} (h : Rq w Fs Rs Fo R B g gs gt S r (.slice (some ⟨b, 0, none⟩) n c) vE vL vO vA vs os as_) (i : Nat) (x : Wt) (ho : ∀ k, k ≠ b -> w'.heap[k]? = w.heap[k]?) (hs : w'.heap.size = w.heap.size)
 (hw : w'.ownsRow 0 76 6 (.slice (some ⟨b, 0, none⟩) n c) r.ws.length (w6s (r.ws.set i x))) : Rq w' Fs Rs Fo R B g gs gt S { r with ws := r.ws.set i x } (.slice (some ⟨b, 0, none⟩) n c) vE vL vO vA vs os as_ := by
 obtain ⟨h1, h2, hk⟩ := h.part (h.fW b rfl) (fun k hk _ => ho k hk) (Nat.le_of_eq hs.symm)
 obtain ⟨⟨n1, n2, n3, n4⟩, ⟨n6, _⟩, n5⟩ := h.rowne
 exact { h with
  at_ := (ho g (fun e => n1 (by rw [e]; rfl))).trans h.at_
  st := h1
  wa := by
   show w'.ownsRow 0 76 6 _ (r.ws.set i x).length _
   rw [List.length_set]
   exact hw
  ev := hk h.ev (fun e => Zo h.ev h.wa (by decide) b e rfl)
  tt := (ho gt (fun e => n6 (by rw [e]; rfl))).trans h.tt
  al := h2.1
  row := h2.2
  of := hk h.of (fun e => Zo h.of h.wa (by decide) b e rfl)
  at' := hk h.at' (fun e => Zo h.at' h.wa (by decide) b e rfl)
  fb := fun k hk => by rw [hs]; exact h.fb k hk
  rb := fun k hk => by rw [hs]; exact h.rb k hk
  n8 := ⟨by rw [List.length_set]; exact h.n8.1, h.n8.2⟩ }
theorem Rq.movT {b n c : Nat} (h : Rq w Fs Rs Fo R B g gs gt S r vW vE vL vO (.slice (some ⟨b, 0, none⟩) n c) vs os as_) (i a o : Nat) (x : List Wt) (hx : r.pe[i]? = some x) (ha : as_[i]? = some a) (ho' : os[i]? = some o) (l : List Wt) (hl : S[o]? = some l) (hal : a < l.length) (hxd : x = l.drop a) :
 Rq (w.setCell ⟨b, i, none⟩ (I_ ((a : Int) + 1))) Fs Rs Fo R B g gs gt S { r with pe := r.pe.set i x.tail } vW vE vL vO (.slice (some ⟨b, 0, none⟩) n c) vs os (as_.set i (a + 1)) /\ Ch Fo Fo w (w.setCell ⟨b, i, none⟩ (I_ ((a : Int) + 1))) := by
 have hF := h.fA b rfl
 have ho : ∀ k, k ≠ b -> (w.setCell ⟨b, i, none⟩ (I_ ((a : Int) + 1))).heap[k]? = w.heap[k]? := fun k hk => Below.heap_setCell _ _ _ _ hk
 have hs : (w.setCell ⟨b, i, none⟩ (I_ ((a : Int) + 1))).heap.size = w.heap.size := Zi _ _ _
 obtain ⟨h1, h2, hk⟩ := h.part hF (fun k hk _ => ho k hk) (Nat.le_of_eq hs.symm)
 obtain ⟨⟨n1, n2, n3, n4⟩, ⟨n6, n7, n8, n9⟩, n5⟩ := h.rowne
 refine ⟨{ h with
  at_ := (ho g (fun e => n4 (by rw [e]; rfl))).trans h.at_
  st := h1
  wa := hk h.wa (fun e => Zo h.wa h.at' (by decide) b e rfl)
  ev := hk h.ev (fun e => Zo h.ev h.at' (by decide) b e rfl)
  tt := (ho gt (fun e => n9 (by rw [e]; rfl))).trans h.tt
  al := h2.1
  row := h2.2
  of := by
   show World.ownsRow _ 0 3 1 _ (r.pe.set i x.tail).length _
   rw [List.length_set]
   exact hk h.of (fun e => h.ne b e rfl)
  at' := by
   show World.ownsRow _ 0 3 1 _ (r.pe.set i x.tail).length _
   rw [List.length_set]
   have := ZT h.at' i (I_ ((a : Int) + 1))
   simp only [nns, List.map_set, show ((a + 1 : Nat) : Int) = (a : Int) + 1 from rfl] at this ⊢
   exact this
  pos := fun j y o' a' hy hj hj' => by
   by_cases e : i = j
   · subst e
     rw [List.getElem?_set_self (G_ hx)] at hy
     rw [List.getElem?_set_self (G_ ha)] at hj'
     cases hy
     cases hj'
     rw [ho'] at hj
     cases hj
     exact ⟨l, hl, hal, by rw [hxd, List.tail_drop]⟩
   · rw [List.getElem?_set_ne e] at hy hj'
     exact h.pos j y o' a' hy hj hj'
  fb := fun k hk => by rw [hs]; exact h.fb k hk
  rb := fun k hk => by rw [hs]; exact h.rb k hk
  n8 := ⟨h.n8.1, by rw [List.length_set]; exact h.n8.2⟩ }, ZJ hF _⟩
theorem Rq.stW (h : Rq w Fs Rs Fo R B g gs gt S r vW vE vL vO vA vs os as_) {s' : St} (hs : Rt w' Fs' Rs' B' gs s') (hc : Ch Fs Fs' w w') (hr : ∀ k, Rs' k -> Rs k ∨ w.heap.size <= k) : Rq w' Fs' Rs' Fo R B' g gs gt S { r with s := s' } vW vE vL vO vA vs os as_ := by
 have ho : ∀ k, Fo k -> w'.heap[k]? = w.heap[k]? := fun k hk => hc.blk k (h.fb k hk) (h.so k hk).1
 have hR : ∀ k, R k -> w'.heap[k]? = w.heap[k]? := fun k hk => hc.blk k (h.rb k hk) (h.ro k hk).1
 exact { h with
  at_ := (ho g h.fg).trans h.at_
  st := hs
  wa := Zj h.wa fun k hk => ho k (h.fW k hk)
  ev := Zj h.ev fun k hk => ho k (h.fE k hk)
  tt := (ho gt h.ft).trans h.tt
  al := Zj h.al fun k hk => hR k (h.fL k hk)
  row := fun i l v hl hv => ⟨Zj (h.row i l v hl hv).1 fun k hk => hR k ((h.row i l v hl hv).2 k hk), (h.row i l v hl hv).2⟩
  of := Zj h.of fun k hk => ho k (h.fO k hk)
  at' := Zj h.at' fun k hk => ho k (h.fA k hk)
  so := fun k hk => ⟨fun e => by
   rcases hc.grow k e with h1 | h1
   · exact (h.so k hk).1 h1
   · have := h.fb k hk
     omega, fun e => by
   rcases hr k e with h1 | h1
   · exact (h.so k hk).2 h1
   · have := h.fb k hk
     omega⟩
  ro := fun k hk => ⟨fun e => by
   rcases hc.grow k e with h1 | h1
   · exact (h.ro k hk).1 h1
   · have := h.rb k hk
     omega, (h.ro k hk).2⟩
  fb := fun k hk => Nat.lt_of_lt_of_le (h.fb k hk) hc.size
  rb := fun k hk => Nat.lt_of_lt_of_le (h.rb k hk) hc.size }
def RrP (w : World) (G : Nat -> Prop) (B g : Nat) (S : List (List Wt)) (r' : Rz) (v : Value) (e : Ending) (w' : World) : Prop := e = .returned v /\ ∃ G', Rr w' G' B g S r' /\ Ch G G' w w'
theorem rr_wide (hG : ∀ k, G k ↔ Fs k ∨ Rs k ∨ Fo k ∨ R k) (h : Rq w' Fs Rs Fo R B g gs gt S r vW vE vL vO vA vs os as_) (c : Ch Fo Fo w w') : Rr w' G B g S r /\ Ch G G w w' :=
 ⟨⟨_, _, _, _, _, _, _, _, _, _, _, _, _, _, h, hG⟩, c.wide (fun k hk => (hG k).2 (.inr (.inr (.inl hk)))) fun _ hk => .inl hk⟩
end
def w6V (x : Wt) : Value := .agg #[I_ x.k, I_ x.o, I_ x.a, I_ x.v.1, I_ x.v.2.1, .int .u64 x.v.2.2]
def h3V (x : V3) : Value := .agg #[I_ x.1, I_ x.2.1, I_ x.2.2]
def setN (w : World) (g : Nat) (e0 e1 e2 e3 e4 : Int) : World := ((((w.setCell ⟨g, 3, none⟩ (I_ e0)).setCell ⟨g, 4, none⟩ (I_ e1)).setCell ⟨g, 5, none⟩ (I_ e2)).setCell ⟨g, 6, none⟩ (I_ e3)).setCell ⟨g, 7, none⟩ (I_ e4)
theorem setN_ne {w : World} {g k : Nat} {e0 e1 e2 e3 e4 : Int} (h : k ≠ g) : (setN w g e0 e1 e2 e3 e4).heap[k]? = w.heap[k]? :=
 (Below.heap_setCell _ _ _ _ h).trans ((Below.heap_setCell _ _ _ _ h).trans ((Below.heap_setCell _ _ _ _ h).trans ((Below.heap_setCell _ _ _ _ h).trans (Below.heap_setCell _ _ _ _ h))))
theorem setN_size {w : World} {g : Nat} {e0 e1 e2 e3 e4 : Int} : (setN w g e0 e1 e2 e3 e4).heap.size = w.heap.size := by
 unfold setN
 simp only [Zi]
theorem ch_setN {w : World} {Fo : Nat -> Prop} {g : Nat} (hg : Fo g) {e0 e1 e2 e3 e4 : Int} : Ch Fo Fo w (setN w g e0 e1 e2 e3 e4) := (ZJ hg _).trans ((ZJ hg _).trans ((ZJ hg _).trans ((ZJ hg _).trans (ZJ hg _))))
theorem setN_at {w : World} {g : Nat} {y0 y1 y2 y3 y4 y5 y6 y7 y8 : Value} {T : TypeId} (h : w.heap[g]? = some (.cells #[y0, y1, y2, y3, y4, y5, y6, y7, y8] T (0, 0))) (e0 e1 e2 e3 e4 : Int) :
 (setN w g e0 e1 e2 e3 e4).heap[g]? = some (.cells #[y0, y1, y2, I_ e0, I_ e1, I_ e2, I_ e3, I_ e4, y8] T (0, 0)) := by
 have h0 : (w.setCell ⟨g, 3, none⟩ (I_ e0)).heap[g]? = some (.cells #[y0, y1, y2, I_ e0, y4, y5, y6, y7, y8] T (0, 0)) := heap_setCell_same _ _ _ _ _ _ h
 have h1 : ((w.setCell ⟨g, 3, none⟩ (I_ e0)).setCell ⟨g, 4, none⟩ (I_ e1)).heap[g]? = some (.cells #[y0, y1, y2, I_ e0, I_ e1, y5, y6, y7, y8] T (0, 0)) := heap_setCell_same _ _ _ _ _ _ h0
 have h2 : (((w.setCell ⟨g, 3, none⟩ (I_ e0)).setCell ⟨g, 4, none⟩ (I_ e1)).setCell ⟨g, 5, none⟩ (I_ e2)).heap[g]? = some (.cells #[y0, y1, y2, I_ e0, I_ e1, I_ e2, y6, y7, y8] T (0, 0)) := heap_setCell_same _ _ _ _ _ _ h1
 have h3 : ((((w.setCell ⟨g, 3, none⟩ (I_ e0)).setCell ⟨g, 4, none⟩ (I_ e1)).setCell ⟨g, 5, none⟩ (I_ e2)).setCell ⟨g, 6, none⟩ (I_ e3)).heap[g]? = some (.cells #[y0, y1, y2, I_ e0, I_ e1, I_ e2, I_ e3, y7, y8] T (0, 0)) := heap_setCell_same _ _ _ _ _ _ h2
 exact heap_setCell_same _ _ _ _ _ _ h3
theorem RrP.mk {w wa w' : World} {G G' : Nat -> Prop} {B g : Nat} {S : List (List Wt)} {r' : Rz} {v v' : Value} (hv : v = v') (hb : Below w.heap.size w wa) (h : Rr w' G' B g S r' /\ Ch G G' wa w') : RrP w G B g S r' v' (.returned v) w' := ⟨by rw [hv], G', h.1, (Ch.of_bel hb).trans h.2⟩
theorem rFault_any {w : World} {G : Nat -> Prop} {B g : Nat} {S : List (List Wt)} {r : Rz} (h : Rr w G B g S r) (i : Int) (f n a : Int) : Calls Tryz.prog 41 #[P_ g, I_ i, h3V (f, n, a)] w (RrP w G B g S { r with e := ⟨3, f, i, n, a⟩ } (.tuple #[])) := by
 unfold h3V
 simp only
 obtain ⟨Fs, Rs, Fo, R, gs, gt, vW, vE, vL, vO, vA, vs, os, as_, h, hG⟩ := h
 have B0 := Zd w (.cells #[I_ f, I_ n, I_ a] 100)
 have h1 := h.bel B0
 have HE := Za (rr_wide hG (h1.endW (w' := setN (w.alloc (.cells #[I_ f, I_ n, I_ a] 100)) g 3 f i n a) ⟨3, f, i, n, a⟩ (fun k hk => setN_ne hk) setN_size (setN_at h1.at_ _ _ _ _ _)) (ch_setN h1.fg))
 obtain ⟨_, ⟨c3, c4, c5, c6, c7⟩, _⟩ := h1.cells
 have f3 := Zc h1.at_ 3
 have f4 := Zc h1.at_ 4
 have f5 := Zc h1.at_ 5
 have f6 := Zc h1.at_ 6
 have f7 := Zc h1.at_ 7
 have HB := Za B0
 have HV := Za (B_ w (.cells #[I_ f, I_ n, I_ a] 100))
 clear h h1 hG B0
 go_enter Tryz.func41, Tryz.ntmps41
 go_upto_region 1 with fail
 generalize w.alloc _ = w1 at *
 have v0 := Zb HV.out 0 _ rfl
 have v1 := Zb HV.out 1 _ rfl
 have v2 := Zb HV.out 2 _ rfl
 go_wp2_with fail
 go_end0
 exact RrP.mk rfl HB.out HE.out
def setW (w : World) (b i : Nat) (x : Wt) : World := (((((((w).setCell ⟨b, i * 6, none⟩ (I_ x.k)).setCell ⟨b, i * 6 + 1, none⟩ (I_ x.o)).setCell ⟨b, i * 6 + 2, none⟩ (I_ x.a)).setCell ⟨b, i * 6 + 3, none⟩ (I_ x.v.1)).setCell ⟨b, i * 6 + 4, none⟩ (I_ x.v.2.1)).setCell ⟨b, i * 6 + 5, none⟩ (.int .u64 x.v.2.2))
theorem setW_ne {w : World} {b i k : Nat} {x : Wt} (h : k ≠ b) : (setW w b i x).heap[k]? = w.heap[k]? :=
 (Below.heap_setCell _ _ _ _ h).trans ((Below.heap_setCell _ _ _ _ h).trans ((Below.heap_setCell _ _ _ _ h).trans ((Below.heap_setCell _ _ _ _ h).trans ((Below.heap_setCell _ _ _ _ h).trans (Below.heap_setCell _ _ _ _ h)))))
theorem setW_size {w : World} {b i : Nat} {x : Wt} : (setW w b i x).heap.size = w.heap.size := by
 unfold setW
 simp only [Zi]
theorem ch_setW {w : World} {Fo : Nat -> Prop} {b i : Nat} {x : Wt} (hg : Fo b) : Ch Fo Fo w (setW w b i x) := (ZJ hg _).trans ((ZJ hg _).trans ((ZJ hg _).trans ((ZJ hg _).trans ((ZJ hg _).trans (ZJ hg _)))))
theorem setW_own {w : World} {b n c i : Nat} {l : List Wt} (x : Wt) (h : w.ownsRow 0 76 6 (.slice (some ⟨b, 0, none⟩) n c) l.length (w6s l)) : (setW w b i x).ownsRow 0 76 6 (.slice (some ⟨b, 0, none⟩) n c) l.length (w6s (l.set i x)) := by
 rw [w6s_set]
 exact ZT (ZT (ZT (ZT (ZT (ZT h _ _) _ _) _ _) _ _) _ _) _ _
theorem rTold_fault {w : World} {G : Nat -> Prop} {B g : Nat} {S : List (List Wt)} {r : Rz} (h : Rr w G B g S r) (i : Nat) (x : Wt) (f n a : Int) (hf : ¬ f = 0) : Calls Tryz.prog 76 #[P_ g, I_ (i : Nat), w6V x, h3V (f, n, a)] w (RrP w G B g S { r with e := ⟨3, f, (i : Nat), n, a⟩ } (.tuple #[])) := by
  unfold h3V w6V
  simp only
  have HB := Za (Zu (Zd w (.cells #[I_ x.k, I_ x.o, I_ x.a, I_ x.v.1, I_ x.v.2.1, .int .u64 x.v.2.2] 76)) (.cells #[I_ f, I_ n, I_ a] 100))
  have Y1 : Hid (((w.alloc (.cells #[I_ x.k, I_ x.o, I_ x.a, I_ x.v.1, I_ x.v.2.1, .int .u64 x.v.2.2] 76)).alloc (.cells #[I_ f, I_ n, I_ a] 100)).heap[w.heap.size]? = some (.cells #[I_ x.k, I_ x.o, I_ x.a, I_ x.v.1, I_ x.v.2.1, .int .u64 x.v.2.2] 76 (0, 0))) := Za (((Zd _ _).block _ (by simp)).trans (B_ w (.cells #[I_ x.k, I_ x.o, I_ x.a, I_ x.v.1, I_ x.v.2.1, .int .u64 x.v.2.2] 76)))
  have Y2 : Hid (((w.alloc (.cells #[I_ x.k, I_ x.o, I_ x.a, I_ x.v.1, I_ x.v.2.1, .int .u64 x.v.2.2] 76)).alloc (.cells #[I_ f, I_ n, I_ a] 100)).heap[w.heap.size + 1]? = some (.cells #[I_ f, I_ n, I_ a] 100 (0, 0))) := Za (by
    have e1 := B_ (w.alloc (.cells #[I_ x.k, I_ x.o, I_ x.a, I_ x.v.1, I_ x.v.2.1, .int .u64 x.v.2.2] 76)) (.cells #[I_ f, I_ n, I_ a] 100)
    have hs : (w.alloc (.cells #[I_ x.k, I_ x.o, I_ x.a, I_ x.v.1, I_ x.v.2.1, .int .u64 x.v.2.2] 76)).heap.size = w.heap.size + 1 := by simp
    rw [hs] at e1
    exact e1)
  have FA := Za (rFault_any (h.bel HB.out) (i : Int) f n a)
  unfold h3V at FA
  simp only at FA
  clear h
  go_enter Tryz.func76, Tryz.ntmps76
  go_upto_region 1 with fail
  generalize (w.alloc _).alloc _ = w1 at *
  have v0 := Zb Y2.out 0 _ rfl
  have v1 := Zb Y2.out 1 _ rfl
  have v2 := Zb Y2.out 2 _ rfl
  go_wp2_with fail
  refine FA.out.mono ?_
  rintro e w2 ⟨rfl, G', hr, c⟩
  have Z := Za (And.intro hr c)
  clear hr c
  go_wp2_with fail
  go_end0
  exact RrP.mk rfl HB.out Z.out
theorem rTold_ok {w : World} {G : Nat -> Prop} {B g : Nat} {S : List (List Wt)} {r : Rz} (h : Rr w G B g S r) (i : Nat) (x : Wt) ( n a : Int) (hi : i < r.ws.length) : Calls Tryz.prog 76 #[P_ g, I_ (i : Nat), w6V x, h3V (0, n, a)] w (RrP w G B g S { r with ws := r.ws.set i x } (.tuple #[])) := by
  unfold h3V w6V
  simp only
  have HB := Za (Zu (Zd w (.cells #[I_ x.k, I_ x.o, I_ x.a, I_ x.v.1, I_ x.v.2.1, .int .u64 x.v.2.2] 76)) (.cells #[I_ 0, I_ n, I_ a] 100))
  have Y1 : Hid (((w.alloc (.cells #[I_ x.k, I_ x.o, I_ x.a, I_ x.v.1, I_ x.v.2.1, .int .u64 x.v.2.2] 76)).alloc (.cells #[I_ 0, I_ n, I_ a] 100)).heap[w.heap.size]? = some (.cells #[I_ x.k, I_ x.o, I_ x.a, I_ x.v.1, I_ x.v.2.1, .int .u64 x.v.2.2] 76 (0, 0))) := Za (((Zd _ _).block _ (by simp)).trans (B_ w (.cells #[I_ x.k, I_ x.o, I_ x.a, I_ x.v.1, I_ x.v.2.1, .int .u64 x.v.2.2] 76)))
  have Y2 : Hid (((w.alloc (.cells #[I_ x.k, I_ x.o, I_ x.a, I_ x.v.1, I_ x.v.2.1, .int .u64 x.v.2.2] 76)).alloc (.cells #[I_ 0, I_ n, I_ a] 100)).heap[w.heap.size + 1]? = some (.cells #[I_ 0, I_ n, I_ a] 100 (0, 0))) := Za (by
    have e1 := B_ (w.alloc (.cells #[I_ x.k, I_ x.o, I_ x.a, I_ x.v.1, I_ x.v.2.1, .int .u64 x.v.2.2] 76)) (.cells #[I_ 0, I_ n, I_ a] 100)
    have hs : (w.alloc (.cells #[I_ x.k, I_ x.o, I_ x.a, I_ x.v.1, I_ x.v.2.1, .int .u64 x.v.2.2] 76)).heap.size = w.heap.size + 1 := by simp
    rw [hs] at e1
    exact e1)
  obtain ⟨Fs, Rs, Fo, R, gs, gt, vW, vE, vL, vO, vA, vs, os, as_, h, hG⟩ := h
  have h1 := h.bel HB.out
  obtain ⟨bW, cW, eW, hcW, hmW⟩ := Zq h1.wa (by omega)
  obtain ⟨nW, hnW⟩ : ∃ n, n = r.ws.length := ⟨_, rfl⟩
  rw [← hnW] at eW hi
  subst eW
  have hd := h1.bel (Zp (Below.refl _ _))
  have HE := Za (rr_wide hG (hd.waitW (w' := setW ((w.alloc (.cells #[I_ x.k, I_ x.o, I_ x.a, I_ x.v.1, I_ x.v.2.1, .int .u64 x.v.2.2] 76)).alloc (.cells #[I_ 0, I_ n, I_ a] 100)).drew bW i x) i x (fun k hk => setW_ne hk) setW_size (setW_own x hd.wa)) (ch_setW (hd.fW bW rfl)))
  have c1 := h1.cells.1.2.1
  obtain ⟨y, hy⟩ : ∃ y, r.ws[i]? = some y := ⟨_, List.getElem?_eq_getElem (by omega)⟩
  obtain ⟨p0, p1, p2, p3, p4, p5⟩ := w6s_at _ _ _ hy
  have HO := Za (And.intro (Zk hd.wa _ _ p0) (And.intro (Zk hd.wa _ _ p1) (And.intro (Zk hd.wa _ _ p2) (And.intro (Zk hd.wa _ _ p3) (And.intro (Zk hd.wa _ _ p4) (Zk hd.wa _ _ p5))))))
  have HB2 := Za (Zp HB.out)
  clear h h1 hd hG hnW hy p0 p1 p2 p3 p4 p5 hcW hmW HB
  go_enter Tryz.func76, Tryz.ntmps76
  go_upto_region 1 with fail
  generalize (w.alloc _).alloc _ = w1 at *
  have v0 := Zb Y2.out 0 _ rfl
  have u0 := Zb Y1.out 0 _ rfl
  have u1 := Zb Y1.out 1 _ rfl
  have u2 := Zb Y1.out 2 _ rfl
  have u3 := Zb Y1.out 3 _ rfl
  have u4 := Zb Y1.out 4 _ rfl
  have u5 := Zb Y1.out 5 _ rfl
  go_wp2_with fail
  refine ZW 7 ZK (by kernel_rfl) ?_
  simp only [List.take_succ_cons, List.take_zero, List.drop_succ_cons, List.drop_zero]
  repeat (first | go_big_quiet_skip | (go_big_quiet_want; go_big_quiet_op; go_big_quiet_on))
  refine wpQuiet_nil ?_
  clear v0 u0 u1 u2 u3 u4 u5 c1 Y1 Y2
  obtain ⟨⟨p0, q0⟩, ⟨p1, q1⟩, ⟨p2, q2⟩, ⟨p3, q3⟩, ⟨p4, q4⟩, p5, q5⟩ := HO.out
  generalize w1.drew = wd at *
  go_wp2_with fail
  go_end0
  exact RrP.mk rfl HB2.out HE.out
end Go.Proofs.YtfojninaginnoaaGreatDoor.Ck
