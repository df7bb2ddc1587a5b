/- Texts of this proof, packed: contracts of the program's functions, and the plain model that they are held against. -/
import Derived.Test.YtfojninaginnoaaGreatDoorVan
set_option maxRecDepth 20000
set_option maxHeartbeats 4000000
namespace Go.Proofs.YtfojninaginnoaaGreatDoor.Ck
open Go.RowKit
theorem step_4 {w : World} {G : Nat -> Prop} {g : Nat} {S : List (List Wt)} {r : Rm} {p : List Addr} (h : Rn w G g S r) (h17 : E2 w p) (i : Nat) (x : Gr) (hx : r.gs[i]? = some x) (hl : r.ev.length <= 90000) (hk : x.w.k = 4) (hc : Ya r x.w = true) (hm : lk r.s.M x.w.o = some true) : Calls Tryz.prog 31 #[P_ g, I_ (i : Nat)] w (RnP w G g S (Yg S r i) (.tuple #[])) := by
  have hst : Yg S r i = (Ye (ZI { r with s := (ZH r.s x.w).1 } i x.w.o) i).1 := by
    unfold Yg
    rw [hx]
    simp only
    rw [if_neg (fun e => e.2 hm), if_neg (by omega), if_neg (by omega), if_neg (by omega)]
  rw [hst]
  clear hst
  have NG : Hid (¬ G w.heap.size) := Za (fun hG => absurd (h.fb _ hG) (by omega))
  have HX := Za hx
  obtain ⟨Fs, Fo, R, gs, vC, vB, vG, vE, ps, ts, h, hG⟩ := h
  obtain ⟨bG, cG, b, t, va, eG, _, _, _, _, _, hA, ⟨s1, s2, s3⟩, s4⟩ := h.see hx
  subst eG
  obtain ⟨aa, na, ca, rfl⟩ := hA.form
  have hi : i < r.gs.length := (G_ hx)
  have hn8 := h.n8
  obtain ⟨⟨c0, c1, c2, c3, c4⟩, c5, c6, c7, c8, c9⟩ := h.cells
  have hgl := h.fb g h.fg
  obtain ⟨rest, ⟨k, o, a, v0, v1, v2⟩⟩ := x
  simp only at s4
  have b1 := Zb s4 1 _ rfl
  have b2 := Zb s4 2 _ rfl
  have b3 := Zb s4 3 _ rfl
  have b4 := Zb s4 4 _ rfl
  have b5 := Zb s4 5 _ rfl
  have b6 := Zb s4 6 _ rfl
  have b7 := Zb s4 7 _ rfl
  obtain ⟨n, hn⟩ : ∃ n, n = r.gs.length := ⟨_, rfl⟩
  rw [← hn] at hi hn8 c3
  have HN := Za hn
  have hi1 : (i : Int) < (n : Int) := by omega
  have hi0 : (0 : Int) <= (i : Int) := by omega
  have hd0 : decide ((i : Int) < 0) = false := by simp
  have hd1 : decide ((n : Int) <= (i : Int)) = false := by simp; omega
  clear hn
  have B0 := Za (Zd w (.cells #[I_ k, I_ o, I_ a, I_ v0, I_ v1, .int .u64 v2, .slice aa na ca] 67))
  have V0 := Za (Wv.new w k o a v0 v1 v2 (.slice aa na ca))
  have HU := Za (h.bel B0.out)
  have HG := Za hG
  have H7 := Za (h17.below (Nat.le_refl _) B0.out)
  have HL := Za hl
  have AR := Za (hA.keep (fun k hk => B0.out.block k (h.rb k hk)) (fun _ h => h))
  have U0 := Za ((B0.out.cell (p := ⟨g, 0, none⟩) hgl).trans c0)
  have hsl := h.st.lt
  simp only at hc hk hm
  subst hk
  have hlo : (lk r.s.M o).getD false = true := by rw [hm]; rfl
  have LO := Za (fun (m : Nat) => Locked_q (HU.out.st.bel (below_drewN (Below.refl _ _) m)) (H7.out.below (Nat.le_refl _) (below_drewN (Below.refl _ _) m)) o)
  rw [hlo] at LO
  have HZ : (4 : Int) = 5 -> YI r.s o = false := fun e => absurd e (by decide)
  clear hlo hm
  obtain ⟨sh, hsh⟩ : ∃ sh, sh = ZH r.s ⟨4, o, a, (v0, v1, v2)⟩ := ⟨_, rfl⟩
  have SH := Za (fun (W : World) (hS : Stt W Fs gs r.s) (h7 : E2 W p) => share_any hS h7 4 o a v0 v1 v2 aa na ca hc (by first | decide | exact h10) (by first | decide | exact h12) HZ)
  have SM := Za (share_t r.s ⟨4, o, a, (v0, v1, v2)⟩)
  rw [← hsh] at SH SM ⊢
  clear hsh hc
  clear h hG h17 hl hA hx c0 c1 c2 c4 c5 c6 c7 c8 c9
  go_enter Tryz.func31, Tryz.ntmps31
  go_upto_region 4 with fail
  generalize w.alloc _ = w1 at *
  clear b1 b2 b3 b4 b5 b6 b7 s1 c3
  obtain ⟨q0, q1, q2, q3, q4, q5, q6⟩ := V0.out.all
  have u0 := U0.out
  go_quiet (first | (go_at_call 64; exact Calls.quiet_of (LO.out _)))
  have HU' := Za (HU.out.bel (w' := w1.drewN nq) (below_drewN (Below.refl _ _) nq))
  have B0' := Za (below_drewN B0.out nq)
  have V0' : Hid (Wv (w1.drewN nq) w.heap.size 4 o a (v0, v1, v2) (.slice aa na ca)) := V0
  have H7' : Hid (E2 (w1.drewN nq) p) := Za (H7.out.below (Nat.le_refl _) (below_drewN (Below.refl _ _) nq))
  have U0' : Hid ((w1.drewN nq).cell? ⟨g, 0, none⟩ = some (P_ gs)) := U0
  have AR' := Za (AR.out.keep (w' := w1.drewN nq) (fun _ _ => rfl) (fun _ h => h))
  clear HU B0 V0 H7 U0 AR q0 q1 q2 q3 q4 q5 q6 u0
  have HU := HU'
  have B0 := B0'
  have V0 := V0'
  have H7 := H7'
  have U0 := U0'
  have AR := AR'
  clear HU' B0' V0' H7' U0' AR'
  generalize w1.drewN nq = w2 at *
  obtain ⟨q0, q1, q2, q3, q4, q5, q6⟩ := V0.out.all
  have u0 := U0.out
  go_upto_region 8 with fail
  go_quiet (fail)
  have HU' := Za (HU.out.bel (w' := w2.drewN nq) (below_drewN (Below.refl _ _) nq))
  have B0' := Za (below_drewN B0.out nq)
  have V0' : Hid (Wv (w2.drewN nq) w.heap.size 4 o a (v0, v1, v2) (.slice aa na ca)) := V0
  have H7' : Hid (E2 (w2.drewN nq) p) := Za (H7.out.below (Nat.le_refl _) (below_drewN (Below.refl _ _) nq))
  have U0' : Hid ((w2.drewN nq).cell? ⟨g, 0, none⟩ = some (P_ gs)) := U0
  have AR' := Za (AR.out.keep (w' := w2.drewN nq) (fun _ _ => rfl) (fun _ h => h))
  clear HU B0 V0 H7 U0 AR q0 q1 q2 q3 q4 q5 q6 u0
  have HU := HU'
  have B0 := B0'
  have V0 := V0'
  have H7 := H7'
  have U0 := U0'
  have AR := AR'
  clear HU' B0' V0' H7' U0' AR'
  generalize w2.drewN nq = w3 at *
  obtain ⟨q0, q1, q2, q3, q4, q5, q6⟩ := V0.out.all
  have u0 := U0.out
  have KG : Hid (g < w.heap.size) := Za hgl
  have NF : Hid (¬ Fs w.heap.size) := Za (fun e => NG.out ((HG.out _).2 (.inl e)))
  have KL0 : Hid (∀ k ∈ [g, w.heap.size], k < w3.drew.heap.size) := Za (fun k hk => by
    show k < w3.heap.size
    have h1 := V0.out.lt
    simp only [List.mem_cons, List.mem_nil_iff, or_false] at hk
    have h2 := hgl
    rcases hk with rfl | rfl <;> omega)
  go_upto_region 1 with fail
  go_cut [5] from 16 to 21 (fun x5 wc => ∃ bl G', x5 = P_ bl /\ Hid ((Rn wc G' g S { r with s := sh.1 } /\ Ch G G' w wc) /\ Val wc bl sh.2.1 sh.2.2.1 sh.2.2.2 /\ (Wv wc w.heap.size 4 o a (v0, v1, v2) (.slice aa na ca) /\ ¬ G' w.heap.size /\ ¬ G' bl)))
  case first =>
    refine wp_region_held_drew (S := fun w' => Yp [g, w.heap.size] w3.drew w') ZJ (Yp.refl KL0.out) (fun hH => ?_)
    have HU' := Za (HU.out.bel (w' := w3.drew) (below_drewN (Below.refl _ _) 1))
    have B0' := Za (Zp B0.out)
    have H7' : Hid (E2 w3.drew p) := Za (H7.out.below (Nat.le_refl _) (below_drewN (Below.refl _ _) 1))
    have V0' : Hid (Wv w3.drew w.heap.size 4 o a (v0, v1, v2) (.slice aa na ca)) := V0
    have U0' : Hid (w3.drew.cell? ⟨g, 0, none⟩ = some (P_ gs)) := U0
    clear HU B0 H7 V0 U0 q0 q1 q2 q3 q4 q5 q6 u0 AR
    have HU := HU'
    have B0 := B0'
    have H7 := H7'
    have V0 := V0'
    have U0 := U0'
    clear HU' B0' H7' V0' U0'
    generalize w3.drew = Y0 at *
    refine H2_ 0 hH ?_
    simp only [Act.put, S_]
    refine H2_ 1 hH ?_
    simp only [Act.put, S_]
    refine H2_ 2 hH ?_
    simp only [Act.put, S_]
    refine H_ 3 (v := ?_) ?_ hH ?_
    rotate_left 1
    · (intro w hSw; have q := hSw.cell (by simp) U0.out; clear hSw; go_simp <;> with_reducible rfl)
    simp only [Act.put, S_]
    refine H_ 4 (v := ?_) ?_ hH ?_
    rotate_left 1
    · (intro w hSw; obtain ⟨z0, z1, z2, z3, z4, z5, z6⟩ := V0.out.all; have q0 := hSw.cell (by simp) z0; have q1 := hSw.cell (by simp) z1; have q2 := hSw.cell (by simp) z2; have q3 := hSw.cell (by simp) z3; have q4 := hSw.cell (by simp) z4; have q5 := hSw.cell (by simp) z5; have q6 := hSw.cell (by simp) z6; clear hSw; go_simp <;> with_reducible rfl)
    simp only [Act.put, S_]
    refine wpAnyH_ready (rs := [5, 6]) (by kernel_rfl) (by decide) ?_
    refine AllReadyH.cons rfl (fun K1 hK1 => ?_) (AllReadyH.cons rfl (fun K1 hK1 => ?_) AllReadyH.nil)
    · have hH0 : w.heap.size < Y0.heap.size := by have h1 := hH.1; have h2 := hH.2.1 w.heap.size (by simp); omega
      go_simp
      refine (SH.out Y0 HU.out.st H7.out).mono ?_
      rintro e Y1 ⟨rfl, Fs', st, ch⟩
      have hU := HU.out.state st ch SM.out
      refine hK1.out _ _ (hH.ch ch (fun k hk => by
        simp only [List.mem_cons, List.mem_nil_iff, or_false] at hk
        rcases hk with rfl | rfl
        · exact fun e => HU.out.so _ e HU.out.fg
        · exact fun e => NF.out e)) (fun hH => ?_)
      clear hK1 K1
      have HQ := Za (And.intro hU ((Ch.of_bel B0.out).trans (ch.wide (G := G) (G' := fun k => Fs' k ∨ Fo k ∨ R k) (fun k hk => (HG.out k).2 (.inl hk)) (fun k hk => by
        rcases hk with h1 | h1 | h1
        · rcases ch.grow k h1 with h2 | h2
          · exact .inl ((HG.out k).2 (.inl h2))
          · exact .inr h2
        · exact .inl ((HG.out k).2 (.inr (.inl h1)))
        · exact .inl ((HG.out k).2 (.inr (.inr h1))))))) 
      have GL : Hid (¬ Fs' w.heap.size) := Za (fun hF => by
        rcases ch.grow _ hF with h2 | h2
        · exact NF.out h2
        · have h1 := hH.1
          have h3 := hH.2.1 w.heap.size (by simp)
          have h4 := hH0
          omega)
      clear st ch hU HU B0 H7 hH0
      refine RH_ 6 (fun K1 hK1 => ?_)
      have A2 := Zd Y1 (.cells #[I_ 0, I_ 0, .int .u64 0] 64)
      have N2 := Val.new Y1 0 0 0
      have L0 : w.heap.size < Y1.heap.size := by have h1 := hH.1; have h2 := hH.2.1 w.heap.size (by simp); omega
      go_simp
      refine hK1.out _ _ (hH.al A2) (fun hH => ?_)
      clear hK1 K1
      obtain ⟨bl, hbl⟩ : ∃ bl, Y1.heap.size = bl := ⟨_, rfl⟩
      rw [hbl] at N2 L0 ⊢
      have LB := Za L0
      have ZB := Za N2
      have GB : Hid (¬ (Fs' bl ∨ Fo bl ∨ R bl)) := Za (fun hF => absurd (HQ.out.1.lt hF) (by omega))
      have HQ' := Za (And.intro (HQ.out.1.bel A2) (HQ.out.2.trans (Ch.of_bel A2)))
      clear HQ
      have HQ := HQ'
      clear HQ'
      clear A2 N2 L0 hbl
      generalize Y1.alloc _ = Y2 at *
      refine RH_ 7 (fun K1 hK1 => ?_)
      obtain ⟨⟨f0, f1, f2⟩, e0, e1, e2⟩ := ZB.out.all
      have BB : Below w.heap.size Y2 (((Y2.setCell ⟨bl, 0, none⟩ (I_ sh.2.1)).setCell ⟨bl, 1, none⟩ (I_ sh.2.2.1)).setCell ⟨bl, 2, none⟩ (.int .u64 sh.2.2.2)) := Zt (Below.refl _ _) (Nat.le_of_lt LB.out) _ _ _
      have OO_ : ∀ k, k ≠ bl -> (((Y2.setCell ⟨bl, 0, none⟩ (I_ sh.2.1)).setCell ⟨bl, 1, none⟩ (I_ sh.2.2.1)).setCell ⟨bl, 2, none⟩ (.int .u64 sh.2.2.2)).heap[k]? = Y2.heap[k]? := fun k hk => ne3 hk
      have SS : Y2.heap.size = (((Y2.setCell ⟨bl, 0, none⟩ (I_ sh.2.1)).setCell ⟨bl, 1, none⟩ (I_ sh.2.2.1)).setCell ⟨bl, 2, none⟩ (.int .u64 sh.2.2.2)).heap.size := by simp only [Zi]
      have EE : Val (((Y2.setCell ⟨bl, 0, none⟩ (I_ sh.2.1)).setCell ⟨bl, 1, none⟩ (I_ sh.2.2.1)).setCell ⟨bl, 2, none⟩ (.int .u64 sh.2.2.2)) bl sh.2.1 sh.2.2.1 sh.2.2.2 := ZB.out.set _ _ _
      go_simp
      refine hK1.out _ _ (hH.turn (t := bl) (Nat.le_of_eq SS) (fun k _ hk => OO_ k hk) (fun hm => by have := LB.out; have := KG.out; simp at hm; omega)) (fun hH => ?_)
      clear hK1 K1 f0 f1 f2 e0 e1 e2
      have RN9 := Za (And.intro (HQ.out.1.rn.keep (w' := (((Y2.setCell ⟨bl, 0, none⟩ (I_ sh.2.1)).setCell ⟨bl, 1, none⟩ (I_ sh.2.2.1)).setCell ⟨bl, 2, none⟩ (.int .u64 sh.2.2.2))) (fun k hk => OO_ k (fun e => GB.out (e ▸ hk))) (Nat.le_of_eq SS)) (HQ.out.2.below BB))
      have ZV := Za EE
      have WV := Za (show Wv (((Y2.setCell ⟨bl, 0, none⟩ (I_ sh.2.1)).setCell ⟨bl, 1, none⟩ (I_ sh.2.2.1)).setCell ⟨bl, 2, none⟩ (.int .u64 sh.2.2.2)) w.heap.size 4 o a (v0, v1, v2) (.slice aa na ca) from (hH.2.2 w.heap.size (by simp)).trans V0.out)
      have NL : Hid (¬ (Fs' w.heap.size ∨ Fo w.heap.size ∨ R w.heap.size)) := Za (fun hF => by
        rcases hF with h1 | h1
        · exact GL.out h1
        · exact NG.out ((HG.out _).2 (.inr h1)))
      clear BB OO_ SS EE hH
      generalize (((Y2.setCell ⟨bl, 0, none⟩ (I_ sh.2.1)).setCell ⟨bl, 1, none⟩ (I_ sh.2.2.1)).setCell ⟨bl, 2, none⟩ (.int .u64 sh.2.2.2)) = Y3 at *
      refine wpAnyH_done (by kernel_rfl) ?_ _
      go_wp2_with fail
      go_meet
      case rel => exact ⟨bl, _, rfl, Za ⟨RN9.out, ZV.out, WV.out, NL.out, GB.out⟩⟩
    · have A1 := Zd Y0 (.cells #[I_ 0, I_ 0, .int .u64 0] 64)
      have N1 := Val.new Y0 0 0 0
      have L0 : w.heap.size < Y0.heap.size := by have h1 := hH.1; have h2 := hH.2.1 w.heap.size (by simp); omega
      go_simp
      refine hK1.out _ _ (hH.al A1) (fun hH => ?_)
      clear hK1 K1
      obtain ⟨bl, hbl⟩ : ∃ bl, Y0.heap.size = bl := ⟨_, rfl⟩
      rw [hbl] at N1 L0 ⊢
      have LB := Za L0
      have ZB := Za N1
      have GB0 : Hid (¬ (Fs bl ∨ Fo bl ∨ R bl)) := Za (fun hF => absurd (HU.out.lt hF) (by omega))
      have HU' := Za (HU.out.bel A1)
      have B0' := Za (Zg B0.out A1)
      have H7' := Za (H7.out.below (Nat.le_refl _) A1)
      clear HU B0 H7
      have HU := HU'
      have B0 := B0'
      have H7 := H7'
      clear HU' B0' H7'
      clear A1 N1 L0 hbl
      generalize Y0.alloc _ = Y1 at *
      refine RH_ 5 (fun K1 hK1 => ?_)
      have hH0 : w.heap.size < Y1.heap.size := by have h1 := hH.1; have h2 := hH.2.1 w.heap.size (by simp); omega
      go_simp
      refine (SH.out Y1 HU.out.st H7.out).mono ?_
      rintro e Y2 ⟨rfl, Fs', st, ch⟩
      have hU := HU.out.state st ch SM.out
      refine hK1.out _ _ (hH.ch ch (fun k hk => by
        simp only [List.mem_cons, List.mem_nil_iff, or_false] at hk
        rcases hk with rfl | rfl
        · exact fun e => HU.out.so _ e HU.out.fg
        · exact fun e => NF.out e)) (fun hH => ?_)
      clear hK1 K1
      have HQ := Za (And.intro hU ((Ch.of_bel B0.out).trans (ch.wide (G := G) (G' := fun k => Fs' k ∨ Fo k ∨ R k) (fun k hk => (HG.out k).2 (.inl hk)) (fun k hk => by
        rcases hk with h1 | h1 | h1
        · rcases ch.grow k h1 with h2 | h2
          · exact .inl ((HG.out k).2 (.inl h2))
          · exact .inr h2
        · exact .inl ((HG.out k).2 (.inr (.inl h1)))
        · exact .inl ((HG.out k).2 (.inr (.inr h1))))))) 
      have GL : Hid (¬ Fs' w.heap.size) := Za (fun hF => by
        rcases ch.grow _ hF with h2 | h2
        · exact NF.out h2
        · have h1 := hH.1
          have h3 := hH.2.1 w.heap.size (by simp)
          have h4 := hH0
          omega)
      have GB : Hid (¬ (Fs' bl ∨ Fo bl ∨ R bl)) := Za (fun hF => by
        rcases hF with h1 | h1
        · rcases ch.grow _ h1 with h2 | h2
          · exact GB0.out (.inl h2)
          · exact absurd ZB.out.lt (by omega)
        · exact GB0.out (.inr h1))
      have ZB' : Hid (Val Y2 bl 0 0 0) := Za ((ch.blk bl ZB.out.lt (fun e => GB0.out (.inl e))).trans ZB.out)
      clear ZB
      have ZB := ZB'
      clear ZB'
      clear st ch hU HU B0 H7 hH0
      refine RH_ 7 (fun K1 hK1 => ?_)
      obtain ⟨⟨f0, f1, f2⟩, e0, e1, e2⟩ := ZB.out.all
      have BB : Below w.heap.size Y2 (((Y2.setCell ⟨bl, 0, none⟩ (I_ sh.2.1)).setCell ⟨bl, 1, none⟩ (I_ sh.2.2.1)).setCell ⟨bl, 2, none⟩ (.int .u64 sh.2.2.2)) := Zt (Below.refl _ _) (Nat.le_of_lt LB.out) _ _ _
      have OO_ : ∀ k, k ≠ bl -> (((Y2.setCell ⟨bl, 0, none⟩ (I_ sh.2.1)).setCell ⟨bl, 1, none⟩ (I_ sh.2.2.1)).setCell ⟨bl, 2, none⟩ (.int .u64 sh.2.2.2)).heap[k]? = Y2.heap[k]? := fun k hk => ne3 hk
      have SS : Y2.heap.size = (((Y2.setCell ⟨bl, 0, none⟩ (I_ sh.2.1)).setCell ⟨bl, 1, none⟩ (I_ sh.2.2.1)).setCell ⟨bl, 2, none⟩ (.int .u64 sh.2.2.2)).heap.size := by simp only [Zi]
      have EE : Val (((Y2.setCell ⟨bl, 0, none⟩ (I_ sh.2.1)).setCell ⟨bl, 1, none⟩ (I_ sh.2.2.1)).setCell ⟨bl, 2, none⟩ (.int .u64 sh.2.2.2)) bl sh.2.1 sh.2.2.1 sh.2.2.2 := ZB.out.set _ _ _
      go_simp
      refine hK1.out _ _ (hH.turn (t := bl) (Nat.le_of_eq SS) (fun k _ hk => OO_ k hk) (fun hm => by have := LB.out; have := KG.out; simp at hm; omega)) (fun hH => ?_)
      clear hK1 K1 f0 f1 f2 e0 e1 e2
      have RN9 := Za (And.intro (HQ.out.1.rn.keep (w' := (((Y2.setCell ⟨bl, 0, none⟩ (I_ sh.2.1)).setCell ⟨bl, 1, none⟩ (I_ sh.2.2.1)).setCell ⟨bl, 2, none⟩ (.int .u64 sh.2.2.2))) (fun k hk => OO_ k (fun e => GB.out (e ▸ hk))) (Nat.le_of_eq SS)) (HQ.out.2.below BB))
      have ZV := Za EE
      have WV := Za (show Wv (((Y2.setCell ⟨bl, 0, none⟩ (I_ sh.2.1)).setCell ⟨bl, 1, none⟩ (I_ sh.2.2.1)).setCell ⟨bl, 2, none⟩ (.int .u64 sh.2.2.2)) w.heap.size 4 o a (v0, v1, v2) (.slice aa na ca) from (hH.2.2 w.heap.size (by simp)).trans V0.out)
      have NL : Hid (¬ (Fs' w.heap.size ∨ Fo w.heap.size ∨ R w.heap.size)) := Za (fun hF => by
        rcases hF with h1 | h1
        · exact GL.out h1
        · exact NG.out ((HG.out _).2 (.inr h1)))
      clear BB OO_ SS EE hH
      generalize (((Y2.setCell ⟨bl, 0, none⟩ (I_ sh.2.1)).setCell ⟨bl, 1, none⟩ (I_ sh.2.2.1)).setCell ⟨bl, 2, none⟩ (.int .u64 sh.2.2.2)) = Y3 at *
      refine wpAnyH_done (by kernel_rfl) ?_ _
      go_wp2_with fail
      go_meet
      case rel => exact ⟨bl, _, rfl, Za ⟨RN9.out, ZV.out, WV.out, NL.out, GB.out⟩⟩
  case rest =>
    clear HU B0 H7 V0 U0 q0 q1 q2 q3 q4 q5 q6 u0 AR KL0 SH SM NF
    obtain ⟨bl, G', rfl, CU⟩ := hcut
    obtain ⟨q0, q1, q2, q3, q4, q5, q6⟩ := CU.out.2.2.1.all
    have NO := Za (note_any CU.out.1.1 i _ HX.out o (by have := HL.out; show r.ev.length <= 100000; omega))
    have hlb := CU.out.2.1.lt
    have NBL := Za CU.out.2.2.2.2
    go_wp2_with fail
    refine NO.out.mono ?_
    rintro e w8 ⟨rfl, G8, rn8, c8⟩
    have HX8 := Za (show (ZI { r with s := sh.1 } i o).gs[i]? = _ from (congrArg (fun l => l[i]?) (note_gs _ i o)).trans HX.out)
    have AK := Za (ask_any rn8 i _ HX8.out sh.2.1 sh.2.2.1 sh.2.2.2)
    have C8 := Za (CU.out.1.2.trans c8)
    have V8 : Hid (Val w8 bl sh.2.1 sh.2.2.1 sh.2.2.2) := Za ((c8.blk bl CU.out.2.1.lt NBL.out).trans CU.out.2.1)
    clear rn8 c8 NO q0 q1 q2 q3 q4 q5 q6 CU
    obtain ⟨_, e0, e1, e2⟩ := V8.out.all
    go_wp2_with fail
    refine AK.out.mono ?_
    rintro e w9 ⟨rfl, G9, rn9, c9⟩
    have Z := Za (And.intro rn9 (C8.out.trans c9))
    clear rn9 c9 AK
    go_wp2_with fail
    go_end0
    exact RnP.mk rfl Z.out.1 Z.out.2
theorem step_5 {w : World} {G : Nat -> Prop} {g : Nat} {S : List (List Wt)} {r : Rm} {p : List Addr} (h : Rn w G g S r) (h17 : E2 w p) (i : Nat) (x : Gr) (hx : r.gs[i]? = some x) (hl : r.ev.length <= 90000) (hk : x.w.k = 5) (hc : Ya r x.w = true) (hz : YI r.s x.w.o = false) : Calls Tryz.prog 31 #[P_ g, I_ (i : Nat)] w (RnP w G g S (Yg S r i) (.tuple #[])) := by
  have hst : Yg S r i = (Ye (ZI { r with s := (ZH r.s x.w).1 } i x.w.o) i).1 := by
    unfold Yg
    rw [hx]
    simp only
    rw [if_neg (by omega), if_neg (by omega), if_neg (fun e => by rw [hz] at e; cases e.2), if_neg (by omega)]
  rw [hst]
  clear hst
  have NG : Hid (¬ G w.heap.size) := Za (fun hG => absurd (h.fb _ hG) (by omega))
  have HX := Za hx
  obtain ⟨Fs, Fo, R, gs, vC, vB, vG, vE, ps, ts, h, hG⟩ := h
  obtain ⟨bG, cG, b, t, va, eG, _, _, _, _, _, hA, ⟨s1, s2, s3⟩, s4⟩ := h.see hx
  subst eG
  obtain ⟨aa, na, ca, rfl⟩ := hA.form
  have hi : i < r.gs.length := (G_ hx)
  have hn8 := h.n8
  obtain ⟨⟨c0, c1, c2, c3, c4⟩, c5, c6, c7, c8, c9⟩ := h.cells
  have hgl := h.fb g h.fg
  obtain ⟨rest, ⟨k, o, a, v0, v1, v2⟩⟩ := x
  simp only at s4
  have b1 := Zb s4 1 _ rfl
  have b2 := Zb s4 2 _ rfl
  have b3 := Zb s4 3 _ rfl
  have b4 := Zb s4 4 _ rfl
  have b5 := Zb s4 5 _ rfl
  have b6 := Zb s4 6 _ rfl
  have b7 := Zb s4 7 _ rfl
  obtain ⟨n, hn⟩ : ∃ n, n = r.gs.length := ⟨_, rfl⟩
  rw [← hn] at hi hn8 c3
  have HN := Za hn
  have hi1 : (i : Int) < (n : Int) := by omega
  have hi0 : (0 : Int) <= (i : Int) := by omega
  have hd0 : decide ((i : Int) < 0) = false := by simp
  have hd1 : decide ((n : Int) <= (i : Int)) = false := by simp; omega
  clear hn
  have B0 := Za (Zd w (.cells #[I_ k, I_ o, I_ a, I_ v0, I_ v1, .int .u64 v2, .slice aa na ca] 67))
  have V0 := Za (Wv.new w k o a v0 v1 v2 (.slice aa na ca))
  have HU := Za (h.bel B0.out)
  have HG := Za hG
  have H7 := Za (h17.below (Nat.le_refl _) B0.out)
  have HL := Za hl
  have AR := Za (hA.keep (fun k hk => B0.out.block k (h.rb k hk)) (fun _ h => h))
  have U0 := Za ((B0.out.cell (p := ⟨g, 0, none⟩) hgl).trans c0)
  have hsl := h.st.lt
  simp only at hc hk hz
  subst hk
  have hq' : ∃ ci q, o = (ci : Nat) /\ r.s.C[ci]? = some q /\ q.room ≠ 0 := by
    unfold YI at hz
    cases hl' : lk r.s.C o with
    | none => simp [hl'] at hz
    | some q =>
      rw [hl'] at hz
      obtain ⟨ci, e, hci⟩ := ZC hl'
      exact ⟨ci, q, e, hci, by simpa using hz⟩
  obtain ⟨ci, q, rfl, hq, hr0⟩ := hq'
  have HZ : (5 : Int) = 5 -> YI r.s (ci : Nat) = false := fun _ => hz
  obtain ⟨sh, hsh⟩ : ∃ sh, sh = ZH r.s ⟨5, (ci : Nat), a, (v0, v1, v2)⟩ := ⟨_, rfl⟩
  have SH := Za (fun (W : World) (hS : Stt W Fs gs r.s) (h7 : E2 W p) => share_any hS h7 5 (ci : Nat) a v0 v1 v2 aa na ca hc (by first | decide | exact h10) (by first | decide | exact h12) HZ)
  have SM := Za (share_t r.s ⟨5, (ci : Nat), a, (v0, v1, v2)⟩)
  rw [← hsh] at SH SM ⊢
  clear hsh hc
  clear h hG h17 hl hA hx c0 c1 c2 c4 c5 c6 c7 c8 c9
  go_enter Tryz.func31, Tryz.ntmps31
  go_upto_region 4 with fail
  generalize w.alloc _ = w1 at *
  clear b1 b2 b3 b4 b5 b6 b7 s1 c3
  obtain ⟨q0, q1, q2, q3, q4, q5, q6⟩ := V0.out.all
  have u0 := U0.out
  go_quiet (fail)
  have HU' := Za (HU.out.bel (w' := w1.drewN nq) (below_drewN (Below.refl _ _) nq))
  have B0' := Za (below_drewN B0.out nq)
  have V0' : Hid (Wv (w1.drewN nq) w.heap.size 5 (ci : Nat) a (v0, v1, v2) (.slice aa na ca)) := V0
  have H7' : Hid (E2 (w1.drewN nq) p) := Za (H7.out.below (Nat.le_refl _) (below_drewN (Below.refl _ _) nq))
  have U0' : Hid ((w1.drewN nq).cell? ⟨g, 0, none⟩ = some (P_ gs)) := U0
  have AR' := Za (AR.out.keep (w' := w1.drewN nq) (fun _ _ => rfl) (fun _ h => h))
  clear HU B0 V0 H7 U0 AR q0 q1 q2 q3 q4 q5 q6 u0
  have HU := HU'
  have B0 := B0'
  have V0 := V0'
  have H7 := H7'
  have U0 := U0'
  have AR := AR'
  clear HU' B0' V0' H7' U0' AR'
  generalize w1.drewN nq = w2 at *
  obtain ⟨q0, q1, q2, q3, q4, q5, q6⟩ := V0.out.all
  have u0 := U0.out
  have RM := Za (fun (m : Nat) => calls_flip (Room_in (w := w2.drewN m) (HU.out.st.bel (below_drewN (Below.refl _ _) m)) ci q hq))
  obtain ⟨qt, qr, ql⟩ := q
  simp only at hr0
  have hrb : (qr == 0) = false := by simp [hr0]
  clear hq
  go_upto_region 8 with fail
  go_quiet (first | (go_at_call 69; exact Calls.quiet_of_same (RM.out _)))
  have HU' := Za (HU.out.bel (w' := w2.drewN nq) (below_drewN (Below.refl _ _) nq))
  have B0' := Za (below_drewN B0.out nq)
  have V0' : Hid (Wv (w2.drewN nq) w.heap.size 5 (ci : Nat) a (v0, v1, v2) (.slice aa na ca)) := V0
  have H7' : Hid (E2 (w2.drewN nq) p) := Za (H7.out.below (Nat.le_refl _) (below_drewN (Below.refl _ _) nq))
  have U0' : Hid ((w2.drewN nq).cell? ⟨g, 0, none⟩ = some (P_ gs)) := U0
  have AR' := Za (AR.out.keep (w' := w2.drewN nq) (fun _ _ => rfl) (fun _ h => h))
  clear HU B0 V0 H7 U0 AR q0 q1 q2 q3 q4 q5 q6 u0
  have HU := HU'
  have B0 := B0'
  have V0 := V0'
  have H7 := H7'
  have U0 := U0'
  have AR := AR'
  clear HU' B0' V0' H7' U0' AR'
  generalize w2.drewN nq = w3 at *
  obtain ⟨q0, q1, q2, q3, q4, q5, q6⟩ := V0.out.all
  have u0 := U0.out
  have KG : Hid (g < w.heap.size) := Za hgl
  have NF : Hid (¬ Fs w.heap.size) := Za (fun e => NG.out ((HG.out _).2 (.inl e)))
  have KL0 : Hid (∀ k ∈ [g, w.heap.size], k < w3.drew.heap.size) := Za (fun k hk => by
    show k < w3.heap.size
    have h1 := V0.out.lt
    simp only [List.mem_cons, List.mem_nil_iff, or_false] at hk
    have h2 := hgl
    rcases hk with rfl | rfl <;> omega)
  go_upto_region 1 with fail
  go_cut [5] from 16 to 21 (fun x5 wc => ∃ bl G', x5 = P_ bl /\ Hid ((Rn wc G' g S { r with s := sh.1 } /\ Ch G G' w wc) /\ Val wc bl sh.2.1 sh.2.2.1 sh.2.2.2 /\ (Wv wc w.heap.size 5 (ci : Nat) a (v0, v1, v2) (.slice aa na ca) /\ ¬ G' w.heap.size /\ ¬ G' bl)))
  case first =>
    refine wp_region_held_drew (S := fun w' => Yp [g, w.heap.size] w3.drew w') ZJ (Yp.refl KL0.out) (fun hH => ?_)
    have HU' := Za (HU.out.bel (w' := w3.drew) (below_drewN (Below.refl _ _) 1))
    have B0' := Za (Zp B0.out)
    have H7' : Hid (E2 w3.drew p) := Za (H7.out.below (Nat.le_refl _) (below_drewN (Below.refl _ _) 1))
    have V0' : Hid (Wv w3.drew w.heap.size 5 (ci : Nat) a (v0, v1, v2) (.slice aa na ca)) := V0
    have U0' : Hid (w3.drew.cell? ⟨g, 0, none⟩ = some (P_ gs)) := U0
    clear HU B0 H7 V0 U0 q0 q1 q2 q3 q4 q5 q6 u0 AR
    have HU := HU'
    have B0 := B0'
    have H7 := H7'
    have V0 := V0'
    have U0 := U0'
    clear HU' B0' H7' V0' U0'
    generalize w3.drew = Y0 at *
    refine H2_ 0 hH ?_
    simp only [Act.put, S_]
    refine H2_ 1 hH ?_
    simp only [Act.put, S_]
    refine H2_ 2 hH ?_
    simp only [Act.put, S_]
    refine H_ 3 (v := ?_) ?_ hH ?_
    rotate_left 1
    · (intro w hSw; have q := hSw.cell (by simp) U0.out; clear hSw; go_simp <;> with_reducible rfl)
    simp only [Act.put, S_]
    refine H_ 4 (v := ?_) ?_ hH ?_
    rotate_left 1
    · (intro w hSw; obtain ⟨z0, z1, z2, z3, z4, z5, z6⟩ := V0.out.all; have q0 := hSw.cell (by simp) z0; have q1 := hSw.cell (by simp) z1; have q2 := hSw.cell (by simp) z2; have q3 := hSw.cell (by simp) z3; have q4 := hSw.cell (by simp) z4; have q5 := hSw.cell (by simp) z5; have q6 := hSw.cell (by simp) z6; clear hSw; go_simp <;> with_reducible rfl)
    simp only [Act.put, S_]
    refine wpAnyH_ready (rs := [5, 6]) (by kernel_rfl) (by decide) ?_
    refine AllReadyH.cons rfl (fun K1 hK1 => ?_) (AllReadyH.cons rfl (fun K1 hK1 => ?_) AllReadyH.nil)
    · have hH0 : w.heap.size < Y0.heap.size := by have h1 := hH.1; have h2 := hH.2.1 w.heap.size (by simp); omega
      go_simp
      refine (SH.out Y0 HU.out.st H7.out).mono ?_
      rintro e Y1 ⟨rfl, Fs', st, ch⟩
      have hU := HU.out.state st ch SM.out
      refine hK1.out _ _ (hH.ch ch (fun k hk => by
        simp only [List.mem_cons, List.mem_nil_iff, or_false] at hk
        rcases hk with rfl | rfl
        · exact fun e => HU.out.so _ e HU.out.fg
        · exact fun e => NF.out e)) (fun hH => ?_)
      clear hK1 K1
      have HQ := Za (And.intro hU ((Ch.of_bel B0.out).trans (ch.wide (G := G) (G' := fun k => Fs' k ∨ Fo k ∨ R k) (fun k hk => (HG.out k).2 (.inl hk)) (fun k hk => by
        rcases hk with h1 | h1 | h1
        · rcases ch.grow k h1 with h2 | h2
          · exact .inl ((HG.out k).2 (.inl h2))
          · exact .inr h2
        · exact .inl ((HG.out k).2 (.inr (.inl h1)))
        · exact .inl ((HG.out k).2 (.inr (.inr h1))))))) 
      have GL : Hid (¬ Fs' w.heap.size) := Za (fun hF => by
        rcases ch.grow _ hF with h2 | h2
        · exact NF.out h2
        · have h1 := hH.1
          have h3 := hH.2.1 w.heap.size (by simp)
          have h4 := hH0
          omega)
      clear st ch hU HU B0 H7 hH0
      refine RH_ 6 (fun K1 hK1 => ?_)
      have A2 := Zd Y1 (.cells #[I_ 0, I_ 0, .int .u64 0] 64)
      have N2 := Val.new Y1 0 0 0
      have L0 : w.heap.size < Y1.heap.size := by have h1 := hH.1; have h2 := hH.2.1 w.heap.size (by simp); omega
      go_simp
      refine hK1.out _ _ (hH.al A2) (fun hH => ?_)
      clear hK1 K1
      obtain ⟨bl, hbl⟩ : ∃ bl, Y1.heap.size = bl := ⟨_, rfl⟩
      rw [hbl] at N2 L0 ⊢
      have LB := Za L0
      have ZB := Za N2
      have GB : Hid (¬ (Fs' bl ∨ Fo bl ∨ R bl)) := Za (fun hF => absurd (HQ.out.1.lt hF) (by omega))
      have HQ' := Za (And.intro (HQ.out.1.bel A2) (HQ.out.2.trans (Ch.of_bel A2)))
      clear HQ
      have HQ := HQ'
      clear HQ'
      clear A2 N2 L0 hbl
      generalize Y1.alloc _ = Y2 at *
      refine RH_ 7 (fun K1 hK1 => ?_)
      obtain ⟨⟨f0, f1, f2⟩, e0, e1, e2⟩ := ZB.out.all
      have BB : Below w.heap.size Y2 (((Y2.setCell ⟨bl, 0, none⟩ (I_ sh.2.1)).setCell ⟨bl, 1, none⟩ (I_ sh.2.2.1)).setCell ⟨bl, 2, none⟩ (.int .u64 sh.2.2.2)) := Zt (Below.refl _ _) (Nat.le_of_lt LB.out) _ _ _
      have OO_ : ∀ k, k ≠ bl -> (((Y2.setCell ⟨bl, 0, none⟩ (I_ sh.2.1)).setCell ⟨bl, 1, none⟩ (I_ sh.2.2.1)).setCell ⟨bl, 2, none⟩ (.int .u64 sh.2.2.2)).heap[k]? = Y2.heap[k]? := fun k hk => ne3 hk
      have SS : Y2.heap.size = (((Y2.setCell ⟨bl, 0, none⟩ (I_ sh.2.1)).setCell ⟨bl, 1, none⟩ (I_ sh.2.2.1)).setCell ⟨bl, 2, none⟩ (.int .u64 sh.2.2.2)).heap.size := by simp only [Zi]
      have EE : Val (((Y2.setCell ⟨bl, 0, none⟩ (I_ sh.2.1)).setCell ⟨bl, 1, none⟩ (I_ sh.2.2.1)).setCell ⟨bl, 2, none⟩ (.int .u64 sh.2.2.2)) bl sh.2.1 sh.2.2.1 sh.2.2.2 := ZB.out.set _ _ _
      go_simp
      refine hK1.out _ _ (hH.turn (t := bl) (Nat.le_of_eq SS) (fun k _ hk => OO_ k hk) (fun hm => by have := LB.out; have := KG.out; simp at hm; omega)) (fun hH => ?_)
      clear hK1 K1 f0 f1 f2 e0 e1 e2
      have RN9 := Za (And.intro (HQ.out.1.rn.keep (w' := (((Y2.setCell ⟨bl, 0, none⟩ (I_ sh.2.1)).setCell ⟨bl, 1, none⟩ (I_ sh.2.2.1)).setCell ⟨bl, 2, none⟩ (.int .u64 sh.2.2.2))) (fun k hk => OO_ k (fun e => GB.out (e ▸ hk))) (Nat.le_of_eq SS)) (HQ.out.2.below BB))
      have ZV := Za EE
      have WV := Za (show Wv (((Y2.setCell ⟨bl, 0, none⟩ (I_ sh.2.1)).setCell ⟨bl, 1, none⟩ (I_ sh.2.2.1)).setCell ⟨bl, 2, none⟩ (.int .u64 sh.2.2.2)) w.heap.size 5 (ci : Nat) a (v0, v1, v2) (.slice aa na ca) from (hH.2.2 w.heap.size (by simp)).trans V0.out)
      have NL : Hid (¬ (Fs' w.heap.size ∨ Fo w.heap.size ∨ R w.heap.size)) := Za (fun hF => by
        rcases hF with h1 | h1
        · exact GL.out h1
        · exact NG.out ((HG.out _).2 (.inr h1)))
      clear BB OO_ SS EE hH
      generalize (((Y2.setCell ⟨bl, 0, none⟩ (I_ sh.2.1)).setCell ⟨bl, 1, none⟩ (I_ sh.2.2.1)).setCell ⟨bl, 2, none⟩ (.int .u64 sh.2.2.2)) = Y3 at *
      refine wpAnyH_done (by kernel_rfl) ?_ _
      go_wp2_with fail
      go_meet
      case rel => exact ⟨bl, _, rfl, Za ⟨RN9.out, ZV.out, WV.out, NL.out, GB.out⟩⟩
    · have A1 := Zd Y0 (.cells #[I_ 0, I_ 0, .int .u64 0] 64)
      have N1 := Val.new Y0 0 0 0
      have L0 : w.heap.size < Y0.heap.size := by have h1 := hH.1; have h2 := hH.2.1 w.heap.size (by simp); omega
      go_simp
      refine hK1.out _ _ (hH.al A1) (fun hH => ?_)
      clear hK1 K1
      obtain ⟨bl, hbl⟩ : ∃ bl, Y0.heap.size = bl := ⟨_, rfl⟩
      rw [hbl] at N1 L0 ⊢
      have LB := Za L0
      have ZB := Za N1
      have GB0 : Hid (¬ (Fs bl ∨ Fo bl ∨ R bl)) := Za (fun hF => absurd (HU.out.lt hF) (by omega))
      have HU' := Za (HU.out.bel A1)
      have B0' := Za (Zg B0.out A1)
      have H7' := Za (H7.out.below (Nat.le_refl _) A1)
      clear HU B0 H7
      have HU := HU'
      have B0 := B0'
      have H7 := H7'
      clear HU' B0' H7'
      clear A1 N1 L0 hbl
      generalize Y0.alloc _ = Y1 at *
      refine RH_ 5 (fun K1 hK1 => ?_)
      have hH0 : w.heap.size < Y1.heap.size := by have h1 := hH.1; have h2 := hH.2.1 w.heap.size (by simp); omega
      go_simp
      refine (SH.out Y1 HU.out.st H7.out).mono ?_
      rintro e Y2 ⟨rfl, Fs', st, ch⟩
      have hU := HU.out.state st ch SM.out
      refine hK1.out _ _ (hH.ch ch (fun k hk => by
        simp only [List.mem_cons, List.mem_nil_iff, or_false] at hk
        rcases hk with rfl | rfl
        · exact fun e => HU.out.so _ e HU.out.fg
        · exact fun e => NF.out e)) (fun hH => ?_)
      clear hK1 K1
      have HQ := Za (And.intro hU ((Ch.of_bel B0.out).trans (ch.wide (G := G) (G' := fun k => Fs' k ∨ Fo k ∨ R k) (fun k hk => (HG.out k).2 (.inl hk)) (fun k hk => by
        rcases hk with h1 | h1 | h1
        · rcases ch.grow k h1 with h2 | h2
          · exact .inl ((HG.out k).2 (.inl h2))
          · exact .inr h2
        · exact .inl ((HG.out k).2 (.inr (.inl h1)))
        · exact .inl ((HG.out k).2 (.inr (.inr h1))))))) 
      have GL : Hid (¬ Fs' w.heap.size) := Za (fun hF => by
        rcases ch.grow _ hF with h2 | h2
        · exact NF.out h2
        · have h1 := hH.1
          have h3 := hH.2.1 w.heap.size (by simp)
          have h4 := hH0
          omega)
      have GB : Hid (¬ (Fs' bl ∨ Fo bl ∨ R bl)) := Za (fun hF => by
        rcases hF with h1 | h1
        · rcases ch.grow _ h1 with h2 | h2
          · exact GB0.out (.inl h2)
          · exact absurd ZB.out.lt (by omega)
        · exact GB0.out (.inr h1))
      have ZB' : Hid (Val Y2 bl 0 0 0) := Za ((ch.blk bl ZB.out.lt (fun e => GB0.out (.inl e))).trans ZB.out)
      clear ZB
      have ZB := ZB'
      clear ZB'
      clear st ch hU HU B0 H7 hH0
      refine RH_ 7 (fun K1 hK1 => ?_)
      obtain ⟨⟨f0, f1, f2⟩, e0, e1, e2⟩ := ZB.out.all
      have BB : Below w.heap.size Y2 (((Y2.setCell ⟨bl, 0, none⟩ (I_ sh.2.1)).setCell ⟨bl, 1, none⟩ (I_ sh.2.2.1)).setCell ⟨bl, 2, none⟩ (.int .u64 sh.2.2.2)) := Zt (Below.refl _ _) (Nat.le_of_lt LB.out) _ _ _
      have OO_ : ∀ k, k ≠ bl -> (((Y2.setCell ⟨bl, 0, none⟩ (I_ sh.2.1)).setCell ⟨bl, 1, none⟩ (I_ sh.2.2.1)).setCell ⟨bl, 2, none⟩ (.int .u64 sh.2.2.2)).heap[k]? = Y2.heap[k]? := fun k hk => ne3 hk
      have SS : Y2.heap.size = (((Y2.setCell ⟨bl, 0, none⟩ (I_ sh.2.1)).setCell ⟨bl, 1, none⟩ (I_ sh.2.2.1)).setCell ⟨bl, 2, none⟩ (.int .u64 sh.2.2.2)).heap.size := by simp only [Zi]
      have EE : Val (((Y2.setCell ⟨bl, 0, none⟩ (I_ sh.2.1)).setCell ⟨bl, 1, none⟩ (I_ sh.2.2.1)).setCell ⟨bl, 2, none⟩ (.int .u64 sh.2.2.2)) bl sh.2.1 sh.2.2.1 sh.2.2.2 := ZB.out.set _ _ _
      go_simp
      refine hK1.out _ _ (hH.turn (t := bl) (Nat.le_of_eq SS) (fun k _ hk => OO_ k hk) (fun hm => by have := LB.out; have := KG.out; simp at hm; omega)) (fun hH => ?_)
      clear hK1 K1 f0 f1 f2 e0 e1 e2
      have RN9 := Za (And.intro (HQ.out.1.rn.keep (w' := (((Y2.setCell ⟨bl, 0, none⟩ (I_ sh.2.1)).setCell ⟨bl, 1, none⟩ (I_ sh.2.2.1)).setCell ⟨bl, 2, none⟩ (.int .u64 sh.2.2.2))) (fun k hk => OO_ k (fun e => GB.out (e ▸ hk))) (Nat.le_of_eq SS)) (HQ.out.2.below BB))
      have ZV := Za EE
      have WV := Za (show Wv (((Y2.setCell ⟨bl, 0, none⟩ (I_ sh.2.1)).setCell ⟨bl, 1, none⟩ (I_ sh.2.2.1)).setCell ⟨bl, 2, none⟩ (.int .u64 sh.2.2.2)) w.heap.size 5 (ci : Nat) a (v0, v1, v2) (.slice aa na ca) from (hH.2.2 w.heap.size (by simp)).trans V0.out)
      have NL : Hid (¬ (Fs' w.heap.size ∨ Fo w.heap.size ∨ R w.heap.size)) := Za (fun hF => by
        rcases hF with h1 | h1
        · exact GL.out h1
        · exact NG.out ((HG.out _).2 (.inr h1)))
      clear BB OO_ SS EE hH
      generalize (((Y2.setCell ⟨bl, 0, none⟩ (I_ sh.2.1)).setCell ⟨bl, 1, none⟩ (I_ sh.2.2.1)).setCell ⟨bl, 2, none⟩ (.int .u64 sh.2.2.2)) = Y3 at *
      refine wpAnyH_done (by kernel_rfl) ?_ _
      go_wp2_with fail
      go_meet
      case rel => exact ⟨bl, _, rfl, Za ⟨RN9.out, ZV.out, WV.out, NL.out, GB.out⟩⟩
  case rest =>
    clear HU B0 H7 V0 U0 q0 q1 q2 q3 q4 q5 q6 u0 AR KL0 SH SM NF
    obtain ⟨bl, G', rfl, CU⟩ := hcut
    obtain ⟨q0, q1, q2, q3, q4, q5, q6⟩ := CU.out.2.2.1.all
    have NO := Za (note_any CU.out.1.1 i _ HX.out (ci : Nat) (by have := HL.out; show r.ev.length <= 100000; omega))
    have hlb := CU.out.2.1.lt
    have NBL := Za CU.out.2.2.2.2
    go_wp2_with fail
    refine NO.out.mono ?_
    rintro e w8 ⟨rfl, G8, rn8, c8⟩
    have HX8 := Za (show (ZI { r with s := sh.1 } i (ci : Nat)).gs[i]? = _ from (congrArg (fun l => l[i]?) (note_gs _ i (ci : Nat))).trans HX.out)
    have AK := Za (ask_any rn8 i _ HX8.out sh.2.1 sh.2.2.1 sh.2.2.2)
    have C8 := Za (CU.out.1.2.trans c8)
    have V8 : Hid (Val w8 bl sh.2.1 sh.2.2.1 sh.2.2.2) := Za ((c8.blk bl CU.out.2.1.lt NBL.out).trans CU.out.2.1)
    clear rn8 c8 NO q0 q1 q2 q3 q4 q5 q6 CU
    obtain ⟨_, e0, e1, e2⟩ := V8.out.all
    go_wp2_with fail
    refine AK.out.mono ?_
    rintro e w9 ⟨rfl, G9, rn9, c9⟩
    have Z := Za (And.intro rn9 (C8.out.trans c9))
    clear rn9 c9 AK
    go_wp2_with fail
    go_end0
    exact RnP.mk rfl Z.out.1 Z.out.2
theorem step_any {w : World} {G : Nat -> Prop} {g : Nat} {S : List (List Wt)} {r : Rm} {p : List Addr} (h : Rn w G g S r) (h17 : E2 w p) (i : Nat) (x : Gr) (hx : r.gs[i]? = some x) (hl : r.ev.length <= 90000) (hc : can r (i : Int) = true) : Calls Tryz.prog 31 #[P_ g, I_ (i : Nat)] w (RnP w G g S (Yg S r i) (.tuple #[])) := by
 rw [can_at hx] at hc
 by_cases h4 : x.w.k = 4
 · by_cases hm : lk r.s.M x.w.o = some true
   · exact step_4 h h17 i x hx hl h4 hc hm
   · exact step_4f h h17 i x hx hl h4 hm
 by_cases h10 : x.w.k = 10
 · exact step_10 h h17 i x hx hl h10
 by_cases h5 : x.w.k = 5
 · cases hz : YI r.s x.w.o with
   | true => exact step_5m h h17 i x hx hl h5 hc hz
   | false => exact step_5 h h17 i x hx hl h5 hc hz
 by_cases h12 : x.w.k = 12
 · have e : Yg S r i = { ZI r i x.w.o with gs := (ZI r i x.w.o).gs.set i ⟨x.rest, zW⟩ } := by
    unfold Yg
    rw [hx]
    simp only
    rw [if_neg (by omega), if_neg (by omega), if_neg (by omega), if_pos h12, note_gs]
   exact step_12 h h17 i x hx hl h12
 · exact step_d h h17 i x hx hl hc h4 h5 h10 h12
structure E3 (w : World) (p : List Addr) : Prop where
 e2 : E2 w p
 l9 : 0 < w.heap.size
 c9 : w.cell? ⟨0, 0, none⟩ = some (errV p 9)
theorem E3.below {w w' : World} {p : List Addr} (h : E3 w p) {B : Nat} (hB : w.heap.size <= B) (hb : Below B w w') : E3 w' p :=
 ⟨h.e2.below hB hb, Nat.lt_of_lt_of_le h.l9 hb.size, (hb.cell (p := ⟨0, 0, none⟩) (Nat.lt_of_lt_of_le h.l9 hB)).trans h.c9⟩
def Off (G : Nat -> Prop) : Prop := ¬ G 1 /\ ¬ G 5 /\ ¬ G 0
theorem E3.ch {w w' : World} {p : List Addr} {G G' : Nat -> Prop} (h : E3 w p) (hG : Off G) (c : Ch G G' w w') : E3 w' p /\ Off G' := by
 obtain ⟨h1, h2, h3⟩ := hG
 obtain ⟨a1, b1, c1⟩ := c.keepB h1 h.e2.l0
 obtain ⟨a2, b2, c2⟩ := c.keepB h2 h.e2.l4
 obtain ⟨a3, b3, c3⟩ := c.keepB h3 h.l9
 exact ⟨⟨⟨c1, c2, Yc a1 h.e2.c0, Yc a2 h.e2.c4⟩, c3, Yc a3 h.c9⟩, b1, b2, b3⟩
theorem Do_ended {w : World} {G : Nat -> Prop} {g : Nat} {S : List (List Wt)} {r : Rm} {p : List Addr} (h : Rn w G g S r) (h17 : E3 w p) (i : Int) (hr : runs r = false) : Calls Tryz.prog 9 #[P_ g, I_ i] w (Vb w (errV p 9)) := by
 have E := Za (ended_any h h17.e2)
 rw [hr] at E
 have H7 := Za h17
 clear h h17 hr
 go_enter Tryz.func9, Tryz.ntmps9
 go_wp2_with fail
 refine E.out.mono ?_
 rintro e w1 ⟨rfl, hb⟩
 have x9 := (H7.out.below (Nat.le_refl _) hb).c9
 generalize errV p 9 = ev at *
 go_wp2_with fail
 go_ret
 exact Vb.mk rfl hb
theorem Do_cant {w : World} {G : Nat -> Prop} {g : Nat} {S : List (List Wt)} {r : Rm} {p : List Addr} (h : Rn w G g S r) (h17 : E3 w p) (i : Int) (hr : runs r = true) (hc : can r i = false) : Calls Tryz.prog 9 #[P_ g, I_ i] w (Vb w (errV p 0)) := by
 have E := Za (ended_any h h17.e2)
 rw [hr] at E
 have H7 := Za h17
 have CR := Za (fun (w1 : World) (hb : Below w.heap.size w w1) => canRun_any (h.bel hb) (h17.below (Nat.le_refl _) hb).e2 i)
 rw [hc] at CR
 clear h h17 hr hc
 go_enter Tryz.func9, Tryz.ntmps9
 go_wp2_with fail
 refine E.out.mono ?_
 rintro e w1 ⟨rfl, hb⟩
 have HB := Za hb
 clear hb
 go_wp2_with fail
 refine (CR.out w1 HB.out).mono ?_
 rintro e w2 ⟨rfl, hb⟩
 have HB2 := Za (Zg HB.out hb)
 have x0 := (H7.out.below (Nat.le_refl _) HB2.out).e2.c0
 clear hb
 generalize errV p 0 = ev at *
 go_wp2_with fail
 go_ret
 exact Vb.mk rfl HB2.out
theorem Do_ok {w : World} {G : Nat -> Prop} {g : Nat} {S : List (List Wt)} {r : Rm} {p : List Addr} (h : Rn w G g S r) (h17 : E3 w p) (hO : Off G) (i : Nat) (hr : runs r = true) (hc : can r (i : Int) = true) (hl : r.ev.length <= 90000) : Calls Tryz.prog 9 #[P_ g, I_ (i : Nat)] w (RnP w G g S (doR S r i) .nilIface) := by
 have E := Za (ended_any h h17.e2)
 rw [hr] at E
 have CR := Za (fun (w1 : World) (hb : Below w.heap.size w w1) => canRun_any (h.bel hb) (h17.below (Nat.le_refl _) hb).e2 (i : Int))
 rw [hc] at CR
 obtain ⟨x, hx⟩ : ∃ x, r.gs[i]? = some x := by
  unfold can at hc
  rw [lk_nat] at hc
  cases hx : r.gs[i]? with
  | none => rw [hx] at hc; cases hc
  | some x => exact ⟨x, rfl⟩
 have SA := Za (fun (w1 : World) (hb : Below w.heap.size w w1) => step_any (h.bel hb) (h17.below (Nat.le_refl _) hb).e2 i x hx hl hc)
 have H7 := Za (And.intro h17 hO)
 clear h h17 hO hr hc hl hx
 go_enter Tryz.func9, Tryz.ntmps9
 go_wp2_with fail
 refine E.out.mono ?_
 rintro e w1 ⟨rfl, hb⟩
 have HB := Za hb
 clear hb
 go_wp2_with fail
 refine (CR.out w1 HB.out).mono ?_
 rintro e w2 ⟨rfl, hb⟩
 have HB2 := Za (Zg HB.out hb)
 clear hb
 go_wp2_with fail
 refine (SA.out w2 HB2.out).mono ?_
 rintro e w3 ⟨rfl, G3, rn3, c3⟩
 have C3 := Za ((Ch.of_bel HB2.out).trans c3)
 have SE := Za (settle_any rn3 (H7.out.1.ch H7.out.2 C3.out).1.e2)
 clear rn3 c3
 go_wp2_with fail
 refine SE.out.mono ?_
 rintro e w4 ⟨rfl, G4, rn4, c4⟩
 have Z := Za (And.intro rn4 (C3.out.trans c4))
 clear rn4 c4
 go_wp2_with fail
 go_ret
 exact RnP.mk rfl Z.out.1 Z.out.2
structure Pre (w : World) (Fs R : Nat -> Prop) (gs : Nat) (s : St) (vB : Value) (S : List (List Wt)) : Prop where
 st : Stt w Fs gs s
 ty : ∀ q ∈ s.C, 1 <= q.t /\ q.t <= 3
 bg : Beg w R vB S
 rs : ∀ k, R k -> ¬ Fs k
 rb : ∀ k, R k -> k < w.heap.size
theorem Pre.bel {w w' : World} {Fs R : Nat -> Prop} {gs : Nat} {s : St} {vB : Value} {S : List (List Wt)} (h : Pre w Fs R gs s vB S) (hb : Below w.heap.size w w') : Pre w' Fs R gs s vB S :=
 ⟨h.st.bel hb, h.ty, h.bg.keep (fun k hk => hb.block k (h.rb k hk)) (fun _ h => h), h.rs, fun k hk => Nat.lt_of_lt_of_le (h.rb k hk) hb.size⟩
theorem ru_new {w : World} {Fs R : Nat -> Prop} {gs : Nat} {s : St} {vB vC : Value} {S : List (List Wt)} (h : Pre w Fs R gs s vB S) (g : Nat) {w' : World} (hb : Below w.heap.size w w') (hg : w'.heap[g]? = some (.cells #[P_ gs, vC, vB, .slice none 0 0, .slice none 0 0, I_ 0, I_ 0, I_ 0, I_ 0, I_ 0] 117 (0, 0))) (hgn : w.heap.size <= g)
    (hC : w'.ownsRow w.heap.size 3 1 vC s.C.length (nts (s.C.map Qu.t))) : Ru w' Fs (fun k => k = g ∨ vC.ownBlock = some k) R g gs S ⟨s, [], [], zE⟩ vC vB (.slice none 0 0) (.slice none 0 0) [] [] := by
  have h' := h.bel hb
  exact { at_ := hg, st := h'.st, ch := Yd hC, bg := h'.bg, go := Yi _ _ _, ev := Yi _ _ _, tl := rfl, gr := fun i x b t hx => (by simp at hx), np := List.nodup_nil, nt := List.nodup_nil, fg := .inl rfl, fC := fun k hk => .inr hk, fG := fun k hk => (by cases hk), fE := fun k hk => (by cases hk)
          so := fun k hk hF => (by
            have h1 := h.st.fb k hk
            rcases hF with rfl | hF
            · omega
            · have := (Zf hC hF).1
              omega)
          rs := h.rs
          ro := fun k hk hF => (by
            have h1 := h.rb k hk
            rcases hF with rfl | hF
            · omega
            · have := (Zf hC hF).1
              omega)
          fb := fun k hk => (by
            rcases hk with rfl | hk
            · exact Ze hg
            · exact (Zf hC hk).2.1)
          rb := h'.rb, n8 := (by simp) }
theorem start_ch {w w1 w2 : World} {Fs Fo R G : Nat -> Prop} {g gs : Nat} {S : List (List Wt)} {r : Rm} {vC vB vG vE : Value} {ps ts : List Nat} (_h : Ru w1 Fs Fo R g gs S r vC vB vG vE ps ts) (hb : Below w.heap.size w w1) (c : Ch (fun k => Fs k ∨ Fo k ∨ R k) G w1 w2) (hF : ∀ k, Fo k -> w.heap.size <= k) : Ch (fun k => Fs k ∨ R k) G w w2 :=
  ⟨c.os.trans hb.os, c.tape.trans hb.tape, c.output.trans hb.output, Nat.le_trans hb.size c.size, fun k hk hn => (c.blk k (Nat.lt_of_lt_of_le hk hb.size) (fun hG => by
    rcases hG with h1 | h1 | h1
    · exact hn (.inl h1)
    · have := hF k h1
      omega
    · exact hn (.inr h1))).trans (hb.block k hk), fun k hk => by
    rcases c.grow k hk with h1 | h1
    · rcases h1 with h1 | h1 | h1
      · exact .inl (.inl h1)
      · exact .inr (hF k h1)
      · exact .inl (.inr h1)
    · exact .inr (Nat.le_trans hb.size h1)⟩
def StartP (w : World) (G : Nat -> Prop) (S : List (List Wt)) (r : Rm) (e : Ending) (w' : World) : Prop := ∃ g G', e = .returned (P_ g) /\ Rn w' G' g S r /\ Ch G G' w w'
theorem start_any {w : World} {Fs R : Nat -> Prop} {gs : Nat} {s : St} {vB : Value} {S : List (List Wt)} {p : List Addr} (h : Pre w Fs R gs s vB S) (h17 : E3 w p) (hO : Off (fun k => Fs k ∨ R k)) (fn : Int) :
    Calls Tryz.prog 17 #[P_ gs, vB, I_ fn] w (StartP w (fun k => Fs k ∨ R k) S (startR S s fn)) := by
  have CT := Za (chanTypes_any h.st h17.e2 h.ty)
  obtain ⟨cB, vS, vs, eB, _⟩ := id h.bg
  subst eB
  have HP := Za h
  have H7 := Za (And.intro h17 hO)
  obtain ⟨nC, hnC⟩ : ∃ nC, nC = s.C.length := ⟨_, rfl⟩
  rw [← hnC] at CT
  have HN := Za hnC
  unfold startR enterR
  clear h h17 hO hnC
  cases hl : lk S fn with
  | none =>
    simp only
    have HL := Za hl
    clear hl
    go_enter Tryz.func17, Tryz.ntmps17
    go_wp2_with fail
    refine CT.out.mono ?_
    rintro e w1 ⟨aC, cC, rfl, oC, hb⟩
    have U1 := Za (ru_new HP.out w1.heap.size (Zv hb (.cells #[P_ gs, .slice aC nC cC, .func (.func 59) #[] #[P_ cB], .slice none 0 0, .slice none 0 0, I_ 0, I_ 0, I_ 0, I_ 0, I_ 0] 117)) (B_ w1 _) hb.size (by rw [← HN.out]; exact Zj oC (fun k hk => (Zd w1 _).block k (Zf oC hk).2.1)))
    have B1 := Za (Zv hb (.cells #[P_ gs, .slice aC nC cC, .func (.func 59) #[] #[P_ cB], .slice none 0 0, .slice none 0 0, I_ 0, I_ 0, I_ 0, I_ 0, I_ 0] 117))
    have NB : Hid (∀ k, (k = w1.heap.size ∨ (Value.slice aC nC cC).ownBlock = some k) -> w.heap.size <= k) := Za (fun k hk => by
      rcases hk with rfl | hk
      · exact hb.size
      · exact (Zf oC hk).1)
    clear oC hb CT
    have EN := Za (enter_none U1.out.rn fn (R0 := fun _ => True) YK.nilS HL.out)
    go_wp2_with fail
    refine EN.out.mono ?_
    rintro e w2 ⟨rfl, G2, rn2, c2⟩
    have FA := Za (fault_any rn2 0 5 0 0)
    have C2 := Za c2
    clear rn2 c2 EN
    go_wp2_with fail
    refine FA.out.mono ?_
    rintro e w3 ⟨rfl, G3, rn3, c3⟩
    have C3 := Za (start_ch U1.out B1.out (C2.out.trans c3) NB.out)
    have SE := Za (settle_any rn3 (H7.out.1.ch H7.out.2 C3.out).1.e2)
    clear rn3 c3 FA
    go_wp2_with fail
    refine SE.out.mono ?_
    rintro e w4 ⟨rfl, G4, rn4, c4⟩
    have Z := Za (And.intro rn4 (C3.out.trans c4))
    clear rn4 c4 SE
    go_wp2_with fail
    go_ret
    exact ⟨_, _, rfl, Z.out.1, Z.out.2⟩
  | some l =>
    simp only [List.nil_append]
    have HL := Za hl
    clear hl
    go_enter Tryz.func17, Tryz.ntmps17
    go_wp2_with fail
    refine CT.out.mono ?_
    rintro e w1 ⟨aC, cC, rfl, oC, hb⟩
    have U1 := Za (ru_new HP.out w1.heap.size (Zv hb (.cells #[P_ gs, .slice aC nC cC, .func (.func 59) #[] #[P_ cB], .slice none 0 0, .slice none 0 0, I_ 0, I_ 0, I_ 0, I_ 0, I_ 0] 117)) (B_ w1 _) hb.size (by rw [← HN.out]; exact Zj oC (fun k hk => (Zd w1 _).block k (Zf oC hk).2.1)))
    have B1 := Za (Zv hb (.cells #[P_ gs, .slice aC nC cC, .func (.func 59) #[] #[P_ cB], .slice none 0 0, .slice none 0 0, I_ 0, I_ 0, I_ 0, I_ 0, I_ 0] 117))
    have NB : Hid (∀ k, (k = w1.heap.size ∨ (Value.slice aC nC cC).ownBlock = some k) -> w.heap.size <= k) := Za (fun k hk => by
      rcases hk with rfl | hk
      · exact hb.size
      · exact (Zf oC hk).1)
    clear oC hb CT
    have EN := Za (enter_some U1.out.rn fn (R0 := fun _ => True) YK.nilS l HL.out (by simp))
    simp only [List.nil_append] at EN
    go_wp2_with fail
    refine EN.out.mono ?_
    rintro e w2 ⟨rfl, G2, rn2, c2⟩
    have AK := Za (ask_any rn2 0 ⟨l, zW⟩ rfl 0 0 0)
    have C2 := Za c2
    clear rn2 c2 EN
    go_wp2_with fail
    refine AK.out.mono ?_
    rintro e w3 ⟨rfl, G3, rn3, c3⟩
    have C3 := Za (start_ch U1.out B1.out (C2.out.trans c3) NB.out)
    have SE := Za (settle_any rn3 (H7.out.1.ch H7.out.2 C3.out).1.e2)
    clear rn3 c3 AK
    go_wp2_with fail
    refine SE.out.mono ?_
    rintro e w4 ⟨rfl, G4, rn4, c4⟩
    have Z := Za (And.intro rn4 (C3.out.trans c4))
    clear rn4 c4 SE
    go_wp2_with fail
    go_ret
    exact ⟨_, _, rfl, Z.out.1, Z.out.2⟩
def YG : List Wt -> List Value -> List Value
 | x :: l, va :: vas => wcs x va ++ YG l vas
 | _, _ => []
theorem wrows_snoc : ∀ (l : List Wt) (vas : List Value) (x : Wt) (va : Value), vas.length = l.length -> YG (l ++ [x]) (vas ++ [va]) = YG l vas ++ wcs x va
 | [], [], x, va, _ => by simp [YG]
 | y :: l, vy :: vas, x, va, h => by simp [YG, wrows_snoc l vas x va (by simpa using h)]
theorem wrows_at : ∀ (l : List Wt) (vas : List Value) (i j : Nat) (x : Wt) (va u : Value), l[i]? = some x -> vas[i]? = some va -> (wcs x va)[j]? = some u -> (YG l vas)[7 * i + j]? = some u
 | [], vas, i, j, x, va, u, h, _, _ => by simp at h
 | y :: l, [], i, j, x, va, u, _, h, _ => by simp at h
 | y :: l, vy :: vas, 0, j, x, va, u, h, h', hu => by
  simp at h h'
  subst h h'
  have hj : j < (wcs y vy).length := (G_ hu)
  simp only [YG]
  rw [List.getElem?_append_left (by omega)]
  simpa using hu
 | y :: l, vy :: vas, i + 1, j, x, va, u, h, h', hu => by
  have := wrows_at l vas i j x va u (by simpa using h) (by simpa using h') hu
  simp only [YG]
  rw [List.getElem?_append_right (by simp [wcs]; omega)]
  rw [show 7 * (i + 1) + j - (wcs y vy).length = 7 * i + j by simp [wcs]; omega]
  exact this
theorem info_wt : (Tryz.prog.info? 67).map (fun i => (i.zero, i.size, i.bytes)) = some (some (.agg #[I_ 0, I_ 0, I_ 0, I_ 0, I_ 0, .int .u64 0, .slice none 0 0]), 7, 72) := by kernel_rfl
theorem info_sw : (Tryz.prog.info? 68).map (fun i => (i.zero, i.size, i.bytes)) = some (some (.slice none 0 0), 1, 24) := by kernel_rfl
theorem run_mkS (n : Nat) (hn : n <= 2000) (w : World) : (Instr.makeSlice 24 (I_ (n : Nat)) (I_ (n : Nat))).run Tryz.prog w = .ok (.slice (some ⟨w.heap.size, 0, none⟩) n n) (w.alloc (.cells (madeCells #[.slice none 0 0] n) 68)) := by
 obtain ⟨i, hi, hz0, hz1, hz2⟩ := info_parts info_sw
 have hr := run_make (P := Tryz.prog) w 24 68 i (.slice none 0 0) Tryz.underlying24 hi hz0 .i64 .i64 n n (by omega) (by omega) (by rw [hz2]; omega) (by omega)
 simp only [Int.toNat_natCast, hz1, Nat.mul_one] at hr
 exact hr
theorem own_madeS (w : World) (n : Nat) (hn : n <= 2000) : (w.alloc (.cells (madeCells #[.slice none 0 0] n) 68)).ownsRow 0 68 1 (.slice (some ⟨w.heap.size, 0, none⟩) n n) n (List.replicate n (.slice none 0 0)) :=
 ⟨by simp, .inr ⟨w.heap.size, n, _, rfl, Nat.zero_le _, B_ _ _, Nat.le_refl _, by unfold maxLen; omega, by simp [madeCells], by
  rw [List.take_of_length_le]
  · apply List.ext_getElem?
    intro m
    by_cases hm : m < n
    · simp [madeCells, Nat.mod_one, hm]
    · simp [madeCells, Nat.mod_one, hm]
  · simp [madeCells]⟩⟩
theorem push_w {w : World} {B : Nat} {v : Value} {l : List Wt} {vas : List Value} {n : Nat} (hn : n = l.length) (hv : vas.length = l.length) (ho : w.ownsRow B 67 7 v n (YG l vas)) (hl : l.length <= 2000) (hB : B <= w.heap.size) (x : Wt) (va : Value) (hva : va.oneCell' = true) (ty : TypeId) :
    ∃ v' w', (Builtin.append_ #[68, 68] ty #[v, .slice (some ⟨w.heap.size, 0, none⟩) 1 1]).run Tryz.prog (w.alloc (.cells #[I_ x.k, I_ x.o, I_ x.a, I_ x.v.1, I_ x.v.2.1, .int .u64 x.v.2.2, va] 67)) = .ok v' w' ∧
      ((∃ a c, v' = .slice a (n + 1) c) /\ w'.ownsRow B 67 7 v' (n + 1) (YG (l ++ [x]) (vas ++ [va])) /\ w.grownBy w' v.ownBlock /\ (∀ k, v'.ownBlock = some k -> v.ownBlock = some k ∨ w.heap.size <= k)) := by
  obtain ⟨ie, hi, hz0, hz1, hz2⟩ := info_parts info_wt
  have hb := Zd w (.cells #[I_ x.k, I_ x.o, I_ x.a, I_ x.v.1, I_ x.v.2.1, .int .u64 x.v.2.2, va] 67)
  have o1 := Zj ho (fun k hk => hb.block k (Zf ho hk).2.1)
  have hc : ∀ (j : Nat) (u : Value), (wcs x va)[j]? = some u -> (w.alloc (.cells #[I_ x.k, I_ x.o, I_ x.a, I_ x.v.1, I_ x.v.2.1, .int .u64 x.v.2.2, va] 67)).cell? ((⟨w.heap.size, 0, none⟩ : Addr).add j) = some u := fun j u hu => by
    rw [show (⟨w.heap.size, 0, none⟩ : Addr).add j = ⟨w.heap.size, j, none⟩ by unfold Addr.add; by_cases h : j = 0 <;> simp [h]]
    exact Zb (B_ w _) j u (by simpa [wcs] using hu)
  obtain ⟨v', w', hr, ho', hg, _, hat⟩ := run_append_own_at (P := Tryz.prog) (w.alloc (.cells #[I_ x.k, I_ x.o, I_ x.a, I_ x.v.1, I_ x.v.2.1, .int .u64 x.v.2.2, va] 67)) B 68 ty 67 ie _ 7 72 Tryz.underlying68 hi hz0 hz1 hz2 rfl (by decide) v n (YG l vas) o1 ⟨w.heap.size, 0, none⟩ 1 1 (wcs x va) rfl hc (fun u hu => by
      simp only [wcs, List.mem_cons, List.mem_nil_iff, or_false] at hu
      rcases hu with rfl | rfl | rfl | rfl | rfl | rfl | rfl
      all_goals first | rfl | exact hva) (by unfold maxLen; omega) (by omega) (Nat.le_trans hB hb.size)
  obtain ⟨a9, c9, e9, _⟩ := Zl ho'
  refine ⟨v', w', hr, ⟨_, _, e9⟩, by rw [wrows_snoc _ _ _ _ hv]; exact ho', ⟨hg.os, hg.tape, hg.output, Nat.le_trans hb.size hg.size, fun k hk hne => (hg.block k (Nat.lt_of_lt_of_le hk hb.size) hne).trans (hb.block k hk)⟩, fun k hk => ?_⟩
  rcases hat with e | e
  · exact .inl (e.symm.trans hk)
  · rw [e] at hk
    right
    have := Option.some.inj hk
    simp at this
    omega
def ArgC (w : World) (va : Value) : Prop := ∃ (a : Option Addr) (n c : Nat) (xs : List Value), va = .slice a n c /\ n <= 2000 /\ (∀ u ∈ xs, u.oneCell' = true) /\ ∀ w', Below w.heap.size w w' -> Calls Tryz.prog 85 #[va] w' (ClP w' 64 3 n xs)
theorem ArgC.bel {w w' : World} {va : Value} (h : ArgC w va) (hb : Below w.heap.size w w') : ArgC w' va := by
 obtain ⟨a, n, c, xs, h1, h2, h3, h4⟩ := h
 exact ⟨a, n, c, xs, h1, h2, h3, fun w'' h => h4 w'' (Zg hb h)⟩
theorem ArgC.nilS (w : World) : ArgC w (.slice none 0 0) := ⟨none, 0, 0, [], rfl, (by omega), (fun _ h => by cases h), (fun w' _ => cloneV2 (Yi _ _ _) (by omega) (fun _ h => by cases h))⟩
def WSrc (w : World) (v : Value) (l : List Wt) : Prop := ∃ (a : Option Addr) (c : Nat), v = .slice a l.length c /\ l.length <= 2000 /\ ∀ (j : Nat) (x : Wt), l[j]? = some x -> ∃ (b o : Nat) (va : Value), a = some ⟨b, o, none⟩ /\ b < w.heap.size /\ (∀ (q : Nat) (u : Value), (wcs x va)[q]? = some u -> w.cell? ⟨b, o + j * 7 + q, none⟩ = some u) /\ ArgC w va
def SSrc (w : World) (v : Value) (S : List (List Wt)) : Prop := ∃ (a : Option Addr) (c : Nat), v = .slice a S.length c /\ S.length <= 2000 /\ ∀ (i : Nat) (l : List Wt), S[i]? = some l -> ∃ (b o : Nat) (vi : Value), a = some ⟨b, o, none⟩ /\ b < w.heap.size /\ w.cell? ⟨b, o + i, none⟩ = some vi /\ WSrc w vi l
theorem WSrc.bel {w w' : World} {v : Value} {l : List Wt} (h : WSrc w v l) (hb : Below w.heap.size w w') : WSrc w' v l := by
 obtain ⟨a, c, h1, h2, h3⟩ := h
 refine ⟨a, c, h1, h2, fun j x hx => ?_⟩
 obtain ⟨b, o, va, e1, e2, e3, e4⟩ := h3 j x hx
 exact ⟨b, o, va, e1, Nat.lt_of_lt_of_le e2 hb.size, fun q u hu => (hb.cell (p := ⟨b, o + j * 7 + q, none⟩) e2).trans (e3 q u hu), e4.bel hb⟩
theorem SSrc.bel {w w' : World} {v : Value} {S : List (List Wt)} (h : SSrc w v S) (hb : Below w.heap.size w w') : SSrc w' v S := by
 obtain ⟨a, c, h1, h2, h3⟩ := h
 refine ⟨a, c, h1, h2, fun i l hl => ?_⟩
 obtain ⟨b, o, vi, e1, e2, e3, e4⟩ := h3 i l hl
 exact ⟨b, o, vi, e1, Nat.lt_of_lt_of_le e2 hb.size, (hb.cell (p := ⟨b, o + i, none⟩) e2).trans e3, e4.bel hb⟩
structure Sc (w wr : World) (vb ob n : Nat) (R : Nat -> Prop) (S : List (List Wt)) (i j : Nat) (vs : List Value) : Prop where
 var : wr.heap[vb]? = some (.cells #[.slice (some ⟨ob, 0, none⟩) n n] 24 (0, 0))
 row : wr.ownsRow 0 68 1 (.slice (some ⟨ob, 0, none⟩) n n) n vs
 old : ∀ (m : Nat) (l : List Wt) (v : Value), m < i -> S[m]? = some l -> vs[m]? = some v -> WRow wr R v l
 cur : ∀ (l : List Wt) (v : Value), S[i]? = some l -> vs[i]? = some v -> ∃ vas : List Value, vas.length = j /\ (∀ va ∈ vas, YK wr R va) /\ wr.ownsRow w.heap.size 67 7 v j (YG (l.take j) vas) /\ ∀ k, v.ownBlock = some k -> ¬ R k
 new : ∀ (m : Nat) (v : Value), i < m -> vs[m]? = some v -> v = .slice none 0 0
 rr : ∀ k, R k -> w.heap.size <= k /\ k < wr.heap.size /\ k ≠ ob /\ k ≠ vb
 lo : w.heap.size <= ob /\ w.heap.size <= vb
 bel : Below w.heap.size w wr
section
variable {w wr wr' : World} {vb ob n : Nat} {R : Nat → Prop} {S : List (List Wt)} {i j : Nat} {vs : List Value}
theorem Sc.al (h : Sc w wr vb ob n R S i j vs) (hb : Below wr.heap.size wr wr') : Sc w wr' vb ob n R S i j vs := by
 have hR : ∀ k, R k -> wr'.heap[k]? = wr.heap[k]? := fun k hk => hb.block k (h.rr k hk).2.1
 exact { h with
  var := (hb.block vb (Ze h.var)).trans h.var
  row := Zj h.row fun k hk => hb.block k (Zf h.row hk).2.1
  old := fun m l v hm hl hv => (h.old m l v hm hl hv).keep hR fun _ h => h
  cur := fun l v hl hv => by
   obtain ⟨vas, h1, h2, h3, h4⟩ := h.cur l v hl hv
   exact ⟨vas, h1, fun va hva => (h2 va hva).keep hR fun _ h => h, Zj h3 fun k hk => hb.block k (Zf h3 hk).2.1, h4⟩
  rr := fun k hk => ⟨(h.rr k hk).1, Nat.lt_of_lt_of_le (h.rr k hk).2.1 hb.size, (h.rr k hk).2.2⟩
  bel := Zg h.bel hb }
theorem Sc.next (h : Sc w wr vb ob n R S i j vs) {l : List Wt} (hl : S[i]? = some l) (hj : j = l.length) (hn : n = S.length) : ∃ R', Sc w wr vb ob n R' S (i + 1) 0 vs := by
 have hi : i < n := by rw [hn]; exact (G_ hl)
 have hvl : vs.length = n := by have := h.row.1; omega
 obtain ⟨v, hv⟩ : ∃ v, vs[i]? = some v := ⟨_, List.getElem?_eq_getElem (by omega)⟩
 obtain ⟨vas, c1, c2, c3, c4⟩ := h.cur l v hl hv
 rw [hj, List.take_length] at c3
 have hblk : ∀ k, v.ownBlock = some k -> w.heap.size <= k /\ k < wr.heap.size /\ k ≠ ob /\ k ≠ vb := fun k hk => ⟨(Zf c3 hk).1, (Zf c3 hk).2.1, fun e => Zo c3 h.row (by decide) k hk (by rw [e]; rfl), fun e => Zu c3 h.var (by decide) (by rw [hk, e])⟩
 refine ⟨fun k => R k ∨ v.ownBlock = some k, { h with
  old := fun m l' v' hm hl' hv' => ?_
  cur := fun l' v' hl' hv' => ?_
  new := fun m v' hm hv' => h.new m v' (by omega) hv'
  rr := fun k hk => hk.elim (h.rr k) (hblk k) }⟩
 · by_cases e : m = i
   · subst e
     rw [hl] at hl'
     rw [hv] at hv'
     cases hl'
     cases hv'
     obtain ⟨a, c, e1, e2, e3⟩ := Zl c3
     refine ⟨a, c, e1, e2, e3, fun q x hx => ?_⟩
     have hq : q < l.length := (G_ hx)
     obtain ⟨va, hva⟩ : ∃ va, vas[q]? = some va := ⟨_, List.getElem?_eq_getElem (by omega)⟩
     obtain ⟨b, c', eb, _⟩ := Zq c3 (by omega)
     rw [e1] at eb
     cases eb
     subst e1
     refine ⟨b, 0, va, rfl, .inr rfl, fun p u hu => ?_, (c2 va (List.mem_of_getElem? hva)).keep (fun _ _ => rfl) fun _ h => .inl h⟩
     rw [Nat.zero_add]
     exact (Zk c3 _ _ (wrows_at l vas q p x va u hx hva hu)).1
   · exact (h.old m l' v' (by omega) hl' hv').keep (fun _ _ => rfl) fun _ h => .inl h
 · have := h.new (i + 1) v' (by omega) hv'
   subst this
   exact ⟨[], rfl, fun _ h => (by cases h), (by simp [YG]; exact World.ownsRow_nil _ _ _ _), fun k hk => (by cases hk)⟩
theorem Sc.push (h : Sc w wr vb ob n R S i j vs) {l : List Wt} {x : Wt} (hl : S[i]? = some l) (hx : l[j]? = some x) (hin : i < n) {v va v' : Value} {w3 w9 : World} {vas : List Value} (hv : vs[i]? = some v) (c1 : vas.length = j) (c2 : ∀ va ∈ vas, YK wr R va) (c4 : ∀ k, v.ownBlock = some k -> ¬ R k /\ k < wr.heap.size)
    (hb3 : Below wr.heap.size wr w3) (ha : YA wr.heap.size w3 va) (ho : w9.ownsRow w.heap.size 67 7 v' (j + 1) (YG (l.take j ++ [x]) (vas ++ [va]))) (hg : w3.grownBy w9 v.ownBlock) (hb : ∀ k, v'.ownBlock = some k -> v.ownBlock = some k ∨ w3.heap.size <= k) (hvt : ∀ k, v.ownBlock = some k -> ∃ c, wr.heap[k]? = some (.cells c 67 (0, 0))) :
    ∃ R', Sc w (w9.setCell ⟨ob, i, none⟩ v') vb ob n R' S i (j + 1) (vs.set i v') := by
  have hne : ∀ {k : Nat}, k < wr.heap.size -> v.ownBlock ≠ some k -> k ≠ ob -> (w9.setCell ⟨ob, i, none⟩ v').heap[k]? = wr.heap[k]? := fun {k} hk h1 h2 => (Below.heap_setCell _ _ _ _ h2).trans ((hg.block k (Nat.lt_of_lt_of_le hk hb3.size) (fun e => h1 e.symm)).trans (hb3.block k hk))
  have hsz : (w9.setCell ⟨ob, i, none⟩ v').heap.size = w9.heap.size := Zi _ _ _
  have hvv : v.ownBlock ≠ some vb := fun e => by
    obtain ⟨c, hc⟩ := hvt vb e
    exact absurd rfl (Zm hc h.var (by decide))
  have hvo : v.ownBlock ≠ some ob := fun e => by
    obtain ⟨c, hc⟩ := hvt ob e
    exact Zu h.row hc (by decide) rfl
  have hvb : vb ≠ ob := fun e => Zu h.row h.var (by decide) (by rw [e]; rfl)
  have hobl : ob < wr.heap.size := (Zf h.row (k := ob) rfl).2.1
  have hR : ∀ k, R k -> (w9.setCell ⟨ob, i, none⟩ v').heap[k]? = wr.heap[k]? := fun k hk => hne (h.rr k hk).2.1 (fun e => (c4 k e).1 hk) (h.rr k hk).2.2.1
  have hva : ∀ k, va.ownBlock = some k -> wr.heap.size <= k /\ k < w3.heap.size := fun k hk => ha.at hk
  have hrow9 : w9.ownsRow 0 68 1 (.slice (some ⟨ob, 0, none⟩) n n) n vs := Zj h.row fun k hk => (hg.block k (Nat.lt_of_lt_of_le (Zf h.row hk).2.1 hb3.size) (fun e => hvo (by cases hk; exact e.symm))).trans (hb3.block k (Zf h.row hk).2.1)
  have hbel : Below w.heap.size w (w9.setCell ⟨ob, i, none⟩ v') := ((Zg h.bel hb3).grown hg (Nat.le_trans h.bel.size hb3.size) (fun k hk => by
    obtain ⟨vas', q1, q2, q3, q4⟩ := h.cur l v hl hv
    exact (Zf q3 hk).1)).setCell (p := ⟨ob, i, none⟩) h.lo.1 _
  refine ⟨fun k => R k ∨ va.ownBlock = some k, { var := (hne (Ze h.var) hvv hvb).trans h.var, row := ZT hrow9 i v', old := fun m l' v0 hm hl' hv0 => ?_, cur := fun l' v0 hl' hv0 => ?_, new := fun m v0 hm hv0 => ?_, rr := fun k hk => ?_, lo := h.lo, bel := hbel }⟩
  · rw [List.getElem?_set_ne (by omega)] at hv0
    exact (h.old m l' v0 hm hl' hv0).keep hR fun _ h => .inl h
  · rw [hl] at hl'
    cases hl'
    rw [List.getElem?_set_self (by have := h.row.1; omega)] at hv0
    cases hv0
    refine ⟨vas ++ [va], by simp [c1], fun u hu => ?_, ?_, fun k hk hR' => ?_⟩
    · rcases List.mem_append.1 hu with h1 | h1
      · exact (c2 u h1).keep hR fun _ h => .inl h
      · simp at h1
        subst h1
        refine YK.keep (w := w3) (R := fun k => u.ownBlock = some k) (ha.args (fun _ h => h)) (fun k hk => ?_) (fun _ h => .inr h)
        have h2 := hva k hk
        refine (Below.heap_setCell _ _ _ _ (by show k ≠ ob; omega)).trans (hg.block k h2.2 (fun e => ?_))
        have := (c4 k e.symm).2
        omega
    · have e : l.take (j + 1) = l.take j ++ [x] := by rw [List.take_add_one, hx]; rfl
      rw [e]
      exact Zj ho fun k hk => Below.heap_setCell _ _ _ _ (fun e => Zo ho hrow9 (by decide) k hk (by have e' : k = ob := e; rw [e']; rfl))
    · rcases hb k hk with h1 | h1
      · rcases hR' with h2 | h2
        · exact (c4 k h1).1 h2
        · have := (c4 k h1).2
          have := hva k h2
          omega
      · rcases hR' with h2 | h2
        · have := (h.rr k h2).2.1
          have := hb3.size
          omega
        · have := hva k h2
          omega
  · rw [List.getElem?_set_ne (by omega)] at hv0
    exact h.new m v0 hm hv0
  · have h9 := hg.size
    have h3 := hb3.size
    rw [hsz]
    rcases hk with h1 | h1
    · have := h.rr k h1
      exact ⟨this.1, by omega, this.2.2⟩
    · have h2 := hva k h1
      have h4 := h.bel.size
      have h5 := Ze h.var
      exact ⟨by omega, by omega, by omega, by omega⟩
end
theorem wclone_c {w : World} (k o a v0 v1 v2 : Int) (va : Value) (hA : ArgC w va) : Calls Tryz.prog 58 #[.agg #[I_ k, I_ o, I_ a, I_ v0, I_ v1, .int .u64 v2, va]] w (WclP w k o a v0 v1 v2) := by
 obtain ⟨aa, n, ca, xs, rfl, hn, h1, hC⟩ := hA
 have B0 := Za (Zv (Zd w (.cells #[I_ k, I_ o, I_ a, I_ v0, I_ v1, .int .u64 v2, .slice aa n ca] 67)) (.cells #[I_ 0, I_ 0, I_ 0, I_ 0, I_ 0, .int .u64 0, .slice none 0 0] 67))
 have V0 := Za ((Wv.new w k o a v0 v1 v2 (.slice aa n ca)).al (Zd _ (.cells #[I_ 0, I_ 0, I_ 0, I_ 0, I_ 0, .int .u64 0, .slice none 0 0] 67)))
 have V1 := Za (Wv.new (w.alloc (.cells #[I_ k, I_ o, I_ a, I_ v0, I_ v1, .int .u64 v2, .slice aa n ca] 67)) 0 0 0 0 0 0 (.slice none 0 0))
 have hsz : (w.alloc (.cells #[I_ k, I_ o, I_ a, I_ v0, I_ v1, .int .u64 v2, .slice aa n ca] 67)).heap.size = w.heap.size + 1 := by simp
 rw [hsz] at V1
 have CL := Za (hC _ B0.out)
 have H1 := Za h1
 clear h1 hC hsz
 go_enter Tryz.func58, Tryz.ntmps58
 go_wp2_with fail
 generalize (w.alloc _).alloc _ = w1 at *
 refine CL.out.mono ?_
 rintro e w2 ⟨a2, c2, rfl, o2, hb⟩
 have X1 := V0.out.al hb
 have X2 := V1.out.al hb
 obtain ⟨q0, q1, q2, q3, q4, q5, q6⟩ := X1.all
 obtain ⟨r0, r1, r2, r3, r4, r5, r6⟩ := X2.all
 have f6 := X1.frz 6
 have g0 := X2.frz 0
 have g1 := X2.frz 1
 have g2 := X2.frz 2
 have g3 := X2.frz 3
 have g4 := X2.frz 4
 have g5 := X2.frz 5
 have g6 := X2.frz 6
 have HX2 := Za X2
 have V1' := Za V1.out
 have B2 := Za (Zg B0.out hb)
 have O2 := Za (And.intro o2 B0.out.size)
 clear V0 V1 CL hb X1 X2 o2
 go_wp2_with fail
 have Y := ZR ((Below.heap_setCell w2 ⟨w.heap.size, 6, none⟩ (.slice a2 n c2) (w.heap.size + 1) (by simp)).trans HX2.out) (I_ k) (I_ o) (I_ a) (I_ v0) (I_ v1) (.int .u64 v2) (.slice a2 n c2)
 refine ret_wt (w.heap.size + 1) (v := (v0, v1, v2)) rfl rfl ⟨_, _, _, rfl⟩ Y rfl ⟨_, rfl, ⟨_, _, _, xs, rfl, hn, ?_, ?_⟩, ?_⟩
 · have hne : ∀ b, b = w.heap.size ∨ b = w.heap.size + 1 -> (Value.slice a2 n c2).ownBlock ≠ some b := fun b hb e => by
    have h1 := (Zf O2.out.1 e).1
    have h2 := Ze HX2.out
    have h3 := Ze V1'.out
    omega
   exact Zj (own_low O2.out.1 O2.out.2) fun k hk => (Zy (o := 0) (fun e => hne k (.inr e) hk)).trans (Below.heap_setCell _ _ _ _ (fun e => hne k (.inl e) hk))
 · exact H1.out
 · exact ZL (o := 0) (B2.out.setCell (p := ⟨w.heap.size, 6, none⟩) (Nat.le_refl _) _) (Nat.le_succ _)
def ScriptP (w : World) (S : List (List Wt)) (e : Ending) (w' : World) : Prop := ∃ vB R, e = .returned vB /\ Beg w' R vB S /\ (∀ k, R k -> w.heap.size <= k /\ k < w'.heap.size) /\ Below w.heap.size w w'
theorem Sc.beg {w wr : World} {vb ob n : Nat} {R : Nat -> Prop} {S : List (List Wt)} {vs : List Value} (h : Sc w wr vb ob n R S n 0 vs) (hn : n = S.length) (h2 : S.length <= 2000) : ∃ R', Beg wr R' (.func (.func 59) #[] #[P_ vb]) S /\ ∀ k, R' k -> w.heap.size <= k /\ k < wr.heap.size := by
 refine ⟨fun k => R k ∨ k = vb ∨ k = ob, ⟨vb, _, vs, rfl, .inr (.inl rfl), h.var, by rw [← hn]; exact h.row, fun k hk => by cases hk; exact .inr (.inr rfl), h2, fun i l v hl hv => (h.old i l v (by rw [hn]; exact (G_ hl)) hl hv).keep (fun _ _ => rfl) fun _ h => .inl h⟩, fun k hk => ?_⟩
 rcases hk with h1 | rfl | rfl
 · exact ⟨(h.rr k h1).1, (h.rr k h1).2.1⟩
 · exact ⟨h.lo.2, Ze h.var⟩
 · exact ⟨h.lo.1, (Zf h.row rfl).2.1⟩
theorem scripted_any {w : World} {v : Value} {S : List (List Wt)} (h : SSrc w v S) : Calls Tryz.prog 18 #[v] w (ScriptP w S) := by
  have HS := Za h
  obtain ⟨a, c, rfl, h2, h3⟩ := h
  have H2 := Za h2
  obtain ⟨n, hn⟩ : ∃ n, n = S.length := ⟨_, rfl⟩
  rw [← hn] at h2 ⊢
  have HN := Za hn
  have hmk := run_mkS n h2
  have hmf : ∀ (fn : Fn) (first cap : Array Value) (w : World), (Instr.makeFunc fn first cap).run Tryz.prog w = .ok (.func fn first cap) w := fun _ _ _ _ => rfl
  have I0 : Hid (∃ R vs, Sc w ((w.alloc (.cells (madeCells #[.slice none 0 0] n) 68)).alloc (.cells #[.slice (some ⟨w.heap.size, 0, none⟩) n n] 24)) (w.heap.size + 1) w.heap.size n R S 0 0 vs) := Za (by
    have e1 := B_ (w.alloc (.cells (madeCells #[.slice none 0 0] n) 68)) (.cells #[.slice (some ⟨w.heap.size, 0, none⟩) n n] 24)
    have hs : (w.alloc (.cells (madeCells #[.slice none 0 0] n) 68)).heap.size = w.heap.size + 1 := by simp
    rw [hs] at e1
    have o1 := own_madeS w n h2
    refine ⟨fun _ => False, List.replicate n (.slice none 0 0), { var := e1, row := Zj o1 (fun k hk => (Zd _ _).block k (Zf o1 hk).2.1), old := fun m l v hm => absurd hm (Nat.not_lt_zero _), cur := fun l v hl hv => ?_, new := fun m v hm hv => ?_, rr := fun k hk => hk.elim, lo := ⟨Nat.le_refl _, Nat.le_succ _⟩, bel := Zv (Zd _ _) _ }⟩
    · have := List.eq_of_mem_replicate (List.mem_of_getElem? hv)
      subst this
      exact ⟨[], rfl, fun _ h => (by cases h), (by simp [YG]; exact World.ownsRow_nil _ _ _ _), fun k hk => (by cases hk)⟩
    · exact List.eq_of_mem_replicate (List.mem_of_getElem? hv))
  clear h3 hn
  go_enter Tryz.func18, Tryz.ntmps18
  go_wp2_with fail
  generalize (w.alloc (.cells (madeCells #[.slice none 0 0] n) 68)).alloc _ = W0 at *
  have OB : Hid (w.heap.size < w.heap.size + 1) := Za (Nat.lt_succ_self _)
  obtain ⟨ob, hob⟩ : ∃ ob, ob = w.heap.size := ⟨_, rfl⟩
  obtain ⟨vb, hvb⟩ : ∃ vb, vb = w.heap.size + 1 := ⟨_, rfl⟩
  rw [← hvb] at I0 ⊢
  rw [← hob] at I0
  clear OB hmk hob hvb
  go_loopw [4, 5, 7, 13] (fun x4 x5 x7 i wr => ∃ (k : Nat), k <= n /\ i = I_ k /\ Hid (∃ R vs, Sc w wr vb ob n R S k 0 vs)) (fun x4 x5 x7 i _ => n - (intOf i).toNat)
  case atStart => exact ⟨0, Nat.zero_le _, rfl, I0⟩
  case round =>
    obtain ⟨k, hk, rfl, HI⟩ := hrel
    by_cases hlt : k < n
    · have hlt' : (k : Int) < (n : Int) := by omega
      obtain ⟨l, hl⟩ : ∃ l, S[k]? = some l := ⟨_, List.getElem?_eq_getElem (by rw [← HN.out]; exact hlt)⟩
      have HW : Hid (∃ b o vi, a = some ⟨b, o, none⟩ /\ b < wr.heap.size /\ wr.cell? ⟨b, o + k, none⟩ = some vi /\ WSrc w vi l) := Za (by
        obtain ⟨R, vs, sc⟩ := HI.out
        obtain ⟨a', c', e', _, h3⟩ := HS.out
        cases e'
        obtain ⟨b, o, vi, e1, e2, e3, e4⟩ := h3 k l hl
        exact ⟨b, o, vi, e1, Nat.lt_of_lt_of_le e2 sc.bel.size, (sc.bel.cell (p := ⟨b, o + k, none⟩) e2).trans e3, e4⟩)
      obtain ⟨b, o, vi, rfl, hbl, hc1, hws⟩ := HW.out
      have HWS := Za hws
      obtain ⟨ai, ci, rfl, hm2, hws3⟩ := hws
      obtain ⟨m, hm⟩ : ∃ m, m = l.length := ⟨_, rfl⟩
      rw [← hm] at hc1 hm2 HWS
      have HM := Za hm
      have HL := Za hl
      clear HW hws3 hl hm
      go_wp2_with fail
      go_loopw [7, 20] (fun x7 i2 wr => ∃ (j : Nat), j <= m /\ i2 = I_ j /\ Hid (∃ R vs, Sc w wr vb ob n R S k j vs)) (fun x7 i2 _ => m - (intOf i2).toNat)
      case atStart => exact ⟨0, Nat.zero_le _, rfl, HI⟩
      case round =>
        obtain ⟨j, hj, rfl, HJ⟩ := hrel
        by_cases hjt : j < m
        · have hjt' : (j : Int) < (m : Int) := by omega
          obtain ⟨R, vs, sc⟩ := HJ.out
          obtain ⟨x, hxj⟩ : ∃ x, l[j]? = some x := ⟨_, List.getElem?_eq_getElem (by rw [← HM.out]; exact hjt)⟩
          have HQ := HWS.out.bel sc.bel
          obtain ⟨ai', ci', ei', hq2, hq3⟩ := HQ
          cases ei'
          obtain ⟨b2, o2, va, rfl, hb2, hcl, hac⟩ := hq3 j x hxj
          obtain ⟨ax, nx, cx, xs, rfl, _⟩ := id hac
          obtain ⟨xk, xo, xa, x0, x1, x2⟩ := x
          have e0 : wr.cell? ⟨b2, o2 + j * 7, none⟩ = some (I_ xk) := hcl 0 _ rfl
          have e1 : wr.cell? ⟨b2, o2 + j * 7 + 1, none⟩ = some (I_ xo) := hcl 1 _ rfl
          have e2 : wr.cell? ⟨b2, o2 + j * 7 + 2, none⟩ = some (I_ xa) := hcl 2 _ rfl
          have e3 : wr.cell? ⟨b2, o2 + j * 7 + 3, none⟩ = some (I_ x0) := hcl 3 _ rfl
          have e4 : wr.cell? ⟨b2, o2 + j * 7 + 4, none⟩ = some (I_ x1) := hcl 4 _ rfl
          have e5 : wr.cell? ⟨b2, o2 + j * 7 + 5, none⟩ = some (.int .u64 x2) := hcl 5 _ rfl
          have e6 : wr.cell? ⟨b2, o2 + j * 7 + 6, none⟩ = some (.slice ax nx cx) := hcl 6 _ rfl
          obtain ⟨v, hv⟩ : ∃ v, vs[k]? = some v := ⟨_, List.getElem?_eq_getElem (by have := sc.row.1; omega)⟩
          obtain ⟨vas0, d1, d2, d3, d4⟩ := sc.cur l v HL.out hv
          obtain ⟨av, cv, ev, _⟩ := Zl d3
          subst ev
          have HXJ := Za hxj
          have HV := Za hv
          have VL0 := Za (fun (q : Nat) (hq : (Value.slice av j cv).ownBlock = some q) => (Zf d3 hq).2.1)
          have AC := Za (hac.bel (Zd wr (.cells #[I_ xk, I_ xo, I_ xa, I_ x0, I_ x1, .int .u64 x2, .slice ax nx cx] 67)))
          have SC := Za (sc.al (Zd wr (.cells #[I_ xk, I_ xo, I_ xa, I_ x0, I_ x1, .int .u64 x2, .slice ax nx cx] 67)))
          have V7 := Za (Wv.new wr xk xo xa x0 x1 x2 (.slice ax nx cx))
          have OB : Hid (ob ≠ vb /\ ob < wr.heap.size /\ vb < wr.heap.size) := Za ⟨fun e => Zu sc.row sc.var (by decide) (by rw [e]; rfl), (Zf sc.row (k := ob) rfl).2.1, Ze sc.var⟩
          have KL0 : Hid (∀ q ∈ [vb, wr.heap.size], q < (wr.alloc (.cells #[I_ xk, I_ xo, I_ xa, I_ x0, I_ x1, .int .u64 x2, .slice ax nx cx] 67)).drew.heap.size) := Za (fun q hq => by
            have h1 := V7.out.lt
            have h2 := OB.out
            show q < (wr.alloc (.cells #[I_ xk, I_ xo, I_ xa, I_ x0, I_ x1, .int .u64 x2, .slice ax nx cx] 67)).heap.size
            simp only [List.mem_cons, List.mem_nil_iff, or_false] at hq
            rcases hq with rfl | rfl <;> omega)
          clear hq3 hcl hac hxj hv d1 d2 d3 d4 sc HJ
          go_upto_region 8 with fail
          obtain ⟨lw, hlw⟩ : ∃ lw, wr.heap.size = lw := ⟨_, rfl⟩
          rw [hlw] at V7 OB KL0 VL0 ⊢
          have VL := VL0
          generalize wr.alloc _ = W1 at *
          clear e0 e1 e2 e3 e4 e5 e6 hlw VL0
          refine wp_region_held_drew (S := fun w' => Yp [vb, lw] W1.drew w') ZJ (Yp.refl KL0.out) (fun hH => ?_)
          have SC' := Za (SC.out.al (wr' := W1.drew) (below_drewN (Below.refl _ _) 1))
          clear SC
          have SC := SC'
          clear SC'
          have V7' : Hid (Wv W1.drew lw xk xo xa (x0, x1, x2) (.slice ax nx cx)) := V7
          clear V7
          have V7 := V7'
          clear V7'
          have CL := Za (wclone_c (w := W1.drew) xk xo xa x0 x1 x2 (.slice ax nx cx) (AC.out.bel (w' := W1.drew) (below_drewN (Below.refl _ _) 1)))
          obtain ⟨vas, cc1, cc2, cc3, cc4⟩ := SC.out.cur l _ HL.out HV.out
          have HC : Hid (vas.length = j /\ (∀ va ∈ vas, YK W1.drew R va) /\ W1.drew.ownsRow w.heap.size 67 7 (.slice av j cv) j (YG (l.take j) vas) /\ ∀ k, (Value.slice av j cv).ownBlock = some k -> ¬ R k) := Za ⟨cc1, cc2, cc3, cc4⟩
          clear cc1 cc2 cc3 cc4
          have VN : Hid (∀ q ∈ [vb, lw], (Value.slice av j cv).ownBlock ≠ some q) := Za (fun q hq => by
            simp only [List.mem_cons, List.mem_nil_iff, or_false] at hq
            rcases hq with rfl | rfl
            · exact Zu HC.out.2.2.1 SC.out.var (by decide)
            · exact fun e => absurd (VL.out _ e) (by omega))
          have VO : Hid ((Value.slice av j cv).ownBlock ≠ some ob) := Za (fun e => Zo HC.out.2.2.1 SC.out.row (by decide) ob e rfl)
          have C0 : Hid (W1.drew.cell? ⟨vb, 0, none⟩ = some (.slice (some ⟨ob, 0, none⟩) n n)) := Za (Zb SC.out.var 0 _ rfl)
          generalize W1.drew = Y0 at *
          refine H_ 0 (v := ?_) ?_ hH ?_
          rotate_left 1
          · (intro w hSw; have q := hSw.cell (by simp) C0.out; clear hSw; go_simp <;> with_reducible rfl)
          simp only [Act.put, S_]
          refine H2_ 1 hH ?_
          simp only [Act.put, S_]
          refine H_ 2 (v := ?_) ?_ hH ?_
          rotate_left 1
          · (intro w hSw; have q := hSw.cell (by simp) C0.out; clear hSw; go_simp <;> with_reducible rfl)
          simp only [Act.put, S_]
          refine H2_ 3 hH ?_
          simp only [Act.put, S_]
          refine H2_ 4 hH ?_
          simp only [Act.put, S_]
          refine H_ 6 (v := ?_) ?_ hH ?_
          rotate_left 1
          · (intro w hSw; obtain ⟨z0, z1, z2, z3, z4, z5, z6⟩ := V7.out.all; have q0 := hSw.cell (by simp) z0; have q1 := hSw.cell (by simp) z1; have q2 := hSw.cell (by simp) z2; have q3 := hSw.cell (by simp) z3; have q4 := hSw.cell (by simp) z4; have q5 := hSw.cell (by simp) z5; have q6 := hSw.cell (by simp) z6; clear hSw; go_simp <;> with_reducible rfl)
          simp only [Act.put, S_]
          refine wpAnyH_ready (rs := [5, 7]) (by kernel_rfl) (by decide) ?_
          refine AllReadyH.cons rfl (fun K1 hK1 => ?_) (AllReadyH.cons rfl (fun K1 hK1 => ?_) AllReadyH.nil)
          · have q := (show Y0.cell? ⟨ob, k, none⟩ = some (.slice av j cv) from (Zk SC.out.row k _ HV.out).1)
            go_simp
            refine hK1.out _ _ hH (fun hH => ?_)
            clear hK1 K1 q
            refine RH_ 7 (fun K1 hK1 => ?_)
            go_simp
            refine CL.out.mono ?_
            rintro e w3 ⟨v3, rfl, a3, b3⟩
            obtain ⟨a5, n5, c5, x5, rfl, _⟩ := id a3
            refine hK1.out _ _ (hH.al b3) (fun hH => ?_)
            clear hK1 K1
            have SC3 := Za (SC.out.al b3)
            have A3 := Za (And.intro a3 b3)
            clear a3 b3
            have PU := Za (fun ty => push_w (w := w3) (n := j) (l := l.take j) (vas := vas) (by simp; omega) (by simp; have := HC.out.1; omega) (Zj HC.out.2.2.1 (fun k hk => A3.out.2.block k (Zf HC.out.2.2.1 hk).2.1)) (by simp; omega) (Nat.le_trans SC.out.bel.size A3.out.2.size) ⟨xk, xo, xa, (x0, x1, x2)⟩ (.slice a5 n5 c5) rfl ty)
            refine RH_ 8 (fun K1 hK1 => ?_)
            go_simp
            refine hK1.out _ _ (hH.al (Zd w3 _)) (fun hH => ?_)
            clear hK1 K1
            refine RH_ 9 (fun K1 hK1 => ?_)
            refine Zr (TS := 68) (.tmp 29) (.tmp 32) _ _ _ (fun ty => PU.out ty) rfl rfl rfl rfl ?_
            rintro v9 w9 ⟨⟨a9, c9, rfl⟩, o9, g9, b9⟩
            refine hK1.out _ _ ⟨Nat.le_trans A3.out.2.size g9.size, hH.2.1, fun q hq => (g9.block q (Nat.lt_of_lt_of_le (hH.2.1 q hq) A3.out.2.size) (fun e => VN.out q hq e.symm)).trans (A3.out.2.block q (hH.2.1 q hq))⟩ (fun hH => ?_)
            clear hK1 K1
            have R9 := Za (And.intro o9 (And.intro g9 b9))
            clear o9 g9 b9
            refine H2_ 10 hH ?_
            simp only [Act.put, S_]
            refine RH_ 11 (fun K1 hK1 => ?_)
            have OR : w9.ownsRow 0 68 1 (.slice (some ⟨ob, 0, none⟩) n n) n vs := Zj SC3.out.row (fun q hq => R9.out.2.1.block q (Zf SC3.out.row hq).2.1 (fun e => VO.out (by cases hq; exact e.symm)))
            obtain ⟨z1, z2⟩ := Zk OR k _ HV.out
            go_simp
            refine hK1.out _ _ (hH.turn (t := ob) (by rw [Zi]; exact Nat.le_refl _) (fun q _ hq => Below.heap_setCell _ _ _ _ hq) (fun hm => by have := OB.out; simp at hm; omega)) (fun hH => ?_)
            clear hK1 K1 z1 z2 OR
            refine wpAnyH_done (by kernel_rfl) ?_ _
            clear hH
            go_wp2_with fail
            go_roundw
            case rel =>
              obtain ⟨R', s9⟩ := SC.out.push HL.out HXJ.out (by omega) HV.out HC.out.1 HC.out.2.1 (fun q hq => ⟨HC.out.2.2.2 q hq, (Zf HC.out.2.2.1 hq).2.1⟩) A3.out.2 A3.out.1 (by have := R9.out.1; exact this) R9.out.2.1 R9.out.2.2 (fun q hq => (Zf HC.out.2.2.1 hq).2.2)
              exact ⟨j + 1, by omega, by go_num, Za ⟨R', _, s9⟩⟩
            case measure => simp [intOf]; omega
          · go_simp
            refine CL.out.mono ?_
            rintro e w3 ⟨v3, rfl, a3, b3⟩
            obtain ⟨a5, n5, c5, x5, rfl, _⟩ := id a3
            refine hK1.out _ _ (hH.al b3) (fun hH => ?_)
            clear hK1 K1
            have SC3 := Za (SC.out.al b3)
            have A3 := Za (And.intro a3 b3)
            clear a3 b3
            have PU := Za (fun ty => push_w (w := w3) (n := j) (l := l.take j) (vas := vas) (by simp; omega) (by simp; have := HC.out.1; omega) (Zj HC.out.2.2.1 (fun k hk => A3.out.2.block k (Zf HC.out.2.2.1 hk).2.1)) (by simp; omega) (Nat.le_trans SC.out.bel.size A3.out.2.size) ⟨xk, xo, xa, (x0, x1, x2)⟩ (.slice a5 n5 c5) rfl ty)
            refine wpAnyH_ready (rs := [5, 8]) (by kernel_rfl) (by decide) ?_
            refine AllReadyH.cons rfl (fun K1 hK1 => ?_) (AllReadyH.cons rfl (fun K1 hK1 => ?_) AllReadyH.nil)
            · have q := (show w3.cell? ⟨ob, k, none⟩ = some (.slice av j cv) from (Zk SC3.out.row k _ HV.out).1)
              go_simp
              refine hK1.out _ _ hH (fun hH => ?_)
              clear hK1 K1 q
              refine RH_ 8 (fun K1 hK1 => ?_)
              go_simp
              refine hK1.out _ _ (hH.al (Zd w3 _)) (fun hH => ?_)
              clear hK1 K1
              refine RH_ 9 (fun K1 hK1 => ?_)
              refine Zr (TS := 68) (.tmp 29) (.tmp 32) _ _ _ (fun ty => PU.out ty) rfl rfl rfl rfl ?_
              rintro v9 w9 ⟨⟨a9, c9, rfl⟩, o9, g9, b9⟩
              refine hK1.out _ _ ⟨Nat.le_trans A3.out.2.size g9.size, hH.2.1, fun q hq => (g9.block q (Nat.lt_of_lt_of_le (hH.2.1 q hq) A3.out.2.size) (fun e => VN.out q hq e.symm)).trans (A3.out.2.block q (hH.2.1 q hq))⟩ (fun hH => ?_)
              clear hK1 K1
              have R9 := Za (And.intro o9 (And.intro g9 b9))
              clear o9 g9 b9
              refine H2_ 10 hH ?_
              simp only [Act.put, S_]
              refine RH_ 11 (fun K1 hK1 => ?_)
              have OR : w9.ownsRow 0 68 1 (.slice (some ⟨ob, 0, none⟩) n n) n vs := Zj SC3.out.row (fun q hq => R9.out.2.1.block q (Zf SC3.out.row hq).2.1 (fun e => VO.out (by cases hq; exact e.symm)))
              obtain ⟨z1, z2⟩ := Zk OR k _ HV.out
              go_simp
              refine hK1.out _ _ (hH.turn (t := ob) (by rw [Zi]; exact Nat.le_refl _) (fun q _ hq => Below.heap_setCell _ _ _ _ hq) (fun hm => by have := OB.out; simp at hm; omega)) (fun hH => ?_)
              clear hK1 K1 z1 z2 OR
              refine wpAnyH_done (by kernel_rfl) ?_ _
              clear hH
              go_wp2_with fail
              go_roundw
              case rel =>
                obtain ⟨R', s9⟩ := SC.out.push HL.out HXJ.out (by omega) HV.out HC.out.1 HC.out.2.1 (fun q hq => ⟨HC.out.2.2.2 q hq, (Zf HC.out.2.2.1 hq).2.1⟩) A3.out.2 A3.out.1 (by have := R9.out.1; exact this) R9.out.2.1 R9.out.2.2 (fun q hq => (Zf HC.out.2.2.1 hq).2.2)
                exact ⟨j + 1, by omega, by go_num, Za ⟨R', _, s9⟩⟩
              case measure => simp [intOf]; omega
            · go_simp
              refine hK1.out _ _ (hH.al (Zd w3 _)) (fun hH => ?_)
              clear hK1 K1
              refine RH_ 5 (fun K1 hK1 => ?_)
              have q := (show (w3.alloc (.cells #[I_ xk, I_ xo, I_ xa, I_ x0, I_ x1, .int .u64 x2, .slice a5 n5 c5] 67)).cell? ⟨ob, k, none⟩ = some (.slice av j cv) from (Zk (SC3.out.al (Zd w3 (.cells #[I_ xk, I_ xo, I_ xa, I_ x0, I_ x1, .int .u64 x2, .slice a5 n5 c5] 67))).row k _ HV.out).1)
              go_simp
              refine hK1.out _ _ hH (fun hH => ?_)
              clear hK1 K1 q
              refine RH_ 9 (fun K1 hK1 => ?_)
              refine Zr (TS := 68) (.tmp 29) (.tmp 32) _ _ _ (fun ty => PU.out ty) rfl rfl rfl rfl ?_
              rintro v9 w9 ⟨⟨a9, c9, rfl⟩, o9, g9, b9⟩
              refine hK1.out _ _ ⟨Nat.le_trans A3.out.2.size g9.size, hH.2.1, fun q hq => (g9.block q (Nat.lt_of_lt_of_le (hH.2.1 q hq) A3.out.2.size) (fun e => VN.out q hq e.symm)).trans (A3.out.2.block q (hH.2.1 q hq))⟩ (fun hH => ?_)
              clear hK1 K1
              have R9 := Za (And.intro o9 (And.intro g9 b9))
              clear o9 g9 b9
              refine H2_ 10 hH ?_
              simp only [Act.put, S_]
              refine RH_ 11 (fun K1 hK1 => ?_)
              have OR : w9.ownsRow 0 68 1 (.slice (some ⟨ob, 0, none⟩) n n) n vs := Zj SC3.out.row (fun q hq => R9.out.2.1.block q (Zf SC3.out.row hq).2.1 (fun e => VO.out (by cases hq; exact e.symm)))
              obtain ⟨z1, z2⟩ := Zk OR k _ HV.out
              go_simp
              refine hK1.out _ _ (hH.turn (t := ob) (by rw [Zi]; exact Nat.le_refl _) (fun q _ hq => Below.heap_setCell _ _ _ _ hq) (fun hm => by have := OB.out; simp at hm; omega)) (fun hH => ?_)
              clear hK1 K1 z1 z2 OR
              refine wpAnyH_done (by kernel_rfl) ?_ _
              clear hH
              go_wp2_with fail
              go_roundw
              case rel =>
                obtain ⟨R', s9⟩ := SC.out.push HL.out HXJ.out (by omega) HV.out HC.out.1 HC.out.2.1 (fun q hq => ⟨HC.out.2.2.2 q hq, (Zf HC.out.2.2.1 hq).2.1⟩) A3.out.2 A3.out.1 (by have := R9.out.1; exact this) R9.out.2.1 R9.out.2.2 (fun q hq => (Zf HC.out.2.2.1 hq).2.2)
                exact ⟨j + 1, by omega, by go_num, Za ⟨R', _, s9⟩⟩
              case measure => simp [intOf]; omega
        · have ej : j = m := by omega
          subst ej
          have HJ2 : Hid (∃ R vs, Sc w wr vb ob n R S (k + 1) 0 vs) := Za (by
            obtain ⟨R, vs, sc⟩ := HJ.out
            obtain ⟨R', sc'⟩ := sc.next HL.out HM.out HN.out
            exact ⟨R', vs, sc'⟩)
          clear HJ
          go_wp2_with fail
          go_roundw
          case rel => exact ⟨k + 1, by omega, by go_num, HJ2⟩
          case measure => simp [intOf]; omega
    · have ek : k = n := by omega
      subst ek
      go_wp2_with fail
      go_ret
      obtain ⟨R, vs, sc⟩ := HI.out
      obtain ⟨R', b1, b2⟩ := sc.beg HN.out H2.out
      exact ⟨_, R', rfl, b1, b2, sc.bel⟩
end Go.Proofs.YtfojninaginnoaaGreatDoor.Ck
