/- Texts of this proof, packed: contracts of the program's functions, and the plain model that they are held against. -/
import Derived.Test.YtfojninaginnoaaGreatDoorVaf
set_option maxRecDepth 20000
set_option maxHeartbeats 4000000
namespace Go.Proofs.YtfojninaginnoaaGreatDoor.Ck
open Go.RowKit
section
variable {w w' : World} {G Fs Fo Fo' R : Nat → Prop} {g gs : Nat} {S : List (List Wt)} {r r' : Rm} {vC vB vG vE vC' vB' vG' vE' : Value} {ps ts ps' ts' : List Nat}
theorem Yh (hG : ∀ k, G k ↔ Fs k ∨ Fo k ∨ R k) (h' : Ru w' Fs Fo' R g gs S r' vC' vB' vG' vE' ps' ts') (c : Ch Fo Fo' w w') : Rn w' (fun k => Fs k ∨ Fo' k ∨ R k) g S r' /\ Ch G (fun k => Fs k ∨ Fo' k ∨ R k) w w' := by
 refine ⟨h'.rn, c.wide (fun k hk => (hG k).2 (.inr (.inl hk))) fun k hk => ?_⟩
 rcases hk with h1 | h1 | h1
 · exact .inl ((hG k).2 (.inl h1))
 · rcases c.grow k h1 with h2 | h2
   · exact .inl ((hG k).2 (.inr (.inl h2)))
   · exact .inr h2
 · exact .inl ((hG k).2 (.inr (.inr h1)))
end
theorem info_ev : (Tryz.prog.info? 132).map (fun i => (i.zero, i.size, i.bytes)) = some (some (.agg #[I_ 0, I_ 0, I_ 0, I_ 0]), 4, 32) := by kernel_rfl
theorem ecs_one (l : List Evt) : ∀ u ∈ ecs l, u.oneCell' = true := by
 induction l with
 | nil => intro u h; simp [ecs] at h
 | cons v l ih =>
  intro u h
  simp only [ecs, List.mem_cons] at h
  rcases h with rfl | rfl | rfl | rfl | h
  · rfl
  · rfl
  · rfl
  · rfl
  · exact ih u h
theorem push_e {w : World} {vq : Value} {l : List Evt} {n : Nat} (hn : n = l.length) (oq : w.ownsRow 0 132 4 vq n (ecs l)) (hl : l.length <= 100000) (e : Evt) (ty : TypeId) :
 ∃ v' w', (Builtin.append_ #[40, 40] ty #[vq, .slice (some ⟨w.heap.size, 0, none⟩) 1 1]).run Tryz.prog (w.alloc (.cells #[I_ e.g, I_ e.k, I_ e.o, I_ e.a] 132)) = .ok v' w' ∧
  (w'.ownsRow 0 132 4 v' (n + 1) (ecs (l ++ [e])) /\ w.grownBy w' vq.ownBlock /\ (∀ k, v'.ownBlock = some k -> vq.ownBlock = some k ∨ w.heap.size <= k)) := by
 obtain ⟨ie, hi, hz0, hz1, hz2⟩ := info_parts info_ev
 have hb := Zd w (.cells #[I_ e.g, I_ e.k, I_ e.o, I_ e.a] 132)
 have o1 := Zj oq (fun k hk => hb.block k (Zf oq hk).2.1)
 have hc : ∀ (j : Nat) (u : Value), (ecs [e])[j]? = some u -> (w.alloc (.cells #[I_ e.g, I_ e.k, I_ e.o, I_ e.a] 132)).cell? ((⟨w.heap.size, 0, none⟩ : Addr).add j) = some u := fun j u hu => by
  rw [show (⟨w.heap.size, 0, none⟩ : Addr).add j = ⟨w.heap.size, j, none⟩ by unfold Addr.add; by_cases h : j = 0 <;> simp [h]]
  exact Zb (B_ w _) j u (by simpa [ecs] using hu)
 obtain ⟨v', w', hr, ho, hg, _, hat⟩ := run_append_own_at (P := Tryz.prog) (w.alloc (.cells #[I_ e.g, I_ e.k, I_ e.o, I_ e.a] 132)) 0 40 ty 132 ie _ 4 32 Tryz.underlying40 hi hz0 hz1 hz2 rfl (by decide) vq n (ecs l) o1 ⟨w.heap.size, 0, none⟩ 1 1 (ecs [e]) rfl hc (ecs_one _) (by unfold maxLen; omega) (by omega) (Nat.zero_le _)
 refine ⟨v', w', hr, by rw [ecs_app]; exact ho, ⟨hg.os, hg.tape, hg.output, Nat.le_trans hb.size hg.size, fun k hk hne => (hg.block k (Nat.lt_of_lt_of_le hk hb.size) hne).trans (hb.block k hk)⟩, fun k hk => ?_⟩
 rcases hat with e | e
 · exact .inl (e.symm.trans hk)
 · rw [e] at hk
   right
   have := Option.some.inj hk
   simp at this
   omega
theorem push_run {w : World} {Fs Fo R : Nat -> Prop} {g gs : Nat} {S : List (List Wt)} {r : Rm} {vC vB vG vE : Value} {ps ts : List Nat} (h : Ru w Fs Fo R g gs S r vC vB vG vE ps ts) (hl : r.ev.length <= 100000) (e : Evt) (ty : TypeId) :
 ∃ v' w', (Builtin.append_ #[40, 40] ty #[vE, .slice (some ⟨w.heap.size, 0, none⟩) 1 1]).run Tryz.prog (w.alloc (.cells #[I_ e.g, I_ e.k, I_ e.o, I_ e.a] 132)) = .ok v' w' ∧
  ((∃ a l c, v' = .slice a l c) /\ w'.frozen? ⟨g, 4, none⟩ = false /\ w'.cell? ⟨g, 4, none⟩ = some vE /\ ∃ Fo', Ru (w'.setCell ⟨g, 4, none⟩ v') Fs Fo' R g gs S { r with ev := r.ev ++ [e] } vC vB vG v' ps ts /\ Ch Fo Fo' w (w'.setCell ⟨g, 4, none⟩ v')) := by
 obtain ⟨v', w', hr, ho, hg, hf⟩ := push_e rfl h.ev hl e ty
 have hgb : w'.heap[g]? = w.heap[g]? := hg.block g (Ze h.at_) (fun e => Zu h.ev h.at_ (by decide) e.symm)
 obtain ⟨a, c, e', _⟩ := Zl ho
 have hn := h.noted e (by rw [List.length_append]; exact ho) hg hf
 exact ⟨v', w', hr, ⟨_, _, _, e'⟩, Zc (hgb.trans h.at_) _, Zb (hgb.trans h.at_) 4 _ rfl, _, hn.1, hn.2⟩
theorem fault_any {w : World} {G : Nat -> Prop} {g : Nat} {S : List (List Wt)} {r : Rm} (h : Rn w G g S r) (i : Int) (f n a : Int) : Calls Tryz.prog 57 #[P_ g, I_ i, .agg #[I_ f, I_ n, I_ a]] w (RnP w G g S { r with e := ⟨3, f, i, n, a⟩ } (.tuple #[])) := by
 obtain ⟨Fs, Fo, R, gs, vC, vB, vG, vE, ps, ts, h, hG⟩ := h
 have B0 := Zd w (.cells #[I_ f, I_ n, I_ a] 122)
 have h1 := h.bel B0
 have HE := Za (Yh hG (h1.setE 3 f i n a) (ch_setEnd h1.fg))
 obtain ⟨_, c5, c6, c7, c8, c9⟩ := h1.cells
 have f5 := Zc h1.at_ 5
 have f6 := Zc h1.at_ 6
 have f7 := Zc h1.at_ 7
 have f8 := Zc h1.at_ 8
 have f9 := Zc h1.at_ 9
 have HB := Za B0
 have HC := Za (And.intro c5 (And.intro c6 (And.intro c7 (And.intro c8 (And.intro c9 (And.intro f5 (And.intro f6 (And.intro f7 (And.intro f8 f9)))))))))
 have HV := Za (B_ w (.cells #[I_ f, I_ n, I_ a] 122))
 clear h h1 hG B0 c5 c6 c7 c8 c9 f5 f6 f7 f8 f9
 go_enter Tryz.func57, Tryz.ntmps57
 go_upto_region 1 with fail
 generalize w.alloc _ = w1 at *
 obtain ⟨c5, c6, c7, c8, c9, f5, f6, f7, f8, f9⟩ := HC.out
 have q0 := Zb HV.out 0 _ rfl
 have q1 := Zb HV.out 1 _ rfl
 have q2 := Zb HV.out 2 _ rfl
 go_wp2_with fail
 go_end0
 exact RnP.mk rfl HE.out.1 ((Ch.of_bel HB.out).trans HE.out.2)
theorem settle_any {w : World} {G : Nat -> Prop} {g : Nat} {S : List (List Wt)} {r : Rm} {p : List Addr} (h : Rn w G g S r) (h17 : E2 w p) : Calls Tryz.prog 32 #[P_ g] w (RnP w G g S (Yr r) (.tuple #[])) := by
 have E := Za (End_any h h17)
 unfold Yr
 obtain ⟨z, hz⟩ : ∃ z, endR r = z := ⟨_, rfl⟩
 rw [hz] at E ⊢
 obtain ⟨e0, e1, e2, e3, e4⟩ := z
 unfold EnV at E
 simp only at E
 have HR := Za h
 have hgl := h.lt
 clear h h17 hz
 go_enter Tryz.func32, Tryz.ntmps32
 go_wp2_with fail
 refine E.out.mono ?_
 rintro e w1 ⟨rfl, hb⟩
 obtain ⟨Fs, Fo, R, gs, vC, vB, vG, vE, ps, ts, h, hG⟩ := HR.out.bel hb
 have HE := Za (Yh hG (h.setE e0 e1 e2 e3 e4) (ch_setEnd h.fg))
 obtain ⟨_, c5, c6, c7, c8, c9⟩ := h.cells
 have f5 := Zc h.at_ 5
 have f6 := Zc h.at_ 6
 have f7 := Zc h.at_ 7
 have f8 := Zc h.at_ 8
 have f9 := Zc h.at_ 9
 have HB := Za hb
 clear h hG HR E hb
 go_wp2_with fail
 go_end0
 exact RnP.mk rfl HE.out.1 ((Ch.of_bel HB.out).trans HE.out.2)
theorem note_any {w : World} {G : Nat -> Prop} {g : Nat} {S : List (List Wt)} {r : Rm} (h : Rn w G g S r) (i : Nat) (x : Gr) (hx : r.gs[i]? = some x) (ob : Int) (hl : r.ev.length <= 100000) : Calls Tryz.prog 71 #[P_ g, I_ (i : Nat), I_ ob] w (RnP w G g S (ZI r i ob) (.tuple #[])) := by
 have hR : ZI r i ob = { r with ev := r.ev ++ [⟨i, x.w.k, ob, x.w.a⟩] } := by
  unfold ZI
  rw [hx]
 rw [hR]
 clear hR
 obtain ⟨Fs, Fo, R, gs, vC, vB, vG, vE, ps, ts, h, hG⟩ := h
 obtain ⟨bG, cG, b, t, va, eG, _, _, _, _, _, hA, ⟨s1, s2, s3⟩, s4⟩ := h.see hx
 subst eG
 obtain ⟨aa, na, ca, rfl⟩ := hA.form
 clear hA
 have hi : i < r.gs.length := (G_ hx)
 have hn8 := h.n8
 obtain ⟨⟨c0, c1, c2, c3, c4⟩, c5, c6, c7, c8, c9⟩ := h.cells
 have hgl := h.fb g h.fg
 obtain ⟨rest, ⟨k, o, a, v0, v1, v2⟩⟩ := x
 simp only at s4
 have b1 := Zb s4 1 _ rfl
 have b2 := Zb s4 2 _ rfl
 have b3 := Zb s4 3 _ rfl
 have b4 := Zb s4 4 _ rfl
 have b5 := Zb s4 5 _ rfl
 have b6 := Zb s4 6 _ rfl
 have b7 := Zb s4 7 _ rfl
 obtain ⟨n, hn⟩ : ∃ n, n = r.gs.length := ⟨_, rfl⟩
 rw [← hn] at hi hn8 c3
 have HN := Za hn
 have hi1 : (i : Int) < (n : Int) := by omega
 have hi0 : (0 : Int) <= (i : Int) := by omega
 have hd0 : decide ((i : Int) < 0) = false := by simp
 have hd1 : decide ((n : Int) <= (i : Int)) = false := by simp; omega
 clear hn
 have B0 := Za (Zd w (.cells #[I_ k, I_ o, I_ a, I_ v0, I_ v1, .int .u64 v2, .slice aa na ca] 67))
 have V0 := Za (Wv.new w k o a v0 v1 v2 (.slice aa na ca))
 obtain ⟨aE, cE, eE, _⟩ := Zl h.ev
 obtain ⟨nE, hnE⟩ : ∃ nE, nE = r.ev.length := ⟨_, rfl⟩
 rw [← hnE] at eE
 subst eE
 have H1 := Za (h.bel B0.out)
 have HG := Za hG
 have HL := Za hl
 clear h hG s4 hnE hl c0 c1 c2 c4 c5 c6 c7 c8 c9
 go_enter Tryz.func71, Tryz.ntmps71
 go_upto_region 1 with fail
 generalize w.alloc _ = w1 at *
 have HD := Za (H1.out.bel (w' := w1.drew) (below_drewN (Below.refl _ _) 1))
 have BD := Za (Zp B0.out)
 have N0 : Hid (Wv w1.drew w.heap.size k o a (v0, v1, v2) (.slice aa na ca)) := V0
 have PU := Za (fun ty => push_run HD.out HL.out ⟨i, k, ob, a⟩ ty)
 have G0 := Za HD.out.at_
 simp only at PU
 clear H1 B0 V0 b1 b2 b3 b4 b5 b6 b7 s1 c3
 refine wp_region_any ZJ ?_
 change wpAny _ _ _ _ _ _ _ (World.drew _)
 generalize World.drew _ = W0 at *
 refine T2_ 0 ?_
 simp only [Act.put, S_]
 refine T2_ 1 ?_
 simp only [Act.put, S_]
 refine T2_ 2 ?_
 simp only [Act.put, S_]
 refine T2_ 3 ?_
 simp only [Act.put, S_]
 refine T2_ 5 ?_
 simp only [Act.put, S_]
 refine T2_ 6 ?_
 simp only [Act.put, S_]
 refine T2_ 8 ?_
 simp only [Act.put, S_]
 refine T2_ 9 ?_
 simp only [Act.put, S_]
 refine wpAny_ready (rs := [4, 7, 10]) (by kernel_rfl) (by decide) ?_
 refine AllReady.cons rfl (fun K1 hK1 => ?_) (AllReady.cons rfl (fun K1 hK1 => ?_) (AllReady.cons rfl (fun K1 hK1 => ?_) AllReady.nil))
 · have q := (show W0.cell? ⟨g, 4, none⟩ = some (.slice aE nE cE) from Zb G0.out 4 _ rfl)
   go_simp
   refine hK1 _ _ ?_
   clear hK1 K1 q
   refine wpAny_ready (rs := [7, 10]) (by kernel_rfl) (by decide) ?_
   refine AllReady.cons rfl (fun K1 hK1 => ?_) (AllReady.cons rfl (fun K1 hK1 => ?_) AllReady.nil)
   · obtain ⟨q0, q1, q2, q3, q4, q5, q6⟩ := N0.out.all
     go_simp
     refine hK1 _ _ ?_
     clear hK1 K1 q0 q1 q2 q3 q4 q5 q6
     refine R_ 10 (fun K1 hK1 => ?_)
     obtain ⟨q0, q1, q2, q3, q4, q5, q6⟩ := N0.out.all
     go_simp
     refine hK1 _ _ ?_
     clear hK1 K1 q0 q1 q2 q3 q4 q5 q6
     refine T2_ 11 ?_
     simp only [Act.put, S_]
     refine R_ 12 (fun K1 hK1 => ?_)
     go_simp
     refine hK1 _ _ ?_
     clear hK1 K1
     refine R_ 13 (fun K1 hK1 => ?_)
     refine Zr (TS := 40) (.tmp 21) (.tmp 29) _ _ _ (fun ty => PU.out ty) rfl rfl rfl rfl ?_
     rintro v9 w9 ⟨⟨a9, l9, c9, rfl⟩, z1, z2, r9⟩
     have R9 := Za r9
     clear r9
     refine hK1 _ _ ?_
     clear hK1 K1
     refine T2_ 14 ?_
     simp only [Act.put, S_]
     refine T2_ 15 ?_
     simp only [Act.put, S_]
     refine R_ 16 (fun K1 hK1 => ?_)
     go_simp
     refine hK1 _ _ ?_
     clear hK1 K1 z1 z2
     refine wpAny_done (by kernel_rfl) ?_ _
     go_wp2_with fail
     go_end0
     obtain ⟨Fo', r1, r2⟩ := R9.out
     have HE := Yh HG.out r1 r2
     exact RnP.mk rfl HE.1 ((Ch.of_bel BD.out).trans HE.2)
   · obtain ⟨q0, q1, q2, q3, q4, q5, q6⟩ := N0.out.all
     go_simp
     refine hK1 _ _ ?_
     clear hK1 K1 q0 q1 q2 q3 q4 q5 q6
     refine R_ 7 (fun K1 hK1 => ?_)
     obtain ⟨q0, q1, q2, q3, q4, q5, q6⟩ := N0.out.all
     go_simp
     refine hK1 _ _ ?_
     clear hK1 K1 q0 q1 q2 q3 q4 q5 q6
     refine T2_ 11 ?_
     simp only [Act.put, S_]
     refine R_ 12 (fun K1 hK1 => ?_)
     go_simp
     refine hK1 _ _ ?_
     clear hK1 K1
     refine R_ 13 (fun K1 hK1 => ?_)
     refine Zr (TS := 40) (.tmp 21) (.tmp 29) _ _ _ (fun ty => PU.out ty) rfl rfl rfl rfl ?_
     rintro v9 w9 ⟨⟨a9, l9, c9, rfl⟩, z1, z2, r9⟩
     have R9 := Za r9
     clear r9
     refine hK1 _ _ ?_
     clear hK1 K1
     refine T2_ 14 ?_
     simp only [Act.put, S_]
     refine T2_ 15 ?_
     simp only [Act.put, S_]
     refine R_ 16 (fun K1 hK1 => ?_)
     go_simp
     refine hK1 _ _ ?_
     clear hK1 K1 z1 z2
     refine wpAny_done (by kernel_rfl) ?_ _
     go_wp2_with fail
     go_end0
     obtain ⟨Fo', r1, r2⟩ := R9.out
     have HE := Yh HG.out r1 r2
     exact RnP.mk rfl HE.1 ((Ch.of_bel BD.out).trans HE.2)
 · obtain ⟨q0, q1, q2, q3, q4, q5, q6⟩ := N0.out.all
   go_simp
   refine hK1 _ _ ?_
   clear hK1 K1 q0 q1 q2 q3 q4 q5 q6
   refine wpAny_ready (rs := [4, 10]) (by kernel_rfl) (by decide) ?_
   refine AllReady.cons rfl (fun K1 hK1 => ?_) (AllReady.cons rfl (fun K1 hK1 => ?_) AllReady.nil)
   · have q := (show W0.cell? ⟨g, 4, none⟩ = some (.slice aE nE cE) from Zb G0.out 4 _ rfl)
     go_simp
     refine hK1 _ _ ?_
     clear hK1 K1 q
     refine R_ 10 (fun K1 hK1 => ?_)
     obtain ⟨q0, q1, q2, q3, q4, q5, q6⟩ := N0.out.all
     go_simp
     refine hK1 _ _ ?_
     clear hK1 K1 q0 q1 q2 q3 q4 q5 q6
     refine T2_ 11 ?_
     simp only [Act.put, S_]
     refine R_ 12 (fun K1 hK1 => ?_)
     go_simp
     refine hK1 _ _ ?_
     clear hK1 K1
     refine R_ 13 (fun K1 hK1 => ?_)
     refine Zr (TS := 40) (.tmp 21) (.tmp 29) _ _ _ (fun ty => PU.out ty) rfl rfl rfl rfl ?_
     rintro v9 w9 ⟨⟨a9, l9, c9, rfl⟩, z1, z2, r9⟩
     have R9 := Za r9
     clear r9
     refine hK1 _ _ ?_
     clear hK1 K1
     refine T2_ 14 ?_
     simp only [Act.put, S_]
     refine T2_ 15 ?_
     simp only [Act.put, S_]
     refine R_ 16 (fun K1 hK1 => ?_)
     go_simp
     refine hK1 _ _ ?_
     clear hK1 K1 z1 z2
     refine wpAny_done (by kernel_rfl) ?_ _
     go_wp2_with fail
     go_end0
     obtain ⟨Fo', r1, r2⟩ := R9.out
     have HE := Yh HG.out r1 r2
     exact RnP.mk rfl HE.1 ((Ch.of_bel BD.out).trans HE.2)
   · obtain ⟨q0, q1, q2, q3, q4, q5, q6⟩ := N0.out.all
     go_simp
     refine hK1 _ _ ?_
     clear hK1 K1 q0 q1 q2 q3 q4 q5 q6
     refine T2_ 11 ?_
     simp only [Act.put, S_]
     refine wpAny_ready (rs := [4, 12]) (by kernel_rfl) (by decide) ?_
     refine AllReady.cons rfl (fun K1 hK1 => ?_) (AllReady.cons rfl (fun K1 hK1 => ?_) AllReady.nil)
     · have q := (show W0.cell? ⟨g, 4, none⟩ = some (.slice aE nE cE) from Zb G0.out 4 _ rfl)
       go_simp
       refine hK1 _ _ ?_
       clear hK1 K1 q
       refine R_ 12 (fun K1 hK1 => ?_)
       go_simp
       refine hK1 _ _ ?_
       clear hK1 K1
       refine R_ 13 (fun K1 hK1 => ?_)
       refine Zr (TS := 40) (.tmp 21) (.tmp 29) _ _ _ (fun ty => PU.out ty) rfl rfl rfl rfl ?_
       rintro v9 w9 ⟨⟨a9, l9, c9, rfl⟩, z1, z2, r9⟩
       have R9 := Za r9
       clear r9
       refine hK1 _ _ ?_
       clear hK1 K1
       refine T2_ 14 ?_
       simp only [Act.put, S_]
       refine T2_ 15 ?_
       simp only [Act.put, S_]
       refine R_ 16 (fun K1 hK1 => ?_)
       go_simp
       refine hK1 _ _ ?_
       clear hK1 K1 z1 z2
       refine wpAny_done (by kernel_rfl) ?_ _
       go_wp2_with fail
       go_end0
       obtain ⟨Fo', r1, r2⟩ := R9.out
       have HE := Yh HG.out r1 r2
       exact RnP.mk rfl HE.1 ((Ch.of_bel BD.out).trans HE.2)
     · go_simp
       refine hK1 _ _ ?_
       clear hK1 K1
       refine R_ 4 (fun K1 hK1 => ?_)
       have q := (show (W0.alloc (.cells #[I_ (i : Nat), I_ k, I_ ob, I_ a] 132)).cell? ⟨g, 4, none⟩ = some (.slice aE nE cE) from ((Zd W0 _).cell (p := ⟨g, 4, none⟩) (Ze G0.out)).trans (Zb G0.out 4 _ rfl))
       go_simp
       refine hK1 _ _ ?_
       clear hK1 K1 q
       refine R_ 13 (fun K1 hK1 => ?_)
       refine Zr (TS := 40) (.tmp 21) (.tmp 29) _ _ _ (fun ty => PU.out ty) rfl rfl rfl rfl ?_
       rintro v9 w9 ⟨⟨a9, l9, c9, rfl⟩, z1, z2, r9⟩
       have R9 := Za r9
       clear r9
       refine hK1 _ _ ?_
       clear hK1 K1
       refine T2_ 14 ?_
       simp only [Act.put, S_]
       refine T2_ 15 ?_
       simp only [Act.put, S_]
       refine R_ 16 (fun K1 hK1 => ?_)
       go_simp
       refine hK1 _ _ ?_
       clear hK1 K1 z1 z2
       refine wpAny_done (by kernel_rfl) ?_ _
       go_wp2_with fail
       go_end0
       obtain ⟨Fo', r1, r2⟩ := R9.out
       have HE := Yh HG.out r1 r2
       exact RnP.mk rfl HE.1 ((Ch.of_bel BD.out).trans HE.2)
 · obtain ⟨q0, q1, q2, q3, q4, q5, q6⟩ := N0.out.all
   go_simp
   refine hK1 _ _ ?_
   clear hK1 K1 q0 q1 q2 q3 q4 q5 q6
   refine wpAny_ready (rs := [4, 7]) (by kernel_rfl) (by decide) ?_
   refine AllReady.cons rfl (fun K1 hK1 => ?_) (AllReady.cons rfl (fun K1 hK1 => ?_) AllReady.nil)
   · have q := (show W0.cell? ⟨g, 4, none⟩ = some (.slice aE nE cE) from Zb G0.out 4 _ rfl)
     go_simp
     refine hK1 _ _ ?_
     clear hK1 K1 q
     refine R_ 7 (fun K1 hK1 => ?_)
     obtain ⟨q0, q1, q2, q3, q4, q5, q6⟩ := N0.out.all
     go_simp
     refine hK1 _ _ ?_
     clear hK1 K1 q0 q1 q2 q3 q4 q5 q6
     refine T2_ 11 ?_
     simp only [Act.put, S_]
     refine R_ 12 (fun K1 hK1 => ?_)
     go_simp
     refine hK1 _ _ ?_
     clear hK1 K1
     refine R_ 13 (fun K1 hK1 => ?_)
     refine Zr (TS := 40) (.tmp 21) (.tmp 29) _ _ _ (fun ty => PU.out ty) rfl rfl rfl rfl ?_
     rintro v9 w9 ⟨⟨a9, l9, c9, rfl⟩, z1, z2, r9⟩
     have R9 := Za r9
     clear r9
     refine hK1 _ _ ?_
     clear hK1 K1
     refine T2_ 14 ?_
     simp only [Act.put, S_]
     refine T2_ 15 ?_
     simp only [Act.put, S_]
     refine R_ 16 (fun K1 hK1 => ?_)
     go_simp
     refine hK1 _ _ ?_
     clear hK1 K1 z1 z2
     refine wpAny_done (by kernel_rfl) ?_ _
     go_wp2_with fail
     go_end0
     obtain ⟨Fo', r1, r2⟩ := R9.out
     have HE := Yh HG.out r1 r2
     exact RnP.mk rfl HE.1 ((Ch.of_bel BD.out).trans HE.2)
   · obtain ⟨q0, q1, q2, q3, q4, q5, q6⟩ := N0.out.all
     go_simp
     refine hK1 _ _ ?_
     clear hK1 K1 q0 q1 q2 q3 q4 q5 q6
     refine T2_ 11 ?_
     simp only [Act.put, S_]
     refine wpAny_ready (rs := [4, 12]) (by kernel_rfl) (by decide) ?_
     refine AllReady.cons rfl (fun K1 hK1 => ?_) (AllReady.cons rfl (fun K1 hK1 => ?_) AllReady.nil)
     · have q := (show W0.cell? ⟨g, 4, none⟩ = some (.slice aE nE cE) from Zb G0.out 4 _ rfl)
       go_simp
       refine hK1 _ _ ?_
       clear hK1 K1 q
       refine R_ 12 (fun K1 hK1 => ?_)
       go_simp
       refine hK1 _ _ ?_
       clear hK1 K1
       refine R_ 13 (fun K1 hK1 => ?_)
       refine Zr (TS := 40) (.tmp 21) (.tmp 29) _ _ _ (fun ty => PU.out ty) rfl rfl rfl rfl ?_
       rintro v9 w9 ⟨⟨a9, l9, c9, rfl⟩, z1, z2, r9⟩
       have R9 := Za r9
       clear r9
       refine hK1 _ _ ?_
       clear hK1 K1
       refine T2_ 14 ?_
       simp only [Act.put, S_]
       refine T2_ 15 ?_
       simp only [Act.put, S_]
       refine R_ 16 (fun K1 hK1 => ?_)
       go_simp
       refine hK1 _ _ ?_
       clear hK1 K1 z1 z2
       refine wpAny_done (by kernel_rfl) ?_ _
       go_wp2_with fail
       go_end0
       obtain ⟨Fo', r1, r2⟩ := R9.out
       have HE := Yh HG.out r1 r2
       exact RnP.mk rfl HE.1 ((Ch.of_bel BD.out).trans HE.2)
     · go_simp
       refine hK1 _ _ ?_
       clear hK1 K1
       refine R_ 4 (fun K1 hK1 => ?_)
       have q := (show (W0.alloc (.cells #[I_ (i : Nat), I_ k, I_ ob, I_ a] 132)).cell? ⟨g, 4, none⟩ = some (.slice aE nE cE) from ((Zd W0 _).cell (p := ⟨g, 4, none⟩) (Ze G0.out)).trans (Zb G0.out 4 _ rfl))
       go_simp
       refine hK1 _ _ ?_
       clear hK1 K1 q
       refine R_ 13 (fun K1 hK1 => ?_)
       refine Zr (TS := 40) (.tmp 21) (.tmp 29) _ _ _ (fun ty => PU.out ty) rfl rfl rfl rfl ?_
       rintro v9 w9 ⟨⟨a9, l9, c9, rfl⟩, z1, z2, r9⟩
       have R9 := Za r9
       clear r9
       refine hK1 _ _ ?_
       clear hK1 K1
       refine T2_ 14 ?_
       simp only [Act.put, S_]
       refine T2_ 15 ?_
       simp only [Act.put, S_]
       refine R_ 16 (fun K1 hK1 => ?_)
       go_simp
       refine hK1 _ _ ?_
       clear hK1 K1 z1 z2
       refine wpAny_done (by kernel_rfl) ?_ _
       go_wp2_with fail
       go_end0
       obtain ⟨Fo', r1, r2⟩ := R9.out
       have HE := Yh HG.out r1 r2
       exact RnP.mk rfl HE.1 ((Ch.of_bel BD.out).trans HE.2)
def w6s : List Wt -> List Value
 | [] => []
 | x :: l => .int .i64 x.k :: .int .i64 x.o :: .int .i64 x.a :: .int .i64 x.v.1 :: .int .i64 x.v.2.1 :: .int .u64 x.v.2.2 :: w6s l
theorem w6s_app : ∀ a b, w6s (a ++ b) = w6s a ++ w6s b
 | [], b => rfl
 | x :: a, b => by simp [w6s, w6s_app a b]
theorem w6s_at : ∀ (l : List Wt) (i : Nat) (x : Wt), l[i]? = some x -> (w6s l)[i * 6]? = some (I_ x.k) /\ (w6s l)[i * 6 + 1]? = some (I_ x.o) /\ (w6s l)[i * 6 + 2]? = some (I_ x.a) /\ (w6s l)[i * 6 + 3]? = some (I_ x.v.1) /\ (w6s l)[i * 6 + 4]? = some (I_ x.v.2.1) /\ (w6s l)[i * 6 + 5]? = some (.int .u64 x.v.2.2)
 | [], i, x, h => by simp at h
 | y :: l, 0, x, h => by
  simp at h
  subst h
  exact ⟨rfl, rfl, rfl, rfl, rfl, rfl⟩
 | y :: l, i + 1, x, h => by
  rw [show (i + 1) * 6 = i * 6 + 6 by omega]
  exact w6s_at l i x (by simpa using h)
theorem w6s_set : ∀ (l : List Wt) (i : Nat) (x : Wt), w6s (l.set i x) = ((((((w6s l).set (i * 6) (I_ x.k)).set (i * 6 + 1) (I_ x.o)).set (i * 6 + 2) (I_ x.a)).set (i * 6 + 3) (I_ x.v.1)).set (i * 6 + 4) (I_ x.v.2.1)).set (i * 6 + 5) (.int .u64 x.v.2.2)
 | [], i, x => by simp [w6s]
 | y :: l, 0, x => by simp [w6s]
 | y :: l, i + 1, x => by
  rw [show (i + 1) * 6 + 5 = i * 6 + 5 + 1 + 1 + 1 + 1 + 1 + 1 by omega, show (i + 1) * 6 + 4 = i * 6 + 4 + 1 + 1 + 1 + 1 + 1 + 1 by omega, show (i + 1) * 6 + 3 = i * 6 + 3 + 1 + 1 + 1 + 1 + 1 + 1 by omega, show (i + 1) * 6 + 2 = i * 6 + 2 + 1 + 1 + 1 + 1 + 1 + 1 by omega, show (i + 1) * 6 + 1 = i * 6 + 1 + 1 + 1 + 1 + 1 + 1 + 1 by omega, show (i + 1) * 6 = i * 6 + 1 + 1 + 1 + 1 + 1 + 1 by omega]
  simp only [List.set_cons_succ, w6s, w6s_set l i x]
theorem w6s_one : ∀ l, ∀ u ∈ w6s l, u.oneCell' = true
 | [], u, h => by simp [w6s] at h
 | x :: l, u, h => by
  simp only [w6s, List.mem_cons] at h
  rcases h with rfl | rfl | rfl | rfl | rfl | rfl | h
  all_goals first | rfl | exact w6s_one l u h
def nns (l : List Nat) : List Value := l.map fun (n : Nat) => Value.int .i64 (n : Int)
theorem nns_at {l : List Nat} {i x : Nat} (h : l[i]? = some x) : (nns l)[i]? = some (I_ (x : Int)) := by simp [nns, h]
structure Rz where
 s : St
 ws : List Wt
 ev : List Evt
 e : En
 pe : List (List Wt)
def Rm.z (r : Rm) : Rz := ⟨r.s, r.gs.map Gr.w, r.ev, r.e, r.gs.map Gr.rest⟩
structure Rq (w : World) (Fs Rs Fo R : Nat -> Prop) (B g gs gt : Nat) (S : List (List Wt)) (r : Rz) (vW vE vL vO vA : Value) (vs : List Value) (os as_ : List Nat) : Prop where
 at_ : w.heap[g]? = some (.cells #[.pointer (some ⟨gs, 0, none⟩), vW, vE, .int .i64 r.e.o, .int .i64 r.e.f, .int .i64 r.e.g, .int .i64 r.e.n, .int .i64 r.e.a, .pointer (some ⟨gt, 0, none⟩)] 45 (0, 0))
 st : Rt w Fs Rs B gs r.s
 wa : w.ownsRow 0 76 6 vW r.ws.length (w6s r.ws)
 ev : w.ownsRow 0 132 4 vE r.ev.length (ecs r.ev)
 tt : w.heap[gt]? = some (.cells #[vL, vO, vA] 79 (0, 0))
 al : w.ownsRow 0 39 1 vL S.length vs
 row : ∀ (i : Nat) (l : List Wt) (v : Value), S[i]? = some l -> vs[i]? = some v -> w.ownsRow 0 76 6 v l.length (w6s l) /\ ∀ k, v.ownBlock = some k -> R k
 of : w.ownsRow 0 3 1 vO r.pe.length (nns os)
 at' : w.ownsRow 0 3 1 vA r.pe.length (nns as_)
 pos : ∀ (i : Nat) (x : List Wt) (o a : Nat), r.pe[i]? = some x -> os[i]? = some o -> as_[i]? = some a -> ∃ l, S[o]? = some l /\ a <= l.length /\ x = l.drop a
 ne : ∀ k, vO.ownBlock = some k -> vA.ownBlock ≠ some k
 fg : Fo g
 ft : Fo gt
 fW : ∀ k, vW.ownBlock = some k -> Fo k
 fE : ∀ k, vE.ownBlock = some k -> Fo k
 fO : ∀ k, vO.ownBlock = some k -> Fo k
 fA : ∀ k, vA.ownBlock = some k -> Fo k
 fL : ∀ k, vL.ownBlock = some k -> R k
 so : ∀ k, Fo k -> ¬ Fs k /\ ¬ Rs k
 ro : ∀ k, R k -> ¬ Fs k /\ ¬ Fo k
 fb : ∀ k, Fo k -> k < w.heap.size
 rb : ∀ k, R k -> k < w.heap.size
 n8 : r.ws.length <= 8 /\ r.pe.length <= 9
 sz : S.length <= 2000 /\ ∀ l ∈ S, l.length <= 2000
def Rr (w : World) (G : Nat -> Prop) (B g : Nat) (S : List (List Wt)) (r : Rz) : Prop := ∃ Fs Rs Fo R gs gt vW vE vL vO vA vs os as_, Rq w Fs Rs Fo R B g gs gt S r vW vE vL vO vA vs os as_ /\ ∀ k, G k ↔ Fs k ∨ Rs k ∨ Fo k ∨ R k
section
variable {w w' : World} {G G' Fs Fs' Rs Rs' Fo Fo' R F F' : Nat → Prop} {B B' g gs gt : Nat} {S : List (List Wt)} {r : Rz} {vW vE vL vO vA : Value} {vs : List Value} {os as_ : List Nat}
theorem Rq.ol (h : Rq w Fs Rs Fo R B g gs gt S r vW vE vL vO vA vs os as_) : os.length = r.pe.length /\ as_.length = r.pe.length /\ vs.length = S.length := by
 have h1 := h.of.1
 have h2 := h.at'.1
 have h3 := h.al.1
 simp [nns] at h1 h2
 omega
theorem Rt.keep {s : St} (h : Rt w F R B g s) (hb : ∀ k, F k ∨ R k -> w'.heap[k]? = w.heap[k]?) (hs : w.heap.size <= w'.heap.size) : Rt w' F R B g s := by
 obtain ⟨vP, vL, vC, vS, vT, vA, ss, tk, h⟩ := h
 exact ⟨_, _, _, _, _, _, _, _, h.keep hb hs⟩
theorem Rq.lt (h : Rq w Fs Rs Fo R B g gs gt S r vW vE vL vO vA vs os as_) {k : Nat} (hk : Fs k ∨ Rs k ∨ Fo k ∨ R k) : k < w.heap.size := by
 rcases hk with hk | hk | hk | hk
 · exact h.st.fb k hk
 · exact h.st.rb k hk
 · exact h.fb k hk
 · exact h.rb k hk
theorem Rq.keep (h : Rq w Fs Rs Fo R B g gs gt S r vW vE vL vO vA vs os as_) (hb : ∀ k, Fs k ∨ Rs k ∨ Fo k ∨ R k -> w'.heap[k]? = w.heap[k]?) (hs : w.heap.size <= w'.heap.size) : Rq w' Fs Rs Fo R B g gs gt S r vW vE vL vO vA vs os as_ :=
 { h with
  at_ := (hb g (.inr (.inr (.inl h.fg)))).trans h.at_
  st := h.st.keep (fun k hk => hb k (hk.elim .inl fun q => .inr (.inl q))) hs
  wa := Zj h.wa fun k hk => hb k (.inr (.inr (.inl (h.fW k hk))))
  ev := Zj h.ev fun k hk => hb k (.inr (.inr (.inl (h.fE k hk))))
  tt := (hb gt (.inr (.inr (.inl h.ft)))).trans h.tt
  al := Zj h.al fun k hk => hb k (.inr (.inr (.inr (h.fL k hk))))
  row := fun i l v hl hv => ⟨Zj (h.row i l v hl hv).1 fun k hk => hb k (.inr (.inr (.inr ((h.row i l v hl hv).2 k hk)))), (h.row i l v hl hv).2⟩
  of := Zj h.of fun k hk => hb k (.inr (.inr (.inl (h.fO k hk))))
  at' := Zj h.at' fun k hk => hb k (.inr (.inr (.inl (h.fA k hk))))
  fb := fun k hk => Nat.lt_of_lt_of_le (h.fb k hk) hs
  rb := fun k hk => Nat.lt_of_lt_of_le (h.rb k hk) hs }
theorem Rq.bel (h : Rq w Fs Rs Fo R B g gs gt S r vW vE vL vO vA vs os as_) (hb : Below w.heap.size w w') : Rq w' Fs Rs Fo R B g gs gt S r vW vE vL vO vA vs os as_ := h.keep (fun k hk => hb.block k (h.lt hk)) hb.size
theorem Rr.fb (h : Rr w G B g S r) : ∀ k, G k -> k < w.heap.size := by
 obtain ⟨Fs, Rs, Fo, R, gs, gt, vW, vE, vL, vO, vA, vs, os, as_, h, hG⟩ := h
 exact fun k hk => h.lt ((hG k).1 hk)
theorem Rr.keep (h : Rr w G B g S r) (hb : ∀ k, G k -> w'.heap[k]? = w.heap[k]?) (hs : w.heap.size <= w'.heap.size) : Rr w' G B g S r := by
 obtain ⟨Fs, Rs, Fo, R, gs, gt, vW, vE, vL, vO, vA, vs, os, as_, h, hG⟩ := h
 exact ⟨Fs, Rs, Fo, R, gs, gt, vW, vE, vL, vO, vA, vs, os, as_, h.keep (fun k hk => hb k ((hG k).2 hk)) hs, hG⟩
theorem Rr.bel (h : Rr w G B g S r) (hb : Below w.heap.size w w') : Rr w' G B g S r := h.keep (fun k hk => hb.block k (h.fb k hk)) hb.size
theorem Rr.ch (h : Rr w G B g S r) (hc : Ch F F' w w') (hd : ∀ k, G k -> ¬ F k) : Rr w' G B g S r /\ ∀ k, G k -> ¬ F' k :=
 ⟨h.keep (fun k hk => hc.blk k (h.fb k hk) (hd k hk)) hc.size, fun k hk hF => by
  rcases hc.grow k hF with h1 | h1
  · exact hd k hk h1
  · have := h.fb k hk
    omega⟩
theorem Rr.lt (h : Rr w G B g S r) : g < w.heap.size := by
 obtain ⟨Fs, Rs, Fo, R, gs, gt, vW, vE, vL, vO, vA, vs, os, as_, h, hG⟩ := h
 exact h.fb g h.fg
theorem Rq.low {N : Nat} (h : Rq w Fs Rs Fo R B g gs gt S r vW vE vL vO vA vs os as_) (hN : ∀ k, Fs k ∨ Rs k ∨ Fo k ∨ R k -> k < N) (hb : Below N w w') : Rq w' Fs Rs Fo R B g gs gt S r vW vE vL vO vA vs os as_ := h.keep (fun k hk => hb.block k (hN k hk)) hb.size
theorem Rr.up (h : Rr w G B g S r) {B' : Nat} (hB : B <= B') : Rr w G B' g S r := by
 obtain ⟨Fs, Rs, Fo, R, gs, gt, vW, vE, vL, vO, vA, vs, os, as_, h, hG⟩ := h
 exact ⟨Fs, Rs, Fo, R, gs, gt, vW, vE, vL, vO, vA, vs, os, as_, { h with st := h.st.more hB (fun _ h => h) h.st.rb h.st.fr }, hG⟩
theorem Rq.rr (h : Rq w Fs Rs Fo R B g gs gt S r vW vE vL vO vA vs os as_) : Rr w (fun k => Fs k ∨ Rs k ∨ Fo k ∨ R k) B g S r := ⟨Fs, Rs, Fo, R, gs, gt, vW, vE, vL, vO, vA, vs, os, as_, h, fun _ => Iff.rfl⟩
theorem Rq.cells (h : Rq w Fs Rs Fo R B g gs gt S r vW vE vL vO vA vs os as_) : (w.cell? ⟨g, 0, none⟩ = some (P_ gs) /\ w.cell? ⟨g, 1, none⟩ = some vW /\ w.cell? ⟨g, 2, none⟩ = some vE /\ w.cell? ⟨g, 8, none⟩ = some (P_ gt)) ∧
 (w.cell? ⟨g, 3, none⟩ = some (I_ r.e.o) /\ w.cell? ⟨g, 4, none⟩ = some (I_ r.e.f) /\ w.cell? ⟨g, 5, none⟩ = some (I_ r.e.g) /\ w.cell? ⟨g, 6, none⟩ = some (I_ r.e.n) /\ w.cell? ⟨g, 7, none⟩ = some (I_ r.e.a)) ∧
 w.cell? ⟨gt, 0, none⟩ = some vL /\ w.cell? ⟨gt, 1, none⟩ = some vO /\ w.cell? ⟨gt, 2, none⟩ = some vA :=
 ⟨⟨Zb h.at_ 0 _ rfl, Zb h.at_ 1 _ rfl, Zb h.at_ 2 _ rfl, Zb h.at_ 8 _ rfl⟩, ⟨Zb h.at_ 3 _ rfl, Zb h.at_ 4 _ rfl, Zb h.at_ 5 _ rfl, Zb h.at_ 6 _ rfl, Zb h.at_ 7 _ rfl⟩, Zb h.tt 0 _ rfl, Zb h.tt 1 _ rfl, Zb h.tt 2 _ rfl⟩
theorem Rq.part (h : Rq w Fs Rs Fo R B g gs gt S r vW vE vL vO vA vs os as_) {c : Nat} (hc : Fo c) (ho : ∀ k, k ≠ c -> k < w.heap.size -> w'.heap[k]? = w.heap[k]?) (hs : w.heap.size <= w'.heap.size) :
 Rt w' Fs Rs B gs r.s /\ (w'.ownsRow 0 39 1 vL S.length vs /\ ∀ (i : Nat) (l : List Wt) (v : Value), S[i]? = some l -> vs[i]? = some v -> w'.ownsRow 0 76 6 v l.length (w6s l) /\ ∀ k, v.ownBlock = some k -> R k) /\ ∀ {T : TypeId} {n : Nat} {v : Value} {len : Nat} {xs : List Value}, w.ownsRow 0 T n v len xs -> v.ownBlock ≠ some c -> w'.ownsRow 0 T n v len xs := by
 have hR : ∀ k, R k -> w'.heap[k]? = w.heap[k]? := fun k hk => ho k (fun e => (h.ro k hk).2 (by rw [e]; exact hc)) (h.rb k hk)
 refine ⟨h.st.keep (fun k hk => ?_) hs, ⟨Zj h.al fun k hk => hR k (h.fL k hk), fun i l v hl hv => ⟨Zj (h.row i l v hl hv).1 fun k hk => hR k ((h.row i l v hl hv).2 k hk), (h.row i l v hl hv).2⟩⟩, fun hr hne => Zj hr fun k hk => ho k (fun e => hne (by rw [hk, e])) (Zf hr hk).2.1⟩
 rcases hk with hk | hk
 · exact ho k (fun e => (h.so c hc).1 (by rw [← e]; exact hk)) (h.st.fb k hk)
 · exact ho k (fun e => (h.so c hc).2 (by rw [← e]; exact hk)) (h.st.rb k hk)
theorem Rq.rowne (h : Rq w Fs Rs Fo R B g gs gt S r vW vE vL vO vA vs os as_) :
 (vW.ownBlock ≠ some g /\ vE.ownBlock ≠ some g /\ vO.ownBlock ≠ some g /\ vA.ownBlock ≠ some g) /\ (vW.ownBlock ≠ some gt /\ vE.ownBlock ≠ some gt /\ vO.ownBlock ≠ some gt /\ vA.ownBlock ≠ some gt) /\ g ≠ gt :=
 ⟨⟨Zu h.wa h.at_ (by decide), Zu h.ev h.at_ (by decide), Zu h.of h.at_ (by decide), Zu h.at' h.at_ (by decide)⟩, ⟨Zu h.wa h.tt (by decide), Zu h.ev h.tt (by decide), Zu h.of h.tt (by decide), Zu h.at' h.tt (by decide)⟩, Zm h.at_ h.tt (by decide)⟩
theorem Rq.endW (h : Rq w Fs Rs Fo R B g gs gt S r vW vE vL vO vA vs os as_) (e : En) (ho : ∀ k, k ≠ g -> w'.heap[k]? = w.heap[k]?) (hs : w'.heap.size = w.heap.size)
 (hat : w'.heap[g]? = some (.cells #[P_ gs, vW, vE, I_ e.o, I_ e.f, I_ e.g, I_ e.n, I_ e.a, P_ gt] 45 (0, 0))) : Rq w' Fs Rs Fo R B g gs gt S { r with e := e } vW vE vL vO vA vs os as_ := by
 obtain ⟨h1, h2, hk⟩ := h.part h.fg (fun k hk _ => ho k hk) (Nat.le_of_eq hs.symm)
 obtain ⟨⟨n1, n2, n3, n4⟩, _, n5⟩ := h.rowne
 exact { h with
  at_ := hat
  st := h1
  wa := hk h.wa n1
  ev := hk h.ev n2
  tt := (ho gt (fun e => n5 e.symm)).trans h.tt
  al := h2.1
  row := h2.2
  of := hk h.of n3
  at' := hk h.at' n4
  fb := fun k hk => by rw [hs]; exact h.fb k hk
  rb := fun k hk => by rw [hs]; exact h.rb k hk }
theorem Rq.waitW {b n c : Nat} (h : Rq w Fs Rs Fo R B g gs gt S r (.slice (some ⟨b, 0, none⟩) n c) vE vL vO vA vs os as_) (i : Nat) (x : Wt) (ho : ∀ k, k ≠ b -> w'.heap[k]? = w.heap[k]?) (hs : w'.heap.size = w.heap.size)
 (hw : w'.ownsRow 0 76 6 (.slice (some ⟨b, 0, none⟩) n c) r.ws.length (w6s (r.ws.set i x))) : Rq w' Fs Rs Fo R B g gs gt S { r with ws := r.ws.set i x } (.slice (some ⟨b, 0, none⟩) n c) vE vL vO vA vs os as_ := by
 obtain ⟨h1, h2, hk⟩ := h.part (h.fW b rfl) (fun k hk _ => ho k hk) (Nat.le_of_eq hs.symm)
 obtain ⟨⟨n1, n2, n3, n4⟩, ⟨n6, _⟩, n5⟩ := h.rowne
 exact { h with
  at_ := (ho g (fun e => n1 (by rw [e]; rfl))).trans h.at_
  st := h1
  wa := by
   show w'.ownsRow 0 76 6 _ (r.ws.set i x).length _
   rw [List.length_set]
   exact hw
  ev := hk h.ev (fun e => Zo h.ev h.wa (by decide) b e rfl)
  tt := (ho gt (fun e => n6 (by rw [e]; rfl))).trans h.tt
  al := h2.1
  row := h2.2
  of := hk h.of (fun e => Zo h.of h.wa (by decide) b e rfl)
  at' := hk h.at' (fun e => Zo h.at' h.wa (by decide) b e rfl)
  fb := fun k hk => by rw [hs]; exact h.fb k hk
  rb := fun k hk => by rw [hs]; exact h.rb k hk
  n8 := ⟨by rw [List.length_set]; exact h.n8.1, h.n8.2⟩ }
theorem Rq.movT {b n c : Nat} (h : Rq w Fs Rs Fo R B g gs gt S r vW vE vL vO (.slice (some ⟨b, 0, none⟩) n c) vs os as_) (i a o : Nat) (x : List Wt) (hx : r.pe[i]? = some x) (ha : as_[i]? = some a) (ho' : os[i]? = some o) (l : List Wt) (hl : S[o]? = some l) (hal : a < l.length) (hxd : x = l.drop a) :
 Rq (w.setCell ⟨b, i, none⟩ (I_ ((a : Int) + 1))) Fs Rs Fo R B g gs gt S { r with pe := r.pe.set i x.tail } vW vE vL vO (.slice (some ⟨b, 0, none⟩) n c) vs os (as_.set i (a + 1)) /\ Ch Fo Fo w (w.setCell ⟨b, i, none⟩ (I_ ((a : Int) + 1))) := by
 have hF := h.fA b rfl
 have ho : ∀ k, k ≠ b -> (w.setCell ⟨b, i, none⟩ (I_ ((a : Int) + 1))).heap[k]? = w.heap[k]? := fun k hk => Below.heap_setCell _ _ _ _ hk
 have hs : (w.setCell ⟨b, i, none⟩ (I_ ((a : Int) + 1))).heap.size = w.heap.size := Zi _ _ _
 obtain ⟨h1, h2, hk⟩ := h.part hF (fun k hk _ => ho k hk) (Nat.le_of_eq hs.symm)
 obtain ⟨⟨n1, n2, n3, n4⟩, ⟨n6, n7, n8, n9⟩, n5⟩ := h.rowne
 refine ⟨{ h with
  at_ := (ho g (fun e => n4 (by rw [e]; rfl))).trans h.at_
  st := h1
  wa := hk h.wa (fun e => Zo h.wa h.at' (by decide) b e rfl)
  ev := hk h.ev (fun e => Zo h.ev h.at' (by decide) b e rfl)
  tt := (ho gt (fun e => n9 (by rw [e]; rfl))).trans h.tt
  al := h2.1
  row := h2.2
  of := by
   show World.ownsRow _ 0 3 1 _ (r.pe.set i x.tail).length _
   rw [List.length_set]
   exact hk h.of (fun e => h.ne b e rfl)
  at' := by
   show World.ownsRow _ 0 3 1 _ (r.pe.set i x.tail).length _
   rw [List.length_set]
   have := ZT h.at' i (I_ ((a : Int) + 1))
   simp only [nns, List.map_set, show ((a + 1 : Nat) : Int) = (a : Int) + 1 from rfl] at this ⊢
   exact this
  pos := fun j y o' a' hy hj hj' => by
   by_cases e : i = j
   · subst e
     rw [List.getElem?_set_self (G_ hx)] at hy
     rw [List.getElem?_set_self (G_ ha)] at hj'
     cases hy
     cases hj'
     rw [ho'] at hj
     cases hj
     exact ⟨l, hl, hal, by rw [hxd, List.tail_drop]⟩
   · rw [List.getElem?_set_ne e] at hy hj'
     exact h.pos j y o' a' hy hj hj'
  fb := fun k hk => by rw [hs]; exact h.fb k hk
  rb := fun k hk => by rw [hs]; exact h.rb k hk
  n8 := ⟨h.n8.1, by rw [List.length_set]; exact h.n8.2⟩ }, ZM hF _⟩
theorem Rq.stW (h : Rq w Fs Rs Fo R B g gs gt S r vW vE vL vO vA vs os as_) {s' : St} (hs : Rt w' Fs' Rs' B' gs s') (hc : Ch Fs Fs' w w') (hr : ∀ k, Rs' k -> Rs k ∨ w.heap.size <= k) : Rq w' Fs' Rs' Fo R B' g gs gt S { r with s := s' } vW vE vL vO vA vs os as_ := by
 have ho : ∀ k, Fo k -> w'.heap[k]? = w.heap[k]? := fun k hk => hc.blk k (h.fb k hk) (h.so k hk).1
 have hR : ∀ k, R k -> w'.heap[k]? = w.heap[k]? := fun k hk => hc.blk k (h.rb k hk) (h.ro k hk).1
 exact { h with
  at_ := (ho g h.fg).trans h.at_
  st := hs
  wa := Zj h.wa fun k hk => ho k (h.fW k hk)
  ev := Zj h.ev fun k hk => ho k (h.fE k hk)
  tt := (ho gt h.ft).trans h.tt
  al := Zj h.al fun k hk => hR k (h.fL k hk)
  row := fun i l v hl hv => ⟨Zj (h.row i l v hl hv).1 fun k hk => hR k ((h.row i l v hl hv).2 k hk), (h.row i l v hl hv).2⟩
  of := Zj h.of fun k hk => ho k (h.fO k hk)
  at' := Zj h.at' fun k hk => ho k (h.fA k hk)
  so := fun k hk => ⟨fun e => by
   rcases hc.grow k e with h1 | h1
   · exact (h.so k hk).1 h1
   · have := h.fb k hk
     omega, fun e => by
   rcases hr k e with h1 | h1
   · exact (h.so k hk).2 h1
   · have := h.fb k hk
     omega⟩
  ro := fun k hk => ⟨fun e => by
   rcases hc.grow k e with h1 | h1
   · exact (h.ro k hk).1 h1
   · have := h.rb k hk
     omega, (h.ro k hk).2⟩
  fb := fun k hk => Nat.lt_of_lt_of_le (h.fb k hk) hc.size
  rb := fun k hk => Nat.lt_of_lt_of_le (h.rb k hk) hc.size }
def RrP (w : World) (G : Nat -> Prop) (B g : Nat) (S : List (List Wt)) (r' : Rz) (v : Value) (e : Ending) (w' : World) : Prop := e = .returned v /\ ∃ G', Rr w' G' B g S r' /\ Ch G G' w w'
theorem rr_wide (hG : ∀ k, G k ↔ Fs k ∨ Rs k ∨ Fo k ∨ R k) (h : Rq w' Fs Rs Fo R B g gs gt S r vW vE vL vO vA vs os as_) (c : Ch Fo Fo w w') : Rr w' G B g S r /\ Ch G G w w' :=
 ⟨⟨_, _, _, _, _, _, _, _, _, _, _, _, _, _, h, hG⟩, c.wide (fun k hk => (hG k).2 (.inr (.inr (.inl hk)))) fun _ hk => .inl hk⟩
end
def w6V (x : Wt) : Value := .agg #[I_ x.k, I_ x.o, I_ x.a, I_ x.v.1, I_ x.v.2.1, .int .u64 x.v.2.2]
def h3V (x : V3) : Value := .agg #[I_ x.1, I_ x.2.1, I_ x.2.2]
def setN (w : World) (g : Nat) (e0 e1 e2 e3 e4 : Int) : World := ((((w.setCell ⟨g, 3, none⟩ (I_ e0)).setCell ⟨g, 4, none⟩ (I_ e1)).setCell ⟨g, 5, none⟩ (I_ e2)).setCell ⟨g, 6, none⟩ (I_ e3)).setCell ⟨g, 7, none⟩ (I_ e4)
theorem setN_ne {w : World} {g k : Nat} {e0 e1 e2 e3 e4 : Int} (h : k ≠ g) : (setN w g e0 e1 e2 e3 e4).heap[k]? = w.heap[k]? :=
 (Below.heap_setCell _ _ _ _ h).trans ((Below.heap_setCell _ _ _ _ h).trans ((Below.heap_setCell _ _ _ _ h).trans ((Below.heap_setCell _ _ _ _ h).trans (Below.heap_setCell _ _ _ _ h))))
theorem setN_size {w : World} {g : Nat} {e0 e1 e2 e3 e4 : Int} : (setN w g e0 e1 e2 e3 e4).heap.size = w.heap.size := by
 unfold setN
 simp only [Zi]
theorem ch_setN {w : World} {Fo : Nat -> Prop} {g : Nat} (hg : Fo g) {e0 e1 e2 e3 e4 : Int} : Ch Fo Fo w (setN w g e0 e1 e2 e3 e4) := (ZM hg _).trans ((ZM hg _).trans ((ZM hg _).trans ((ZM hg _).trans (ZM hg _))))
theorem setN_at {w : World} {g : Nat} {y0 y1 y2 y3 y4 y5 y6 y7 y8 : Value} {T : TypeId} (h : w.heap[g]? = some (.cells #[y0, y1, y2, y3, y4, y5, y6, y7, y8] T (0, 0))) (e0 e1 e2 e3 e4 : Int) :
 (setN w g e0 e1 e2 e3 e4).heap[g]? = some (.cells #[y0, y1, y2, I_ e0, I_ e1, I_ e2, I_ e3, I_ e4, y8] T (0, 0)) := by
 have h0 : (w.setCell ⟨g, 3, none⟩ (I_ e0)).heap[g]? = some (.cells #[y0, y1, y2, I_ e0, y4, y5, y6, y7, y8] T (0, 0)) := heap_setCell_same _ _ _ _ _ _ h
 have h1 : ((w.setCell ⟨g, 3, none⟩ (I_ e0)).setCell ⟨g, 4, none⟩ (I_ e1)).heap[g]? = some (.cells #[y0, y1, y2, I_ e0, I_ e1, y5, y6, y7, y8] T (0, 0)) := heap_setCell_same _ _ _ _ _ _ h0
 have h2 : (((w.setCell ⟨g, 3, none⟩ (I_ e0)).setCell ⟨g, 4, none⟩ (I_ e1)).setCell ⟨g, 5, none⟩ (I_ e2)).heap[g]? = some (.cells #[y0, y1, y2, I_ e0, I_ e1, I_ e2, y6, y7, y8] T (0, 0)) := heap_setCell_same _ _ _ _ _ _ h1
 have h3 : ((((w.setCell ⟨g, 3, none⟩ (I_ e0)).setCell ⟨g, 4, none⟩ (I_ e1)).setCell ⟨g, 5, none⟩ (I_ e2)).setCell ⟨g, 6, none⟩ (I_ e3)).heap[g]? = some (.cells #[y0, y1, y2, I_ e0, I_ e1, I_ e2, I_ e3, y7, y8] T (0, 0)) := heap_setCell_same _ _ _ _ _ _ h2
 exact heap_setCell_same _ _ _ _ _ _ h3
theorem RrP.mk {w wa w' : World} {G G' : Nat -> Prop} {B g : Nat} {S : List (List Wt)} {r' : Rz} {v v' : Value} (hv : v = v') (hb : Below w.heap.size w wa) (h : Rr w' G' B g S r' /\ Ch G G' wa w') : RrP w G B g S r' v' (.returned v) w' := ⟨by rw [hv], G', h.1, (Ch.of_bel hb).trans h.2⟩
theorem rFault_any {w : World} {G : Nat -> Prop} {B g : Nat} {S : List (List Wt)} {r : Rz} (h : Rr w G B g S r) (i : Int) (f n a : Int) : Calls Tryz.prog 41 #[P_ g, I_ i, h3V (f, n, a)] w (RrP w G B g S { r with e := ⟨3, f, i, n, a⟩ } (.tuple #[])) := by
 unfold h3V
 simp only
 obtain ⟨Fs, Rs, Fo, R, gs, gt, vW, vE, vL, vO, vA, vs, os, as_, h, hG⟩ := h
 have B0 := Zd w (.cells #[I_ f, I_ n, I_ a] 100)
 have h1 := h.bel B0
 have HE := Za (rr_wide hG (h1.endW (w' := setN (w.alloc (.cells #[I_ f, I_ n, I_ a] 100)) g 3 f i n a) ⟨3, f, i, n, a⟩ (fun k hk => setN_ne hk) setN_size (setN_at h1.at_ _ _ _ _ _)) (ch_setN h1.fg))
 obtain ⟨_, ⟨c3, c4, c5, c6, c7⟩, _⟩ := h1.cells
 have f3 := Zc h1.at_ 3
 have f4 := Zc h1.at_ 4
 have f5 := Zc h1.at_ 5
 have f6 := Zc h1.at_ 6
 have f7 := Zc h1.at_ 7
 have HB := Za B0
 have HV := Za (B_ w (.cells #[I_ f, I_ n, I_ a] 100))
 clear h h1 hG B0
 go_enter Tryz.func41, Tryz.ntmps41
 go_upto_region 1 with fail
 generalize w.alloc _ = w1 at *
 have v0 := Zb HV.out 0 _ rfl
 have v1 := Zb HV.out 1 _ rfl
 have v2 := Zb HV.out 2 _ rfl
 go_wp2_with fail
 go_end0
 exact RrP.mk rfl HB.out HE.out
def setW (w : World) (b i : Nat) (x : Wt) : World := (((((((w).setCell ⟨b, i * 6, none⟩ (I_ x.k)).setCell ⟨b, i * 6 + 1, none⟩ (I_ x.o)).setCell ⟨b, i * 6 + 2, none⟩ (I_ x.a)).setCell ⟨b, i * 6 + 3, none⟩ (I_ x.v.1)).setCell ⟨b, i * 6 + 4, none⟩ (I_ x.v.2.1)).setCell ⟨b, i * 6 + 5, none⟩ (.int .u64 x.v.2.2))
theorem setW_ne {w : World} {b i k : Nat} {x : Wt} (h : k ≠ b) : (setW w b i x).heap[k]? = w.heap[k]? :=
 (Below.heap_setCell _ _ _ _ h).trans ((Below.heap_setCell _ _ _ _ h).trans ((Below.heap_setCell _ _ _ _ h).trans ((Below.heap_setCell _ _ _ _ h).trans ((Below.heap_setCell _ _ _ _ h).trans (Below.heap_setCell _ _ _ _ h)))))
theorem setW_size {w : World} {b i : Nat} {x : Wt} : (setW w b i x).heap.size = w.heap.size := by
 unfold setW
 simp only [Zi]
theorem ch_setW {w : World} {Fo : Nat -> Prop} {b i : Nat} {x : Wt} (hg : Fo b) : Ch Fo Fo w (setW w b i x) := (ZM hg _).trans ((ZM hg _).trans ((ZM hg _).trans ((ZM hg _).trans ((ZM hg _).trans (ZM hg _)))))
theorem setW_own {w : World} {b n c i : Nat} {l : List Wt} (x : Wt) (h : w.ownsRow 0 76 6 (.slice (some ⟨b, 0, none⟩) n c) l.length (w6s l)) : (setW w b i x).ownsRow 0 76 6 (.slice (some ⟨b, 0, none⟩) n c) l.length (w6s (l.set i x)) := by
 rw [w6s_set]
 exact ZT (ZT (ZT (ZT (ZT (ZT h _ _) _ _) _ _) _ _) _ _) _ _
theorem rTold_fault {w : World} {G : Nat -> Prop} {B g : Nat} {S : List (List Wt)} {r : Rz} (h : Rr w G B g S r) (i : Nat) (x : Wt) (f n a : Int) (hf : ¬ f = 0) : Calls Tryz.prog 76 #[P_ g, I_ (i : Nat), w6V x, h3V (f, n, a)] w (RrP w G B g S { r with e := ⟨3, f, (i : Nat), n, a⟩ } (.tuple #[])) := by
  unfold h3V w6V
  simp only
  have HB := Za (Zv (Zd w (.cells #[I_ x.k, I_ x.o, I_ x.a, I_ x.v.1, I_ x.v.2.1, .int .u64 x.v.2.2] 76)) (.cells #[I_ f, I_ n, I_ a] 100))
  have Y1 : Hid (((w.alloc (.cells #[I_ x.k, I_ x.o, I_ x.a, I_ x.v.1, I_ x.v.2.1, .int .u64 x.v.2.2] 76)).alloc (.cells #[I_ f, I_ n, I_ a] 100)).heap[w.heap.size]? = some (.cells #[I_ x.k, I_ x.o, I_ x.a, I_ x.v.1, I_ x.v.2.1, .int .u64 x.v.2.2] 76 (0, 0))) := Za (((Zd _ _).block _ (by simp)).trans (B_ w (.cells #[I_ x.k, I_ x.o, I_ x.a, I_ x.v.1, I_ x.v.2.1, .int .u64 x.v.2.2] 76)))
  have Y2 : Hid (((w.alloc (.cells #[I_ x.k, I_ x.o, I_ x.a, I_ x.v.1, I_ x.v.2.1, .int .u64 x.v.2.2] 76)).alloc (.cells #[I_ f, I_ n, I_ a] 100)).heap[w.heap.size + 1]? = some (.cells #[I_ f, I_ n, I_ a] 100 (0, 0))) := Za (by
    have e1 := B_ (w.alloc (.cells #[I_ x.k, I_ x.o, I_ x.a, I_ x.v.1, I_ x.v.2.1, .int .u64 x.v.2.2] 76)) (.cells #[I_ f, I_ n, I_ a] 100)
    have hs : (w.alloc (.cells #[I_ x.k, I_ x.o, I_ x.a, I_ x.v.1, I_ x.v.2.1, .int .u64 x.v.2.2] 76)).heap.size = w.heap.size + 1 := by simp
    rw [hs] at e1
    exact e1)
  have FA := Za (rFault_any (h.bel HB.out) (i : Int) f n a)
  unfold h3V at FA
  simp only at FA
  clear h
  go_enter Tryz.func76, Tryz.ntmps76
  go_upto_region 1 with fail
  generalize (w.alloc _).alloc _ = w1 at *
  have v0 := Zb Y2.out 0 _ rfl
  have v1 := Zb Y2.out 1 _ rfl
  have v2 := Zb Y2.out 2 _ rfl
  go_wp2_with fail
  refine FA.out.mono ?_
  rintro e w2 ⟨rfl, G', hr, c⟩
  have Z := Za (And.intro hr c)
  clear hr c
  go_wp2_with fail
  go_end0
  exact RrP.mk rfl HB.out Z.out
theorem rTold_ok {w : World} {G : Nat -> Prop} {B g : Nat} {S : List (List Wt)} {r : Rz} (h : Rr w G B g S r) (i : Nat) (x : Wt) ( n a : Int) (hi : i < r.ws.length) : Calls Tryz.prog 76 #[P_ g, I_ (i : Nat), w6V x, h3V (0, n, a)] w (RrP w G B g S { r with ws := r.ws.set i x } (.tuple #[])) := by
  unfold h3V w6V
  simp only
  have HB := Za (Zv (Zd w (.cells #[I_ x.k, I_ x.o, I_ x.a, I_ x.v.1, I_ x.v.2.1, .int .u64 x.v.2.2] 76)) (.cells #[I_ 0, I_ n, I_ a] 100))
  have Y1 : Hid (((w.alloc (.cells #[I_ x.k, I_ x.o, I_ x.a, I_ x.v.1, I_ x.v.2.1, .int .u64 x.v.2.2] 76)).alloc (.cells #[I_ 0, I_ n, I_ a] 100)).heap[w.heap.size]? = some (.cells #[I_ x.k, I_ x.o, I_ x.a, I_ x.v.1, I_ x.v.2.1, .int .u64 x.v.2.2] 76 (0, 0))) := Za (((Zd _ _).block _ (by simp)).trans (B_ w (.cells #[I_ x.k, I_ x.o, I_ x.a, I_ x.v.1, I_ x.v.2.1, .int .u64 x.v.2.2] 76)))
  have Y2 : Hid (((w.alloc (.cells #[I_ x.k, I_ x.o, I_ x.a, I_ x.v.1, I_ x.v.2.1, .int .u64 x.v.2.2] 76)).alloc (.cells #[I_ 0, I_ n, I_ a] 100)).heap[w.heap.size + 1]? = some (.cells #[I_ 0, I_ n, I_ a] 100 (0, 0))) := Za (by
    have e1 := B_ (w.alloc (.cells #[I_ x.k, I_ x.o, I_ x.a, I_ x.v.1, I_ x.v.2.1, .int .u64 x.v.2.2] 76)) (.cells #[I_ 0, I_ n, I_ a] 100)
    have hs : (w.alloc (.cells #[I_ x.k, I_ x.o, I_ x.a, I_ x.v.1, I_ x.v.2.1, .int .u64 x.v.2.2] 76)).heap.size = w.heap.size + 1 := by simp
    rw [hs] at e1
    exact e1)
  obtain ⟨Fs, Rs, Fo, R, gs, gt, vW, vE, vL, vO, vA, vs, os, as_, h, hG⟩ := h
  have h1 := h.bel HB.out
  obtain ⟨bW, cW, eW, hcW, hmW⟩ := Zq h1.wa (by omega)
  obtain ⟨nW, hnW⟩ : ∃ n, n = r.ws.length := ⟨_, rfl⟩
  rw [← hnW] at eW hi
  subst eW
  have hd := h1.bel (Zp (Below.refl _ _))
  have HE := Za (rr_wide hG (hd.waitW (w' := setW ((w.alloc (.cells #[I_ x.k, I_ x.o, I_ x.a, I_ x.v.1, I_ x.v.2.1, .int .u64 x.v.2.2] 76)).alloc (.cells #[I_ 0, I_ n, I_ a] 100)).drew bW i x) i x (fun k hk => setW_ne hk) setW_size (setW_own x hd.wa)) (ch_setW (hd.fW bW rfl)))
  have c1 := h1.cells.1.2.1
  obtain ⟨y, hy⟩ : ∃ y, r.ws[i]? = some y := ⟨_, List.getElem?_eq_getElem (by omega)⟩
  obtain ⟨p0, p1, p2, p3, p4, p5⟩ := w6s_at _ _ _ hy
  have HO := Za (And.intro (Zk hd.wa _ _ p0) (And.intro (Zk hd.wa _ _ p1) (And.intro (Zk hd.wa _ _ p2) (And.intro (Zk hd.wa _ _ p3) (And.intro (Zk hd.wa _ _ p4) (Zk hd.wa _ _ p5))))))
  have HB2 := Za (Zp HB.out)
  clear h h1 hd hG hnW hy p0 p1 p2 p3 p4 p5 hcW hmW HB
  go_enter Tryz.func76, Tryz.ntmps76
  go_upto_region 1 with fail
  generalize (w.alloc _).alloc _ = w1 at *
  have v0 := Zb Y2.out 0 _ rfl
  have u0 := Zb Y1.out 0 _ rfl
  have u1 := Zb Y1.out 1 _ rfl
  have u2 := Zb Y1.out 2 _ rfl
  have u3 := Zb Y1.out 3 _ rfl
  have u4 := Zb Y1.out 4 _ rfl
  have u5 := Zb Y1.out 5 _ rfl
  go_wp2_with fail
  refine ZU 7 ZJ (by kernel_rfl) ?_
  simp only [List.take_succ_cons, List.take_zero, List.drop_succ_cons, List.drop_zero]
  repeat (first | go_big_quiet_skip | (go_big_quiet_want; go_big_quiet_op; go_big_quiet_on))
  refine wpQuiet_nil ?_
  clear v0 u0 u1 u2 u3 u4 u5 c1 Y1 Y2
  obtain ⟨⟨p0, q0⟩, ⟨p1, q1⟩, ⟨p2, q2⟩, ⟨p3, q3⟩, ⟨p4, q4⟩, p5, q5⟩ := HO.out
  generalize w1.drew = wd at *
  go_wp2_with fail
  go_end0
  exact RrP.mk rfl HB2.out HE.out
theorem YF {fn : Func} {Q : Ending -> World -> Prop} {a : Act} {w : World} {p q : Tmp} (b b2 : Nat) {k o a_ v0 v1 v2 f n c : Int} {va : Value} (hf : fn.results = #[.cell p 67, .cell q 122]) (hp : a.tmps.getD p undef = P_ b) (hq : a.tmps.getD q undef = P_ b2) (hva : ∃ x y z, va = .slice x y z)
    (h : w.heap[b]? = some (.cells #[I_ k, I_ o, I_ a_, I_ v0, I_ v1, .int .u64 v2, va] 67 (0, 0))) (h2 : w.heap[b2]? = some (.cells #[I_ f, I_ n, I_ c] 122 (0, 0))) (hdf : a.defers = []) (hR : Q (.returned (.tuple #[.agg #[I_ k, I_ o, I_ a_, I_ v0, I_ v1, .int .u64 v2, va], .agg #[I_ f, I_ n, I_ c]])) w) : bodyPost Tryz.prog fn Q .ret a w :=
  bodyPost_ret (by
    obtain ⟨x, y, z, rfl⟩ := hva
    have hp' : a.tmps[p]?.getD undef = P_ b := by simpa using hp
    have hq' : a.tmps[q]?.getD undef = P_ b2 := by simpa using hq
    have q0 := Zb h 0 _ rfl
    have q1 := Zb h 1 _ rfl
    have q2 := Zb h 2 _ rfl
    have q3 := Zb h 3 _ rfl
    have q4 := Zb h 4 _ rfl
    have q5 := Zb h 5 _ rfl
    have q6 := Zb h 6 _ rfl
    have p0 := Zb h2 0 _ rfl
    have p1 := Zb h2 1 _ rfl
    have p2 := Zb h2 2 _ rfl
    simp [results, hf, hp', hq', go_sem, q0, q1, q2, q3, q4, q5, q6, p0, p1, p2]) hdf hR
def NextP (w : World) (G : Nat -> Prop) (g t : Nat) (S : List (List Wt)) (r' : Rm) (x : Wt) (f n c : Int) (e : Ending) (w' : World) : Prop := ∃ va, e = .returned (.tuple #[.agg #[I_ x.k, I_ x.o, I_ x.a, I_ x.v.1, I_ x.v.2.1, .int .u64 x.v.2.2, va], .agg #[I_ f, I_ n, I_ c]]) /\ YA 0 w' va /\ (∀ k, k < w.heap.size -> k ≠ t -> w'.heap[k]? = w.heap[k]?) /\ ∃ G', Rn w' G' g S r' /\ Ch G G' w w'
theorem Rn.low {w w' : World} {G : Nat -> Prop} {g N : Nat} {S : List (List Wt)} {r : Rm} (h : Rn w G g S r) (hG : ∀ k, G k -> k < N) (hb : Below N w w') : Rn w' G g S r := h.keep (fun k hk => hb.block k (hG k hk)) hb.size
theorem YA.nilS {B : Nat} {w : World} : YA B w (.slice none 0 0) := ⟨none, 0, 0, [], rfl, by omega, World.ownsRow_nil _ _ _ _, fun _ h => by cases h⟩
theorem Yx {w : World} {b : Nat} {T : TypeId} {y0 y1 y2 : Value} (h : w.heap[b]? = some (.cells #[y0, y1, y2] T (0, 0))) (x0 x1 x2 : Value) : (((w.setCell ⟨b, 0, none⟩ x0).setCell ⟨b, 1, none⟩ x1).setCell ⟨b, 2, none⟩ x2).heap[b]? = some (.cells #[x0, x1, x2] T (0, 0)) := by
 have h0 : (w.setCell ⟨b, 0, none⟩ x0).heap[b]? = some (.cells #[x0, y1, y2] T (0, 0)) := heap_setCell_same _ _ _ _ _ _ h
 have h1 : ((w.setCell ⟨b, 0, none⟩ x0).setCell ⟨b, 1, none⟩ x1).heap[b]? = some (.cells #[x0, x1, y2] T (0, 0)) := heap_setCell_same _ _ _ _ _ _ h0
 exact heap_setCell_same _ _ _ _ _ _ h1
theorem ne3 {w : World} {b k : Nat} {x0 x1 x2 : Value} (h : k ≠ b) : (((w.setCell ⟨b, 0, none⟩ x0).setCell ⟨b, 1, none⟩ x1).setCell ⟨b, 2, none⟩ x2).heap[k]? = w.heap[k]? :=
 (Below.heap_setCell _ _ _ _ h).trans ((Below.heap_setCell _ _ _ _ h).trans (Below.heap_setCell _ _ _ _ h))
theorem next_nil {w : World} {G Fs Fo R : Nat -> Prop} {g gs : Nat} {S : List (List Wt)} {r : Rm} {vC vB vG vE : Value} {ps ts : List Nat} (h : Ru w Fs Fo R g gs S r vC vB vG vE ps ts) (hG : ∀ k, G k ↔ Fs k ∨ Fo k ∨ R k) (i t : Nat) (x : Gr) (hx : r.gs[i]? = some x) (ht : ts[i]? = some t) (hr : x.rest = []) (j0 j1 j2 : Int) : Calls Tryz.prog 127 #[P_ t, .agg #[I_ j0, I_ j1, .int .u64 j2]] w (NextP w G g t S r ⟨12, 0, 0, z3⟩ 0 0 0) := by
  obtain ⟨b, hb⟩ : ∃ b, ps[i]? = some b := ⟨_, List.getElem?_eq_getElem (by rw [h.pl]; exact (G_ hx))⟩
  obtain ⟨⟨va, vw, q1, q2, q3, q4⟩, q5, q6⟩ := h.gr i x b t hx hb ht
  rw [hr] at q4
  obtain ⟨a, c, rfl, hac⟩ := q4
  have c0 : w.cell? ⟨t, 0, none⟩ = some (.slice a 0 c) := Zb q3 0 _ rfl
  have htl := Ze q3
  have HR : Hid (Rn w G g S r) := Za ⟨_, _, _, _, _, _, _, _, _, _, h, hG⟩
  have HT := Za htl
  have C0 := Za c0
  clear h hG q1 q2 q3 q5 q6 hac hx ht hb hr c0 htl
  have B1 : Hid (Below w.heap.size w (((w.alloc (.cells #[I_ j0, I_ j1, .int .u64 j2] 64)).alloc (.cells #[I_ 0, I_ 0, I_ 0, I_ 0, I_ 0, .int .u64 0, .slice none 0 0] 67)).alloc (.cells #[I_ 0, I_ 0, I_ 0] 122))) := Za (Zv (Zv (Zd w _) _) _)
  have Y1 : Hid ((((w.alloc (.cells #[I_ j0, I_ j1, .int .u64 j2] 64)).alloc (.cells #[I_ 0, I_ 0, I_ 0, I_ 0, I_ 0, .int .u64 0, .slice none 0 0] 67)).alloc (.cells #[I_ 0, I_ 0, I_ 0] 122)).heap[w.heap.size + 1]? = some (.cells #[I_ 0, I_ 0, I_ 0, I_ 0, I_ 0, .int .u64 0, .slice none 0 0] 67 (0, 0))) := Za (by
    have e1 := B_ (w.alloc (.cells #[I_ j0, I_ j1, .int .u64 j2] 64)) (.cells #[I_ 0, I_ 0, I_ 0, I_ 0, I_ 0, .int .u64 0, .slice none 0 0] 67)
    have hs : (w.alloc (.cells #[I_ j0, I_ j1, .int .u64 j2] 64)).heap.size = w.heap.size + 1 := by simp
    rw [hs] at e1
    exact ((Zd _ _).block _ (Ze e1)).trans e1)
  have Y2 : Hid ((((w.alloc (.cells #[I_ j0, I_ j1, .int .u64 j2] 64)).alloc (.cells #[I_ 0, I_ 0, I_ 0, I_ 0, I_ 0, .int .u64 0, .slice none 0 0] 67)).alloc (.cells #[I_ 0, I_ 0, I_ 0] 122)).heap[w.heap.size + 1 + 1]? = some (.cells #[I_ 0, I_ 0, I_ 0] 122 (0, 0))) := Za (by
    have e1 := B_ ((w.alloc (.cells #[I_ j0, I_ j1, .int .u64 j2] 64)).alloc (.cells #[I_ 0, I_ 0, I_ 0, I_ 0, I_ 0, .int .u64 0, .slice none 0 0] 67)) (.cells #[I_ 0, I_ 0, I_ 0] 122)
    have hs : ((w.alloc (.cells #[I_ j0, I_ j1, .int .u64 j2] 64)).alloc (.cells #[I_ 0, I_ 0, I_ 0, I_ 0, I_ 0, .int .u64 0, .slice none 0 0] 67)).heap.size = w.heap.size + 1 + 1 := by simp
    rw [hs] at e1
    exact e1)
  go_enter Tryz.func127, Tryz.ntmps127
  go_upto_region 1 with fail
  generalize ((w.alloc _).alloc _).alloc _ = W1 at *
  have c1 := (B1.out.cell (p := ⟨t, 0, none⟩) HT.out).trans C0.out
  obtain ⟨p0, p1, p2, p3, p4, p5, p6⟩ := (show Wv W1 (w.heap.size + 1) 0 0 0 (0, 0, 0) (.slice none 0 0) from Y1.out).all
  have f0 := Zc Y1.out 0
  have f1 := Zc Y1.out 1
  have f2 := Zc Y1.out 2
  have f3 := Zc Y1.out 3
  have f4 := Zc Y1.out 4
  have f5 := Zc Y1.out 5
  have f6 := Zc Y1.out 6
  have n0 := Zb Y2.out 0 _ rfl
  have m0 := Zc Y2.out 0
  have n1 := Zb Y2.out 1 _ rfl
  have m1 := Zc Y2.out 1
  have n2 := Zb Y2.out 2 _ rfl
  have m2 := Zc Y2.out 2
  go_wp2_with fail
  have BB : Below w.heap.size W1 ((((set7 W1 (w.heap.size + 1) 0 (I_ 12) (I_ 0) (I_ 0) (I_ 0) (I_ 0) (.int .u64 0) (.slice none 0 0)).setCell ⟨w.heap.size + 1 + 1, 0, none⟩ (I_ 0)).setCell ⟨w.heap.size + 1 + 1, 1, none⟩ (I_ 0)).setCell ⟨w.heap.size + 1 + 1, 2, none⟩ (I_ 0)) := Zt (ZL (o := 0) (Below.refl _ _) (by omega)) (by omega) _ _ _
  exact YF (w.heap.size + 1) (w.heap.size + 1 + 1) rfl rfl rfl ⟨_, _, _, rfl⟩ ((ne3 (by omega)).trans (ZR Y1.out _ _ _ _ _ _ _)) (Yx ((Zy (o := 0) (by omega)).trans Y2.out) _ _ _) rfl ⟨_, rfl, YA.nilS, fun k hk _ => (BB.block k hk).trans (B1.out.block k hk), G, (HR.out.bel B1.out).low (N := w.heap.size) HR.out.fb BB, (Ch.of_bel B1.out).below BB⟩
theorem bel_low {N : Nat} {w wa wb : World} (h : Below N w wa) (k : Below N wa wb) : Below N w wb := h.trans k
theorem ret_w3 {fn : Func} {Q : Ending -> World -> Prop} {a : Act} {w : World} {p q : Tmp} (b b2 : Nat) {x : Wt} {y : V3} (hf : fn.results = #[.cell p 76, .cell q 100]) (hp : a.tmps.getD p undef = P_ b) (hq : a.tmps.getD q undef = P_ b2)
    (h : w.heap[b]? = some (.cells #[I_ x.k, I_ x.o, I_ x.a, I_ x.v.1, I_ x.v.2.1, .int .u64 x.v.2.2] 76 (0, 0))) (h2 : w.heap[b2]? = some (.cells #[I_ y.1, I_ y.2.1, I_ y.2.2] 100 (0, 0))) (hdf : a.defers = []) (hR : Q (.returned (.tuple #[w6V x, h3V y])) w) : bodyPost Tryz.prog fn Q .ret a w :=
  bodyPost_ret (by
    have hp' : a.tmps[p]?.getD undef = P_ b := by simpa using hp
    have hq' : a.tmps[q]?.getD undef = P_ b2 := by simpa using hq
    have q0 := Zb h 0 _ rfl
    have q1 := Zb h 1 _ rfl
    have q2 := Zb h 2 _ rfl
    have q3 := Zb h 3 _ rfl
    have q4 := Zb h 4 _ rfl
    have q5 := Zb h 5 _ rfl
    have p0 := Zb h2 0 _ rfl
    have p1 := Zb h2 1 _ rfl
    have p2 := Zb h2 2 _ rfl
    simp [results, hf, hp', hq', go_sem, q0, q1, q2, q3, q4, q5, p0, p1, p2, w6V, h3V]) hdf hR
theorem set6 {w : World} {b : Nat} {T : TypeId} {y0 y1 y2 y3 y4 y5 : Value} (h : w.heap[b]? = some (.cells #[y0, y1, y2, y3, y4, y5] T (0, 0))) (x0 x1 x2 x3 x4 x5 : Value) : ((((((w.setCell ⟨b, 0, none⟩ x0).setCell ⟨b, 1, none⟩ x1).setCell ⟨b, 2, none⟩ x2).setCell ⟨b, 3, none⟩ x3).setCell ⟨b, 4, none⟩ x4).setCell ⟨b, 5, none⟩ x5).heap[b]? = some (.cells #[x0, x1, x2, x3, x4, x5] T (0, 0)) := by
 have h0 : (w.setCell ⟨b, 0, none⟩ x0).heap[b]? = some (.cells #[x0, y1, y2, y3, y4, y5] T (0, 0)) := heap_setCell_same _ _ _ _ _ _ h
 have h1 : ((w.setCell ⟨b, 0, none⟩ x0).setCell ⟨b, 1, none⟩ x1).heap[b]? = some (.cells #[x0, x1, y2, y3, y4, y5] T (0, 0)) := heap_setCell_same _ _ _ _ _ _ h0
 have h2 : (((w.setCell ⟨b, 0, none⟩ x0).setCell ⟨b, 1, none⟩ x1).setCell ⟨b, 2, none⟩ x2).heap[b]? = some (.cells #[x0, x1, x2, y3, y4, y5] T (0, 0)) := heap_setCell_same _ _ _ _ _ _ h1
 have h3 : ((((w.setCell ⟨b, 0, none⟩ x0).setCell ⟨b, 1, none⟩ x1).setCell ⟨b, 2, none⟩ x2).setCell ⟨b, 3, none⟩ x3).heap[b]? = some (.cells #[x0, x1, x2, x3, y4, y5] T (0, 0)) := heap_setCell_same _ _ _ _ _ _ h2
 have h4 : (((((w.setCell ⟨b, 0, none⟩ x0).setCell ⟨b, 1, none⟩ x1).setCell ⟨b, 2, none⟩ x2).setCell ⟨b, 3, none⟩ x3).setCell ⟨b, 4, none⟩ x4).heap[b]? = some (.cells #[x0, x1, x2, x3, x4, y5] T (0, 0)) := heap_setCell_same _ _ _ _ _ _ h3
 exact heap_setCell_same _ _ _ _ _ _ h4
theorem bel6 {N b : Nat} {w wa : World} (h : Below N w wa) (hb : N <= b) (x0 x1 x2 x3 x4 x5 : Value) : Below N w ((((((wa.setCell ⟨b, 0, none⟩ x0).setCell ⟨b, 1, none⟩ x1).setCell ⟨b, 2, none⟩ x2).setCell ⟨b, 3, none⟩ x3).setCell ⟨b, 4, none⟩ x4).setCell ⟨b, 5, none⟩ x5) :=
 (((((h.setCell (p := ⟨b, 0, none⟩) hb x0).setCell (p := ⟨b, 1, none⟩) hb x1).setCell (p := ⟨b, 2, none⟩) hb x2).setCell (p := ⟨b, 3, none⟩) hb x3).setCell (p := ⟨b, 4, none⟩) hb x4).setCell (p := ⟨b, 5, none⟩) hb x5
theorem ne6 {w : World} {b k : Nat} {x0 x1 x2 x3 x4 x5 : Value} (h : k ≠ b) : ((((((w.setCell ⟨b, 0, none⟩ x0).setCell ⟨b, 1, none⟩ x1).setCell ⟨b, 2, none⟩ x2).setCell ⟨b, 3, none⟩ x3).setCell ⟨b, 4, none⟩ x4).setCell ⟨b, 5, none⟩ x5).heap[k]? = w.heap[k]? :=
 (Below.heap_setCell _ _ _ _ h).trans ((Below.heap_setCell _ _ _ _ h).trans ((Below.heap_setCell _ _ _ _ h).trans ((Below.heap_setCell _ _ _ _ h).trans ((Below.heap_setCell _ _ _ _ h).trans (Below.heap_setCell _ _ _ _ h)))))
theorem two_set {w : World} {b b2 : Nat} {y0 y1 y2 y3 y4 y5 z0 z1 z2 : Value} (hne : b ≠ b2) (h : w.heap[b]? = some (.cells #[y0, y1, y2, y3, y4, y5] 76 (0, 0))) (h2 : w.heap[b2]? = some (.cells #[z0, z1, z2] 100 (0, 0))) (x0 x1 x2 x3 x4 x5 u0 u1 u2 : Value) :
 let w1 := (((((w.setCell ⟨b, 0, none⟩ x0).setCell ⟨b, 1, none⟩ x1).setCell ⟨b, 2, none⟩ x2).setCell ⟨b, 3, none⟩ x3).setCell ⟨b, 4, none⟩ x4).setCell ⟨b, 5, none⟩ x5
 let w2 := ((w1.setCell ⟨b2, 0, none⟩ u0).setCell ⟨b2, 1, none⟩ u1).setCell ⟨b2, 2, none⟩ u2
 w2.heap[b]? = some (.cells #[x0, x1, x2, x3, x4, x5] 76 (0, 0)) /\ w2.heap[b2]? = some (.cells #[u0, u1, u2] 100 (0, 0)) :=
 ⟨(ne3 hne).trans (set6 h _ _ _ _ _ _), Yx ((ne6 (fun e => hne e.symm)).trans h2) _ _ _⟩
theorem next_0 {w : World} {G Fs Rs Fo R : Nat -> Prop} {B g gs gt : Nat} {S : List (List Wt)} {r : Rz} {vW vE vL vO vA : Value} {vs : List Value} {os as_ : List Nat} (h : Rq w Fs Rs Fo R B g gs gt S r vW vE vL vO vA vs os as_) (hG : ∀ k, G k ↔ Fs k ∨ Rs k ∨ Fo k ∨ R k) (i : Nat) (hx : r.pe[i]? = some []) : Calls Tryz.prog 75 #[P_ gt, I_ (i : Nat)] w (RrP w G B g S r (.tuple #[w6V ⟨12, 0, 0, z3⟩, h3V z3])) := by
  have hol := h.ol
  have hil : i < r.pe.length := (G_ hx)
  obtain ⟨o, ho⟩ : ∃ o, os[i]? = some o := ⟨_, List.getElem?_eq_getElem (by omega)⟩
  obtain ⟨a, ha⟩ : ∃ a, as_[i]? = some a := ⟨_, List.getElem?_eq_getElem (by omega)⟩
  obtain ⟨l, hl, hal, hxd⟩ := h.pos i _ o a hx ho ha
  have hoS : o < S.length := (G_ hl)
  obtain ⟨v, hv⟩ : ∃ v, vs[o]? = some v := ⟨_, List.getElem?_eq_getElem (by omega)⟩
  obtain ⟨bO, cO, eO, _⟩ := Zq h.of (by omega)
  obtain ⟨bA, cA, eA, _⟩ := Zq h.at' (by omega)
  obtain ⟨bL, cL, eL, _⟩ := Zq h.al (by omega)
  obtain ⟨nP, hnP⟩ : ∃ n, n = r.pe.length := ⟨_, rfl⟩
  obtain ⟨nS, hnS⟩ : ∃ n, n = S.length := ⟨_, rfl⟩
  obtain ⟨nl, hnl⟩ : ∃ n, n = l.length := ⟨_, rfl⟩
  rw [← hnP] at eO eA hil
  rw [← hnS] at eL hoS
  have hnl2 : nl <= 2000 := by rw [hnl]; exact h.sz.2 l (List.mem_of_getElem? hl)
  have hnS2 : nS <= 2000 := by rw [hnS]; exact h.sz.1
  have hnP9 : nP <= 9 := by rw [hnP]; exact h.n8.2
  rw [← hnl] at hal
  subst eO eA eL
  have HB := Za (Zv (Zd w (.cells #[I_ 0, I_ 0, I_ 0, I_ 0, I_ 0, .int .u64 0] 76)) (.cells #[I_ 0, I_ 0, I_ 0] 100))
  have Y1 : Hid (((w.alloc (.cells #[I_ 0, I_ 0, I_ 0, I_ 0, I_ 0, .int .u64 0] 76)).alloc (.cells #[I_ 0, I_ 0, I_ 0] 100)).heap[w.heap.size]? = some (.cells #[I_ 0, I_ 0, I_ 0, I_ 0, I_ 0, .int .u64 0] 76 (0, 0))) := Za (((Zd _ _).block _ (by simp)).trans (B_ w (.cells #[I_ 0, I_ 0, I_ 0, I_ 0, I_ 0, .int .u64 0] 76)))
  have Y2 : Hid (((w.alloc (.cells #[I_ 0, I_ 0, I_ 0, I_ 0, I_ 0, .int .u64 0] 76)).alloc (.cells #[I_ 0, I_ 0, I_ 0] 100)).heap[w.heap.size + 1]? = some (.cells #[I_ 0, I_ 0, I_ 0] 100 (0, 0))) := Za (by
    have e1 := B_ (w.alloc (.cells #[I_ 0, I_ 0, I_ 0, I_ 0, I_ 0, .int .u64 0] 76)) (.cells #[I_ 0, I_ 0, I_ 0] 100)
    have hs : (w.alloc (.cells #[I_ 0, I_ 0, I_ 0, I_ 0, I_ 0, .int .u64 0] 76)).heap.size = w.heap.size + 1 := by simp
    rw [hs] at e1
    exact e1)
  have h1 := h.bel HB.out
  obtain ⟨av, cv, ev, _⟩ := Zl (h1.row o l v hl hv).1
  rw [← hnl] at ev
  subst ev
  have c0 := h1.cells.2.2.1
  have c1 := h1.cells.2.2.2.1
  have c2 := h1.cells.2.2.2.2
  have cO' := (Zk h1.of i _ (nns_at ho)).1
  have cL' := (Zk h1.al o _ hv).1
  have H1 := Za h1
  have HG := Za hG
  have HX := Za (And.intro hx (And.intro ho (And.intro ha (And.intro hl (And.intro hxd hv)))))
  have HLO := Za (fun k hk => h.lt (k := k) hk)
  have HNL := Za hnl
  have hge : nl <= a := by
    have := congrArg List.length hxd
    rw [List.length_drop] at this
    simp at this
    omega
  obtain rfl : a = nl := by omega
  clear h h1 hG hx ho ha hl hxd hv hol hnP hnS hnl
  go_enter Tryz.func75, Tryz.ntmps75
  go_upto_region 1 with fail
  generalize (w.alloc _).alloc _ = w1 at *
  go_quiet (fail)
  generalize hwq : World.drewN w1 _ = wq
  have BQ := Za (show Below w1.heap.size w1 wq from hwq ▸ below_drewN (Below.refl _ _) _)
  have HQ := Za (H1.out.bel BQ.out)
  have HBQ := Za (Zg HB.out BQ.out)
  have Y1q := Za ((BQ.out.block _ (Ze Y1.out)).trans Y1.out)
  have Y2q := Za ((BQ.out.block _ (Ze Y2.out)).trans Y2.out)
  clear hwq c0 c1 c2 cO' cL' Y1 Y2 H1 HB BQ
  have c2 := HQ.out.cells.2.2.2.2
  obtain ⟨cA1, cA2⟩ := Zk HQ.out.at' i _ (nns_at HX.out.2.2.1)
  obtain ⟨p0, p1, p2, p3, p4, p5⟩ : (wq.cell? ⟨w.heap.size, 0, none⟩ = some (I_ 0) /\ wq.cell? ⟨w.heap.size, 1, none⟩ = some (I_ 0) /\ wq.cell? ⟨w.heap.size, 2, none⟩ = some (I_ 0) /\ wq.cell? ⟨w.heap.size, 3, none⟩ = some (I_ 0) /\ wq.cell? ⟨w.heap.size, 4, none⟩ = some (I_ 0) /\ wq.cell? ⟨w.heap.size, 5, none⟩ = some (.int .u64 0)) := ⟨Zb Y1q.out 0 _ rfl, Zb Y1q.out 1 _ rfl, Zb Y1q.out 2 _ rfl, Zb Y1q.out 3 _ rfl, Zb Y1q.out 4 _ rfl, Zb Y1q.out 5 _ rfl⟩
  have f0 := Zc Y1q.out 0
  have f1 := Zc Y1q.out 1
  have f2 := Zc Y1q.out 2
  have f3 := Zc Y1q.out 3
  have f4 := Zc Y1q.out 4
  have f5 := Zc Y1q.out 5
  have n0 := Zb Y2q.out 0 _ rfl
  have m0 := Zc Y2q.out 0
  have n1 := Zb Y2q.out 1 _ rfl
  have m1 := Zc Y2q.out 1
  have n2 := Zb Y2q.out 2 _ rfl
  have m2 := Zc Y2q.out 2
  have T2 := Za (two_set (by omega) Y1q.out Y2q.out (I_ 12) (I_ 0) (I_ 0) (I_ 0) (I_ 0) (.int .u64 0) (I_ 0) (I_ 0) (I_ 0))
  have BB := Za (Zt (bel6 (Below.refl w.heap.size wq) (Nat.le_refl w.heap.size) (I_ 12) (I_ 0) (I_ 0) (I_ 0) (I_ 0) (.int .u64 0)) (Nat.le_succ w.heap.size) (I_ 0) (I_ 0) (I_ 0))
  go_wp2_with fail
  exact ret_w3 (x := ⟨12, 0, 0, (0, 0, 0)⟩) (y := (0, 0, 0)) w.heap.size (w.heap.size + 1) rfl rfl rfl T2.out.1 T2.out.2 rfl ⟨rfl, G, ⟨_, _, _, _, _, _, _, _, _, _, _, _, _, _, HQ.out.low HLO.out BB.out, HG.out⟩, Ch.of_bel (bel_low HBQ.out BB.out)⟩
theorem own_ad {w : World} {B : Nat} {T : TypeId} {n : Nat} {a : Option Addr} {m c len : Nat} {xs : List Value} (h : w.ownsRow B T n (.slice a m c) len xs) (hl : 0 < len) : ∃ b, a = some ⟨b, 0, none⟩ := by
 obtain ⟨b, c', e, _⟩ := Zq h hl
 cases e
 exact ⟨b, rfl⟩
theorem next_w {w : World} {G Fs Rs Fo R : Nat -> Prop} {B g gs gt : Nat} {S : List (List Wt)} {r : Rz} {vW vE vL vO vA : Value} {vs : List Value} {os as_ : List Nat} (h : Rq w Fs Rs Fo R B g gs gt S r vW vE vL vO vA vs os as_) (hG : ∀ k, G k ↔ Fs k ∨ Rs k ∨ Fo k ∨ R k) (i : Nat) (y : Wt) (tl : List Wt) (hx : r.pe[i]? = some (y :: tl)) (hk : ¬ y.k = 0) : Calls Tryz.prog 75 #[P_ gt, I_ (i : Nat)] w (RrP w G B g S { r with pe := r.pe.set i tl } (.tuple #[w6V y, h3V z3])) := by
  have hol := h.ol
  have hil : i < r.pe.length := (G_ hx)
  obtain ⟨o, ho⟩ : ∃ o, os[i]? = some o := ⟨_, List.getElem?_eq_getElem (by omega)⟩
  obtain ⟨a, ha⟩ : ∃ a, as_[i]? = some a := ⟨_, List.getElem?_eq_getElem (by omega)⟩
  obtain ⟨l, hl, hal, hxd⟩ := h.pos i _ o a hx ho ha
  have hoS : o < S.length := (G_ hl)
  obtain ⟨v, hv⟩ : ∃ v, vs[o]? = some v := ⟨_, List.getElem?_eq_getElem (by omega)⟩
  obtain ⟨bO, cO, eO, _⟩ := Zq h.of (by omega)
  obtain ⟨bA, cA, eA, _⟩ := Zq h.at' (by omega)
  obtain ⟨bL, cL, eL, _⟩ := Zq h.al (by omega)
  obtain ⟨nP, hnP⟩ : ∃ n, n = r.pe.length := ⟨_, rfl⟩
  obtain ⟨nS, hnS⟩ : ∃ n, n = S.length := ⟨_, rfl⟩
  obtain ⟨nl, hnl⟩ : ∃ n, n = l.length := ⟨_, rfl⟩
  rw [← hnP] at eO eA hil
  rw [← hnS] at eL hoS
  have hnl2 : nl <= 2000 := by rw [hnl]; exact h.sz.2 l (List.mem_of_getElem? hl)
  have hnS2 : nS <= 2000 := by rw [hnS]; exact h.sz.1
  have hnP9 : nP <= 9 := by rw [hnP]; exact h.n8.2
  rw [← hnl] at hal
  subst eO eA eL
  have HB := Za (Zv (Zd w (.cells #[I_ 0, I_ 0, I_ 0, I_ 0, I_ 0, .int .u64 0] 76)) (.cells #[I_ 0, I_ 0, I_ 0] 100))
  have Y1 : Hid (((w.alloc (.cells #[I_ 0, I_ 0, I_ 0, I_ 0, I_ 0, .int .u64 0] 76)).alloc (.cells #[I_ 0, I_ 0, I_ 0] 100)).heap[w.heap.size]? = some (.cells #[I_ 0, I_ 0, I_ 0, I_ 0, I_ 0, .int .u64 0] 76 (0, 0))) := Za (((Zd _ _).block _ (by simp)).trans (B_ w (.cells #[I_ 0, I_ 0, I_ 0, I_ 0, I_ 0, .int .u64 0] 76)))
  have Y2 : Hid (((w.alloc (.cells #[I_ 0, I_ 0, I_ 0, I_ 0, I_ 0, .int .u64 0] 76)).alloc (.cells #[I_ 0, I_ 0, I_ 0] 100)).heap[w.heap.size + 1]? = some (.cells #[I_ 0, I_ 0, I_ 0] 100 (0, 0))) := Za (by
    have e1 := B_ (w.alloc (.cells #[I_ 0, I_ 0, I_ 0, I_ 0, I_ 0, .int .u64 0] 76)) (.cells #[I_ 0, I_ 0, I_ 0] 100)
    have hs : (w.alloc (.cells #[I_ 0, I_ 0, I_ 0, I_ 0, I_ 0, .int .u64 0] 76)).heap.size = w.heap.size + 1 := by simp
    rw [hs] at e1
    exact e1)
  have h1 := h.bel HB.out
  obtain ⟨av, cv, ev, _⟩ := Zl (h1.row o l v hl hv).1
  rw [← hnl] at ev
  subst ev
  have c0 := h1.cells.2.2.1
  have c1 := h1.cells.2.2.2.1
  have c2 := h1.cells.2.2.2.2
  have cO' := (Zk h1.of i _ (nns_at ho)).1
  have cL' := (Zk h1.al o _ hv).1
  have H1 := Za h1
  have HG := Za hG
  have HX := Za (And.intro hx (And.intro ho (And.intro ha (And.intro hl (And.intro hxd hv)))))
  have HLO := Za (fun k hk => h.lt (k := k) hk)
  have HNL := Za hnl
  have hya : l[a]? = some y := by
    have := congrArg (fun q => q[0]?) hxd
    simpa using this.symm
  have hlt : a < nl := by
    have := (G_ hya)
    omega
  obtain ⟨bv, eB⟩ := own_ad (h1.row o l _ hl hv).1 (by omega)
  subst eB
  have HYA := Za hya
  clear hya
  clear h h1 hG hx ho ha hl hxd hv hol hnP hnS hnl
  go_enter Tryz.func75, Tryz.ntmps75
  go_upto_region 1 with fail
  generalize (w.alloc _).alloc _ = w1 at *
  go_quiet (fail)
  generalize hwq : World.drewN w1 _ = wq
  have BQ := Za (show Below w1.heap.size w1 wq from hwq ▸ below_drewN (Below.refl _ _) _)
  have HQ := Za (H1.out.bel BQ.out)
  have HBQ := Za (Zg HB.out BQ.out)
  have Y1q := Za ((BQ.out.block _ (Ze Y1.out)).trans Y1.out)
  have Y2q := Za ((BQ.out.block _ (Ze Y2.out)).trans Y2.out)
  clear hwq c0 c1 c2 cO' cL' Y1 Y2 H1 HB BQ
  have c2 := HQ.out.cells.2.2.2.2
  obtain ⟨cA1, cA2⟩ := Zk HQ.out.at' i _ (nns_at HX.out.2.2.1)
  have SM := Za (HQ.out.movT i a o _ HX.out.1 HX.out.2.2.1 HX.out.2.1 l HX.out.2.2.2.1 (by have := HNL.out; omega) HX.out.2.2.2.2.1)
  have RW := Za (rr_wide HG.out SM.out.1 SM.out.2)
  have hbA : bA < w.heap.size := HLO.out bA (.inr (.inr (.inl (HQ.out.fA bA rfl))))
  have Y1s : Hid ((wq.setCell ⟨bA, i, none⟩ (I_ ((a : Int) + 1))).heap[w.heap.size]? = _) := Za ((Below.heap_setCell _ _ _ _ (fun e => by have e2 : w.heap.size = bA := e; omega)).trans Y1q.out)
  have Y2s : Hid ((wq.setCell ⟨bA, i, none⟩ (I_ ((a : Int) + 1))).heap[w.heap.size + 1]? = _) := Za ((Below.heap_setCell _ _ _ _ (fun e => by have e2 : w.heap.size + 1 = bA := e; omega)).trans Y2q.out)
  clear Y1q Y2q hbA
  go_upto_region 6 with fail
  generalize wq.setCell ⟨bA, i, none⟩ (I_ ((a : Int) + 1)) = ws at *
  obtain ⟨z0, z1, z2, z3_, z4, z5⟩ := w6s_at _ _ _ HYA.out
  have RO := (SM.out.1.row o l _ HX.out.2.2.2.1 HX.out.2.2.2.2.2).1
  have g0 := (Zk RO _ _ z0).1
  have g1 := (Zk RO _ _ z1).1
  have g2 := (Zk RO _ _ z2).1
  have g3 := (Zk RO _ _ z3_).1
  have g4 := (Zk RO _ _ z4).1
  have g5 := (Zk RO _ _ z5).1
  have HBV := Za (SM.out.1.lt (k := bv) (.inr (.inr (.inr ((SM.out.1.row o l _ HX.out.2.2.2.1 HX.out.2.2.2.2.2).2 bv rfl)))))
  clear c2 cA1 cA2 z0 z1 z2 z3_ z4 z5 RO
  obtain ⟨p0, p1, p2, p3, p4, p5⟩ : (ws.cell? ⟨w.heap.size, 0, none⟩ = some (I_ 0) /\ ws.cell? ⟨w.heap.size, 1, none⟩ = some (I_ 0) /\ ws.cell? ⟨w.heap.size, 2, none⟩ = some (I_ 0) /\ ws.cell? ⟨w.heap.size, 3, none⟩ = some (I_ 0) /\ ws.cell? ⟨w.heap.size, 4, none⟩ = some (I_ 0) /\ ws.cell? ⟨w.heap.size, 5, none⟩ = some (.int .u64 0)) := ⟨Zb Y1s.out 0 _ rfl, Zb Y1s.out 1 _ rfl, Zb Y1s.out 2 _ rfl, Zb Y1s.out 3 _ rfl, Zb Y1s.out 4 _ rfl, Zb Y1s.out 5 _ rfl⟩
  have f0 := Zc Y1s.out 0
  have f1 := Zc Y1s.out 1
  have f2 := Zc Y1s.out 2
  have f3 := Zc Y1s.out 3
  have f4 := Zc Y1s.out 4
  have f5 := Zc Y1s.out 5
  have n0 := Zb Y2s.out 0 _ rfl
  have m0 := Zc Y2s.out 0
  have n1 := Zb Y2s.out 1 _ rfl
  have m1 := Zc Y2s.out 1
  have n2 := Zb Y2s.out 2 _ rfl
  have m2 := Zc Y2s.out 2
  have T2 := Za (two_set (by omega) Y1s.out Y2s.out (I_ y.k) (I_ y.o) (I_ y.a) (I_ y.v.1) (I_ y.v.2.1) (.int .u64 y.v.2.2) (I_ 0) (I_ 0) (I_ 0))
  have BB := Za (Zt (bel6 (Below.refl w.heap.size ws) (Nat.le_refl w.heap.size) (I_ y.k) (I_ y.o) (I_ y.a) (I_ y.v.1) (I_ y.v.2.1) (.int .u64 y.v.2.2)) (Nat.le_succ w.heap.size) (I_ 0) (I_ 0) (I_ 0))
  go_wp2_with fail
  exact ret_w3 (x := y) (y := (0, 0, 0)) w.heap.size (w.heap.size + 1) rfl rfl rfl T2.out.1 T2.out.2 rfl ⟨rfl, G, ⟨_, _, _, _, _, _, _, _, _, _, _, _, _, _, SM.out.1.low HLO.out BB.out, HG.out⟩, ((Ch.of_bel HBQ.out).trans RW.out.2).below BB.out⟩
theorem next_h {w : World} {G Fs Rs Fo R : Nat -> Prop} {B g gs gt : Nat} {S : List (List Wt)} {r : Rz} {vW vE vL vO vA : Value} {vs : List Value} {os as_ : List Nat} (h : Rq w Fs Rs Fo R B g gs gt S r vW vE vL vO vA vs os as_) (hG : ∀ k, G k ↔ Fs k ∨ Rs k ∨ Fo k ∨ R k) (i : Nat) (y : Wt) (tl : List Wt) (hx : r.pe[i]? = some (y :: tl)) (hk : y.k = 0) : Calls Tryz.prog 75 #[P_ gt, I_ (i : Nat)] w (RrP w G B g S { r with pe := r.pe.set i tl } (.tuple #[w6V zW, h3V (7, y.v.2.1, y.a)])) := by
  have hol := h.ol
  have hil : i < r.pe.length := (G_ hx)
  obtain ⟨o, ho⟩ : ∃ o, os[i]? = some o := ⟨_, List.getElem?_eq_getElem (by omega)⟩
  obtain ⟨a, ha⟩ : ∃ a, as_[i]? = some a := ⟨_, List.getElem?_eq_getElem (by omega)⟩
  obtain ⟨l, hl, hal, hxd⟩ := h.pos i _ o a hx ho ha
  have hoS : o < S.length := (G_ hl)
  obtain ⟨v, hv⟩ : ∃ v, vs[o]? = some v := ⟨_, List.getElem?_eq_getElem (by omega)⟩
  obtain ⟨bO, cO, eO, _⟩ := Zq h.of (by omega)
  obtain ⟨bA, cA, eA, _⟩ := Zq h.at' (by omega)
  obtain ⟨bL, cL, eL, _⟩ := Zq h.al (by omega)
  obtain ⟨nP, hnP⟩ : ∃ n, n = r.pe.length := ⟨_, rfl⟩
  obtain ⟨nS, hnS⟩ : ∃ n, n = S.length := ⟨_, rfl⟩
  obtain ⟨nl, hnl⟩ : ∃ n, n = l.length := ⟨_, rfl⟩
  rw [← hnP] at eO eA hil
  rw [← hnS] at eL hoS
  have hnl2 : nl <= 2000 := by rw [hnl]; exact h.sz.2 l (List.mem_of_getElem? hl)
  have hnS2 : nS <= 2000 := by rw [hnS]; exact h.sz.1
  have hnP9 : nP <= 9 := by rw [hnP]; exact h.n8.2
  rw [← hnl] at hal
  subst eO eA eL
  have HB := Za (Zv (Zd w (.cells #[I_ 0, I_ 0, I_ 0, I_ 0, I_ 0, .int .u64 0] 76)) (.cells #[I_ 0, I_ 0, I_ 0] 100))
  have Y1 : Hid (((w.alloc (.cells #[I_ 0, I_ 0, I_ 0, I_ 0, I_ 0, .int .u64 0] 76)).alloc (.cells #[I_ 0, I_ 0, I_ 0] 100)).heap[w.heap.size]? = some (.cells #[I_ 0, I_ 0, I_ 0, I_ 0, I_ 0, .int .u64 0] 76 (0, 0))) := Za (((Zd _ _).block _ (by simp)).trans (B_ w (.cells #[I_ 0, I_ 0, I_ 0, I_ 0, I_ 0, .int .u64 0] 76)))
  have Y2 : Hid (((w.alloc (.cells #[I_ 0, I_ 0, I_ 0, I_ 0, I_ 0, .int .u64 0] 76)).alloc (.cells #[I_ 0, I_ 0, I_ 0] 100)).heap[w.heap.size + 1]? = some (.cells #[I_ 0, I_ 0, I_ 0] 100 (0, 0))) := Za (by
    have e1 := B_ (w.alloc (.cells #[I_ 0, I_ 0, I_ 0, I_ 0, I_ 0, .int .u64 0] 76)) (.cells #[I_ 0, I_ 0, I_ 0] 100)
    have hs : (w.alloc (.cells #[I_ 0, I_ 0, I_ 0, I_ 0, I_ 0, .int .u64 0] 76)).heap.size = w.heap.size + 1 := by simp
    rw [hs] at e1
    exact e1)
  have h1 := h.bel HB.out
  obtain ⟨av, cv, ev, _⟩ := Zl (h1.row o l v hl hv).1
  rw [← hnl] at ev
  subst ev
  have c0 := h1.cells.2.2.1
  have c1 := h1.cells.2.2.2.1
  have c2 := h1.cells.2.2.2.2
  have cO' := (Zk h1.of i _ (nns_at ho)).1
  have cL' := (Zk h1.al o _ hv).1
  have H1 := Za h1
  have HG := Za hG
  have HX := Za (And.intro hx (And.intro ho (And.intro ha (And.intro hl (And.intro hxd hv)))))
  have HLO := Za (fun k hk => h.lt (k := k) hk)
  have HNL := Za hnl
  have hya : l[a]? = some y := by
    have := congrArg (fun q => q[0]?) hxd
    simpa using this.symm
  have hlt : a < nl := by
    have := (G_ hya)
    omega
  obtain ⟨bv, eB⟩ := own_ad (h1.row o l _ hl hv).1 (by omega)
  subst eB
  have HYA := Za hya
  clear hya
  clear h h1 hG hx ho ha hl hxd hv hol hnP hnS hnl
  go_enter Tryz.func75, Tryz.ntmps75
  go_upto_region 1 with fail
  generalize (w.alloc _).alloc _ = w1 at *
  go_quiet (fail)
  generalize hwq : World.drewN w1 _ = wq
  have BQ := Za (show Below w1.heap.size w1 wq from hwq ▸ below_drewN (Below.refl _ _) _)
  have HQ := Za (H1.out.bel BQ.out)
  have HBQ := Za (Zg HB.out BQ.out)
  have Y1q := Za ((BQ.out.block _ (Ze Y1.out)).trans Y1.out)
  have Y2q := Za ((BQ.out.block _ (Ze Y2.out)).trans Y2.out)
  clear hwq c0 c1 c2 cO' cL' Y1 Y2 H1 HB BQ
  have c2 := HQ.out.cells.2.2.2.2
  obtain ⟨cA1, cA2⟩ := Zk HQ.out.at' i _ (nns_at HX.out.2.2.1)
  have SM := Za (HQ.out.movT i a o _ HX.out.1 HX.out.2.2.1 HX.out.2.1 l HX.out.2.2.2.1 (by have := HNL.out; omega) HX.out.2.2.2.2.1)
  have RW := Za (rr_wide HG.out SM.out.1 SM.out.2)
  have hbA : bA < w.heap.size := HLO.out bA (.inr (.inr (.inl (HQ.out.fA bA rfl))))
  have Y1s : Hid ((wq.setCell ⟨bA, i, none⟩ (I_ ((a : Int) + 1))).heap[w.heap.size]? = _) := Za ((Below.heap_setCell _ _ _ _ (fun e => by have e2 : w.heap.size = bA := e; omega)).trans Y1q.out)
  have Y2s : Hid ((wq.setCell ⟨bA, i, none⟩ (I_ ((a : Int) + 1))).heap[w.heap.size + 1]? = _) := Za ((Below.heap_setCell _ _ _ _ (fun e => by have e2 : w.heap.size + 1 = bA := e; omega)).trans Y2q.out)
  clear Y1q Y2q hbA
  go_upto_region 6 with fail
  generalize wq.setCell ⟨bA, i, none⟩ (I_ ((a : Int) + 1)) = ws at *
  obtain ⟨z0, z1, z2, z3_, z4, z5⟩ := w6s_at _ _ _ HYA.out
  have RO := (SM.out.1.row o l _ HX.out.2.2.2.1 HX.out.2.2.2.2.2).1
  have g0 := (Zk RO _ _ z0).1
  have g1 := (Zk RO _ _ z1).1
  have g2 := (Zk RO _ _ z2).1
  have g3 := (Zk RO _ _ z3_).1
  have g4 := (Zk RO _ _ z4).1
  have g5 := (Zk RO _ _ z5).1
  have HBV := Za (SM.out.1.lt (k := bv) (.inr (.inr (.inr ((SM.out.1.row o l _ HX.out.2.2.2.1 HX.out.2.2.2.2.2).2 bv rfl)))))
  clear c2 cA1 cA2 z0 z1 z2 z3_ z4 z5 RO
  go_wp2_with fail
  refine wp_region_held_drew (S := fun w' => w'.cell? ⟨bv, a * 6 + 2, none⟩ = some (I_ y.a) /\ w'.cell? ⟨bv, a * 6 + 4, none⟩ = some (I_ y.v.2.1)) ZJ ⟨g2, g4⟩ (fun hH => ?_)
  have SM' := Za (SM.out.1.bel (Zp (Below.refl _ _)))
  have CC := Za (((Ch.of_bel HBQ.out).trans RW.out.2).drew)
  have Y1d : Hid (ws.drew.heap[w.heap.size]? = _) := Za Y1s.out
  have Y2d : Hid (ws.drew.heap[w.heap.size + 1]? = _) := Za Y2s.out
  have HBV' : Hid (bv < ws.drew.heap.size) := HBV
  have HV1 : Hid (bv < w.heap.size) := Za (HLO.out bv (.inr (.inr (.inr ((SM.out.1.row o l _ HX.out.2.2.2.1 HX.out.2.2.2.2.2).2 bv rfl)))))
  clear g0 g1 g2 g3 g4 g5 SM RW Y1s Y2s HBQ HBV
  generalize ws.drew = wd at *
  refine H2_ 0 hH ?_
  simp only [Act.put, S_]
  refine H2_ 1 hH ?_
  simp only [Act.put, S_]
  refine H2_ 2 hH ?_
  simp only [Act.put, S_]
  refine H2_ 3 hH ?_
  simp only [Act.put, S_]
  refine H2_ 4 hH ?_
  simp only [Act.put, S_]
  refine H2_ 5 hH ?_
  simp only [Act.put, S_]
  refine H_ 6 (v := ?_) ?_ hH ?_
  rotate_left 1
  · (intro w hSw; have q := hSw; clear hSw; go_simp <;> with_reducible rfl)
  simp only [Act.put, S_]
  refine H2_ 7 hH ?_
  simp only [Act.put, S_]
  refine H2_ 8 hH ?_
  simp only [Act.put, S_]
  refine H2_ 9 hH ?_
  simp only [Act.put, S_]
  refine H2_ 10 hH ?_
  simp only [Act.put, S_]
  refine H_ 11 (v := ?_) ?_ hH ?_
  rotate_left 1
  · (intro w hSw; have q := hSw; clear hSw; go_simp <;> with_reducible rfl)
  simp only [Act.put, S_]
  refine H2_ 12 hH ?_
  simp only [Act.put, S_]
  refine RH_ 13 (fun K1 hK1 => ?_)
  obtain ⟨p0, p1, p2, p3, p4, p5⟩ : (wd.cell? ⟨w.heap.size, 0, none⟩ = some (I_ 0) /\ wd.cell? ⟨w.heap.size, 1, none⟩ = some (I_ 0) /\ wd.cell? ⟨w.heap.size, 2, none⟩ = some (I_ 0) /\ wd.cell? ⟨w.heap.size, 3, none⟩ = some (I_ 0) /\ wd.cell? ⟨w.heap.size, 4, none⟩ = some (I_ 0) /\ wd.cell? ⟨w.heap.size, 5, none⟩ = some (.int .u64 0)) := ⟨Zb Y1d.out 0 _ rfl, Zb Y1d.out 1 _ rfl, Zb Y1d.out 2 _ rfl, Zb Y1d.out 3 _ rfl, Zb Y1d.out 4 _ rfl, Zb Y1d.out 5 _ rfl⟩
  have f0 := Zc Y1d.out 0
  have f1 := Zc Y1d.out 1
  have f2 := Zc Y1d.out 2
  have f3 := Zc Y1d.out 3
  have f4 := Zc Y1d.out 4
  have f5 := Zc Y1d.out 5
  have n0 := Zb Y2d.out 0 _ rfl
  have m0 := Zc Y2d.out 0
  have n1 := Zb Y2d.out 1 _ rfl
  have m1 := Zc Y2d.out 1
  have n2 := Zb Y2d.out 2 _ rfl
  have m2 := Zc Y2d.out 2
  go_simp
  refine hK1.out _ _ ⟨(Yc (ne6 (fun e => by have := HV1.out; omega)) hH.1), (Yc (ne6 (fun e => by have := HV1.out; omega)) hH.2)⟩ (fun hH => ?_)
  clear hK1 K1 p0 p1 p2 p3 p4 p5 f0 f1 f2 f3 f4 f5 n0 n1 n2 m0 m1 m2
  have Y2e := Za ((ne6 (x0 := I_ 0) (x1 := I_ 0) (x2 := I_ 0) (x3 := I_ 0) (x4 := I_ 0) (x5 := .int .u64 0) (show w.heap.size + 1 ≠ w.heap.size by omega)).trans Y2d.out)
  refine RH_ 14 (fun K1 hK1 => ?_)
  have n0 := Zb Y2e.out 0 _ rfl
  have m0 := Zc Y2e.out 0
  have n1 := Zb Y2e.out 1 _ rfl
  have m1 := Zc Y2e.out 1
  have n2 := Zb Y2e.out 2 _ rfl
  have m2 := Zc Y2e.out 2
  go_simp
  refine hK1.out _ _ ⟨(Yc (ne3 (fun e => by have := HV1.out; omega)) hH.1), (Yc (ne3 (fun e => by have := HV1.out; omega)) hH.2)⟩ (fun hH => ?_)
  clear hK1 K1 n0 n1 n2 m0 m1 m2
  refine wpAnyH_done (by kernel_rfl) ?_ _
  clear hH
  have T2 := Za (two_set (by omega) Y1d.out Y2d.out (I_ 0) (I_ 0) (I_ 0) (I_ 0) (I_ 0) (.int .u64 0) (I_ 7) (I_ y.v.2.1) (I_ y.a))
  have BB := Za (Zt (bel6 (Below.refl w.heap.size wd) (Nat.le_refl w.heap.size) (I_ 0) (I_ 0) (I_ 0) (I_ 0) (I_ 0) (.int .u64 0)) (Nat.le_succ w.heap.size) (I_ 7) (I_ y.v.2.1) (I_ y.a))
  go_wp2_with fail
  exact ret_w3 (x := ⟨0, 0, 0, (0, 0, 0)⟩) (y := (7, y.v.2.1, y.a)) w.heap.size (w.heap.size + 1) rfl rfl rfl T2.out.1 T2.out.2 rfl ⟨rfl, G, ⟨_, _, _, _, _, _, _, _, _, _, _, _, _, _, SM'.out.low HLO.out BB.out, HG.out⟩, CC.out.below BB.out⟩
theorem rNext_any {w : World} {G Fs Rs Fo R : Nat -> Prop} {B g gs gt : Nat} {S : List (List Wt)} {r : Rz} {vW vE vL vO vA : Value} {vs : List Value} {os as_ : List Nat} (h : Rq w Fs Rs Fo R B g gs gt S r vW vE vL vO vA vs os as_) (hG : ∀ k, G k ↔ Fs k ∨ Rs k ∨ Fo k ∨ R k) (i : Nat) (x : List Wt) (hx : r.pe[i]? = some x) : Calls Tryz.prog 75 #[P_ gt, I_ (i : Nat)] w (RrP w G B g S { r with pe := r.pe.set i (Yt x).2 } (.tuple #[w6V (Yt x).1.1, h3V (Yt x).1.2])) := by
 cases x with
 | nil =>
  have e : r.pe.set i [] = r.pe := set_same _ _ _ hx
  unfold Yt
  simp only [e]
  exact next_0 h hG i hx
 | cons y tl =>
  unfold Yt
  by_cases hk : y.k = 0
  · simp only [if_pos hk]
    exact next_h h hG i y tl hx hk
  · simp only [if_neg hk]
    exact next_w h hG i y tl hx hk
def isR (c : Int) (y : Wt) : Bool := y.k == 6 && y.o == c
def takI (ws : List Wt) (c : Int) : Int := match ws.findIdx? (isR c) with
 | some t => t
 | none => -1
theorem taker_any {w : World} {G : Nat -> Prop} {B g : Nat} {S : List (List Wt)} {r : Rz} (h : Rr w G B g S r) (c : Int) (i : Nat) (x : Wt) (hx : r.ws[i]? = some x) (hk : ¬ x.k = 6) : Calls Tryz.prog 36 #[P_ g, I_ c, I_ (i : Nat)] w (Vb w (I_ (takI r.ws c))) := by
  obtain ⟨Fs, Rs, Fo, R, gs, gt, vW, vE, vL, vO, vA, vs, os, as_, h, hG⟩ := h
  obtain ⟨n, hn⟩ : ∃ n, n = r.ws.length := ⟨_, rfl⟩
  have hi := (G_ hx)
  have hn8 : n <= 8 := by have := h.n8.1; omega
  have hs : Hid ((∀ j, j < n -> isR c (r.ws.getD j zW) = false) -> takI r.ws c = -1) := fun h => by
    unfold takI
    rw [idx_none (fun j hj => h j (by omega))]
  have hs2 : Hid (∀ k, k < n -> (∀ j, j < k -> isR c (r.ws.getD j zW) = false) -> isR c (r.ws.getD k zW) = true -> takI r.ws c = k) := fun k hk h1 h2 => by
    unfold takI
    rw [idx_some (by omega) h1 h2]
  obtain ⟨bW, cW, eW, hcW, hmW⟩ := Zq h.wa (by omega)
  rw [← hn] at eW
  subst eW
  have hbl := h.fb bW (h.fW bW rfl)
  have c1 := h.cells.1.2.1
  have HC : Hid (∀ k, k < n -> ∃ y, r.ws.getD k zW = y /\ (k = i -> y = x) /\ w.cell? ⟨bW, k * 6, none⟩ = some (I_ y.k) /\ w.cell? ⟨bW, k * 6 + 1, none⟩ = some (I_ y.o) /\ w.cell? ⟨bW, k * 6 + 2, none⟩ = some (I_ y.a) /\ w.cell? ⟨bW, k * 6 + 3, none⟩ = some (I_ y.v.1) /\ w.cell? ⟨bW, k * 6 + 4, none⟩ = some (I_ y.v.2.1) /\ w.cell? ⟨bW, k * 6 + 5, none⟩ = some (.int .u64 y.v.2.2)) := Za (fun k hk => by
    obtain ⟨y, hy⟩ : ∃ y, r.ws[k]? = some y := ⟨_, List.getElem?_eq_getElem (by omega)⟩
    obtain ⟨p0, p1, p2, p3, p4, p5⟩ := w6s_at _ _ _ hy
    refine ⟨y, by simp [List.getD, hy], fun e => ?_, (Zk h.wa _ _ p0).1, (Zk h.wa _ _ p1).1, (Zk h.wa _ _ p2).1, (Zk h.wa _ _ p3).1, (Zk h.wa _ _ p4).1, (Zk h.wa _ _ p5).1⟩
    subst e
    rw [hx] at hy
    exact (Option.some.inj hy).symm)
  clear h hG hn hcW hmW hx hi
  generalize takI r.ws c = z at *
  generalize r.ws = ws at *
  go_enter Tryz.func36, Tryz.ntmps36
  go_wp2_with fail
  go_loopw [7, 8, 14] (fun x7 x8 q wr => ∃ k : Nat, k <= n /\ q = I_ k /\ Hid (∀ j, j < k -> isR c (ws.getD j zW) = false) /\ Hid (Below w.heap.size w wr)) (fun _ _ q _ => n - (intOf q).toNat)
  case atStart => exact ⟨0, Nat.zero_le _, rfl, fun j hj => absurd hj (Nat.not_lt_zero _), Below.refl _ _⟩
  case round =>
    obtain ⟨k, hkn, rfl, hall, hbel⟩ := hrel
    by_cases hlt : k < n
    · have hlt' : (k : Int) < (n : Int) := by omega
      obtain ⟨y, hy, hxy, p0, p1, p2, p3, p4, p5⟩ := HC.out k hlt
      have u0 := (hbel.out.cell (p := ⟨bW, k * 6, none⟩) hbl).trans p0
      have u1 := (hbel.out.cell (p := ⟨bW, k * 6 + 1, none⟩) hbl).trans p1
      have u2 := (hbel.out.cell (p := ⟨bW, k * 6 + 2, none⟩) hbl).trans p2
      have u3 := (hbel.out.cell (p := ⟨bW, k * 6 + 3, none⟩) hbl).trans p3
      have u4 := (hbel.out.cell (p := ⟨bW, k * 6 + 4, none⟩) hbl).trans p4
      have u5 := (hbel.out.cell (p := ⟨bW, k * 6 + 5, none⟩) hbl).trans p5
      have hne := Za (hs2.out k hlt hall.out)
      have hstep : Hid (isR c (ws.getD k zW) = false -> ∀ j, j < k + 1 -> isR c (ws.getD j zW) = false) := fun e j hj => by
        by_cases ej : j = k
        · rw [ej]; exact e
        · exact hall.out j (by omega)
      rw [hy] at hne hstep
      have HB2 := Za (fun o => Zg hbel.out (Zd wr o))
      clear p0 p1 p2 p3 p4 p5 hs hs2 hall HC hy
      by_cases e1 : k = i
      · obtain rfl := hxy e1
        have hst := Za (hstep.out (by unfold isR; simp [hk]))
        have hd : ((k : Int) != (i : Int)) = false := by simp [e1]
        clear hne hstep hxy e1 hk
        go_wp2_with fail
        go_roundw
        case rel => exact ⟨k + 1, by omega, by go_num, hst.out, HB2.out _⟩
        case measure => simp [intOf]; omega
      · have hd : ((k : Int) != (i : Int)) = true := by simp; omega
        by_cases e6 : y.k = 6
        · rw [e6] at u0
          by_cases eo : y.o = c
          · rw [eo] at u1
            have hr := Za (hne.out (by unfold isR; simp [e6, eo]))
            clear hne hstep hxy e1 hk e6 eo
            go_wp2_with fail
            go_ret
            exact Vb.mk (by rw [hr.out]; rfl) (HB2.out _)
          · have ho : (y.o == c) = false := by simp [eo]
            have hst := Za (hstep.out (by unfold isR; simp [eo]))
            clear hne hstep hxy e1 hk e6 eo
            go_wp2_with fail
            go_roundw
            case rel => exact ⟨k + 1, by omega, by go_num, hst.out, HB2.out _⟩
            case measure => simp [intOf]; omega
        · have ho : (y.k == 6) = false := by simp [e6]
          have hst := Za (hstep.out (by unfold isR; simp [e6]))
          clear hne hstep hxy e1 hk e6
          go_wp2_with fail
          go_roundw
          case rel => exact ⟨k + 1, by omega, by go_num, hst.out, HB2.out _⟩
          case measure => simp [intOf]; omega
    · have ek : k = n := by omega
      subst ek
      have hr := Za (hs.out hall.out)
      clear hs hs2 hall HC
      go_wp2_with fail
      go_ret
      exact Vb.mk (by rw [hr.out]; rfl) hbel.out
end Go.Proofs.YtfojninaginnoaaGreatDoor.Ck
