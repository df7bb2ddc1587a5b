/- Texts of this proof, packed: contracts of the program's functions, and the plain model that they are held against. -/
import Derived.Test.YtfojninaginnoaaGreatDoorVad
import Derived.Deep.AppendSrc
import Derived.StillTailTactics
set_option maxRecDepth 20000
set_option maxHeartbeats 4000000
namespace Go.Proofs.YtfojninaginnoaaGreatDoor.Ck
open Go.RowKit
theorem Yo {w : World} {T TS : TypeId} {sz bytes : Nat} {z src : Value} {n k B : Nat} {xs : List Value} (hu : Tryz.prog.underlying TS = some (.slice T)) (hinfo : (Tryz.prog.info? T).map (fun i => (i.zero, i.size, i.bytes)) = some (some z, sz, bytes)) (hz : z.cells.size = sz) (hby : bytes <= 100)
 (hk : w.heap[k]? = some (.cells #[] T (0, 0))) (hBk : B <= k) (hs : w.ownsRow 0 T sz src n xs) (hn : n <= 10000000) (h1 : ∀ u ∈ xs, u.oneCell' = true) (hB : B <= w.heap.size) (ty : TypeId) :
 ∃ v' w', (Builtin.append_ #[TS, TS] ty #[.slice (some ⟨k, 0, none⟩) 0 0, src]).run Tryz.prog w = .ok v' w' /\ (∃ a c, v' = .slice a n c) /\ w'.ownsRow B T sz v' n xs /\ Below w.heap.size w w' /\ (∀ j, v'.ownBlock = some j -> w.heap.size <= j ∨ n = 0) := by
 obtain ⟨i, hi, hz0, hz1, hz2⟩ := info_parts hinfo
 have own0 : w.ownsRow B T sz (.slice (some ⟨k, 0, none⟩) 0 0) 0 [] := ⟨by simp, .inr ⟨k, 0, #[], rfl, hBk, hk, Nat.le_refl _, by unfold maxLen; omega, by simp, by simp⟩⟩
 have hS : Src Tryz.prog i.size TS src n xs w := by
  rcases own_form hs with ⟨rfl, rfl⟩ | ⟨b, c, rfl, _⟩
  · have e : xs = [] := by have := hs.1; simpa using this
    subst e
    exact Src.ofNil w hu 0
  · refine Src.ofSlice w hu ⟨b, 0, none⟩ n c xs (by rw [hz1]; exact hs.1) (fun j u hj => ?_) h1
    rw [show (⟨b, 0, none⟩ : Addr).add j = ⟨b, j, none⟩ by unfold Addr.add; by_cases h : j = 0 <;> simp [h]]
    exact (Zk hs j u hj).1
 by_cases hn0 : n = 0
 · subst hn0
   have e : xs = [] := by have := hs.1; simpa using this
   subst e
   have hr := run_append_room_src (P := Tryz.prog) w TS TS ty T i hu hi k 0 0 0 src 0 [] hS (Nat.le_refl _) (fun j hj => absurd hj (Nat.not_lt_zero _)) (fun j hj => absurd hj (Nat.not_lt_zero _))
   exact ⟨_, w, hr, ⟨_, _, rfl⟩, own0, Below.refl _ _, fun _ _ => .inr rfl⟩
 · have hfit : Builtin.nextslicecap (0 + n) 0 * i.bytes <= 281474976710656 := growslice_fits (by omega) (by rw [hz2]; have : (0 + n) * bytes <= 10000000 * 100 := Nat.mul_le_mul (by omega) hby; omega)
   have hr := run_append_grow_src (P := Tryz.prog) w TS TS ty T i z hu hi hz0 (some ⟨k, 0, none⟩) 0 0 [] (run_firstCells_some w.drew i.size 0 ⟨k, 0, none⟩ 0 0 [] (by simp) (fun j u hj => by simp at hj)) src n xs hS (by omega) (by omega) hfit
   have hge := grownCap_ge w (0 + n) 0 T
   have hle := grownCap_le_maxLen w (0 + n) 0 T (by unfold maxLen; omega)
   refine ⟨_, _, hr, ⟨_, _, by rw [Nat.zero_add]⟩, ⟨hs.1, .inr ⟨w.heap.size, grownCap w (0 + n) 0 T, _, by rw [Nat.zero_add], hB, B_ w.drew _, by omega, hle, ?_, ?_⟩⟩, (Zp (Below.refl _ _)).alloc (Nat.le_refl _) _, fun j hj => .inl (by have := Option.some.inj hj; simp at this; omega)⟩
   · simp [size_zeroCells, hz, hs.1]
     have h3 : n * sz + (grownCap w n 0 T - n) * sz = grownCap w n 0 T * sz := by
      rw [← Nat.add_mul]
      rw [Nat.zero_add] at hge
      rw [show n + (grownCap w n 0 T - n) = grownCap w n 0 T from Nat.add_sub_cancel' hge]
     exact h3
   · simp only [List.nil_append, Array.toList_append]
     exact List.take_left' hs.1
def Sx (w : World) (gb : Nat) (t m z : Int) (g : Nat) (v : Value) : Prop := Val w gb t m z /\ w.cell? ⟨g, 3, none⟩ = some v /\ g < w.heap.size
theorem Sx.al {w w' : World} {gb : Nat} {t m z : Int} {g : Nat} {v : Value} (h : Sx w gb t m z g v) (hb : Below w.heap.size w w') : Sx w' gb t m z g v := ⟨h.1.al hb, (hb.cell (p := ⟨g, 3, none⟩) h.2.2).trans h.2.1, Nat.lt_of_lt_of_le h.2.2 hb.size⟩
theorem Sx.set {w : World} {gb : Nat} {t m z : Int} {g : Nat} {v : Value} (h : Sx w gb t m z g v) {b : Nat} (h1 : gb ≠ b) (h2 : g ≠ b) (i : Nat) (x : Value) : Sx (w.setCell ⟨b, i, none⟩ x) gb t m z g v :=
 ⟨h.1.keep (Below.heap_setCell _ _ _ _ h1), (World.cell?_of_block (w := w) (a := ⟨g, 3, none⟩) (Below.heap_setCell _ _ _ _ h2)).trans h.2.1, by rw [Zi]; exact h.2.2⟩
theorem push_b {w : World} {v : Value} {l : List V3} {n gx B : Nat} (ho : w.ownsRow B 64 3 v n (vcs l)) (hB : B <= w.heap.size) (hn : n <= 10000000) (t m z : Int) (hx : Val w gx t m z) (ty : TypeId) :
    ∃ v' w', (Builtin.append_ #[65, 65] ty #[v, .slice (some ⟨gx, 0, none⟩) 1 1]).run Tryz.prog w = .ok v' w' /\ (∃ a c, v' = .slice a (n + 1) c) /\ w'.ownsRow B 64 3 v' (n + 1) (vcs (l ++ [(t, m, z)])) /\ w.grownBy w' v.ownBlock := by
  obtain ⟨i, hi, hz0, hz1, hz2⟩ := info_parts Yj
  obtain ⟨v', w', hr, ho', hg, _, _⟩ := run_append_own_at (P := Tryz.prog) w B 65 ty 64 i _ 3 24 Tryz.underlying65 hi hz0 hz1 hz2 rfl (by decide) v n (vcs l) ho ⟨gx, 0, none⟩ 1 1 (vcs [(t, m, z)]) rfl (fun j u hj => by
    rw [show (⟨gx, 0, none⟩ : Addr).add j = ⟨gx, j, none⟩ by unfold Addr.add; by_cases h : j = 0 <;> simp [h]]
    exact Zb hx j u (by simpa [vcs] using hj)) (Yq _) (by unfold maxLen; omega) (by omega) hB
  obtain ⟨a, c, e, _⟩ := Zl ho'
  exact ⟨v', w', hr, ⟨a, c, e⟩, by rw [vcs_app]; exact ho', hg⟩
theorem Yd {w : World} {B : Nat} {T : TypeId} {n : Nat} {v : Value} {len : Nat} {xs : List Value} (h : w.ownsRow B T n v len xs) : w.ownsRow 0 T n v len xs := by
 obtain ⟨hl, h0 | ⟨gb, cap, cur, e, hB, r⟩⟩ := h
 · exact ⟨hl, .inl h0⟩
 · exact ⟨hl, .inr ⟨gb, cap, cur, e, Nat.zero_le _, r⟩⟩
theorem rSend_room {w : World} {F R : Nat -> Prop} {B g : Nat} {s : St} (h : Rt w F R B g s) (i : Nat) (q : Qu) (hx : s.C[i]? = some q) (t m z : Int) (hB : isB t m z q.t = true) (hB1 : B <= 1000000) (hr : (q.l.length : Int) < q.room) : Calls Tryz.prog 78 #[P_ g, I_ (i : Nat), .agg #[I_ t, I_ m, .int .u64 z]] w (Rp w F R (B + 1) g { s with C := s.C.set i { q with l := q.l ++ [(t, m, z)] } } (.tuple #[.bool true, I_ 0])) := by
 obtain ⟨vP, vL, vC, vS, vT, vA, ss, tk, h⟩ := h
 have hi : i < s.C.length := (G_ hx)
 obtain ⟨b, c, e, hc, hm⟩ := Zq h.ch (by omega)
 have hsm := h.small
 obtain ⟨n, hn⟩ : ∃ n, n = s.C.length := ⟨_, rfl⟩
 rw [← hn] at e hi hc
 have hn128 : n <= 128 := by omega
 subst e
 have HN := Za hn
 have c1 := h.cells.2.2.1
 have hgl := h.fb g h.fg
 have hbl : b < w.heap.size := (Zf h.ch (k := b) rfl).2.1
 obtain ⟨x0, hx0⟩ : ∃ x0, x0 = q.t := ⟨_, rfl⟩
 have d0 := (Zk h.ch _ _ (by have := (ccs_at _ _ _ hx).1; rw [Nat.mul_comm] at this; exact this)).1
 rw [← hx0] at d0 hB
 have W1 := Za (And.intro (h.bel (Zd w (.cells #[I_ t, I_ m, .int .u64 z] 64))) (And.intro (Zd w (.cells #[I_ t, I_ m, .int .u64 z] 64)) (show Sw (w.alloc (.cells #[I_ t, I_ m, .int .u64 z] 64)) w.heap.size t m z g 2 b (i * 2) (.slice (some ⟨b, 0, none⟩) n c) x0 from ⟨Val.new w t m z, ((Zd w _).cell (p := ⟨g, 2, none⟩) hgl).trans c1, by simp; omega, ((Zd w _).cell (p := ⟨b, i * 2, none⟩) hbl).trans d0, by simp; omega⟩)))
 have HX := Za hx
 have hsl := h.sl
 have htl := h.tl
 obtain ⟨vq, hv⟩ : ∃ v, ss[i]? = some v := ⟨_, List.getElem?_eq_getElem (by omega)⟩
 obtain ⟨t0, ht⟩ : ∃ t, tk[i]? = some t := ⟨_, List.getElem?_eq_getElem (by omega)⟩
 obtain ⟨f, tn, e1, hle, hdr, hfB, oq, rq⟩ := h.q i q vq t0 hx hv ht
 subst e1
 obtain ⟨aq, cq, eq, _⟩ := Zl oq
 subst eq
 obtain ⟨bS, cS, eS, _⟩ := Zq h.se (by omega)
 rw [← hn] at eS
 subst eS
 obtain ⟨dS, dF⟩ := Zk h.se i _ hv
 have hbS0 := (Zf h.se (k := bS) rfl).2.1
 have hfl7 : f.length <= 10000000 := by omega
 have HT := Za ht
 have HQ := Za (And.intro hle (And.intro hdr hfB))
 have HFL := Za h.fb
 have HD := Za (And.intro dS (And.intro dF (And.intro oq hbS0)))
 have hne1 : w.heap.size ≠ bS := by omega
 have hne2 : g ≠ bS := fun e => Zu h.se h.at_ (by decide) (by rw [e]; rfl)
 clear hsl htl ht hv hle hdr hfB dS dF oq rq hbS0
 clear h hsm hc hm hn hx d0 hx0
 go_enter Tryz.func78, Tryz.ntmps78
 go_wp2_with fail
 refine (in_yes i n _ hi).mono ?_
 rintro e w1 ⟨rfl, rfl⟩
 go_wp2_with fail
 generalize w.alloc _ = w1 at *
 have T := Za W1.out.2.2
 clear c1
 have hgb : Yk t m z = true /\ t = x0 := by
  unfold isB at hB
  simpa using hB
 have FA : ∀ w, Calls Tryz.prog 35 #[.agg #[I_ t, I_ m, .int .u64 z]] w (Vb w (.bool true)) := fun w => by have := form_any t m z w; rw [hgb.1] at this; exact this
 have hne : (t != x0) = false := by rw [hgb.2]; simp
 clear hgb hB
 refine wp_region_held_drew (S := fun w' => Sw w' w.heap.size t m z g 2 b (i * 2) (.slice (some ⟨b, 0, none⟩) n c) x0) ZJ (T.out.al (Zp (Below.refl _ _))) (fun hH => ?_)
 have B3 := Za (Zp (Below.refl w1.heap.size w1))
 clear T
 generalize w1.drew = w3 at *
 refine H_ 0 (v := ?_) ?_ hH ?_
 rotate_left 1
 · (intro w hSw; have q := hSw.1.all.2; clear hSw; go_simp <;> with_reducible rfl)
 simp only [Act.put, S_]
 refine RH_ 1 (fun K1 hK1 => ?_)
 go_simp
 refine (FA _).mono ?_
 rintro e d4 ⟨rfl, hb⟩
 replace B3 := Za (Zg B3.out hb)
 refine hK1.out _ _ (hH.al hb) (fun hH => ?_)
 clear hK1 K1 hb
 refine H2_ 2 hH ?_
 simp only [Act.put, S_]
 refine H2_ 3 hH ?_
 simp only [Act.put, S_]
 refine H2_ 4 hH ?_
 simp only [Act.put, S_]
 refine H_ 5 (v := ?_) ?_ hH ?_
 rotate_left 1
 · (intro w hSw; have q := hSw.1.all.2; clear hSw; go_simp <;> with_reducible rfl)
 simp only [Act.put, S_]
 refine H2_ 6 hH ?_
 simp only [Act.put, S_]
 refine H2_ 7 hH ?_
 simp only [Act.put, S_]
 refine H2_ 8 hH ?_
 simp only [Act.put, S_]
 refine H_ 9 (v := ?_) ?_ hH ?_
 rotate_left 1
 · (intro w hSw; have q := hSw.2.1; clear hSw; go_simp <;> with_reducible rfl)
 simp only [Act.put, S_]
 refine H2_ 10 hH ?_
 simp only [Act.put, S_]
 refine H2_ 11 hH ?_
 simp only [Act.put, S_]
 refine H2_ 12 hH ?_
 simp only [Act.put, S_]
 refine H_ 13 (v := ?_) ?_ hH ?_
 rotate_left 1
 · (intro w hSw; have q := hSw.2.2.2.1; clear hSw; go_simp <;> with_reducible rfl)
 simp only [Act.put, S_]
 refine H2_ 14 hH ?_
 simp only [Act.put, S_]
 refine H2_ 15 hH ?_
 simp only [Act.put, S_]
 refine wpAnyH_done (by kernel_rfl) ?_ _
 clear hH
 have h3 := W1.out.1.bel B3.out
 have HB5 := Za (Zg W1.out.2.1 B3.out)
 have c2 := h3.cells.2.2.1
 have dR := (Zk h3.ch _ _ (by have := (ccs_at _ _ _ HX.out).2; rw [Nat.mul_comm] at this; exact this)).1
 have HQD := Za (fun n => rHeld_q (Rt.bel ⟨_, _, _, _, _, _, _, _, h3⟩ (below_drewN (Below.refl _ _) n)) hB1 i q HX.out)
 have R3 := Za h3
 clear h3
 go_wp2_with fail
 go_quiet ((go_at_call 37; exact Calls.quiet_of (HQD.out _)))
 go_wp2_with fail
 have RB := Za (below_drewN HB5.out nq)
 have BL := Za RB.out
 have S2 := Za (show Sx (World.drewN _ nq) w.heap.size t m z g (.slice (some ⟨bS, 0, none⟩) n cS) from ⟨(W1.out.2.2.1.al B3.out).al (below_drewN (Below.refl _ _) nq), R3.out.cells.2.2.2.1, R3.out.fb g R3.out.fg⟩)
 replace R3 := Za (R3.out.bel (below_drewN (Below.refl _ _) nq))
 refine wp_region_held_drew (S := fun w' => Sx w' w.heap.size t m z g (.slice (some ⟨bS, 0, none⟩) n cS)) ZJ (S2.out.al (Zp (Below.refl _ _))) (fun hH => ?_)
 have S3 := Za hH
 replace R3 := Za (R3.out.bel (Zp (Below.refl _ _)))
 replace BL := Za (Zp BL.out)
 have DS := Za ((BL.out.cell (p := ⟨bS, i, none⟩) HD.out.2.2.2).trans HD.out.1)
 have DF := Za ((BL.out.frozen (p := ⟨bS, i, none⟩) HD.out.2.2.2).trans HD.out.2.1)
 have OQ := Za (Zj HD.out.2.2.1 (fun k hk => BL.out.block k (Zf HD.out.2.2.1 hk).2.1))
 generalize World.drew _ = W3 at *
 have BW := Za (Below.refl W3.heap.size W3)
 have hbS : bS < W3.heap.size := (Zf R3.out.se (k := bS) rfl).2.1
 refine H2_ 0 hH ?_
 simp only [Act.put, S_]
 refine H2_ 1 hH ?_
 simp only [Act.put, S_]
 refine H2_ 2 hH ?_
 simp only [Act.put, S_]
 refine H_ 3 (v := ?_) ?_ hH ?_
 rotate_left 1
 · (intro w hSw; have q := hSw.2.1; clear hSw; go_simp <;> with_reducible rfl)
 simp only [Act.put, S_]
 refine H2_ 4 hH ?_
 simp only [Act.put, S_]
 refine H2_ 6 hH ?_
 simp only [Act.put, S_]
 refine H2_ 7 hH ?_
 simp only [Act.put, S_]
 refine H2_ 8 hH ?_
 simp only [Act.put, S_]
 refine H_ 9 (v := ?_) ?_ hH ?_
 rotate_left 1
 · (intro w hSw; have q := hSw.2.1; clear hSw; go_simp <;> with_reducible rfl)
 simp only [Act.put, S_]
 refine H2_ 10 hH ?_
 simp only [Act.put, S_]
 refine H2_ 11 hH ?_
 simp only [Act.put, S_]
 refine H_ 14 (v := ?_) ?_ hH ?_
 rotate_left 1
 · (intro w hSw; have q := hSw.1.all.2; clear hSw; go_simp <;> with_reducible rfl)
 simp only [Act.put, S_]
 refine wpAnyH_ready (rs := [5, 12, 15]) (by kernel_rfl) (by decide) ?_
 refine AllReadyH.cons rfl (fun K1 hK1 => ?_) (AllReadyH.cons rfl (fun K1 hK1 => ?_) (AllReadyH.cons rfl (fun K1 hK1 => ?_) AllReadyH.nil))
 · go_simp
   have B2 := Za (Zv BW.out (.cells #[] 64))
   refine hK1.out _ _ (S3.out.al B2.out) (fun hH => ?_)
   clear hK1 K1
   have O5 := Za (And.intro (B_ W3 (.cells #[] 64)) BW.out.size)
   replace BW := B2
   clear B2
   generalize W3.alloc _ = X0 at *
   refine wpAnyH_ready (rs := [12, 15]) (by kernel_rfl) (by decide) ?_
   refine AllReadyH.cons rfl (fun K1 hK1 => ?_) (AllReadyH.cons rfl (fun K1 hK1 => ?_) AllReadyH.nil)
   · have q := (BW.out.cell (p := ⟨bS, i, none⟩) hbS).trans DS.out
     go_simp
     refine hK1.out _ _ hH (fun hH => ?_)
     clear hK1 K1 q
     refine wpAnyH_ready (rs := [13, 15]) (by kernel_rfl) (by decide) ?_
     refine AllReadyH.cons rfl (fun K1 hK1 => ?_) (AllReadyH.cons rfl (fun K1 hK1 => ?_) AllReadyH.nil)
     · have AP := Za (fun ty => Yo (xs := vcs f) Tryz.underlying65 Yj rfl (by decide) O5.out.1 O5.out.2 (Zj OQ.out (fun k hk => BW.out.block k (Zf OQ.out hk).2.1)) hfl7 (Yq _) BW.out.size ty)
       refine Zr (TS := 65) (.tmp 49) (.tmp 56) _ _ _ (fun ty => AP.out ty) rfl rfl rfl rfl ?_
       rintro v9 X2 ⟨⟨a9, c9, rfl⟩, o9, b9, _⟩
       have B2 := Za (Zg BW.out b9)
       refine hK1.out _ _ (S3.out.al B2.out) (fun hH => ?_)
       clear hK1 K1 AP
       have O13 := Za o9
       replace BW := B2
       clear B2 o9 b9 O5
       refine RH_ 15 (fun K1 hK1 => ?_)
       go_simp
       have B2 := Za (Zv BW.out (.cells #[I_ t, I_ m, .int .u64 z] 64))
       refine hK1.out _ _ (S3.out.al B2.out) (fun hH => ?_)
       clear hK1 K1
       replace O13 := Za (Zj O13.out (fun k hk => (Zd X2 (.cells #[I_ t, I_ m, .int .u64 z] 64)).block k (Zf O13.out hk).2.1))
       have V15 := Za (Val.new X2 t m z)
       replace BW := B2
       clear B2
       generalize X2.alloc _ = X3 at *
       refine RH_ 16 (fun K1 hK1 => ?_)
       have AP := Za (fun ty => push_b O13.out BW.out.size hfl7 t m z V15.out ty)
       refine Zr (TS := 65) (.tmp 57) (.tmp 59) _ _ _ (fun ty => AP.out ty) rfl rfl rfl rfl ?_
       rintro v9 X4 ⟨⟨a8, c8, rfl⟩, o9, g9⟩
       have B2 := Za (BW.out.grown g9 BW.out.size (fun k hk => (Zf O13.out hk).1))
       refine hK1.out _ _ (S3.out.al B2.out) (fun hH => ?_)
       clear hK1 K1 AP
       have O16 := Za o9
       replace BW := B2
       clear B2 o9 g9 O13 V15
       refine H2_ 17 hH ?_
       simp only [Act.put, S_]
       refine RH_ 18 (fun K1 hK1 => ?_)
       have q1 := (BW.out.cell (p := ⟨bS, i, none⟩) hbS).trans DS.out
       have q2 := (BW.out.frozen (p := ⟨bS, i, none⟩) hbS).trans DF.out
       go_simp
       refine hK1.out _ _ (hH.set hne1 hne2 _ _) (fun hH => ?_)
       clear hK1 K1 q1 q2
       refine wpAnyH_done (by kernel_rfl) ?_ _
       clear hH
       obtain ⟨SR, SC⟩ := (R3.out.bel BW.out).setS HN.out i q (t, m, z) _ _ HX.out HT.out hr rfl HQ.out.1 HQ.out.2.1 HQ.out.2.2 (Yd O16.out) (fun k hk hF => by have h1 := (Zf O16.out hk).1; have h2 := HFL.out k hF; have h3 := BL.out.size; omega)
       have SR2 := Za (And.intro SR SC)
       clear SR SC
       go_wp2_with fail
       go_ret2
       exact ⟨rfl, _, _, ⟨_, _, _, _, _, _, _, _, SR2.out.1⟩, (Ch.of_bel (Zg BL.out BW.out)).trans SR2.out.2, fun _ h => .inl h, fun k hk => hk.imp id (fun h => by have h1 := (Zf O16.out h).1; have h3 := BL.out.size; omega)⟩
     · go_simp
       have B2 := Za (Zv BW.out (.cells #[I_ t, I_ m, .int .u64 z] 64))
       refine hK1.out _ _ (S3.out.al B2.out) (fun hH => ?_)
       clear hK1 K1
       replace O5 := Za (And.intro (((Zd X0 (.cells #[I_ t, I_ m, .int .u64 z] 64)).block _ (Ze O5.out.1)).trans O5.out.1) O5.out.2)
       have V15 := Za (Val.new X0 t m z)
       replace BW := B2
       clear B2
       generalize X0.alloc _ = X2 at *
       refine RH_ 13 (fun K1 hK1 => ?_)
       have AP := Za (fun ty => Yo (xs := vcs f) Tryz.underlying65 Yj rfl (by decide) O5.out.1 O5.out.2 (Zj OQ.out (fun k hk => BW.out.block k (Zf OQ.out hk).2.1)) hfl7 (Yq _) BW.out.size ty)
       refine Zr (TS := 65) (.tmp 49) (.tmp 56) _ _ _ (fun ty => AP.out ty) rfl rfl rfl rfl ?_
       rintro v9 X3 ⟨⟨a9, c9, rfl⟩, o9, b9, _⟩
       have B2 := Za (Zg BW.out b9)
       refine hK1.out _ _ (S3.out.al B2.out) (fun hH => ?_)
       clear hK1 K1 AP
       replace V15 := Za (V15.out.al b9)
       have O13 := Za o9
       replace BW := B2
       clear B2 o9 b9 O5
       refine RH_ 16 (fun K1 hK1 => ?_)
       have AP := Za (fun ty => push_b O13.out BW.out.size hfl7 t m z V15.out ty)
       refine Zr (TS := 65) (.tmp 57) (.tmp 59) _ _ _ (fun ty => AP.out ty) rfl rfl rfl rfl ?_
       rintro v9 X4 ⟨⟨a8, c8, rfl⟩, o9, g9⟩
       have B2 := Za (BW.out.grown g9 BW.out.size (fun k hk => (Zf O13.out hk).1))
       refine hK1.out _ _ (S3.out.al B2.out) (fun hH => ?_)
       clear hK1 K1 AP
       have O16 := Za o9
       replace BW := B2
       clear B2 o9 g9 O13 V15
       refine H2_ 17 hH ?_
       simp only [Act.put, S_]
       refine RH_ 18 (fun K1 hK1 => ?_)
       have q1 := (BW.out.cell (p := ⟨bS, i, none⟩) hbS).trans DS.out
       have q2 := (BW.out.frozen (p := ⟨bS, i, none⟩) hbS).trans DF.out
       go_simp
       refine hK1.out _ _ (hH.set hne1 hne2 _ _) (fun hH => ?_)
       clear hK1 K1 q1 q2
       refine wpAnyH_done (by kernel_rfl) ?_ _
       clear hH
       obtain ⟨SR, SC⟩ := (R3.out.bel BW.out).setS HN.out i q (t, m, z) _ _ HX.out HT.out hr rfl HQ.out.1 HQ.out.2.1 HQ.out.2.2 (Yd O16.out) (fun k hk hF => by have h1 := (Zf O16.out hk).1; have h2 := HFL.out k hF; have h3 := BL.out.size; omega)
       have SR2 := Za (And.intro SR SC)
       clear SR SC
       go_wp2_with fail
       go_ret2
       exact ⟨rfl, _, _, ⟨_, _, _, _, _, _, _, _, SR2.out.1⟩, (Ch.of_bel (Zg BL.out BW.out)).trans SR2.out.2, fun _ h => .inl h, fun k hk => hk.imp id (fun h => by have h1 := (Zf O16.out h).1; have h3 := BL.out.size; omega)⟩
   · go_simp
     have B2 := Za (Zv BW.out (.cells #[I_ t, I_ m, .int .u64 z] 64))
     refine hK1.out _ _ (S3.out.al B2.out) (fun hH => ?_)
     clear hK1 K1
     replace O5 := Za (And.intro (((Zd X0 (.cells #[I_ t, I_ m, .int .u64 z] 64)).block _ (Ze O5.out.1)).trans O5.out.1) O5.out.2)
     have V15 := Za (Val.new X0 t m z)
     replace BW := B2
     clear B2
     generalize X0.alloc _ = X1 at *
     refine RH_ 12 (fun K1 hK1 => ?_)
     have q := (BW.out.cell (p := ⟨bS, i, none⟩) hbS).trans DS.out
     go_simp
     refine hK1.out _ _ hH (fun hH => ?_)
     clear hK1 K1 q
     refine RH_ 13 (fun K1 hK1 => ?_)
     have AP := Za (fun ty => Yo (xs := vcs f) Tryz.underlying65 Yj rfl (by decide) O5.out.1 O5.out.2 (Zj OQ.out (fun k hk => BW.out.block k (Zf OQ.out hk).2.1)) hfl7 (Yq _) BW.out.size ty)
     refine Zr (TS := 65) (.tmp 49) (.tmp 56) _ _ _ (fun ty => AP.out ty) rfl rfl rfl rfl ?_
     rintro v9 X3 ⟨⟨a9, c9, rfl⟩, o9, b9, _⟩
     have B2 := Za (Zg BW.out b9)
     refine hK1.out _ _ (S3.out.al B2.out) (fun hH => ?_)
     clear hK1 K1 AP
     replace V15 := Za (V15.out.al b9)
     have O13 := Za o9
     replace BW := B2
     clear B2 o9 b9 O5
     refine RH_ 16 (fun K1 hK1 => ?_)
     have AP := Za (fun ty => push_b O13.out BW.out.size hfl7 t m z V15.out ty)
     refine Zr (TS := 65) (.tmp 57) (.tmp 59) _ _ _ (fun ty => AP.out ty) rfl rfl rfl rfl ?_
     rintro v9 X4 ⟨⟨a8, c8, rfl⟩, o9, g9⟩
     have B2 := Za (BW.out.grown g9 BW.out.size (fun k hk => (Zf O13.out hk).1))
     refine hK1.out _ _ (S3.out.al B2.out) (fun hH => ?_)
     clear hK1 K1 AP
     have O16 := Za o9
     replace BW := B2
     clear B2 o9 g9 O13 V15
     refine H2_ 17 hH ?_
     simp only [Act.put, S_]
     refine RH_ 18 (fun K1 hK1 => ?_)
     have q1 := (BW.out.cell (p := ⟨bS, i, none⟩) hbS).trans DS.out
     have q2 := (BW.out.frozen (p := ⟨bS, i, none⟩) hbS).trans DF.out
     go_simp
     refine hK1.out _ _ (hH.set hne1 hne2 _ _) (fun hH => ?_)
     clear hK1 K1 q1 q2
     refine wpAnyH_done (by kernel_rfl) ?_ _
     clear hH
     obtain ⟨SR, SC⟩ := (R3.out.bel BW.out).setS HN.out i q (t, m, z) _ _ HX.out HT.out hr rfl HQ.out.1 HQ.out.2.1 HQ.out.2.2 (Yd O16.out) (fun k hk hF => by have h1 := (Zf O16.out hk).1; have h2 := HFL.out k hF; have h3 := BL.out.size; omega)
     have SR2 := Za (And.intro SR SC)
     clear SR SC
     go_wp2_with fail
     go_ret2
     exact ⟨rfl, _, _, ⟨_, _, _, _, _, _, _, _, SR2.out.1⟩, (Ch.of_bel (Zg BL.out BW.out)).trans SR2.out.2, fun _ h => .inl h, fun k hk => hk.imp id (fun h => by have h1 := (Zf O16.out h).1; have h3 := BL.out.size; omega)⟩
 · have q := (BW.out.cell (p := ⟨bS, i, none⟩) hbS).trans DS.out
   go_simp
   refine hK1.out _ _ hH (fun hH => ?_)
   clear hK1 K1 q
   refine wpAnyH_ready (rs := [5, 15]) (by kernel_rfl) (by decide) ?_
   refine AllReadyH.cons rfl (fun K1 hK1 => ?_) (AllReadyH.cons rfl (fun K1 hK1 => ?_) AllReadyH.nil)
   · go_simp
     have B2 := Za (Zv BW.out (.cells #[] 64))
     refine hK1.out _ _ (S3.out.al B2.out) (fun hH => ?_)
     clear hK1 K1
     have O5 := Za (And.intro (B_ W3 (.cells #[] 64)) BW.out.size)
     replace BW := B2
     clear B2
     generalize W3.alloc _ = X1 at *
     refine wpAnyH_ready (rs := [13, 15]) (by kernel_rfl) (by decide) ?_
     refine AllReadyH.cons rfl (fun K1 hK1 => ?_) (AllReadyH.cons rfl (fun K1 hK1 => ?_) AllReadyH.nil)
     · have AP := Za (fun ty => Yo (xs := vcs f) Tryz.underlying65 Yj rfl (by decide) O5.out.1 O5.out.2 (Zj OQ.out (fun k hk => BW.out.block k (Zf OQ.out hk).2.1)) hfl7 (Yq _) BW.out.size ty)
       refine Zr (TS := 65) (.tmp 49) (.tmp 56) _ _ _ (fun ty => AP.out ty) rfl rfl rfl rfl ?_
       rintro v9 X2 ⟨⟨a9, c9, rfl⟩, o9, b9, _⟩
       have B2 := Za (Zg BW.out b9)
       refine hK1.out _ _ (S3.out.al B2.out) (fun hH => ?_)
       clear hK1 K1 AP
       have O13 := Za o9
       replace BW := B2
       clear B2 o9 b9 O5
       refine RH_ 15 (fun K1 hK1 => ?_)
       go_simp
       have B2 := Za (Zv BW.out (.cells #[I_ t, I_ m, .int .u64 z] 64))
       refine hK1.out _ _ (S3.out.al B2.out) (fun hH => ?_)
       clear hK1 K1
       replace O13 := Za (Zj O13.out (fun k hk => (Zd X2 (.cells #[I_ t, I_ m, .int .u64 z] 64)).block k (Zf O13.out hk).2.1))
       have V15 := Za (Val.new X2 t m z)
       replace BW := B2
       clear B2
       generalize X2.alloc _ = X3 at *
       refine RH_ 16 (fun K1 hK1 => ?_)
       have AP := Za (fun ty => push_b O13.out BW.out.size hfl7 t m z V15.out ty)
       refine Zr (TS := 65) (.tmp 57) (.tmp 59) _ _ _ (fun ty => AP.out ty) rfl rfl rfl rfl ?_
       rintro v9 X4 ⟨⟨a8, c8, rfl⟩, o9, g9⟩
       have B2 := Za (BW.out.grown g9 BW.out.size (fun k hk => (Zf O13.out hk).1))
       refine hK1.out _ _ (S3.out.al B2.out) (fun hH => ?_)
       clear hK1 K1 AP
       have O16 := Za o9
       replace BW := B2
       clear B2 o9 g9 O13 V15
       refine H2_ 17 hH ?_
       simp only [Act.put, S_]
       refine RH_ 18 (fun K1 hK1 => ?_)
       have q1 := (BW.out.cell (p := ⟨bS, i, none⟩) hbS).trans DS.out
       have q2 := (BW.out.frozen (p := ⟨bS, i, none⟩) hbS).trans DF.out
       go_simp
       refine hK1.out _ _ (hH.set hne1 hne2 _ _) (fun hH => ?_)
       clear hK1 K1 q1 q2
       refine wpAnyH_done (by kernel_rfl) ?_ _
       clear hH
       obtain ⟨SR, SC⟩ := (R3.out.bel BW.out).setS HN.out i q (t, m, z) _ _ HX.out HT.out hr rfl HQ.out.1 HQ.out.2.1 HQ.out.2.2 (Yd O16.out) (fun k hk hF => by have h1 := (Zf O16.out hk).1; have h2 := HFL.out k hF; have h3 := BL.out.size; omega)
       have SR2 := Za (And.intro SR SC)
       clear SR SC
       go_wp2_with fail
       go_ret2
       exact ⟨rfl, _, _, ⟨_, _, _, _, _, _, _, _, SR2.out.1⟩, (Ch.of_bel (Zg BL.out BW.out)).trans SR2.out.2, fun _ h => .inl h, fun k hk => hk.imp id (fun h => by have h1 := (Zf O16.out h).1; have h3 := BL.out.size; omega)⟩
     · go_simp
       have B2 := Za (Zv BW.out (.cells #[I_ t, I_ m, .int .u64 z] 64))
       refine hK1.out _ _ (S3.out.al B2.out) (fun hH => ?_)
       clear hK1 K1
       replace O5 := Za (And.intro (((Zd X1 (.cells #[I_ t, I_ m, .int .u64 z] 64)).block _ (Ze O5.out.1)).trans O5.out.1) O5.out.2)
       have V15 := Za (Val.new X1 t m z)
       replace BW := B2
       clear B2
       generalize X1.alloc _ = X2 at *
       refine RH_ 13 (fun K1 hK1 => ?_)
       have AP := Za (fun ty => Yo (xs := vcs f) Tryz.underlying65 Yj rfl (by decide) O5.out.1 O5.out.2 (Zj OQ.out (fun k hk => BW.out.block k (Zf OQ.out hk).2.1)) hfl7 (Yq _) BW.out.size ty)
       refine Zr (TS := 65) (.tmp 49) (.tmp 56) _ _ _ (fun ty => AP.out ty) rfl rfl rfl rfl ?_
       rintro v9 X3 ⟨⟨a9, c9, rfl⟩, o9, b9, _⟩
       have B2 := Za (Zg BW.out b9)
       refine hK1.out _ _ (S3.out.al B2.out) (fun hH => ?_)
       clear hK1 K1 AP
       replace V15 := Za (V15.out.al b9)
       have O13 := Za o9
       replace BW := B2
       clear B2 o9 b9 O5
       refine RH_ 16 (fun K1 hK1 => ?_)
       have AP := Za (fun ty => push_b O13.out BW.out.size hfl7 t m z V15.out ty)
       refine Zr (TS := 65) (.tmp 57) (.tmp 59) _ _ _ (fun ty => AP.out ty) rfl rfl rfl rfl ?_
       rintro v9 X4 ⟨⟨a8, c8, rfl⟩, o9, g9⟩
       have B2 := Za (BW.out.grown g9 BW.out.size (fun k hk => (Zf O13.out hk).1))
       refine hK1.out _ _ (S3.out.al B2.out) (fun hH => ?_)
       clear hK1 K1 AP
       have O16 := Za o9
       replace BW := B2
       clear B2 o9 g9 O13 V15
       refine H2_ 17 hH ?_
       simp only [Act.put, S_]
       refine RH_ 18 (fun K1 hK1 => ?_)
       have q1 := (BW.out.cell (p := ⟨bS, i, none⟩) hbS).trans DS.out
       have q2 := (BW.out.frozen (p := ⟨bS, i, none⟩) hbS).trans DF.out
       go_simp
       refine hK1.out _ _ (hH.set hne1 hne2 _ _) (fun hH => ?_)
       clear hK1 K1 q1 q2
       refine wpAnyH_done (by kernel_rfl) ?_ _
       clear hH
       obtain ⟨SR, SC⟩ := (R3.out.bel BW.out).setS HN.out i q (t, m, z) _ _ HX.out HT.out hr rfl HQ.out.1 HQ.out.2.1 HQ.out.2.2 (Yd O16.out) (fun k hk hF => by have h1 := (Zf O16.out hk).1; have h2 := HFL.out k hF; have h3 := BL.out.size; omega)
       have SR2 := Za (And.intro SR SC)
       clear SR SC
       go_wp2_with fail
       go_ret2
       exact ⟨rfl, _, _, ⟨_, _, _, _, _, _, _, _, SR2.out.1⟩, (Ch.of_bel (Zg BL.out BW.out)).trans SR2.out.2, fun _ h => .inl h, fun k hk => hk.imp id (fun h => by have h1 := (Zf O16.out h).1; have h3 := BL.out.size; omega)⟩
   · go_simp
     have B2 := Za (Zv BW.out (.cells #[I_ t, I_ m, .int .u64 z] 64))
     refine hK1.out _ _ (S3.out.al B2.out) (fun hH => ?_)
     clear hK1 K1
     have V15 := Za (Val.new W3 t m z)
     replace BW := B2
     clear B2
     generalize W3.alloc _ = X1 at *
     refine RH_ 5 (fun K1 hK1 => ?_)
     go_simp
     have B2 := Za (Zv BW.out (.cells #[] 64))
     refine hK1.out _ _ (S3.out.al B2.out) (fun hH => ?_)
     clear hK1 K1
     replace V15 := Za (V15.out.al (Zd X1 (.cells #[] 64)))
     have O5 := Za (And.intro (B_ X1 (.cells #[] 64)) BW.out.size)
     replace BW := B2
     clear B2
     generalize X1.alloc _ = X2 at *
     refine RH_ 13 (fun K1 hK1 => ?_)
     have AP := Za (fun ty => Yo (xs := vcs f) Tryz.underlying65 Yj rfl (by decide) O5.out.1 O5.out.2 (Zj OQ.out (fun k hk => BW.out.block k (Zf OQ.out hk).2.1)) hfl7 (Yq _) BW.out.size ty)
     refine Zr (TS := 65) (.tmp 49) (.tmp 56) _ _ _ (fun ty => AP.out ty) rfl rfl rfl rfl ?_
     rintro v9 X3 ⟨⟨a9, c9, rfl⟩, o9, b9, _⟩
     have B2 := Za (Zg BW.out b9)
     refine hK1.out _ _ (S3.out.al B2.out) (fun hH => ?_)
     clear hK1 K1 AP
     replace V15 := Za (V15.out.al b9)
     have O13 := Za o9
     replace BW := B2
     clear B2 o9 b9 O5
     refine RH_ 16 (fun K1 hK1 => ?_)
     have AP := Za (fun ty => push_b O13.out BW.out.size hfl7 t m z V15.out ty)
     refine Zr (TS := 65) (.tmp 57) (.tmp 59) _ _ _ (fun ty => AP.out ty) rfl rfl rfl rfl ?_
     rintro v9 X4 ⟨⟨a8, c8, rfl⟩, o9, g9⟩
     have B2 := Za (BW.out.grown g9 BW.out.size (fun k hk => (Zf O13.out hk).1))
     refine hK1.out _ _ (S3.out.al B2.out) (fun hH => ?_)
     clear hK1 K1 AP
     have O16 := Za o9
     replace BW := B2
     clear B2 o9 g9 O13 V15
     refine H2_ 17 hH ?_
     simp only [Act.put, S_]
     refine RH_ 18 (fun K1 hK1 => ?_)
     have q1 := (BW.out.cell (p := ⟨bS, i, none⟩) hbS).trans DS.out
     have q2 := (BW.out.frozen (p := ⟨bS, i, none⟩) hbS).trans DF.out
     go_simp
     refine hK1.out _ _ (hH.set hne1 hne2 _ _) (fun hH => ?_)
     clear hK1 K1 q1 q2
     refine wpAnyH_done (by kernel_rfl) ?_ _
     clear hH
     obtain ⟨SR, SC⟩ := (R3.out.bel BW.out).setS HN.out i q (t, m, z) _ _ HX.out HT.out hr rfl HQ.out.1 HQ.out.2.1 HQ.out.2.2 (Yd O16.out) (fun k hk hF => by have h1 := (Zf O16.out hk).1; have h2 := HFL.out k hF; have h3 := BL.out.size; omega)
     have SR2 := Za (And.intro SR SC)
     clear SR SC
     go_wp2_with fail
     go_ret2
     exact ⟨rfl, _, _, ⟨_, _, _, _, _, _, _, _, SR2.out.1⟩, (Ch.of_bel (Zg BL.out BW.out)).trans SR2.out.2, fun _ h => .inl h, fun k hk => hk.imp id (fun h => by have h1 := (Zf O16.out h).1; have h3 := BL.out.size; omega)⟩
 · go_simp
   have B2 := Za (Zv BW.out (.cells #[I_ t, I_ m, .int .u64 z] 64))
   refine hK1.out _ _ (S3.out.al B2.out) (fun hH => ?_)
   clear hK1 K1
   have V15 := Za (Val.new W3 t m z)
   replace BW := B2
   clear B2
   generalize W3.alloc _ = X0 at *
   refine wpAnyH_ready (rs := [5, 12]) (by kernel_rfl) (by decide) ?_
   refine AllReadyH.cons rfl (fun K1 hK1 => ?_) (AllReadyH.cons rfl (fun K1 hK1 => ?_) AllReadyH.nil)
   · go_simp
     have B2 := Za (Zv BW.out (.cells #[] 64))
     refine hK1.out _ _ (S3.out.al B2.out) (fun hH => ?_)
     clear hK1 K1
     replace V15 := Za (V15.out.al (Zd X0 (.cells #[] 64)))
     have O5 := Za (And.intro (B_ X0 (.cells #[] 64)) BW.out.size)
     replace BW := B2
     clear B2
     generalize X0.alloc _ = X1 at *
     refine RH_ 12 (fun K1 hK1 => ?_)
     have q := (BW.out.cell (p := ⟨bS, i, none⟩) hbS).trans DS.out
     go_simp
     refine hK1.out _ _ hH (fun hH => ?_)
     clear hK1 K1 q
     refine RH_ 13 (fun K1 hK1 => ?_)
     have AP := Za (fun ty => Yo (xs := vcs f) Tryz.underlying65 Yj rfl (by decide) O5.out.1 O5.out.2 (Zj OQ.out (fun k hk => BW.out.block k (Zf OQ.out hk).2.1)) hfl7 (Yq _) BW.out.size ty)
     refine Zr (TS := 65) (.tmp 49) (.tmp 56) _ _ _ (fun ty => AP.out ty) rfl rfl rfl rfl ?_
     rintro v9 X3 ⟨⟨a9, c9, rfl⟩, o9, b9, _⟩
     have B2 := Za (Zg BW.out b9)
     refine hK1.out _ _ (S3.out.al B2.out) (fun hH => ?_)
     clear hK1 K1 AP
     replace V15 := Za (V15.out.al b9)
     have O13 := Za o9
     replace BW := B2
     clear B2 o9 b9 O5
     refine RH_ 16 (fun K1 hK1 => ?_)
     have AP := Za (fun ty => push_b O13.out BW.out.size hfl7 t m z V15.out ty)
     refine Zr (TS := 65) (.tmp 57) (.tmp 59) _ _ _ (fun ty => AP.out ty) rfl rfl rfl rfl ?_
     rintro v9 X4 ⟨⟨a8, c8, rfl⟩, o9, g9⟩
     have B2 := Za (BW.out.grown g9 BW.out.size (fun k hk => (Zf O13.out hk).1))
     refine hK1.out _ _ (S3.out.al B2.out) (fun hH => ?_)
     clear hK1 K1 AP
     have O16 := Za o9
     replace BW := B2
     clear B2 o9 g9 O13 V15
     refine H2_ 17 hH ?_
     simp only [Act.put, S_]
     refine RH_ 18 (fun K1 hK1 => ?_)
     have q1 := (BW.out.cell (p := ⟨bS, i, none⟩) hbS).trans DS.out
     have q2 := (BW.out.frozen (p := ⟨bS, i, none⟩) hbS).trans DF.out
     go_simp
     refine hK1.out _ _ (hH.set hne1 hne2 _ _) (fun hH => ?_)
     clear hK1 K1 q1 q2
     refine wpAnyH_done (by kernel_rfl) ?_ _
     clear hH
     obtain ⟨SR, SC⟩ := (R3.out.bel BW.out).setS HN.out i q (t, m, z) _ _ HX.out HT.out hr rfl HQ.out.1 HQ.out.2.1 HQ.out.2.2 (Yd O16.out) (fun k hk hF => by have h1 := (Zf O16.out hk).1; have h2 := HFL.out k hF; have h3 := BL.out.size; omega)
     have SR2 := Za (And.intro SR SC)
     clear SR SC
     go_wp2_with fail
     go_ret2
     exact ⟨rfl, _, _, ⟨_, _, _, _, _, _, _, _, SR2.out.1⟩, (Ch.of_bel (Zg BL.out BW.out)).trans SR2.out.2, fun _ h => .inl h, fun k hk => hk.imp id (fun h => by have h1 := (Zf O16.out h).1; have h3 := BL.out.size; omega)⟩
   · have q := (BW.out.cell (p := ⟨bS, i, none⟩) hbS).trans DS.out
     go_simp
     refine hK1.out _ _ hH (fun hH => ?_)
     clear hK1 K1 q
     refine RH_ 5 (fun K1 hK1 => ?_)
     go_simp
     have B2 := Za (Zv BW.out (.cells #[] 64))
     refine hK1.out _ _ (S3.out.al B2.out) (fun hH => ?_)
     clear hK1 K1
     replace V15 := Za (V15.out.al (Zd X0 (.cells #[] 64)))
     have O5 := Za (And.intro (B_ X0 (.cells #[] 64)) BW.out.size)
     replace BW := B2
     clear B2
     generalize X0.alloc _ = X2 at *
     refine RH_ 13 (fun K1 hK1 => ?_)
     have AP := Za (fun ty => Yo (xs := vcs f) Tryz.underlying65 Yj rfl (by decide) O5.out.1 O5.out.2 (Zj OQ.out (fun k hk => BW.out.block k (Zf OQ.out hk).2.1)) hfl7 (Yq _) BW.out.size ty)
     refine Zr (TS := 65) (.tmp 49) (.tmp 56) _ _ _ (fun ty => AP.out ty) rfl rfl rfl rfl ?_
     rintro v9 X3 ⟨⟨a9, c9, rfl⟩, o9, b9, _⟩
     have B2 := Za (Zg BW.out b9)
     refine hK1.out _ _ (S3.out.al B2.out) (fun hH => ?_)
     clear hK1 K1 AP
     replace V15 := Za (V15.out.al b9)
     have O13 := Za o9
     replace BW := B2
     clear B2 o9 b9 O5
     refine RH_ 16 (fun K1 hK1 => ?_)
     have AP := Za (fun ty => push_b O13.out BW.out.size hfl7 t m z V15.out ty)
     refine Zr (TS := 65) (.tmp 57) (.tmp 59) _ _ _ (fun ty => AP.out ty) rfl rfl rfl rfl ?_
     rintro v9 X4 ⟨⟨a8, c8, rfl⟩, o9, g9⟩
     have B2 := Za (BW.out.grown g9 BW.out.size (fun k hk => (Zf O13.out hk).1))
     refine hK1.out _ _ (S3.out.al B2.out) (fun hH => ?_)
     clear hK1 K1 AP
     have O16 := Za o9
     replace BW := B2
     clear B2 o9 g9 O13 V15
     refine H2_ 17 hH ?_
     simp only [Act.put, S_]
     refine RH_ 18 (fun K1 hK1 => ?_)
     have q1 := (BW.out.cell (p := ⟨bS, i, none⟩) hbS).trans DS.out
     have q2 := (BW.out.frozen (p := ⟨bS, i, none⟩) hbS).trans DF.out
     go_simp
     refine hK1.out _ _ (hH.set hne1 hne2 _ _) (fun hH => ?_)
     clear hK1 K1 q1 q2
     refine wpAnyH_done (by kernel_rfl) ?_ _
     clear hH
     obtain ⟨SR, SC⟩ := (R3.out.bel BW.out).setS HN.out i q (t, m, z) _ _ HX.out HT.out hr rfl HQ.out.1 HQ.out.2.1 HQ.out.2.2 (Yd O16.out) (fun k hk hF => by have h1 := (Zf O16.out hk).1; have h2 := HFL.out k hF; have h3 := BL.out.size; omega)
     have SR2 := Za (And.intro SR SC)
     clear SR SC
     go_wp2_with fail
     go_ret2
     exact ⟨rfl, _, _, ⟨_, _, _, _, _, _, _, _, SR2.out.1⟩, (Ch.of_bel (Zg BL.out BW.out)).trans SR2.out.2, fun _ h => .inl h, fun k hk => hk.imp id (fun h => by have h1 := (Zf O16.out h).1; have h3 := BL.out.size; omega)⟩
theorem Rv.var {w : World} {F R : Nat -> Prop} {B g : Nat} {s : St} {vP vL vC vS vT vA : Value} {ss : List Value} {tk : List Int} (h : Rv w F R B g s vP vL vC vS vT vA ss tk) {k : Nat} (hk : ¬ F k) (hr : ¬ R k) (x y z : Value) : Rv (((w.setCell ⟨k, 0, none⟩ x).setCell ⟨k, 1, none⟩ y).setCell ⟨k, 2, none⟩ z) F R B g s vP vL vC vS vT vA ss tk :=
  h.keep (fun j hj => by
    have hn : j ≠ k := fun e => hj.elim (fun h => hk (e ▸ h)) (fun h => hr (e ▸ h))
    exact (Below.heap_setCell _ _ _ _ hn).trans ((Below.heap_setCell _ _ _ _ hn).trans (Below.heap_setCell _ _ _ _ hn))) (by rw [Zi, Zi, Zi]; exact Nat.le_refl _)
theorem rRecv_some {w : World} {F R : Nat -> Prop} {B g : Nat} {s : St} (h : Rt w F R B g s) (hB1 : B <= 1000000) (i : Nat) (q : Qu) (hx : s.C[i]? = some q) (v : V3) (l : List V3) (hl : q.l = v :: l) : Calls Tryz.prog 79 #[P_ g, I_ (i : Nat)] w (Rp w F R B g { s with C := s.C.set i { q with l := l } } (.tuple #[.agg #[I_ v.1, I_ v.2.1, .int .u64 v.2.2], .bool true, I_ 0])) := by
 obtain ⟨vP, vL, vC, vS, vT, vA, ss, tk, h⟩ := h
 have hi : i < s.C.length := (G_ hx)
 obtain ⟨b, c, e, hc, hm⟩ := Zq h.ch (by omega)
 have hsm := h.small
 obtain ⟨n, hn⟩ : ∃ n, n = s.C.length := ⟨_, rfl⟩
 rw [← hn] at e hi hc
 have hn128 : n <= 128 := by omega
 subst e
 have HN := Za hn
 have c1 := h.cells.2.2.1
 have hgl := h.fb g h.fg
 have hbl : b < w.heap.size := (Zf h.ch (k := b) rfl).2.1
 have hsl := h.sl
 have htl := h.tl
 obtain ⟨vq, hv⟩ : ∃ v, ss[i]? = some v := ⟨_, List.getElem?_eq_getElem (by omega)⟩
 obtain ⟨t0, ht⟩ : ∃ t, tk[i]? = some t := ⟨_, List.getElem?_eq_getElem (by omega)⟩
 obtain ⟨f, tn, e1, hle, hdr, hfB, oq, rq⟩ := h.q i q vq t0 hx hv ht
 subst e1
 obtain ⟨aq, cq, eq, hcq, hmq⟩ := Zl oq
 subst eq
 obtain ⟨bS, cS, eS, _⟩ := Zq h.se (by omega)
 obtain ⟨bT, cT, eT, _⟩ := Zq h.ta (by omega)
 rw [← hn] at eS eT
 subst eS eT
 have hfl : f.length - tn = q.l.length := by rw [← hdr, List.length_drop]
 have HX := Za hx
 have W1 := Za (And.intro (h.bel (Zd w (.cells #[I_ 0, I_ 0, .int .u64 0] 64))) (And.intro (Zd w (.cells #[I_ 0, I_ 0, .int .u64 0] 64)) (Val.new w 0 0 0)))
 have HFL := Za h.fb
 have HRB := Za h.rb
 have HV := Za (And.intro hv ht)
 obtain ⟨fl, hfl1⟩ : ∃ fl, fl = f.length := ⟨_, rfl⟩
 have hb2 : tn < fl := by
  rw [hl] at hfl
  simp at hfl
  omega
 have hb1' : fl <= 1000000 := by omega
 have hql : q.l.length = l.length + 1 := by rw [hl]; rfl
 have hfat : f[tn]? = some v := by
  have h2 : (f.drop tn)[0]? = some v := by rw [hdr, hl]; rfl
  simpa using h2
 rw [← hfl1] at oq
 obtain ⟨bq, cq', eq', _⟩ := Zq oq (by omega)
 rw [hfl1] at eq'
 cases eq'
 have OQ := Za oq
 have HFA := Za hfat
 clear h hsm hc hm hn hx hv ht oq rq hle hdr hfB hcq hmq hsl htl hfl hfat
 rw [← hfl1] at *
 clear hfl1
 go_enter Tryz.func79, Tryz.ntmps79
 go_wp2_with fail
 refine (in_yes i n _ hi).mono ?_
 rintro e w1 ⟨rfl, rfl⟩
 go_wp2_with fail
 generalize w.alloc _ = w1 at *
 obtain ⟨h1, hb1, V1⟩ := W1.out
 refine (rHeld_q ⟨_, _, _, _, _, _, _, _, h1⟩ hB1 i q HX.out).mono ?_
 rintro e w2 ⟨rfl, kk, rfl⟩
 rw [hql]
 have h3 := h1.bel (below_drewN (Below.refl _ _) kk)
 have V2 := V1.al (below_drewN (Below.refl _ _) kk)
 have B2 := Za (below_drewN hb1 kk)
 clear V1 h1 hb1 W1
 generalize w1.drewN kk = w3 at *
 have c4 := h3.cells.2.2.2.2.1
 obtain ⟨dT, fT⟩ := Zk h3.ta i _ (nts_at HV.out.2)
 obtain ⟨R4, C4⟩ := h3.setT HN.out i q v l _ HX.out hl HV.out.2
 have O3 := Zj OQ.out (fun k hk => B2.out.block k (Zf OQ.out hk).2.1)
 have O4 := Zj (w' := w3.setCell ⟨bT, i, none⟩ (I_ ((tn : Int) + 1))) O3 (fun k hk => Below.heap_setCell _ _ _ _ (fun e => Zo O3 h3.ta (by decide) k hk (congrArg some e.symm)))
 have V4 := V2.keep (w' := w3.setCell ⟨bT, i, none⟩ (I_ ((tn : Int) + 1))) (C4.blk w.heap.size V2.lt (fun e => by have := HFL.out _ e; omega))
 have x3 := R4.cells.2.2.2.1
 have x4 := R4.cells.2.2.2.2.1
 have xS := (Zk R4.se i _ HV.out.1).1
 have xT := (Zk R4.ta i _ (nts_at (List.getElem?_set_self (G_ HV.out.2)))).1
 obtain ⟨q0, q1, q2⟩ := vcs_at _ _ _ HFA.out
 rw [Nat.mul_comm] at q0 q1 q2
 have z0 := (Zk O4 _ _ q0).1
 have z1 := (Zk O4 _ _ q1).1
 have z2 := (Zk O4 _ _ q2).1
 obtain ⟨⟨g0, g1, g2⟩, v0, v1, v2⟩ := V4.all
 have hl0 : ((l.length : Int) + 1 == 0) = false := by simp; omega
 have RF := Za (And.intro R4 (And.intro C4 V4))
 have hsub : (tn : Int) + 1 - 1 = (tn : Int) := by omega
 clear R4 C4 V4 V2 h3 O3 O4 q0 q1 q2 OQ HFA HV hl hql
 go_wp2_with fail
 generalize w3.setCell ⟨bT, i, none⟩ (I_ ((tn : Int) + 1)) = w4 at *
 go_region
 go_wp2_with fail
 exact ret_vbe w.heap.size rfl rfl rfl rfl (RF.out.2.2.set v.1 v.2.1 v.2.2) rfl (Rp.mk rfl ⟨_, _, _, _, _, _, _, _, (RF.out.1.var (k := w.heap.size) (fun e => by have := HFL.out _ e; omega) (fun e => by have := HRB.out _ e; omega) _ _ _).bel (Zp (Below.refl _ _))⟩ (((Ch.of_bel B2.out).trans RF.out.2.1).below (Zt (N := w.heap.size) (Below.refl _ _) (Nat.le_refl _) _ _ _)).drew)
theorem info_bool : (Tryz.prog.info? 4).map (fun i => (i.zero, i.size, i.bytes)) = some (some (.bool false), 1, 1) := by kernel_rfl
def Qs2 (w : World) (b : Nat) (t room : Int) (v : Value) : Prop := w.heap[b]? = some (.cells #[I_ t, I_ room, v] 113 (0, 0)) /\ b < w.heap.size
theorem Qs2.cells {w : World} {b : Nat} {t room : Int} {v : Value} (h : Qs2 w b t room v) : w.cell? ⟨b, 0, none⟩ = some (I_ t) /\ w.cell? ⟨b, 1, none⟩ = some (I_ room) /\ w.cell? ⟨b, 2, none⟩ = some v := ⟨Zb h.1 0 _ rfl, Zb h.1 1 _ rfl, Zb h.1 2 _ rfl⟩
theorem Qs2.al {w w' : World} {b : Nat} {t room : Int} {v : Value} (h : Qs2 w b t room v) (hb : Below w.heap.size w w') : Qs2 w' b t room v := ⟨(hb.block b h.2).trans h.1, Nat.lt_of_lt_of_le h.2 hb.size⟩
theorem Qs2.set {w : World} {b : Nat} {t room : Int} {v : Value} (h : Qs2 w b t room v) {g : Nat} (hg : b ≠ g) (x y z : Value) : Qs2 (((w.setCell ⟨g, 0, none⟩ x).setCell ⟨g, 1, none⟩ y).setCell ⟨g, 2, none⟩ z) b t room v :=
 ⟨((Below.heap_setCell _ _ _ _ hg).trans ((Below.heap_setCell _ _ _ _ hg).trans (Below.heap_setCell _ _ _ _ hg))).trans h.1, by rw [Zi, Zi, Zi]; exact h.2⟩
theorem Qs2.mk3 {w : World} {g : Nat} {c0 c1 c2 x y z : Value} (h : w.heap[g]? = some (.cells #[c0, c1, c2] 113 (0, 0))) : (((w.setCell ⟨g, 0, none⟩ x).setCell ⟨g, 1, none⟩ y).setCell ⟨g, 2, none⟩ z).heap[g]? = some (.cells #[x, y, z] 113 (0, 0)) :=
 heap_setCell_same _ _ _ _ _ _ (heap_setCell_same _ _ _ _ _ _ (heap_setCell_same _ _ _ _ _ _ h))
theorem own_low {w : World} {B B' : Nat} {T : TypeId} {n : Nat} {v : Value} {len : Nat} {xs : List Value} (h : w.ownsRow B T n v len xs) (hB : B' <= B) : w.ownsRow B' T n v len xs := by
 obtain ⟨hl, h0 | ⟨gb, cap, cur, e, hB2, r⟩⟩ := h
 · exact ⟨hl, .inl h0⟩
 · exact ⟨hl, .inr ⟨gb, cap, cur, e, Nat.le_trans hB hB2, r⟩⟩
theorem ret_q {fn : Func} {R : Ending -> World -> Prop} {a : Act} {w : World} {p : Tmp} (g : Nat) {x y z : Value} (hf : fn.results = #[.cell p 113]) (hp : a.tmps.getD p undef = P_ g)
    (h : w.heap[g]? = some (.cells #[x, y, z] 113 (0, 0))) (hdf : a.defers = []) (hR : R (.returned (.agg #[x, y, z])) w) : bodyPost Tryz.prog fn R .ret a w :=
  bodyPost_ret (by
    have hp' : a.tmps[p]?.getD undef = P_ g := by simpa using hp
    have c0 := Zb h 0 _ rfl
    have c1 := Zb h 1 _ rfl
    have c2 := Zb h 2 _ rfl
    simp [results, hf, hp', go_sem, c0, c1, c2]) hdf hR
def ClP (w : World) (T : TypeId) (sz n : Nat) (xs : List Value) (e : Ending) (w' : World) : Prop := ∃ a c, e = .returned (.slice a n c) /\ w'.ownsRow w.heap.size T sz (.slice a n c) n xs /\ Below w.heap.size w w'
theorem cloneV {w : World} {src : Value} {n : Nat} {xs : List Value} (hs : w.ownsRow 0 64 3 src n xs) (hn : n <= 1000) (h1 : ∀ u ∈ xs, u.oneCell' = true) : Calls Tryz.prog 85 #[src] w (ClP w 64 3 n xs) := by
 rcases own_form hs with ⟨rfl, rfl⟩ | ⟨b, c, rfl, _⟩
 · have e : xs = [] := by have := hs.1; simpa using this
   subst e
   clear hs
   have hE : ∀ w, (binOp .eql 65 (.slice none 0 0) (.slice none 0 0)).run Tryz.prog w = .ok (.bool true) w := fun w => by kernel_rfl
   go_enter Tryz.func85, Tryz.ntmps85
   go_wp2_with fail
   go_ret
   exact ⟨_, _, rfl, World.ownsRow_nil _ _ _ _, Below.refl _ _⟩
 · have hb := Zd w (.cells #[] 64)
   have AP := Za (fun ty => Yo (B := w.heap.size) Tryz.underlying65 Yj rfl (by decide) (B_ w (.cells #[] 64)) (Nat.le_refl _) (Zj hs (fun k hk => hb.block k (Zf hs hk).2.1)) (by omega) h1 hb.size ty)
   have HB := Za hb
   clear hs hb h1
   have hE : ∀ w, (binOp .eql 65 (.slice (some ⟨b, 0, none⟩) n c) (.slice none 0 0)).run Tryz.prog w = .ok (.bool false) w := fun w => by kernel_rfl
   go_enter Tryz.func85, Tryz.ntmps85
   go_wp2_with (first | (at_builtin; refine ZX (TS := 65) rfl (.tmp 5) (.tmp 6) rfl _ _ rfl rfl _ (AP.out _) ?_; rintro v9 w9 ⟨⟨a9, c9, rfl⟩, o9, b9, _⟩; have R9 := Za (And.intro o9 b9); clear o9 b9))
   go_ret
   exact ⟨_, _, rfl, R9.out.1, Zg HB.out R9.out.2⟩
theorem cloneB {w : World} {src : Value} {n : Nat} {xs : List Value} (hs : w.ownsRow 0 4 1 src n xs) (hn : n <= 1000) (h1 : ∀ u ∈ xs, u.oneCell' = true) : Calls Tryz.prog 100 #[src] w (ClP w 4 1 n xs) := by
 rcases own_form hs with ⟨rfl, rfl⟩ | ⟨b, c, rfl, _⟩
 · have e : xs = [] := by have := hs.1; simpa using this
   subst e
   clear hs
   have hE : ∀ w, (binOp .eql 88 (.slice none 0 0) (.slice none 0 0)).run Tryz.prog w = .ok (.bool true) w := fun w => by kernel_rfl
   go_enter Tryz.func100, Tryz.ntmps100
   go_wp2_with fail
   go_ret
   exact ⟨_, _, rfl, World.ownsRow_nil _ _ _ _, Below.refl _ _⟩
 · have hb := Zd w (.cells #[] 4)
   have AP := Za (fun ty => Yo (B := w.heap.size) Tryz.underlying88 info_bool rfl (by decide) (B_ w (.cells #[] 4)) (Nat.le_refl _) (Zj hs (fun k hk => hb.block k (Zf hs hk).2.1)) (by omega) h1 hb.size ty)
   have HB := Za hb
   clear hs hb h1
   have hE : ∀ w, (binOp .eql 88 (.slice (some ⟨b, 0, none⟩) n c) (.slice none 0 0)).run Tryz.prog w = .ok (.bool false) w := fun w => by kernel_rfl
   go_enter Tryz.func100, Tryz.ntmps100
   go_wp2_with (first | (at_builtin; refine ZX (TS := 88) rfl (.tmp 5) (.tmp 6) rfl _ _ rfl rfl _ (AP.out _) ?_; rintro v9 w9 ⟨⟨a9, c9, rfl⟩, o9, b9, _⟩; have R9 := Za (And.intro o9 b9); clear o9 b9))
   go_ret
   exact ⟨_, _, rfl, R9.out.1, Zg HB.out R9.out.2⟩
theorem cloneI {w : World} {src : Value} {n : Nat} {xs : List Value} (hs : w.ownsRow 0 3 1 src n xs) (hn : n <= 1000) (h1 : ∀ u ∈ xs, u.oneCell' = true) : Calls Tryz.prog 44 #[src] w (ClP w 3 1 n xs) := by
 rcases own_form hs with ⟨rfl, rfl⟩ | ⟨b, c, rfl, _⟩
 · have e : xs = [] := by have := hs.1; simpa using this
   subst e
   clear hs
   have hE : ∀ w, (binOp .eql 22 (.slice none 0 0) (.slice none 0 0)).run Tryz.prog w = .ok (.bool true) w := fun w => by kernel_rfl
   go_enter Tryz.func44, Tryz.ntmps44
   go_wp2_with fail
   go_ret
   exact ⟨_, _, rfl, World.ownsRow_nil _ _ _ _, Below.refl _ _⟩
 · have hb := Zd w (.cells #[] 3)
   have AP := Za (fun ty => Yo (B := w.heap.size) Tryz.underlying22 info3 rfl (by decide) (B_ w (.cells #[] 3)) (Nat.le_refl _) (Zj hs (fun k hk => hb.block k (Zf hs hk).2.1)) (by omega) h1 hb.size ty)
   have HB := Za hb
   clear hs hb h1
   have hE : ∀ w, (binOp .eql 22 (.slice (some ⟨b, 0, none⟩) n c) (.slice none 0 0)).run Tryz.prog w = .ok (.bool false) w := fun w => by kernel_rfl
   go_enter Tryz.func44, Tryz.ntmps44
   go_wp2_with (first | (at_builtin; refine ZX (TS := 22) rfl (.tmp 5) (.tmp 6) rfl _ _ rfl rfl _ (AP.out _) ?_; rintro v9 w9 ⟨⟨a9, c9, rfl⟩, o9, b9, _⟩; have R9 := Za (And.intro o9 b9); clear o9 b9))
   go_ret
   exact ⟨_, _, rfl, R9.out.1, Zg HB.out R9.out.2⟩
theorem qclone {w : World} {b : Nat} {t room : Int} {a : Option Addr} {n c : Nat} {l : List V3} (hb : w.heap[b]? = some (.cells #[I_ t, I_ room, .slice a n c] 113 (0, 0))) (ho : w.ownsRow 0 64 3 (.slice a n c) n (vcs l)) (hn : n <= 1000) :
 Calls Tryz.prog 101 #[P_ b] w fun e w' => ∃ a' c', e = .returned (.agg #[I_ t, I_ room, .slice a' n c']) /\ w'.ownsRow w.heap.size 64 3 (.slice a' n c') n (vcs l) /\ Below w.heap.size w w' := by
 have hbl := Ze hb
 have HB := Za hb
 have HO := Za ho
 clear hb ho
 go_enter Tryz.func101, Tryz.ntmps101
 go_wp2_with fail
 have B1 := Za (Zd w (.cells #[I_ 0, I_ 0, .slice none 0 0] 113))
 have X1 : Hid ((w.alloc (.cells #[I_ 0, I_ 0, .slice none 0 0] 113)).heap[w.heap.size]? = some (.cells #[I_ 0, I_ 0, .slice none 0 0] 113 (0, 0))) := Za (B_ w _)
 generalize w.alloc _ = w1 at *
 refine wp_region_held_drew (S := fun w' => Qs2 w' b t room (.slice a n c)) ZJ (by exact ⟨((B1.out.block b hbl).trans HB.out), Nat.lt_of_lt_of_le hbl B1.out.size⟩) (fun hH => ?_)
 have B2 := Za (Zp B1.out)
 have X2 : Hid (w1.drew.heap[w.heap.size]? = some (.cells #[I_ 0, I_ 0, .slice none 0 0] 113 (0, 0))) := X1
 clear B1 X1
 generalize w1.drew = w2 at *
 refine H2_ 0 hH ?_
 simp only [Act.put, S_]
 refine H2_ 1 hH ?_
 simp only [Act.put, S_]
 refine H2_ 2 hH ?_
 simp only [Act.put, S_]
 refine H_ 3 (v := ?_) ?_ hH ?_
 rotate_left 1
 · (intro w hSw; have q := hSw.cells; clear hSw; go_simp <;> with_reducible rfl)
 simp only [Act.put, S_]
 refine H2_ 4 hH ?_
 simp only [Act.put, S_]
 refine H2_ 5 hH ?_
 simp only [Act.put, S_]
 refine H2_ 6 hH ?_
 simp only [Act.put, S_]
 refine H_ 7 (v := ?_) ?_ hH ?_
 rotate_left 1
 · (intro w hSw; have q := hSw.cells; clear hSw; go_simp <;> with_reducible rfl)
 simp only [Act.put, S_]
 refine RH_ 8 (fun K1 hK1 => ?_)
 go_simp
 refine (cloneV (Zj HO.out (fun k hk => B2.out.block k (Zf HO.out hk).2.1)) hn (Yq _)).mono ?_
 rintro e w3 ⟨a3, c3, rfl, o3, b3⟩
 have O3 := Za o3
 have B3 := Za (Zg B2.out b3)
 have X3 := Za ((b3.block _ (Ze X2.out)).trans X2.out)
 have Z3 := Za B2.out.size
 refine hK1.out _ _ (hH.al b3) (fun hH => ?_)
 clear hK1 K1 o3 b3 B2 X2
 refine H2_ 9 hH ?_
 simp only [Act.put, S_]
 refine RH_ 10 (fun K1 hK1 => ?_)
 have q0 := Zb X3.out 0 _ rfl
 have q1 := Zb X3.out 1 _ rfl
 have q2 := Zb X3.out 2 _ rfl
 have p0 := Zc X3.out 0
 have p1 := Zc X3.out 1
 have p2 := Zc X3.out 2
 go_simp
 refine hK1.out _ _ (hH.set (by omega) _ _ _) (fun hH => ?_)
 clear hK1 K1 q0 q1 q2 p0 p1 p2
 refine wpAnyH_done (by kernel_rfl) ?_ _
 clear hH
 go_wp2_with fail
 refine ret_q w.heap.size rfl rfl (Qs2.mk3 X3.out) rfl ⟨a3, c3, rfl, ?_, ?_⟩
 · refine Zj (own_low O3.out Z3.out) (fun k hk => ?_)
   have hne : k ≠ w.heap.size := fun e => Zu O3.out X3.out (by decide) (by rw [hk, e])
   exact (Below.heap_setCell _ _ _ _ hne).trans ((Below.heap_setCell _ _ _ _ hne).trans (Below.heap_setCell _ _ _ _ hne))
 · exact Zt B3.out (Nat.le_refl _) _ _ _
def wcs (x : Wt) (va : Value) : List Value := [I_ x.k, I_ x.o, I_ x.a, I_ x.v.1, I_ x.v.2.1, .int .u64 x.v.2.2, va]
def pts (l : List Nat) : List Value := l.map fun b => P_ b
def ecs : List Evt -> List Value
 | [] => []
 | e :: l => .int .i64 e.g :: .int .i64 e.k :: .int .i64 e.o :: .int .i64 e.a :: ecs l
theorem ecs_app : ∀ a b, ecs (a ++ b) = ecs a ++ ecs b
 | [], b => rfl
 | e :: a, b => by simp [ecs, ecs_app a b]
theorem pts_at {l : List Nat} {i b : Nat} (h : l[i]? = some b) : (pts l)[i]? = some (P_ b) := by simp [pts, h]
def YK (w : World) (R : Nat -> Prop) (v : Value) : Prop := ∃ (n : Nat) (xs : List Value), n <= 2000 /\ w.ownsRow 0 64 3 v n xs /\ (∀ u ∈ xs, u.oneCell' = true) /\ ∀ k, v.ownBlock = some k -> R k
def WRow (w : World) (R : Nat -> Prop) (v : Value) (l : List Wt) : Prop := ∃ (a : Option Addr) (c : Nat), v = .slice a l.length c /\ l.length <= c /\ c <= maxLen ∧
 ∀ (i : Nat) (x : Wt), l[i]? = some x -> ∃ (b o : Nat) (va : Value), a = some ⟨b, o, none⟩ /\ R b /\ (∀ (j : Nat) (u : Value), (wcs x va)[j]? = some u -> w.cell? ⟨b, o + 7 * i + j, none⟩ = some u) /\ YK w R va
def Gor (w : World) (R : Nat -> Prop) (b t : Nat) (x : Gr) : Prop := ∃ va vw,
 w.heap[b]? = some (.cells #[.iface 126 (P_ t), I_ x.w.k, I_ x.w.o, I_ x.w.a, I_ x.w.v.1, I_ x.w.v.2.1, .int .u64 x.w.v.2.2, va] 136 (0, 0)) /\ YK w R va ∧
 w.heap[t]? = some (.cells #[vw] 128 (0, 0)) /\ WRow w R vw x.rest
def Beg (w : World) (R : Nat -> Prop) (vB : Value) (S : List (List Wt)) : Prop := ∃ (c : Nat) (vS : Value) (vs : List Value), vB = .func (.func 59) #[] #[P_ c] /\ R c ∧
 w.heap[c]? = some (.cells #[vS] 24 (0, 0)) /\ w.ownsRow 0 68 1 vS S.length vs /\ (∀ k, vS.ownBlock = some k -> R k) /\ S.length <= 2000 /\ ∀ (i : Nat) (l : List Wt) (v : Value), S[i]? = some l -> vs[i]? = some v -> WRow w R v l
section
variable {w w' : World} {R R' : Nat → Prop}
theorem Yc {b i : Nat} {u : Value} (hk : w'.heap[b]? = w.heap[b]?) (h : w.cell? ⟨b, i, none⟩ = some u) : w'.cell? ⟨b, i, none⟩ = some u := by
 unfold World.cell? at h ⊢
 rw [hk]
 exact h
theorem YK.keep {v : Value} (h : YK w R v) (hk : ∀ k, R k -> w'.heap[k]? = w.heap[k]?) (hR : ∀ k, R k -> R' k) : YK w' R' v := by
 obtain ⟨n, xs, h1, h2, h3, h4⟩ := h
 exact ⟨n, xs, h1, Zj h2 fun k hk' => hk k (h4 k hk'), h3, fun k hk' => hR k (h4 k hk')⟩
theorem YK.nilS : YK w R (.slice none 0 0) := ⟨0, [], by omega, Yi _ _ _, fun _ h => (by cases h), fun _ h => (by cases h)⟩
theorem YK.form {v : Value} (h : YK w R v) : ∃ a n c, v = .slice a n c := by
 obtain ⟨n, xs, h1, h2, h3, h4⟩ := h
 obtain ⟨a, c, e, _⟩ := Zl h2
 exact ⟨a, n, c, e⟩
theorem WRow.keep {v : Value} {l : List Wt} (h : WRow w R v l) (hk : ∀ k, R k -> w'.heap[k]? = w.heap[k]?) (hR : ∀ k, R k -> R' k) : WRow w' R' v l := by
 obtain ⟨a, c, h1, h2, h3, h4⟩ := h
 refine ⟨a, c, h1, h2, h3, fun i x hx => ?_⟩
 obtain ⟨b, o, va, e1, e2, e3, e4⟩ := h4 i x hx
 exact ⟨b, o, va, e1, hR b e2, fun j u hu => Yc (hk b e2) (e3 j u hu), e4.keep hk hR⟩
theorem WRow.tail {a : Option Addr} {c b o : Nat} {x : Wt} {l : List Wt} (h : WRow w R (.slice a (l.length + 1) c) (x :: l)) (ha : a = some ⟨b, o, none⟩) (a' : Option Addr) (ha' : 0 < l.length -> a' = some ⟨b, o + 7, none⟩) : WRow w R (.slice a' l.length (c - 1)) l := by
 obtain ⟨a0, c0, h1, h2, h3, h4⟩ := h
 cases h1
 simp only [List.length_cons] at h2
 refine ⟨a', c - 1, rfl, by omega, by omega, fun i y hy => ?_⟩
 have hl : 0 < l.length := by
  have := (G_ hy)
  omega
 obtain ⟨b2, o2, va, e1, e2, e3, e4⟩ := h4 (i + 1) y (by simpa using hy)
 rw [ha] at e1
 cases e1
 refine ⟨b, o + 7, va, ha' hl, e2, fun j u hu => ?_, e4⟩
 rw [show o + 7 + 7 * i + j = o + 7 * (i + 1) + j by omega]
 exact e3 j u hu
theorem Gor.keep {b t : Nat} {x : Gr} (h : Gor w R b t x) (hb : w'.heap[b]? = w.heap[b]?) (ht : w'.heap[t]? = w.heap[t]?) (hk : ∀ k, R k -> w'.heap[k]? = w.heap[k]?) (hR : ∀ k, R k -> R' k) : Gor w' R' b t x := by
 obtain ⟨va, vw, h1, h2, h3, h4⟩ := h
 exact ⟨va, vw, hb.trans h1, h2.keep hk hR, ht.trans h3, h4.keep hk hR⟩
theorem Beg.keep {vB : Value} {S : List (List Wt)} (h : Beg w R vB S) (hk : ∀ k, R k -> w'.heap[k]? = w.heap[k]?) (hR : ∀ k, R k -> R' k) : Beg w' R' vB S := by
 obtain ⟨c, vS, vs, h1, h2, h3, h4, h5, h6, h7⟩ := h
 exact ⟨c, vS, vs, h1, hR c h2, (hk c h2).trans h3, Zj h4 fun k hk' => hk k (h5 k hk'), fun k hk' => hR k (h5 k hk'), h6, fun i l v hl hv => (h7 i l v hl hv).keep hk hR⟩
end
structure Ru (w : World) (Fs Fo R : Nat -> Prop) (g gs : Nat) (S : List (List Wt)) (r : Rm) (vC vB vG vE : Value) (ps ts : List Nat) : Prop where
 at_ : w.heap[g]? = some (.cells #[.pointer (some ⟨gs, 0, none⟩), vC, vB, vG, vE, .int .i64 r.e.o, .int .i64 r.e.f, .int .i64 r.e.g, .int .i64 r.e.n, .int .i64 r.e.a] 117 (0, 0))
 st : Stt w Fs gs r.s
 ch : w.ownsRow 0 3 1 vC r.s.C.length (nts (r.s.C.map Qu.t))
 bg : Beg w R vB S
 go : w.ownsRow 0 134 1 vG r.gs.length (pts ps)
 ev : w.ownsRow 0 132 4 vE r.ev.length (ecs r.ev)
 tl : ts.length = r.gs.length
 gr : ∀ (i : Nat) (x : Gr) (b t : Nat), r.gs[i]? = some x -> ps[i]? = some b -> ts[i]? = some t -> Gor w R b t x /\ Fo b /\ Fo t
 np : ps.Nodup
 nt : ts.Nodup
 fg : Fo g
 fC : ∀ k, vC.ownBlock = some k -> Fo k
 fG : ∀ k, vG.ownBlock = some k -> Fo k
 fE : ∀ k, vE.ownBlock = some k -> Fo k
 so : ∀ k, Fs k -> ¬ Fo k
 rs : ∀ k, R k -> ¬ Fs k
 ro : ∀ k, R k -> ¬ Fo k
 fb : ∀ k, Fo k -> k < w.heap.size
 rb : ∀ k, R k -> k < w.heap.size
 n8 : r.gs.length <= 8
def Rn (w : World) (G : Nat -> Prop) (g : Nat) (S : List (List Wt)) (r : Rm) : Prop := ∃ Fs Fo R gs vC vB vG vE ps ts, Ru w Fs Fo R g gs S r vC vB vG vE ps ts /\ ∀ k, G k ↔ Fs k ∨ Fo k ∨ R k
section
variable {w w' : World} {G G' Fs Fs' Fo Fo' R R' F F' : Nat → Prop} {g gs : Nat} {S : List (List Wt)} {r : Rm} {vC vB vG vE : Value} {ps ts : List Nat}
theorem Stt.keep {s : St} (h : Stt w F g s) (hb : ∀ k, F k -> w'.heap[k]? = w.heap[k]?) (hs : w.heap.size <= w'.heap.size) : Stt w' F g s := by
 obtain ⟨vP, vM, vC, vA, vs, h⟩ := h
 exact ⟨_, _, _, _, _, h.keep hb hs⟩
theorem Ru.pl (h : Ru w Fs Fo R g gs S r vC vB vG vE ps ts) : ps.length = r.gs.length := by
 have := h.go.1
 simp [pts] at this
 omega
theorem Ru.keep (h : Ru w Fs Fo R g gs S r vC vB vG vE ps ts) (hb : ∀ k, Fs k ∨ Fo k ∨ R k -> w'.heap[k]? = w.heap[k]?) (hs : w.heap.size <= w'.heap.size) : Ru w' Fs Fo R g gs S r vC vB vG vE ps ts :=
 { h with
  at_ := (hb g (.inr (.inl h.fg))).trans h.at_
  st := h.st.keep (fun k hk => hb k (.inl hk)) hs
  ch := Zj h.ch fun k hk => hb k (.inr (.inl (h.fC k hk)))
  bg := h.bg.keep (fun k hk => hb k (.inr (.inr hk))) (fun _ h => h)
  go := Zj h.go fun k hk => hb k (.inr (.inl (h.fG k hk)))
  ev := Zj h.ev fun k hk => hb k (.inr (.inl (h.fE k hk)))
  gr := fun i x b t hx hp ht => by
   obtain ⟨h1, h2, h3⟩ := h.gr i x b t hx hp ht
   exact ⟨h1.keep (hb b (.inr (.inl h2))) (hb t (.inr (.inl h3))) (fun k hk => hb k (.inr (.inr hk))) (fun _ h => h), h2, h3⟩
  fb := fun k hk => Nat.lt_of_lt_of_le (h.fb k hk) hs
  rb := fun k hk => Nat.lt_of_lt_of_le (h.rb k hk) hs }
theorem Ru.lt (h : Ru w Fs Fo R g gs S r vC vB vG vE ps ts) {k : Nat} (hk : Fs k ∨ Fo k ∨ R k) : k < w.heap.size := by
 rcases hk with hk | hk | hk
 · exact h.st.fb k hk
 · exact h.fb k hk
 · exact h.rb k hk
theorem Ru.bel (h : Ru w Fs Fo R g gs S r vC vB vG vE ps ts) (hb : Below w.heap.size w w') : Ru w' Fs Fo R g gs S r vC vB vG vE ps ts := h.keep (fun k hk => hb.block k (h.lt hk)) hb.size
theorem Rn.fb (h : Rn w G g S r) : ∀ k, G k -> k < w.heap.size := by
 obtain ⟨Fs, Fo, R, gs, vC, vB, vG, vE, ps, ts, h, hG⟩ := h
 exact fun k hk => h.lt ((hG k).1 hk)
theorem Rn.keep (h : Rn w G g S r) (hb : ∀ k, G k -> w'.heap[k]? = w.heap[k]?) (hs : w.heap.size <= w'.heap.size) : Rn w' G g S r := by
 obtain ⟨Fs, Fo, R, gs, vC, vB, vG, vE, ps, ts, h, hG⟩ := h
 exact ⟨Fs, Fo, R, gs, vC, vB, vG, vE, ps, ts, h.keep (fun k hk => hb k ((hG k).2 hk)) hs, hG⟩
theorem Rn.bel (h : Rn w G g S r) (hb : Below w.heap.size w w') : Rn w' G g S r := h.keep (fun k hk => hb.block k (h.fb k hk)) hb.size
theorem Rn.ch (h : Rn w G g S r) (hc : Ch F F' w w') (hd : ∀ k, G k -> ¬ F k) : Rn w' G g S r /\ ∀ k, G k -> ¬ F' k :=
 ⟨h.keep (fun k hk => hc.blk k (h.fb k hk) (hd k hk)) hc.size, fun k hk hF => by
  rcases hc.grow k hF with h1 | h1
  · exact hd k hk h1
  · have := h.fb k hk
    omega⟩
theorem Rn.lt (h : Rn w G g S r) : g < w.heap.size := by
 obtain ⟨Fs, Fo, R, gs, vC, vB, vG, vE, ps, ts, h, hG⟩ := h
 exact h.fb g h.fg
theorem Ru.cells (h : Ru w Fs Fo R g gs S r vC vB vG vE ps ts) : (w.cell? ⟨g, 0, none⟩ = some (P_ gs) /\ w.cell? ⟨g, 1, none⟩ = some vC /\ w.cell? ⟨g, 2, none⟩ = some vB /\ w.cell? ⟨g, 3, none⟩ = some vG /\ w.cell? ⟨g, 4, none⟩ = some vE) ∧
 w.cell? ⟨g, 5, none⟩ = some (I_ r.e.o) /\ w.cell? ⟨g, 6, none⟩ = some (I_ r.e.f) /\ w.cell? ⟨g, 7, none⟩ = some (I_ r.e.g) /\ w.cell? ⟨g, 8, none⟩ = some (I_ r.e.n) /\ w.cell? ⟨g, 9, none⟩ = some (I_ r.e.a) :=
 ⟨⟨Zb h.at_ 0 _ rfl, Zb h.at_ 1 _ rfl, Zb h.at_ 2 _ rfl, Zb h.at_ 3 _ rfl, Zb h.at_ 4 _ rfl⟩, Zb h.at_ 5 _ rfl, Zb h.at_ 6 _ rfl, Zb h.at_ 7 _ rfl, Zb h.at_ 8 _ rfl, Zb h.at_ 9 _ rfl⟩
theorem Ru.see (h : Ru w Fs Fo R g gs S r vC vB vG vE ps ts) {i : Nat} {x : Gr} (hx : r.gs[i]? = some x) :
 ∃ bG c b t va, vG = .slice (some ⟨bG, 0, none⟩) r.gs.length c /\ ps[i]? = some b /\ ts[i]? = some t /\ Fo b /\ Fo t /\ Gor w R b t x /\ YK w R va ∧
  (w.cell? ⟨bG, i, none⟩ = some (P_ b) /\ bG < w.heap.size /\ b < w.heap.size) ∧
  w.heap[b]? = some (.cells #[.iface 126 (P_ t), I_ x.w.k, I_ x.w.o, I_ x.w.a, I_ x.w.v.1, I_ x.w.v.2.1, .int .u64 x.w.v.2.2, va] 136 (0, 0)) := by
 have hi := (G_ hx)
 obtain ⟨bG, c, e, _⟩ := Zq h.go (by omega)
 subst e
 obtain ⟨b, hb⟩ : ∃ b, ps[i]? = some b := ⟨_, List.getElem?_eq_getElem (by rw [h.pl]; exact hi)⟩
 obtain ⟨t, ht⟩ : ∃ t, ts[i]? = some t := ⟨_, List.getElem?_eq_getElem (by rw [h.tl]; exact hi)⟩
 obtain ⟨h1, h2, h3⟩ := h.gr i x b t hx hb ht
 obtain ⟨va, vw, q1, q2, q3, q4⟩ := id h1
 exact ⟨bG, c, b, t, va, rfl, hb, ht, h2, h3, h1, q2, ⟨(Zk h.go i _ (pts_at hb)).1, h.fb _ (h.fG bG rfl), h.fb b h2⟩, q1⟩
end
theorem ZC {α : Type} {l : List α} {i : Int} {x : α} (h : lk l i = some x) : ∃ k : Nat, i = k /\ l[k]? = some x := by
 unfold lk at h
 split at h
 · rename_i h0
   exact ⟨i.toNat, by omega, h⟩
 · cases h
theorem YE {α : Type} {l : List α} {i : Int} (h : lk l i = none) : i < 0 ∨ (l.length : Int) <= i := by
 unfold lk at h
 split at h
 · rename_i h0
   have := List.getElem?_eq_none_iff.1 h
   omega
 · omega
theorem lk_nat {α : Type} {l : List α} {k : Nat} : lk l (k : Int) = l[k]? := by simp [lk]
section
variable {w : World} {F : Nat → Prop} {g : Nat} {s : St} {p : List Addr}
theorem Locked_any (h : Stt w F g s) (h17 : E2 w p) (i : Int) : Calls Tryz.prog 64 #[P_ g, I_ i] w (Vb w (.bool ((lk s.M i).getD false))) := by
 cases hl : lk s.M i with
 | some b =>
  obtain ⟨k, rfl, hk⟩ := ZC hl
  exact (Locked_in h k b hk).mono fun e w' ⟨he, hw⟩ => ⟨he, hw ▸ Below.refl _ _⟩
 | none => exact Locked_out h h17 i (YE hl)
def lenC (s : St) (i : Int) : Int := match lk s.C i with
 | some q => q.l.length
 | none => 0
theorem Len_any (h : Stt w F g s) (h17 : E2 w p) (i : Int) : Calls Tryz.prog 66 #[P_ g, I_ i] w (Vb w (I_ (lenC s i))) := by
 unfold lenC
 cases hl : lk s.C i with
 | some q =>
  obtain ⟨k, rfl, hk⟩ := ZC hl
  exact (Len_in h k q hk).mono fun e w' ⟨he, hw⟩ => ⟨he, hw ▸ Below.refl _ _⟩
 | none => exact Len_out h h17 i (YE hl)
end
section
variable {w : World} {F : Nat → Prop} {g : Nat} {s : St} {p : List Addr}
theorem turn_same (h : Stt w F g s) (i : Nat) (x : Bool) (hx : s.M[i]? = some x) : Calls Tryz.prog 104 #[P_ g, I_ (i : Nat), .bool x] w fun e w' => e = .returned (.tuple #[.bool false, .nilIface]) /\ w = w' := by
 obtain ⟨vP, vM, vC, vA, vs, h⟩ := h
 have hi : i < s.M.length := (G_ hx)
 obtain ⟨b, c, e, hc, hm⟩ := Zq h.mu (by omega)
 have hsm := h.small
 obtain ⟨n, hn⟩ : ∃ n, n = s.M.length := ⟨_, rfl⟩
 rw [← hn] at e hi hc
 have hn32 : n <= 32 := by omega
 subst e
 have HN := Za hn
 have c1 := h.cells.2.1
 obtain ⟨d1, d2⟩ := Zk h.mu i _ (bls_at hx)
 have hl := (h.fb b (h.fM b rfl))
 clear h hsm hc hm hn
 go_enter Tryz.func104, Tryz.ntmps104
 go_wp2_with fail
 refine (Ys b n c i _ hi).mono ?_
 rintro e w1 ⟨rfl, rfl⟩
 go_wp2_with fail
 go_ret2
 exact ⟨rfl, rfl⟩
theorem Unlock_same (h : Stt w F g s) (i : Nat) (hx : s.M[i]? = some false) : Calls Tryz.prog 88 #[P_ g, I_ (i : Nat)] w fun e w' => e = .returned (.tuple #[.bool false, .nilIface]) /\ w = w' := by
 have T := Za (turn_same h i false hx)
 clear h hx
 go_enter Tryz.func88, Tryz.ntmps88
 go_wp2_with fail
 refine T.out.mono ?_
 rintro e w1 ⟨rfl, rfl⟩
 go_wp2_with fail
 go_ret2
 exact ⟨rfl, rfl⟩
end
theorem aisOf_any (t n b ty : Int) (w : World) : Calls Tryz.prog 87 #[.agg #[I_ t, I_ n, .int .u64 b], I_ ty] w (Vb w (.bool (isB t n b ty))) := by
 have HB := Za (Zd w (.cells #[I_ t, I_ n, .int .u64 b] 64))
 have V0 := Val.new w t n b
 obtain ⟨z, hz⟩ : ∃ z, Yk t n b = z := ⟨_, rfl⟩
 have GA : ∀ w, Calls Tryz.prog 103 #[.agg #[I_ t, I_ n, .int .u64 b]] w (Vb w (.bool z)) := fun w => by
  have := good_any t n b w
  rw [hz] at this
  exact this
 obtain ⟨g, hg⟩ : ∃ g, isB t n b ty = g := ⟨_, rfl⟩
 rw [hg]
 unfold isB at hg
 rw [hz] at hg
 have HG := Za hg
 clear hg hz
 cases z with
 | true =>
  go_enter Tryz.func87, Tryz.ntmps87
  go_wp2_with fail
  refine (GA _).mono ?_
  rintro e w1 ⟨rfl, hb⟩
  obtain ⟨_, c0, _, _⟩ := (V0.al hb).all
  go_wp2_with fail
  go_ret
  exact Vb.mk (congrArg Value.bool (by rw [← HG.out]; simp)) (Zg HB.out hb)
 | false =>
  go_enter Tryz.func87, Tryz.ntmps87
  go_wp2_with fail
  refine (GA _).mono ?_
  rintro e w1 ⟨rfl, hb⟩
  go_wp2_with fail
  go_ret
  exact Vb.mk (congrArg Value.bool (by rw [← HG.out]; simp)) (Zg HB.out hb)
def Wv (w : World) (b : Nat) (k o a : Int) (v : V3) (va : Value) : Prop := w.heap[b]? = some (.cells #[I_ k, I_ o, I_ a, I_ v.1, I_ v.2.1, .int .u64 v.2.2, va] 67 (0, 0))
theorem Wv.new (w : World) (k o a v0 v1 v2 : Int) (va : Value) : Wv (w.alloc (.cells #[I_ k, I_ o, I_ a, I_ v0, I_ v1, .int .u64 v2, va] 67)) w.heap.size k o a (v0, v1, v2) va := B_ _ _
theorem Wv.lt {w : World} {b : Nat} {k o a : Int} {v : V3} {va : Value} (h : Wv w b k o a v va) : b < w.heap.size := Ze h
theorem Wv.al {w w' : World} {b : Nat} {k o a : Int} {v : V3} {va : Value} (h : Wv w b k o a v va) (hb : Below w.heap.size w w') : Wv w' b k o a v va := (hb.block b h.lt).trans h
theorem Wv.all {w : World} {b : Nat} {k o a v0 v1 v2 : Int} {va : Value} (h : Wv w b k o a (v0, v1, v2) va) : w.cell? ⟨b, 0, none⟩ = some (I_ k) /\ w.cell? ⟨b, 1, none⟩ = some (I_ o) /\ w.cell? ⟨b, 2, none⟩ = some (I_ a) /\ w.cell? ⟨b, 3, none⟩ = some (I_ v0) /\ w.cell? ⟨b, 4, none⟩ = some (I_ v1) /\ w.cell? ⟨b, 5, none⟩ = some (.int .u64 v2) /\ w.cell? ⟨b, 6, none⟩ = some va :=
 ⟨Zb h 0 _ rfl, Zb h 1 _ rfl, Zb h 2 _ rfl, Zb h 3 _ rfl, Zb h 4 _ rfl, Zb h 5 _ rfl, Zb h 6 _ rfl⟩
theorem hasMutex_any {w : World} {F : Nat -> Prop} {g : Nat} {s : St} {p : List Addr} (h : Stt w F g s) (h17 : E2 w p) (i : Int) : Calls Tryz.prog 63 #[P_ g, I_ i] w (Vb w (.bool (lk s.M i).isSome)) := by
 have L := Za (Locked_any h h17 i)
 have hgl := h.lt
 cases hl : lk s.M i with
 | some b =>
  cases b with
  | true =>
   rw [hl] at L
   clear h h17 hl
   go_enter Tryz.func63, Tryz.ntmps63
   go_wp2_with fail
   refine L.out.mono ?_
   rintro e w1 ⟨rfl, hb⟩
   go_wp2_with fail
   go_ret
   exact Vb.mk rfl hb
  | false =>
   rw [hl] at L
   obtain ⟨k, rfl, hk⟩ := ZC hl
   have U := Za (fun (w1 : World) (hb : Below w.heap.size w w1) => Unlock_same (h.bel hb) k hk)
   clear h h17 hl hk
   go_enter Tryz.func63, Tryz.ntmps63
   go_wp2_with fail
   refine L.out.mono ?_
   rintro e w1 ⟨rfl, hb⟩
   go_wp2_with fail
   refine (U.out w1 hb).mono ?_
   rintro e w2 ⟨rfl, rfl⟩
   go_wp2_with fail
   go_ret
   exact Vb.mk rfl hb
 | none =>
  rw [hl] at L
  have U := Za (fun (w1 : World) (hb : Below w.heap.size w w1) => Unlock_out (h.bel hb) (h17.below (Nat.le_refl _) hb) i (YE hl))
  clear h h17 hl
  unfold errV at *
  generalize adr p 0 = ad at *
  go_enter Tryz.func63, Tryz.ntmps63
  go_wp2_with fail
  refine L.out.mono ?_
  rintro e w1 ⟨rfl, hb⟩
  go_wp2_with fail
  refine (U.out w1 hb).mono ?_
  rintro e w2 ⟨rfl, hb2⟩
  go_wp2_with fail
  go_ret
  exact Vb.mk rfl (Zg hb hb2)
theorem canAccess_any {w : World} {F : Nat -> Prop} {g : Nat} {s : St} {p : List Addr} (h : Stt w F g s) (h17 : E2 w p) (k o a v0 v1 v2 : Int) (va : Value) :
 Calls Tryz.prog 62 #[P_ g, .agg #[I_ k, I_ o, I_ a, I_ v0, I_ v1, .int .u64 v2, va]] w (Vb w (.bool (canA s ⟨k, o, a, (v0, v1, v2)⟩))) := by
 have B0 := Za (Zd w (.cells #[I_ k, I_ o, I_ a, I_ v0, I_ v1, .int .u64 v2, va] 67))
 have V0 := Za (Wv.new w k o a v0 v1 v2 va)
 obtain ⟨z, hz⟩ : ∃ z, canA s ⟨k, o, a, (v0, v1, v2)⟩ = z := ⟨_, rfl⟩
 rw [hz]
 unfold canA at hz
 simp only at hz
 cases hl : lk s.P o with
 | none =>
  rw [hl] at hz
  subst hz
  have U := Za (Read_out (h.bel B0.out) (h17.below (Nat.le_refl _) B0.out) o (YE hl))
  clear h h17 hl
  unfold errV at *
  generalize adr p 0 = ad at *
  go_enter Tryz.func62, Tryz.ntmps62
  go_wp2_with fail
  refine U.out.mono ?_
  rintro e w1 ⟨rfl, hb⟩
  have B1 := Za (Zv (Zg B0.out hb) (.cells #[I_ 0, I_ 0, .int .u64 0] 64))
  clear hb U
  go_wp2_with fail
  go_ret
  exact Vb.mk rfl B1.out
 | some x =>
  obtain ⟨x0, x1, x2⟩ := x
  rw [hl] at hz
  simp only at hz
  obtain ⟨n, rfl, hn⟩ := ZC hl
  have U := Za (Read_in (h.bel B0.out) n (x0, x1, x2) hn)
  have HZ := Za hz
  clear h h17 hl hn hz
  by_cases hk : k = 1
  · subst hk
    have hzt : z = true := by rw [← HZ.out]; rfl
    subst hzt
    clear HZ
    go_enter Tryz.func62, Tryz.ntmps62
    go_wp2_with fail
    refine U.out.mono ?_
    rintro e w1 ⟨rfl, hb⟩
    have B1 := Za (Zv (Zg B0.out hb) (.cells #[I_ x0, I_ x1, .int .u64 x2] 64))
    have V1 := V0.out.al hb
    obtain ⟨q0, q1, q2, q3, q4, q5, q6⟩ := V1.all
    have hwl := V1.lt
    clear hb U V0 V1
    go_wp2_with fail
    go_ret
    exact Vb.mk rfl B1.out
  · have hzt : z = isB v0 v1 v2 x0 := by rw [← HZ.out]; simp [hk, isV]
    have hkb : (k == 1) = false := by simp [hk]
    clear HZ
    have Iq := fun w => aisOf_any v0 v1 v2 x0 w
    rw [← hzt] at Iq
    clear hzt
    go_enter Tryz.func62, Tryz.ntmps62
    go_wp2_with fail
    refine U.out.mono ?_
    rintro e w1 ⟨rfl, hb⟩
    have B1 := Za (Zv (Zg B0.out hb) (.cells #[I_ x0, I_ x1, .int .u64 x2] 64))
    have V1 := V0.out.al hb
    obtain ⟨q0, q1, q2, q3, q4, q5, q6⟩ := V1.all
    have hwl := V1.lt
    clear hb U V0 V1
    go_wp2_with fail
    refine (Iq _).mono ?_
    rintro e w3 ⟨rfl, hb⟩
    have B2 := Za (Zg B1.out hb)
    clear hb
    go_wp2_with fail
    go_ret
    exact Vb.mk rfl B2.out
theorem canCount_any {w : World} {F : Nat -> Prop} {g : Nat} {s : St} {p : List Addr} (h : Stt w F g s) (h17 : E2 w p) (k o a v0 v1 v2 : Int) (va : Value) :
 Calls Tryz.prog 67 #[P_ g, .agg #[I_ k, I_ o, I_ a, I_ v0, I_ v1, .int .u64 v2, va]] w (Vb w (.bool (canC s ⟨k, o, a, (v0, v1, v2)⟩))) := by
 have B0 := Za (Zd w (.cells #[I_ k, I_ o, I_ a, I_ v0, I_ v1, .int .u64 v2, va] 67))
 have V0 := Za (Wv.new w k o a v0 v1 v2 va)
 obtain ⟨z, hz⟩ : ∃ z, canC s ⟨k, o, a, (v0, v1, v2)⟩ = z := ⟨_, rfl⟩
 rw [hz]
 unfold canC at hz
 simp only at hz
 cases hl : lk s.A o with
 | none =>
  rw [hl] at hz
  subst hz
  have U := Za (Get_out (h.bel B0.out) (h17.below (Nat.le_refl _) B0.out) o (YE hl))
  clear h h17 hl
  unfold errV at *
  generalize adr p 0 = ad at *
  go_enter Tryz.func67, Tryz.ntmps67
  go_wp2_with fail
  refine U.out.mono ?_
  rintro e w1 ⟨rfl, hb⟩
  have B1 := Za (Zg B0.out hb)
  clear hb U
  go_wp2_with fail
  go_ret
  exact Vb.mk rfl B1.out
 | some x =>
  rw [hl] at hz
  simp only at hz
  obtain ⟨n, rfl, hn⟩ := ZC hl
  have U := Za (Get_in (h.bel B0.out) n x hn)
  have HZ := Za hz
  clear h h17 hl hn hz
  by_cases hk : k = 7
  · subst hk
    have hzt : z = true := by rw [← HZ.out]; rfl
    subst hzt
    clear HZ
    go_enter Tryz.func67, Tryz.ntmps67
    go_wp2_with fail
    refine U.out.mono ?_
    rintro e w1 ⟨rfl, rfl⟩
    clear U
    generalize w.alloc _ = w2 at *
    obtain ⟨q0, q1, q2, q3, q4, q5, q6⟩ := V0.out.all
    go_wp2_with fail
    go_ret
    exact Vb.mk rfl B0.out
  · have hzt : z = isB v0 v1 v2 1 := by rw [← HZ.out]; simp [hk, isV]
    have hkb : (k == 7) = false := by simp [hk]
    clear HZ
    have Iq := fun w => aisOf_any v0 v1 v2 1 w
    rw [← hzt] at Iq
    clear hzt
    go_enter Tryz.func67, Tryz.ntmps67
    go_wp2_with fail
    refine U.out.mono ?_
    rintro e w1 ⟨rfl, rfl⟩
    clear U
    generalize w.alloc _ = w2 at *
    obtain ⟨q0, q1, q2, q3, q4, q5, q6⟩ := V0.out.all
    go_wp2_with fail
    refine (Iq _).mono ?_
    rintro e w3 ⟨rfl, hb⟩
    have B2 := Za (Zg B0.out hb)
    clear hb
    go_wp2_with fail
    go_ret
    exact Vb.mk rfl B2.out
theorem still_of_quiet {P : Program} {ops : Array Oper} {w : World} {Q : Act -> Prop} : ∀ (l : List Oper) (a : Act), wpQuiet P ops (fun w' => w' = w) Q l a -> wpStill P ops w Q l a
 | [], _, h => h
 | o :: rest, a, h => by
  unfold wpQuiet at h
  unfold wpStill
  split
  · rename_i hw
    rw [if_pos hw] at h
    obtain ⟨v, hv, hn⟩ := h
    have hv := hv w rfl
    have hn := still_of_quiet rest _ hn
    unfold Oper.quietAt at hv
    unfold Oper.still
    generalize (execOp a.eval o).run P w = r at *
    cases r with
    | ok n w' =>
     cases n <;> simp only [Oper.quietUpon, Oper.stillUpon] at hv ⊢
     case enter f args => exact ⟨hv.1, v, hv.2, hn⟩
     case value u => exact ⟨hv.1, by rw [hv.2]; exact hn⟩
     case skip => exact ⟨hv.1, by rw [← hv.2]; exact hn⟩
    | halt x w' => simp only [Oper.quietUpon] at hv
  · rename_i hw
    rw [if_neg hw] at h
    exact still_of_quiet rest _ h
theorem ZU {P : Program} {id : Nat} {Q : Exit -> Act -> World -> Prop} {a : Act} {w : World} {l : List Oper} (n : Nat) (hm : P.follows .mixedOrders = true) (hB : Region.lexTailB .any l.toArray n = true)
 (h : wpQuiet P l.toArray (fun w' => w' = w.drew) (fun a' => wpList P l.toArray Q (l.drop n) a' w.drew) (l.take n) a) : (Code.region id l.toArray true).wp P Q a w :=
 wp_region_still_tail n hm hB (still_of_quiet _ _ h)
theorem idx_none {α : Type} {f : α -> Bool} {d : α} : ∀ {l : List α}, (∀ j, j < l.length -> f (l.getD j d) = false) -> l.findIdx? f = none
 | [], _ => rfl
 | x :: l, h => by
  have h0 : f x = false := h 0 (by simp)
  have h1 := idx_none (f := f) (d := d) (l := l) fun j hj => by simpa using h (j + 1) (by simpa using hj)
  rw [List.findIdx?_cons, h0, h1]
  rfl
theorem idx_some {α : Type} {f : α -> Bool} {d : α} : ∀ {l : List α} {k : Nat}, k < l.length -> (∀ j, j < k -> f (l.getD j d) = false) -> f (l.getD k d) = true -> l.findIdx? f = some k
 | [], k, hk, _, _ => by simp at hk
 | x :: l, 0, _, _, hf => by
  have h0 : f x = true := hf
  rw [List.findIdx?_cons, h0]
  rfl
 | x :: l, k + 1, hk, h, hf => by
  have h0 : f x = false := h 0 (by omega)
  have h1 := idx_some (f := f) (d := d) (l := l) (k := k) (by simpa using hk) (fun j hj => by simpa using h (j + 1) (by omega)) (by simpa using hf)
  rw [List.findIdx?_cons, h0, h1]
  rfl
def recvI (gs : List Gr) (c : Int) : Int := match recvR gs c with
 | some t => t
 | none => -1
def dG : Gr := ⟨[], zW⟩
theorem recv1_any (b cb : Nat) (k o c : Int) {w : World} (hk : w.cell? ⟨b, 1, none⟩ = some (I_ k)) (ho : w.cell? ⟨b, 2, none⟩ = some (I_ o)) (hc : w.cell? ⟨cb, 0, none⟩ = some (I_ c)) :
 Calls Tryz.prog 106 #[P_ b, P_ cb] w (Vb w (.bool (k == 6 && o == c))) := by
 by_cases h6 : k = 6
 · subst h6
   obtain ⟨z, hz⟩ : ∃ z, ((6 : Int) == 6 && o == c) = z := ⟨_, rfl⟩
   rw [hz]
   have HZ := Za hz
   clear hz
   go_enter Tryz.func106, Tryz.ntmps106
   go_wp2_with fail
   go_quiet (fail)
   go_wp2_with fail
   go_ret
   exact Vb.mk (by rw [← HZ.out]; simp) (below_drewN (Below.refl _ _) _)
 · have e : (k == 6) = false := by simp [h6]
   rw [e]
   go_enter Tryz.func106, Tryz.ntmps106
   go_wp2_with fail
   go_quiet (fail)
   go_wp2_with fail
   go_ret
   exact Vb.mk rfl (below_drewN (Below.refl _ _) _)
theorem index_go (a : Option Addr) (n cG cb : Nat) (c : Int) (gs : List Gr) {w : World} (hn : n = gs.length) (hn8 : n <= 8) (hcb : w.cell? ⟨cb, 0, none⟩ = some (I_ c)) (hcl : cb < w.heap.size)
 (hac : ∀ i, i < n -> ∃ bG b, a = some ⟨bG, 0, none⟩ /\ bG < w.heap.size /\ b < w.heap.size /\ w.cell? ⟨bG, i, none⟩ = some (P_ b) /\ w.cell? ⟨b, 1, none⟩ = some (I_ (gs.getD i dG).w.k) /\ w.cell? ⟨b, 2, none⟩ = some (I_ (gs.getD i dG).w.o)) :
 Calls Tryz.prog 105 #[.slice a n cG, .func (.func 106) #[] #[P_ cb]] w (Vb w (I_ (recvI gs c))) := by
 have hs : Hid ((∀ j, j < n -> recvs c (gs.getD j dG) = false) -> recvI gs c = -1) := fun h => by
  unfold recvI recvR
  rw [idx_none (fun j hj => h j (by omega))]
 have hs2 : Hid (∀ k, k < n -> (∀ j, j < k -> recvs c (gs.getD j dG) = false) -> recvs c (gs.getD k dG) = true -> recvI gs c = k) := fun k hk h1 h2 => by
  unfold recvI recvR
  rw [idx_some (by omega) h1 h2]
 clear hn
 generalize recvI gs c = r at *
 go_enter Tryz.func105, Tryz.ntmps105
 go_wp2_with fail
 go_loopw [5, 8] (fun u i wr => ∃ k : Nat, k <= n /\ i = I_ k /\ Hid (∀ j, j < k -> recvs c (gs.getD j dG) = false) /\ Hid (Below w.heap.size w wr)) (fun u i _ => n - (intOf i).toNat)
 case atStart => exact ⟨0, Nat.zero_le _, rfl, fun j hj => absurd hj (Nat.not_lt_zero _), Below.refl _ _⟩
 case round =>
  obtain ⟨k, hk, rfl, hall, hbel⟩ := hrel
  by_cases hlt : k < n
  · obtain ⟨bG, b, rfl, hbG, hb, hc1, hc2, hc3⟩ := hac k hlt
    have RC := Za (recv1_any b cb _ _ c ((hbel.out.cell (p := ⟨b, 1, none⟩) hb).trans hc2) ((hbel.out.cell (p := ⟨b, 2, none⟩) hb).trans hc3) ((hbel.out.cell (p := ⟨cb, 0, none⟩) hcl).trans hcb))
    rw [← hbel.out.cell (p := ⟨bG, k, none⟩) hbG] at hc1
    have h1 : (k : Int) < (n : Int) := by omega
    have hne := Za (hs2.out k hlt hall.out)
    have hstep : Hid (recvs c (gs.getD k dG) = false -> ∀ j, j < k + 1 -> recvs c (gs.getD j dG) = false) := fun e j hj => by
     by_cases ej : j = k
     · rw [ej]; exact e
     · exact hall.out j (by omega)
    have hrc : recvs c (gs.getD k dG) = ((gs.getD k dG).w.k == 6 && (gs.getD k dG).w.o == c) := rfl
    rw [← hrc] at RC
    have hbl := Nat.lt_of_lt_of_le hb hbel.out.size
    clear hac hs hs2 hall hc2 hc3 hrc
    generalize recvs c (gs.getD k dG) = x at *
    go_wp2_with fail
    refine RC.out.mono ?_
    rintro e w1 ⟨rfl, hb1⟩
    have hbel2 := Za (Zg hbel.out hb1)
    cases x with
    | true =>
     have hr := Za (hne.out rfl)
     clear hne hstep
     go_wp2_with fail
     go_ret
     exact Vb.mk (by rw [hr.out]; rfl) hbel2.out
    | false =>
     have hr := Za (hstep.out rfl)
     clear hne hstep
     go_wp2_with fail
     go_roundw
     case rel => exact ⟨k + 1, by omega, by go_num, hr, hbel2⟩
     case measure => simp [intOf]; omega
  · have e : k = n := by omega
    subst e
    have hs3 := Za (hs.out hall.out)
    clear hac hs hs2 hall
    go_wp2_with fail
    go_ret
    exact Vb.mk (by rw [hs3.out]; rfl) hbel.out
theorem getD_of_some {α : Type} {l : List α} {i : Nat} {x d : α} (h : l[i]? = some x) : l.getD i d = x := by rw [List.getD_eq_getElem?_getD, h]; rfl
theorem receiver_any {w : World} {G : Nat -> Prop} {g : Nat} {S : List (List Wt)} {r : Rm} (h : Rn w G g S r) (c : Int) : Calls Tryz.prog 90 #[P_ g, I_ c] w (Vb w (I_ (recvI r.gs c))) := by
  obtain ⟨Fs, Fo, R, gs, vC, vB, vG, vE, ps, ts, h, hG⟩ := h
  have B0 := Zd w (.cells #[I_ c] 3)
  have h1 := h.bel B0
  obtain ⟨a, cG, e, _⟩ := Zl h.go
  subst e
  have c3 := h.cells.1.2.2.2.1
  have hgl := h.fb g h.fg
  obtain ⟨n, hn⟩ : ∃ n, n = r.gs.length := ⟨_, rfl⟩
  have IX := Za (index_go a n cG w.heap.size c r.gs hn (by have := h.n8; omega) (Zb (B_ w (.cells #[I_ c] 3)) 0 _ rfl) (by have := Ze (B_ w (.cells #[I_ c] 3)); exact this) (fun i hi => by
    obtain ⟨x, hx⟩ : ∃ x, r.gs[i]? = some x := ⟨_, List.getElem?_eq_getElem (by omega)⟩
    obtain ⟨bG, c', b, t, va, e1, _, _, _, _, _, _, ⟨q1, q2, q3⟩, q4⟩ := h1.see hx
    cases e1
    rw [getD_of_some hx]
    exact ⟨bG, b, rfl, q2, q3, q1, Zb q4 1 _ rfl, Zb q4 2 _ rfl⟩))
  rw [← hn] at c3
  have HB := Za B0
  have hmf : ∀ (fn : Fn) (first cap : Array Value) (w : World), (Instr.makeFunc fn first cap).run Tryz.prog w = .ok (.func fn first cap) w := fun _ _ _ _ => rfl
  clear h h1 B0 hn hG
  go_enter Tryz.func90, Tryz.ntmps90
  go_wp2_with fail
  refine IX.out.mono ?_
  rintro e w1 ⟨rfl, hb⟩
  go_wp2_with fail
  go_ret
  exact Vb.mk rfl (Zg HB.out hb)
theorem calls_flip {P : Program} {f : FuncId} {args : Array Value} {w : World} {v : Ending} (h : Calls P f args w fun e w' => e = v /\ w = w') : Calls P f args w fun e w' => e = v /\ w' = w := h.mono fun _ _ h => ⟨h.1, h.2.symm⟩
theorem canSend_out {w : World} {G : Nat -> Prop} {g : Nat} {S : List (List Wt)} {r : Rm} (h : Rn w G g S r) (k o a v0 v1 v2 : Int) (va : Value) (ho : o < 0 ∨ (r.s.C.length : Int) <= o) :
 Calls Tryz.prog 65 #[P_ g, .agg #[I_ k, I_ o, I_ a, I_ v0, I_ v1, .int .u64 v2, va]] w (Vb w (.bool false)) := by
 have B0 := Za (Zd w (.cells #[I_ k, I_ o, I_ a, I_ v0, I_ v1, .int .u64 v2, va] 67))
 have V0 := Za (Wv.new w k o a v0 v1 v2 va)
 obtain ⟨Fs, Fo, R, gs, vC, vB, vG, vE, ps, ts, h, hG⟩ := h
 have h1 := h.bel B0.out
 have HC := Za h1.cells
 obtain ⟨aC, cC, eC, _⟩ := Zl h.ch
 subst eC
 obtain ⟨n, hn⟩ : ∃ n, n = r.s.C.length := ⟨_, rfl⟩
 rw [← hn] at ho HC
 clear h h1 hn hG
 by_cases h0 : o < 0
 · clear ho
   go_enter Tryz.func65, Tryz.ntmps65
   go_wp2_with fail
   generalize w.alloc _ = w1 at *
   obtain ⟨q0, q1, q2, q3, q4, q5, q6⟩ := V0.out.all
   obtain ⟨⟨c0, c1, c2, c3, c4⟩, _⟩ := HC.out
   go_quiet (fail)
   go_wp2_with fail
   go_ret
   exact Vb.mk rfl (below_drewN B0.out _)
 · have h2 : (n : Int) <= o := by omega
   have h3 : 0 <= o := by omega
   have hd0 : decide (o < 0) = false := by simp; omega
   have hd1 : decide ((n : Int) <= o) = true := by simp [h2]
   clear ho h0
   go_enter Tryz.func65, Tryz.ntmps65
   go_wp2_with fail
   generalize w.alloc _ = w1 at *
   obtain ⟨q0, q1, q2, q3, q4, q5, q6⟩ := V0.out.all
   obtain ⟨⟨c0, c1, c2, c3, c4⟩, _⟩ := HC.out
   go_quiet (fail)
   go_wp2_with fail
   go_ret
   exact Vb.mk rfl (below_drewN B0.out _)
theorem canSend_in {w : World} {G : Nat -> Prop} {g : Nat} {S : List (List Wt)} {r : Rm} (h : Rn w G g S r) (k a v0 v1 v2 : Int) (va : Value) (i : Nat) (q : Qu) (hq : r.s.C[i]? = some q) :
 Calls Tryz.prog 65 #[P_ g, .agg #[I_ k, I_ (i : Nat), I_ a, I_ v0, I_ v1, .int .u64 v2, va]] w (Vb w (.bool (isB v0 v1 v2 q.t && (if q.room = 0 then decide (0 <= recvI r.gs i) else decide ((q.l.length : Int) < q.room))))) := by
 have B0 := Za (Zd w (.cells #[I_ k, I_ (i : Nat), I_ a, I_ v0, I_ v1, .int .u64 v2, va] 67))
 have V0 := Za (Wv.new w k i a v0 v1 v2 va)
 have RC := Za (fun (w' : World) (hb : Below w.heap.size w w') => receiver_any (h.bel hb) (i : Int))
 obtain ⟨Fs, Fo, R, gs, vC, vB, vG, vE, ps, ts, h, hG⟩ := h
 have h1 := h.bel B0.out
 have HC := Za h1.cells
 have hi : i < r.s.C.length := (G_ hq)
 obtain ⟨bC, cC, eC, _⟩ := Zq h.ch (by omega)
 subst eC
 have D1 := Za (And.intro (Zk h1.ch i (I_ q.t) (by simp [nts, hq])).1 (Zf h1.ch (k := bC) rfl).2.1)
 have RM := Za (fun (w' : World) (hb : Below w.heap.size w w') => calls_flip (Room_in (h.st.bel hb) i q hq))
 have LN := Za (fun (w' : World) (hb : Below w.heap.size w w') => calls_flip (Len_in (h.st.bel hb) i q hq))
 have hgl := h1.fb g h1.fg
 have HGL := Za hgl
 have hsl := h.st.lt
 obtain ⟨n, hn⟩ : ∃ n, n = r.s.C.length := ⟨_, rfl⟩
 have hn32 : n <= 32 := by
  obtain ⟨_, _, _, _, _, hS⟩ := h.st
  have := hS.small
  omega
 rw [← hn] at HC hi
 have Iq := fun w => aisOf_any v0 v1 v2 q.t w
 obtain ⟨z, hz⟩ : ∃ z, isB v0 v1 v2 q.t = z := ⟨_, rfl⟩
 rw [hz] at Iq
 obtain ⟨y, hy⟩ : ∃ y, (if q.room = 0 then decide (0 <= recvI r.gs i) else decide ((q.l.length : Int) < q.room)) = y := ⟨_, rfl⟩
 rw [hz, hy]
 have HY := Za hy
 clear h h1 hn hG hz hy hq
 obtain ⟨qt, qr, ql⟩ := q
 simp only at *
 obtain ⟨m, hm⟩ : ∃ m, m = ql.length := ⟨_, rfl⟩
 rw [← hm] at LN HY
 clear hm
 have hi1 : (i : Int) < (n : Int) := by omega
 have hi0 : (0 : Int) <= (i : Int) := by omega
 have hd0 : decide ((i : Int) < 0) = false := by simp
 have hd1 : decide ((n : Int) <= (i : Int)) = false := by simp; omega
 have hd2 : decide (n <= i) = false := by simp; omega
 go_enter Tryz.func65, Tryz.ntmps65
 go_wp2_with fail
 generalize w.alloc _ = w1 at *
 obtain ⟨q0, q1, q2, q3, q4, q5, q6⟩ := V0.out.all
 obtain ⟨⟨c0, c1, c2, c3, c4⟩, _⟩ := HC.out
 obtain ⟨d1, hbl⟩ := D1.out
 refine ZU 24 ZJ (by kernel_rfl) ?_
 simp only [List.take_succ_cons, List.take_zero, List.drop_succ_cons, List.drop_zero]
 repeat (first | go_big_quiet_skip | (go_big_quiet_want; go_big_quiet_op; go_big_quiet_on))
 refine wpQuiet_nil ?_
 go_wp2_with fail
 refine (Iq _).mono ?_
 rintro e w2 ⟨rfl, hb⟩
 replace hb : Below w1.heap.size w1 w2 := ⟨hb.os, hb.tape, hb.output, hb.size, hb.block⟩
 have B2 := Za (Zg B0.out hb)
 have V2 := Za (V0.out.al hb)
 obtain ⟨p0, p1, p2, p3, p4, p5, p6⟩ := V2.out.all
 have e0 : w2.cell? ⟨g, 0, none⟩ = some (P_ gs) := (hb.cell (p := ⟨g, 0, none⟩) hgl).trans c0
 have S2 := Za hb.size
 clear c0 c1 c2 c3 c4 d1 q0 q1 q2 q3 q4 q5 q6
 cases z with
 | false =>
  go_wp2_with fail
  go_ret
  exact Vb.mk rfl B2.out
 | true =>
  by_cases hr : qr = 0
  · subst hr
    go_wp2_with fail
    go_quiet (first | (go_at_call 69; exact Calls.quiet_of_same (RM.out _ (below_drewN B2.out _))))
    have HY2 : Hid (y = decide (0 <= recvI r.gs i)) := by
     have := HY.out
     rw [if_pos trivial] at this
     exact this.symm
    clear HY
    go_wp2_with fail
    refine (RC.out _ (below_drewN B2.out _)).mono ?_
    rintro e w3 ⟨rfl, hb3⟩
    have B3 := Za (Zg (below_drewN B2.out _) hb3)
    clear hb3
    go_wp2_with fail
    go_ret
    exact Vb.mk (by rw [HY2.out]; rfl) B3.out
  · have hrb : (qr == 0) = false := by simp [hr]
    have HY2 : Hid (y = decide ((m : Int) < qr)) := by
     have := HY.out
     rw [if_neg hr] at this
     exact this.symm
    clear HY
    go_wp2_with fail
    go_quiet (first | (go_at_call 69; exact Calls.quiet_of_same (RM.out _ (below_drewN B2.out _))))
    have B3 := Za (below_drewN B2.out nq)
    have e0' : (w2.drewN nq).cell? ⟨g, 0, none⟩ = some (P_ gs) := e0
    have p1' : (w2.drewN nq).cell? ⟨w.heap.size, 1, none⟩ = some (I_ (i : Nat)) := p1
    go_wp2_with fail
    generalize w2.drewN nq = w3 at *
    go_quiet (first | (go_at_call 66; exact Calls.quiet_of_same (LN.out _ (below_drewN B3.out _))) | (go_at_call 69; exact Calls.quiet_of_same (RM.out _ (below_drewN B3.out _))))
    go_wp2_with fail
    go_ret
    exact Vb.mk (by rw [HY2.out]; rfl) (below_drewN B3.out _)
end Go.Proofs.YtfojninaginnoaaGreatDoor.Ck
