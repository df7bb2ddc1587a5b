/- The document's state: Send. (Written by mk_y.py.) -/
import Derived.Test.YtghfjnnmpmfboaaDoorZh
namespace Go.Proofs.YtghfjnnmpmfboaaDoor.Ck
open Go.RowKit

theorem own_zero {w : World} {B : Nat} {T : TypeId} {n : Nat} {v : Value} {len : Nat} {xs : List Value} (h : w.ownsRow B T n v len xs) : w.ownsRow 0 T n v len xs := by
  obtain ⟨hl, h0 | ⟨gb, cap, cur, e, hB, r⟩⟩ := h
  · exact ⟨hl, .inl h0⟩
  · exact ⟨hl, .inr ⟨gb, cap, cur, e, Nat.zero_le _, r⟩⟩
set_option maxRecDepth 20000 in
set_option maxHeartbeats 2000000 in
theorem rSend_full {w : World} {F R : Nat → Prop} {B g : Nat} {s : St} (h : Rt w F R B g s) (i : Nat) (q : Qu) (hx : s.C[i]? = some q) (t m z : Int) (hB : isB t m z q.t = true) (hB1 : B ≤ 1000000) (hr : q.room ≤ (q.l.length : Int)) : Calls Tryd.prog 52 #[.pointer (some ⟨g, 0, none⟩), .int .i64 (i : Nat), .agg #[.int .i64 t, .int .i64 m, .int .u64 z]] w (Vb w (.tuple #[.bool false, .int .i64 0])) := by
  obtain ⟨vP, vL, vC, vS, vT, vA, ss, tk, h⟩ := h
  have hi : i < s.C.length := (List.getElem?_eq_some_iff.1 hx).1
  obtain ⟨b, c, e, hc, hm⟩ := own_some h.ch (by omega)
  have hsm := h.small
  obtain ⟨n, hn⟩ : ∃ n, n = s.C.length := ⟨_, rfl⟩
  rw [← hn] at e hi hc
  have hn128 : n ≤ 128 := by omega
  subst e
  have HN := hide hn
  have c1 := h.cells.2.2.1
  have hgl := h.fb g h.fg
  have hbl : b < w.heap.size := (own_type h.ch (k := b) rfl).2.1
  obtain ⟨x0, hx0⟩ : ∃ x0, x0 = q.t := ⟨_, rfl⟩
  have d0 := (own_cell h.ch _ _ (by have := (ccs_at _ _ _ hx).1; rw [Nat.mul_comm] at this; exact this)).1
  rw [← hx0] at d0 hB
  have W1 := hide (And.intro (h.bel (bel_new w (.cells #[.int .i64 t, .int .i64 m, .int .u64 z] 41))) (And.intro (bel_new w (.cells #[.int .i64 t, .int .i64 m, .int .u64 z] 41)) (show Sw (w.alloc (.cells #[.int .i64 t, .int .i64 m, .int .u64 z] 41)) w.heap.size t m z g 2 b (i * 2) (.slice (some ⟨b, 0, none⟩) n c) x0 from ⟨Val.new w t m z, ((bel_new w _).cell (p := ⟨g, 2, none⟩) hgl).trans c1, by simp; omega, ((bel_new w _).cell (p := ⟨b, i * 2, none⟩) hbl).trans d0, by simp; omega⟩)))
  have HX := hide hx
  clear h hsm hc hm hn hx d0 hx0
  go_enter Tryd.func52, Tryd.ntmps52
  go_wp2_with fail
  refine (in_yes i n _ hi).mono ?_
  rintro e w1 ⟨rfl, rfl⟩
  go_wp2_with fail
  generalize w.alloc (.cells #[.int .i64 t, .int .i64 m, .int .u64 z] 41) = w1 at *
  have T := hide W1.out.2.2
  clear c1
  have hgb : goodB t m z = true ∧ t = x0 := by
    unfold isB at hB
    simpa using hB
  have FA : ∀ w, Calls Tryd.prog 85 #[.agg #[.int .i64 t, .int .i64 m, .int .u64 z]] w (Vb w (.bool true)) := fun w => by have := form_any t m z w; rw [hgb.1] at this; exact this
  have hne : (t != x0) = false := by rw [hgb.2]; simp
  clear hgb hB
  refine wp_region_held_drew (S := fun w' => Sw w' w.heap.size t m z g 2 b (i * 2) (.slice (some ⟨b, 0, none⟩) n c) x0) mixed (T.out.al (bel_drawn (Below.refl _ _))) (fun hH => ?_)
  have B3 := hide (bel_drawn (Below.refl w1.heap.size w1))
  clear T
  generalize w1.drew = w3 at *
  refine wpAnyH_take (i := 0) (v := ?_) rfl (by kernel_rfl) (by kernel_rfl) (by kernel_rfl) (fun _ _ _ h => h) (Or.inl ⟨by rfl, ?_⟩) hH ?_
  rotate_left 1
  · (intro w hSw; have q := hSw.1.all.2; clear hSw; go_simp <;> with_reducible rfl)
  simp only [Act.put, List.getElem_toArray, List.getElem_cons_zero, List.setIfInBounds_toArray, List.set_cons_zero, List.set_cons_succ]
  refine wpAnyH_ready (rs := [1]) (by kernel_rfl) (by decide) ?_
  refine AllReadyH.cons rfl (fun K1 hK1 => ?_) AllReadyH.nil
  go_simp
  refine (FA _).mono ?_
  rintro e d4 ⟨rfl, hb⟩
  replace B3 := hide (bel_trans B3.out hb)
  refine hK1.out _ _ (hH.al hb) (fun hH => ?_)
  clear hK1 K1 hb
  refine wpAnyH_take (i := 2) (v := ?_) rfl (by kernel_rfl) (by kernel_rfl) (by kernel_rfl) (fun _ _ _ h => h) (Or.inl ⟨by rfl, ?_⟩) hH ?_
  rotate_left 1
  · (intro w hSw; skip; clear hSw; go_simp <;> with_reducible rfl)
  simp only [Act.put, List.getElem_toArray, List.getElem_cons_zero, List.getElem_cons_succ, List.setIfInBounds_toArray, List.set_cons_zero, List.set_cons_succ]
  refine wpAnyH_take (i := 3) (v := ?_) rfl (by kernel_rfl) (by kernel_rfl) (by kernel_rfl) (fun _ _ _ h => h) (Or.inl ⟨by rfl, ?_⟩) hH ?_
  rotate_left 1
  · (intro w hSw; skip; clear hSw; go_simp <;> with_reducible rfl)
  simp only [Act.put, List.getElem_toArray, List.getElem_cons_zero, List.getElem_cons_succ, List.setIfInBounds_toArray, List.set_cons_zero, List.set_cons_succ]
  refine wpAnyH_take (i := 4) (v := ?_) rfl (by kernel_rfl) (by kernel_rfl) (by kernel_rfl) (fun _ _ _ h => h) (Or.inl ⟨by rfl, ?_⟩) hH ?_
  rotate_left 1
  · (intro w hSw; skip; clear hSw; go_simp <;> with_reducible rfl)
  simp only [Act.put, List.getElem_toArray, List.getElem_cons_zero, List.getElem_cons_succ, List.setIfInBounds_toArray, List.set_cons_zero, List.set_cons_succ]
  refine wpAnyH_take (i := 5) (v := ?_) rfl (by kernel_rfl) (by kernel_rfl) (by kernel_rfl) (fun _ _ _ h => h) (Or.inl ⟨by rfl, ?_⟩) hH ?_
  rotate_left 1
  · (intro w hSw; have q := hSw.1.all.2; clear hSw; go_simp <;> with_reducible rfl)
  simp only [Act.put, List.getElem_toArray, List.getElem_cons_zero, List.getElem_cons_succ, List.setIfInBounds_toArray, List.set_cons_zero, List.set_cons_succ]
  refine wpAnyH_take (i := 6) (v := ?_) rfl (by kernel_rfl) (by kernel_rfl) (by kernel_rfl) (fun _ _ _ h => h) (Or.inl ⟨by rfl, ?_⟩) hH ?_
  rotate_left 1
  · (intro w hSw; skip; clear hSw; go_simp <;> with_reducible rfl)
  simp only [Act.put, List.getElem_toArray, List.getElem_cons_zero, List.getElem_cons_succ, List.setIfInBounds_toArray, List.set_cons_zero, List.set_cons_succ]
  refine wpAnyH_take (i := 7) (v := ?_) rfl (by kernel_rfl) (by kernel_rfl) (by kernel_rfl) (fun _ _ _ h => h) (Or.inl ⟨by rfl, ?_⟩) hH ?_
  rotate_left 1
  · (intro w hSw; skip; clear hSw; go_simp <;> with_reducible rfl)
  simp only [Act.put, List.getElem_toArray, List.getElem_cons_zero, List.getElem_cons_succ, List.setIfInBounds_toArray, List.set_cons_zero, List.set_cons_succ]
  refine wpAnyH_take (i := 8) (v := ?_) rfl (by kernel_rfl) (by kernel_rfl) (by kernel_rfl) (fun _ _ _ h => h) (Or.inl ⟨by rfl, ?_⟩) hH ?_
  rotate_left 1
  · (intro w hSw; skip; clear hSw; go_simp <;> with_reducible rfl)
  simp only [Act.put, List.getElem_toArray, List.getElem_cons_zero, List.getElem_cons_succ, List.setIfInBounds_toArray, List.set_cons_zero, List.set_cons_succ]
  refine wpAnyH_take (i := 9) (v := ?_) rfl (by kernel_rfl) (by kernel_rfl) (by kernel_rfl) (fun _ _ _ h => h) (Or.inl ⟨by rfl, ?_⟩) hH ?_
  rotate_left 1
  · (intro w hSw; have q := hSw.2.1; clear hSw; go_simp <;> with_reducible rfl)
  simp only [Act.put, List.getElem_toArray, List.getElem_cons_zero, List.getElem_cons_succ, List.setIfInBounds_toArray, List.set_cons_zero, List.set_cons_succ]
  refine wpAnyH_take (i := 10) (v := ?_) rfl (by kernel_rfl) (by kernel_rfl) (by kernel_rfl) (fun _ _ _ h => h) (Or.inl ⟨by rfl, ?_⟩) hH ?_
  rotate_left 1
  · (intro w hSw; skip; clear hSw; go_simp <;> with_reducible rfl)
  simp only [Act.put, List.getElem_toArray, List.getElem_cons_zero, List.getElem_cons_succ, List.setIfInBounds_toArray, List.set_cons_zero, List.set_cons_succ]
  refine wpAnyH_take (i := 11) (v := ?_) rfl (by kernel_rfl) (by kernel_rfl) (by kernel_rfl) (fun _ _ _ h => h) (Or.inl ⟨by rfl, ?_⟩) hH ?_
  rotate_left 1
  · (intro w hSw; skip; clear hSw; go_simp <;> with_reducible rfl)
  simp only [Act.put, List.getElem_toArray, List.getElem_cons_zero, List.getElem_cons_succ, List.setIfInBounds_toArray, List.set_cons_zero, List.set_cons_succ]
  refine wpAnyH_take (i := 12) (v := ?_) rfl (by kernel_rfl) (by kernel_rfl) (by kernel_rfl) (fun _ _ _ h => h) (Or.inl ⟨by rfl, ?_⟩) hH ?_
  rotate_left 1
  · (intro w hSw; skip; clear hSw; go_simp <;> with_reducible rfl)
  simp only [Act.put, List.getElem_toArray, List.getElem_cons_zero, List.getElem_cons_succ, List.setIfInBounds_toArray, List.set_cons_zero, List.set_cons_succ]
  refine wpAnyH_take (i := 13) (v := ?_) rfl (by kernel_rfl) (by kernel_rfl) (by kernel_rfl) (fun _ _ _ h => h) (Or.inl ⟨by rfl, ?_⟩) hH ?_
  rotate_left 1
  · (intro w hSw; have q := hSw.2.2.2.1; clear hSw; go_simp <;> with_reducible rfl)
  simp only [Act.put, List.getElem_toArray, List.getElem_cons_zero, List.getElem_cons_succ, List.setIfInBounds_toArray, List.set_cons_zero, List.set_cons_succ]
  refine wpAnyH_take (i := 14) (v := ?_) rfl (by kernel_rfl) (by kernel_rfl) (by kernel_rfl) (fun _ _ _ h => h) (Or.inl ⟨by rfl, ?_⟩) hH ?_
  rotate_left 1
  · (intro w hSw; skip; clear hSw; go_simp <;> with_reducible rfl)
  simp only [Act.put, List.getElem_toArray, List.getElem_cons_zero, List.getElem_cons_succ, List.setIfInBounds_toArray, List.set_cons_zero, List.set_cons_succ]
  refine wpAnyH_take (i := 15) (v := ?_) rfl (by kernel_rfl) (by kernel_rfl) (by kernel_rfl) (fun _ _ _ h => h) (Or.inl ⟨by rfl, ?_⟩) hH ?_
  rotate_left 1
  · (intro w hSw; skip; clear hSw; go_simp <;> with_reducible rfl)
  simp only [Act.put, List.getElem_toArray, List.getElem_cons_zero, List.getElem_cons_succ, List.setIfInBounds_toArray, List.set_cons_zero, List.set_cons_succ]
  refine wpAnyH_done (by kernel_rfl) ?_ _
  clear hH
  have h3 := W1.out.1.bel B3.out
  have HB5 := hide (bel_trans W1.out.2.1 B3.out)
  have c2 := h3.cells.2.2.1
  have dR := (own_cell h3.ch _ _ (by have := (ccs_at _ _ _ HX.out).2; rw [Nat.mul_comm] at this; exact this)).1
  have HQD := hide (fun n => rHeld_q (Rt.bel ⟨_, _, _, _, _, _, _, _, h3⟩ (below_drewN (Below.refl _ _) n)) hB1 i q HX.out)
  have R3 := hide h3
  clear h3
  go_wp2_with fail
  go_quiet ((go_at_call 17; exact Calls.quiet_of (HQD.out _)))
  go_wp2_with fail
  go_ret2
  exact Vb.mk rfl (below_drewN HB5.out _)
set_option maxRecDepth 20000 in
set_option maxHeartbeats 2000000 in
theorem rSend_room {w : World} {F R : Nat → Prop} {B g : Nat} {s : St} (h : Rt w F R B g s) (i : Nat) (q : Qu) (hx : s.C[i]? = some q) (t m z : Int) (hB : isB t m z q.t = true) (hB1 : B ≤ 1000000) (hr : (q.l.length : Int) < q.room) : Calls Tryd.prog 52 #[.pointer (some ⟨g, 0, none⟩), .int .i64 (i : Nat), .agg #[.int .i64 t, .int .i64 m, .int .u64 z]] w (Rp w F R (B + 1) g { s with C := s.C.set i { q with l := q.l ++ [(t, m, z)] } } (.tuple #[.bool true, .int .i64 0])) := by
  obtain ⟨vP, vL, vC, vS, vT, vA, ss, tk, h⟩ := h
  have hi : i < s.C.length := (List.getElem?_eq_some_iff.1 hx).1
  obtain ⟨b, c, e, hc, hm⟩ := own_some h.ch (by omega)
  have hsm := h.small
  obtain ⟨n, hn⟩ : ∃ n, n = s.C.length := ⟨_, rfl⟩
  rw [← hn] at e hi hc
  have hn128 : n ≤ 128 := by omega
  subst e
  have HN := hide hn
  have c1 := h.cells.2.2.1
  have hgl := h.fb g h.fg
  have hbl : b < w.heap.size := (own_type h.ch (k := b) rfl).2.1
  obtain ⟨x0, hx0⟩ : ∃ x0, x0 = q.t := ⟨_, rfl⟩
  have d0 := (own_cell h.ch _ _ (by have := (ccs_at _ _ _ hx).1; rw [Nat.mul_comm] at this; exact this)).1
  rw [← hx0] at d0 hB
  have W1 := hide (And.intro (h.bel (bel_new w (.cells #[.int .i64 t, .int .i64 m, .int .u64 z] 41))) (And.intro (bel_new w (.cells #[.int .i64 t, .int .i64 m, .int .u64 z] 41)) (show Sw (w.alloc (.cells #[.int .i64 t, .int .i64 m, .int .u64 z] 41)) w.heap.size t m z g 2 b (i * 2) (.slice (some ⟨b, 0, none⟩) n c) x0 from ⟨Val.new w t m z, ((bel_new w _).cell (p := ⟨g, 2, none⟩) hgl).trans c1, by simp; omega, ((bel_new w _).cell (p := ⟨b, i * 2, none⟩) hbl).trans d0, by simp; omega⟩)))
  have HX := hide hx
  have hsl := h.sl
  have htl := h.tl
  obtain ⟨vq, hv⟩ : ∃ v, ss[i]? = some v := ⟨_, List.getElem?_eq_getElem (by omega)⟩
  obtain ⟨t0, ht⟩ : ∃ t, tk[i]? = some t := ⟨_, List.getElem?_eq_getElem (by omega)⟩
  obtain ⟨f, tn, e1, hle, hdr, hfB, oq, rq⟩ := h.q i q vq t0 hx hv ht
  subst e1
  obtain ⟨aq, cq, eq, _⟩ := own_slice oq
  subst eq
  obtain ⟨bS, cS, eS, _⟩ := own_some h.se (by omega)
  rw [← hn] at eS
  subst eS
  obtain ⟨dS, dF⟩ := own_cell h.se i _ hv
  have hbS0 := (own_type h.se (k := bS) rfl).2.1
  have hfl7 : f.length ≤ 10000000 := by omega
  have HT := hide ht
  have HQ := hide (And.intro hle (And.intro hdr hfB))
  have HFL := hide h.fb
  have HD := hide (And.intro dS (And.intro dF (And.intro oq hbS0)))
  have hne1 : w.heap.size ≠ bS := by omega
  have hne2 : g ≠ bS := fun e => own_at h.se h.at_ (by decide) (by rw [e]; rfl)
  clear hsl htl ht hv hle hdr hfB dS dF oq rq hbS0
  clear h hsm hc hm hn hx d0 hx0
  go_enter Tryd.func52, Tryd.ntmps52
  go_wp2_with fail
  refine (in_yes i n _ hi).mono ?_
  rintro e w1 ⟨rfl, rfl⟩
  go_wp2_with fail
  generalize w.alloc (.cells #[.int .i64 t, .int .i64 m, .int .u64 z] 41) = w1 at *
  have T := hide W1.out.2.2
  clear c1
  have hgb : goodB t m z = true ∧ t = x0 := by
    unfold isB at hB
    simpa using hB
  have FA : ∀ w, Calls Tryd.prog 85 #[.agg #[.int .i64 t, .int .i64 m, .int .u64 z]] w (Vb w (.bool true)) := fun w => by have := form_any t m z w; rw [hgb.1] at this; exact this
  have hne : (t != x0) = false := by rw [hgb.2]; simp
  clear hgb hB
  refine wp_region_held_drew (S := fun w' => Sw w' w.heap.size t m z g 2 b (i * 2) (.slice (some ⟨b, 0, none⟩) n c) x0) mixed (T.out.al (bel_drawn (Below.refl _ _))) (fun hH => ?_)
  have B3 := hide (bel_drawn (Below.refl w1.heap.size w1))
  clear T
  generalize w1.drew = w3 at *
  refine wpAnyH_take (i := 0) (v := ?_) rfl (by kernel_rfl) (by kernel_rfl) (by kernel_rfl) (fun _ _ _ h => h) (Or.inl ⟨by rfl, ?_⟩) hH ?_
  rotate_left 1
  · (intro w hSw; have q := hSw.1.all.2; clear hSw; go_simp <;> with_reducible rfl)
  simp only [Act.put, List.getElem_toArray, List.getElem_cons_zero, List.setIfInBounds_toArray, List.set_cons_zero, List.set_cons_succ]
  refine wpAnyH_ready (rs := [1]) (by kernel_rfl) (by decide) ?_
  refine AllReadyH.cons rfl (fun K1 hK1 => ?_) AllReadyH.nil
  go_simp
  refine (FA _).mono ?_
  rintro e d4 ⟨rfl, hb⟩
  replace B3 := hide (bel_trans B3.out hb)
  refine hK1.out _ _ (hH.al hb) (fun hH => ?_)
  clear hK1 K1 hb
  refine wpAnyH_take (i := 2) (v := ?_) rfl (by kernel_rfl) (by kernel_rfl) (by kernel_rfl) (fun _ _ _ h => h) (Or.inl ⟨by rfl, ?_⟩) hH ?_
  rotate_left 1
  · (intro w hSw; skip; clear hSw; go_simp <;> with_reducible rfl)
  simp only [Act.put, List.getElem_toArray, List.getElem_cons_zero, List.getElem_cons_succ, List.setIfInBounds_toArray, List.set_cons_zero, List.set_cons_succ]
  refine wpAnyH_take (i := 3) (v := ?_) rfl (by kernel_rfl) (by kernel_rfl) (by kernel_rfl) (fun _ _ _ h => h) (Or.inl ⟨by rfl, ?_⟩) hH ?_
  rotate_left 1
  · (intro w hSw; skip; clear hSw; go_simp <;> with_reducible rfl)
  simp only [Act.put, List.getElem_toArray, List.getElem_cons_zero, List.getElem_cons_succ, List.setIfInBounds_toArray, List.set_cons_zero, List.set_cons_succ]
  refine wpAnyH_take (i := 4) (v := ?_) rfl (by kernel_rfl) (by kernel_rfl) (by kernel_rfl) (fun _ _ _ h => h) (Or.inl ⟨by rfl, ?_⟩) hH ?_
  rotate_left 1
  · (intro w hSw; skip; clear hSw; go_simp <;> with_reducible rfl)
  simp only [Act.put, List.getElem_toArray, List.getElem_cons_zero, List.getElem_cons_succ, List.setIfInBounds_toArray, List.set_cons_zero, List.set_cons_succ]
  refine wpAnyH_take (i := 5) (v := ?_) rfl (by kernel_rfl) (by kernel_rfl) (by kernel_rfl) (fun _ _ _ h => h) (Or.inl ⟨by rfl, ?_⟩) hH ?_
  rotate_left 1
  · (intro w hSw; have q := hSw.1.all.2; clear hSw; go_simp <;> with_reducible rfl)
  simp only [Act.put, List.getElem_toArray, List.getElem_cons_zero, List.getElem_cons_succ, List.setIfInBounds_toArray, List.set_cons_zero, List.set_cons_succ]
  refine wpAnyH_take (i := 6) (v := ?_) rfl (by kernel_rfl) (by kernel_rfl) (by kernel_rfl) (fun _ _ _ h => h) (Or.inl ⟨by rfl, ?_⟩) hH ?_
  rotate_left 1
  · (intro w hSw; skip; clear hSw; go_simp <;> with_reducible rfl)
  simp only [Act.put, List.getElem_toArray, List.getElem_cons_zero, List.getElem_cons_succ, List.setIfInBounds_toArray, List.set_cons_zero, List.set_cons_succ]
  refine wpAnyH_take (i := 7) (v := ?_) rfl (by kernel_rfl) (by kernel_rfl) (by kernel_rfl) (fun _ _ _ h => h) (Or.inl ⟨by rfl, ?_⟩) hH ?_
  rotate_left 1
  · (intro w hSw; skip; clear hSw; go_simp <;> with_reducible rfl)
  simp only [Act.put, List.getElem_toArray, List.getElem_cons_zero, List.getElem_cons_succ, List.setIfInBounds_toArray, List.set_cons_zero, List.set_cons_succ]
  refine wpAnyH_take (i := 8) (v := ?_) rfl (by kernel_rfl) (by kernel_rfl) (by kernel_rfl) (fun _ _ _ h => h) (Or.inl ⟨by rfl, ?_⟩) hH ?_
  rotate_left 1
  · (intro w hSw; skip; clear hSw; go_simp <;> with_reducible rfl)
  simp only [Act.put, List.getElem_toArray, List.getElem_cons_zero, List.getElem_cons_succ, List.setIfInBounds_toArray, List.set_cons_zero, List.set_cons_succ]
  refine wpAnyH_take (i := 9) (v := ?_) rfl (by kernel_rfl) (by kernel_rfl) (by kernel_rfl) (fun _ _ _ h => h) (Or.inl ⟨by rfl, ?_⟩) hH ?_
  rotate_left 1
  · (intro w hSw; have q := hSw.2.1; clear hSw; go_simp <;> with_reducible rfl)
  simp only [Act.put, List.getElem_toArray, List.getElem_cons_zero, List.getElem_cons_succ, List.setIfInBounds_toArray, List.set_cons_zero, List.set_cons_succ]
  refine wpAnyH_take (i := 10) (v := ?_) rfl (by kernel_rfl) (by kernel_rfl) (by kernel_rfl) (fun _ _ _ h => h) (Or.inl ⟨by rfl, ?_⟩) hH ?_
  rotate_left 1
  · (intro w hSw; skip; clear hSw; go_simp <;> with_reducible rfl)
  simp only [Act.put, List.getElem_toArray, List.getElem_cons_zero, List.getElem_cons_succ, List.setIfInBounds_toArray, List.set_cons_zero, List.set_cons_succ]
  refine wpAnyH_take (i := 11) (v := ?_) rfl (by kernel_rfl) (by kernel_rfl) (by kernel_rfl) (fun _ _ _ h => h) (Or.inl ⟨by rfl, ?_⟩) hH ?_
  rotate_left 1
  · (intro w hSw; skip; clear hSw; go_simp <;> with_reducible rfl)
  simp only [Act.put, List.getElem_toArray, List.getElem_cons_zero, List.getElem_cons_succ, List.setIfInBounds_toArray, List.set_cons_zero, List.set_cons_succ]
  refine wpAnyH_take (i := 12) (v := ?_) rfl (by kernel_rfl) (by kernel_rfl) (by kernel_rfl) (fun _ _ _ h => h) (Or.inl ⟨by rfl, ?_⟩) hH ?_
  rotate_left 1
  · (intro w hSw; skip; clear hSw; go_simp <;> with_reducible rfl)
  simp only [Act.put, List.getElem_toArray, List.getElem_cons_zero, List.getElem_cons_succ, List.setIfInBounds_toArray, List.set_cons_zero, List.set_cons_succ]
  refine wpAnyH_take (i := 13) (v := ?_) rfl (by kernel_rfl) (by kernel_rfl) (by kernel_rfl) (fun _ _ _ h => h) (Or.inl ⟨by rfl, ?_⟩) hH ?_
  rotate_left 1
  · (intro w hSw; have q := hSw.2.2.2.1; clear hSw; go_simp <;> with_reducible rfl)
  simp only [Act.put, List.getElem_toArray, List.getElem_cons_zero, List.getElem_cons_succ, List.setIfInBounds_toArray, List.set_cons_zero, List.set_cons_succ]
  refine wpAnyH_take (i := 14) (v := ?_) rfl (by kernel_rfl) (by kernel_rfl) (by kernel_rfl) (fun _ _ _ h => h) (Or.inl ⟨by rfl, ?_⟩) hH ?_
  rotate_left 1
  · (intro w hSw; skip; clear hSw; go_simp <;> with_reducible rfl)
  simp only [Act.put, List.getElem_toArray, List.getElem_cons_zero, List.getElem_cons_succ, List.setIfInBounds_toArray, List.set_cons_zero, List.set_cons_succ]
  refine wpAnyH_take (i := 15) (v := ?_) rfl (by kernel_rfl) (by kernel_rfl) (by kernel_rfl) (fun _ _ _ h => h) (Or.inl ⟨by rfl, ?_⟩) hH ?_
  rotate_left 1
  · (intro w hSw; skip; clear hSw; go_simp <;> with_reducible rfl)
  simp only [Act.put, List.getElem_toArray, List.getElem_cons_zero, List.getElem_cons_succ, List.setIfInBounds_toArray, List.set_cons_zero, List.set_cons_succ]
  refine wpAnyH_done (by kernel_rfl) ?_ _
  clear hH
  have h3 := W1.out.1.bel B3.out
  have HB5 := hide (bel_trans W1.out.2.1 B3.out)
  have c2 := h3.cells.2.2.1
  have dR := (own_cell h3.ch _ _ (by have := (ccs_at _ _ _ HX.out).2; rw [Nat.mul_comm] at this; exact this)).1
  have HQD := hide (fun n => rHeld_q (Rt.bel ⟨_, _, _, _, _, _, _, _, h3⟩ (below_drewN (Below.refl _ _) n)) hB1 i q HX.out)
  have R3 := hide h3
  clear h3
  go_wp2_with fail
  go_quiet ((go_at_call 17; exact Calls.quiet_of (HQD.out _)))
  go_wp2_with fail
  have RB := hide (below_drewN HB5.out nq)
  have BL := hide RB.out
  have S2 := hide (show Sx (World.drewN _ nq) w.heap.size t m z g (.slice (some ⟨bS, 0, none⟩) n cS) from ⟨(W1.out.2.2.1.al B3.out).al (below_drewN (Below.refl _ _) nq), R3.out.cells.2.2.2.1, R3.out.fb g R3.out.fg⟩)
  replace R3 := hide (R3.out.bel (below_drewN (Below.refl _ _) nq))
  refine wp_region_held_drew (S := fun w' => Sx w' w.heap.size t m z g (.slice (some ⟨bS, 0, none⟩) n cS)) mixed (S2.out.al (bel_drawn (Below.refl _ _))) (fun hH => ?_)
  have S3 := hide hH
  replace R3 := hide (R3.out.bel (bel_drawn (Below.refl _ _)))
  replace BL := hide (bel_drawn BL.out)
  have DS := hide ((BL.out.cell (p := ⟨bS, i, none⟩) HD.out.2.2.2).trans HD.out.1)
  have DF := hide ((BL.out.frozen (p := ⟨bS, i, none⟩) HD.out.2.2.2).trans HD.out.2.1)
  have OQ := hide (own_keep HD.out.2.2.1 (fun k hk => BL.out.block k (own_type HD.out.2.2.1 hk).2.1))
  generalize World.drew _ = W3 at *
  have BW := hide (Below.refl W3.heap.size W3)
  have hbS : bS < W3.heap.size := (own_type R3.out.se (k := bS) rfl).2.1
  refine wpAnyH_take (i := 0) (v := ?_) rfl (by kernel_rfl) (by kernel_rfl) (by kernel_rfl) (fun _ _ _ h => h) (Or.inl ⟨by rfl, ?_⟩) hH ?_
  rotate_left 1
  · (intro w hSw; skip; clear hSw; go_simp <;> with_reducible rfl)
  simp only [Act.put, List.getElem_toArray, List.getElem_cons_zero, List.setIfInBounds_toArray, List.set_cons_zero, List.set_cons_succ]
  refine wpAnyH_take (i := 1) (v := ?_) rfl (by kernel_rfl) (by kernel_rfl) (by kernel_rfl) (fun _ _ _ h => h) (Or.inl ⟨by rfl, ?_⟩) hH ?_
  rotate_left 1
  · (intro w hSw; skip; clear hSw; go_simp <;> with_reducible rfl)
  simp only [Act.put, List.getElem_toArray, List.getElem_cons_zero, List.getElem_cons_succ, List.setIfInBounds_toArray, List.set_cons_zero, List.set_cons_succ]
  refine wpAnyH_take (i := 2) (v := ?_) rfl (by kernel_rfl) (by kernel_rfl) (by kernel_rfl) (fun _ _ _ h => h) (Or.inl ⟨by rfl, ?_⟩) hH ?_
  rotate_left 1
  · (intro w hSw; skip; clear hSw; go_simp <;> with_reducible rfl)
  simp only [Act.put, List.getElem_toArray, List.getElem_cons_zero, List.getElem_cons_succ, List.setIfInBounds_toArray, List.set_cons_zero, List.set_cons_succ]
  refine wpAnyH_take (i := 3) (v := ?_) rfl (by kernel_rfl) (by kernel_rfl) (by kernel_rfl) (fun _ _ _ h => h) (Or.inl ⟨by rfl, ?_⟩) hH ?_
  rotate_left 1
  · (intro w hSw; have q := hSw.2.1; clear hSw; go_simp <;> with_reducible rfl)
  simp only [Act.put, List.getElem_toArray, List.getElem_cons_zero, List.getElem_cons_succ, List.setIfInBounds_toArray, List.set_cons_zero, List.set_cons_succ]
  refine wpAnyH_take (i := 4) (v := ?_) rfl (by kernel_rfl) (by kernel_rfl) (by kernel_rfl) (fun _ _ _ h => h) (Or.inl ⟨by rfl, ?_⟩) hH ?_
  rotate_left 1
  · (intro w hSw; skip; clear hSw; go_simp <;> with_reducible rfl)
  simp only [Act.put, List.getElem_toArray, List.getElem_cons_zero, List.getElem_cons_succ, List.setIfInBounds_toArray, List.set_cons_zero, List.set_cons_succ]
  refine wpAnyH_take (i := 6) (v := ?_) rfl (by kernel_rfl) (by kernel_rfl) (by kernel_rfl) (fun _ _ _ h => h) (Or.inl ⟨by rfl, ?_⟩) hH ?_
  rotate_left 1
  · (intro w hSw; skip; clear hSw; go_simp <;> with_reducible rfl)
  simp only [Act.put, List.getElem_toArray, List.getElem_cons_zero, List.getElem_cons_succ, List.setIfInBounds_toArray, List.set_cons_zero, List.set_cons_succ]
  refine wpAnyH_take (i := 7) (v := ?_) rfl (by kernel_rfl) (by kernel_rfl) (by kernel_rfl) (fun _ _ _ h => h) (Or.inl ⟨by rfl, ?_⟩) hH ?_
  rotate_left 1
  · (intro w hSw; skip; clear hSw; go_simp <;> with_reducible rfl)
  simp only [Act.put, List.getElem_toArray, List.getElem_cons_zero, List.getElem_cons_succ, List.setIfInBounds_toArray, List.set_cons_zero, List.set_cons_succ]
  refine wpAnyH_take (i := 8) (v := ?_) rfl (by kernel_rfl) (by kernel_rfl) (by kernel_rfl) (fun _ _ _ h => h) (Or.inl ⟨by rfl, ?_⟩) hH ?_
  rotate_left 1
  · (intro w hSw; skip; clear hSw; go_simp <;> with_reducible rfl)
  simp only [Act.put, List.getElem_toArray, List.getElem_cons_zero, List.getElem_cons_succ, List.setIfInBounds_toArray, List.set_cons_zero, List.set_cons_succ]
  refine wpAnyH_take (i := 9) (v := ?_) rfl (by kernel_rfl) (by kernel_rfl) (by kernel_rfl) (fun _ _ _ h => h) (Or.inl ⟨by rfl, ?_⟩) hH ?_
  rotate_left 1
  · (intro w hSw; have q := hSw.2.1; clear hSw; go_simp <;> with_reducible rfl)
  simp only [Act.put, List.getElem_toArray, List.getElem_cons_zero, List.getElem_cons_succ, List.setIfInBounds_toArray, List.set_cons_zero, List.set_cons_succ]
  refine wpAnyH_take (i := 10) (v := ?_) rfl (by kernel_rfl) (by kernel_rfl) (by kernel_rfl) (fun _ _ _ h => h) (Or.inl ⟨by rfl, ?_⟩) hH ?_
  rotate_left 1
  · (intro w hSw; skip; clear hSw; go_simp <;> with_reducible rfl)
  simp only [Act.put, List.getElem_toArray, List.getElem_cons_zero, List.getElem_cons_succ, List.setIfInBounds_toArray, List.set_cons_zero, List.set_cons_succ]
  refine wpAnyH_take (i := 11) (v := ?_) rfl (by kernel_rfl) (by kernel_rfl) (by kernel_rfl) (fun _ _ _ h => h) (Or.inl ⟨by rfl, ?_⟩) hH ?_
  rotate_left 1
  · (intro w hSw; skip; clear hSw; go_simp <;> with_reducible rfl)
  simp only [Act.put, List.getElem_toArray, List.getElem_cons_zero, List.getElem_cons_succ, List.setIfInBounds_toArray, List.set_cons_zero, List.set_cons_succ]
  refine wpAnyH_take (i := 14) (v := ?_) rfl (by kernel_rfl) (by kernel_rfl) (by kernel_rfl) (fun _ _ _ h => h) (Or.inl ⟨by rfl, ?_⟩) hH ?_
  rotate_left 1
  · (intro w hSw; have q := hSw.1.all.2; clear hSw; go_simp <;> with_reducible rfl)
  simp only [Act.put, List.getElem_toArray, List.getElem_cons_zero, List.getElem_cons_succ, List.setIfInBounds_toArray, List.set_cons_zero, List.set_cons_succ]
  refine wpAnyH_ready (rs := [5, 12, 15]) (by kernel_rfl) (by decide) ?_
  refine AllReadyH.cons rfl (fun K1 hK1 => ?_) (AllReadyH.cons rfl (fun K1 hK1 => ?_) (AllReadyH.cons rfl (fun K1 hK1 => ?_) AllReadyH.nil))
  · go_simp
    have B2 := hide (bel_al BW.out (.cells #[] 41))
    refine hK1.out _ _ (S3.out.al B2.out) (fun hH => ?_)
    clear hK1 K1
    have O5 := hide (And.intro (Go.Deep.blk_alloc_new W3 (.cells #[] 41)) BW.out.size)
    replace BW := B2
    clear B2
    generalize W3.alloc (.cells #[] 41) = X0 at *
    refine wpAnyH_ready (rs := [12, 15]) (by kernel_rfl) (by decide) ?_
    refine AllReadyH.cons rfl (fun K1 hK1 => ?_) (AllReadyH.cons rfl (fun K1 hK1 => ?_) AllReadyH.nil)
    · have q := (BW.out.cell (p := ⟨bS, i, none⟩) hbS).trans DS.out
      go_simp
      refine hK1.out _ _ hH (fun hH => ?_)
      clear hK1 K1 q
      refine wpAnyH_ready (rs := [13, 15]) (by kernel_rfl) (by decide) ?_
      refine AllReadyH.cons rfl (fun K1 hK1 => ?_) (AllReadyH.cons rfl (fun K1 hK1 => ?_) AllReadyH.nil)
      · have AP := hide (fun ty => app_copy (xs := vcs f) Tryd.underlying46 info_val rfl (by decide) O5.out.1 O5.out.2 (own_keep OQ.out (fun k hk => BW.out.block k (own_type OQ.out hk).2.1)) hfl7 (vcs_one _) BW.out.size ty)
        refine step_appV (TS := 46) (.tmp 49) (.tmp 56) _ _ _ (fun ty => AP.out ty) rfl rfl rfl rfl ?_
        rintro v9 X2 ⟨⟨a9, c9, rfl⟩, o9, b9, _⟩
        have B2 := hide (bel_trans BW.out b9)
        refine hK1.out _ _ (S3.out.al B2.out) (fun hH => ?_)
        clear hK1 K1 AP
        have O13 := hide o9
        replace BW := B2
        clear B2 o9 b9 O5
        refine wpAnyH_ready (rs := [15]) (by kernel_rfl) (by decide) ?_
        refine AllReadyH.cons rfl (fun K1 hK1 => ?_) AllReadyH.nil
        go_simp
        have B2 := hide (bel_al BW.out (.cells #[.int .i64 t, .int .i64 m, .int .u64 z] 41))
        refine hK1.out _ _ (S3.out.al B2.out) (fun hH => ?_)
        clear hK1 K1
        replace O13 := hide (own_keep O13.out (fun k hk => (bel_new X2 (.cells #[.int .i64 t, .int .i64 m, .int .u64 z] 41)).block k (own_type O13.out hk).2.1))
        have V15 := hide (Val.new X2 t m z)
        replace BW := B2
        clear B2
        generalize X2.alloc (.cells #[.int .i64 t, .int .i64 m, .int .u64 z] 41) = X3 at *
        refine wpAnyH_ready (rs := [16]) (by kernel_rfl) (by decide) ?_
        refine AllReadyH.cons rfl (fun K1 hK1 => ?_) AllReadyH.nil
        have AP := hide (fun ty => push_b O13.out BW.out.size hfl7 t m z V15.out ty)
        refine step_appV (TS := 46) (.tmp 57) (.tmp 59) _ _ _ (fun ty => AP.out ty) rfl rfl rfl rfl ?_
        rintro v9 X4 ⟨⟨a8, c8, rfl⟩, o9, g9⟩
        have B2 := hide (BW.out.grown g9 BW.out.size (fun k hk => (own_type O13.out hk).1))
        refine hK1.out _ _ (S3.out.al B2.out) (fun hH => ?_)
        clear hK1 K1 AP
        have O16 := hide o9
        replace BW := B2
        clear B2 o9 g9 O13 V15
        refine wpAnyH_take (i := 17) (v := ?_) rfl (by kernel_rfl) (by kernel_rfl) (by kernel_rfl) (fun _ _ _ h => h) (Or.inl ⟨by rfl, ?_⟩) hH ?_
        rotate_left 1
        · (intro w hSw; skip; clear hSw; go_simp <;> with_reducible rfl)
        simp only [Act.put, List.getElem_toArray, List.getElem_cons_zero, List.getElem_cons_succ, List.setIfInBounds_toArray, List.set_cons_zero, List.set_cons_succ]
        refine wpAnyH_ready (rs := [18]) (by kernel_rfl) (by decide) ?_
        refine AllReadyH.cons rfl (fun K1 hK1 => ?_) AllReadyH.nil
        have q1 := (BW.out.cell (p := ⟨bS, i, none⟩) hbS).trans DS.out
        have q2 := (BW.out.frozen (p := ⟨bS, i, none⟩) hbS).trans DF.out
        go_simp
        refine hK1.out _ _ (hH.set hne1 hne2 _ _) (fun hH => ?_)
        clear hK1 K1 q1 q2
        refine wpAnyH_done (by kernel_rfl) ?_ _
        clear hH
        obtain ⟨SR, SC⟩ := (R3.out.bel BW.out).setS HN.out i q (t, m, z) _ _ HX.out HT.out hr rfl HQ.out.1 HQ.out.2.1 HQ.out.2.2 (own_zero O16.out) (fun k hk hF => by have h1 := (own_type O16.out hk).1; have h2 := HFL.out k hF; have h3 := BL.out.size; omega)
        have SR2 := hide (And.intro SR SC)
        clear SR SC
        go_wp2_with fail
        go_ret2
        exact ⟨rfl, _, _, ⟨_, _, _, _, _, _, _, _, SR2.out.1⟩, (Ch.of_bel (bel_trans BL.out BW.out)).trans SR2.out.2, fun _ h => .inl h, fun k hk => hk.imp id (fun h => by have h1 := (own_type O16.out h).1; have h3 := BL.out.size; omega)⟩
      · go_simp
        have B2 := hide (bel_al BW.out (.cells #[.int .i64 t, .int .i64 m, .int .u64 z] 41))
        refine hK1.out _ _ (S3.out.al B2.out) (fun hH => ?_)
        clear hK1 K1
        replace O5 := hide (And.intro (((bel_new X0 (.cells #[.int .i64 t, .int .i64 m, .int .u64 z] 41)).block _ (lt_of_blk O5.out.1)).trans O5.out.1) O5.out.2)
        have V15 := hide (Val.new X0 t m z)
        replace BW := B2
        clear B2
        generalize X0.alloc (.cells #[.int .i64 t, .int .i64 m, .int .u64 z] 41) = X2 at *
        refine wpAnyH_ready (rs := [13]) (by kernel_rfl) (by decide) ?_
        refine AllReadyH.cons rfl (fun K1 hK1 => ?_) AllReadyH.nil
        have AP := hide (fun ty => app_copy (xs := vcs f) Tryd.underlying46 info_val rfl (by decide) O5.out.1 O5.out.2 (own_keep OQ.out (fun k hk => BW.out.block k (own_type OQ.out hk).2.1)) hfl7 (vcs_one _) BW.out.size ty)
        refine step_appV (TS := 46) (.tmp 49) (.tmp 56) _ _ _ (fun ty => AP.out ty) rfl rfl rfl rfl ?_
        rintro v9 X3 ⟨⟨a9, c9, rfl⟩, o9, b9, _⟩
        have B2 := hide (bel_trans BW.out b9)
        refine hK1.out _ _ (S3.out.al B2.out) (fun hH => ?_)
        clear hK1 K1 AP
        replace V15 := hide (V15.out.al b9)
        have O13 := hide o9
        replace BW := B2
        clear B2 o9 b9 O5
        refine wpAnyH_ready (rs := [16]) (by kernel_rfl) (by decide) ?_
        refine AllReadyH.cons rfl (fun K1 hK1 => ?_) AllReadyH.nil
        have AP := hide (fun ty => push_b O13.out BW.out.size hfl7 t m z V15.out ty)
        refine step_appV (TS := 46) (.tmp 57) (.tmp 59) _ _ _ (fun ty => AP.out ty) rfl rfl rfl rfl ?_
        rintro v9 X4 ⟨⟨a8, c8, rfl⟩, o9, g9⟩
        have B2 := hide (BW.out.grown g9 BW.out.size (fun k hk => (own_type O13.out hk).1))
        refine hK1.out _ _ (S3.out.al B2.out) (fun hH => ?_)
        clear hK1 K1 AP
        have O16 := hide o9
        replace BW := B2
        clear B2 o9 g9 O13 V15
        refine wpAnyH_take (i := 17) (v := ?_) rfl (by kernel_rfl) (by kernel_rfl) (by kernel_rfl) (fun _ _ _ h => h) (Or.inl ⟨by rfl, ?_⟩) hH ?_
        rotate_left 1
        · (intro w hSw; skip; clear hSw; go_simp <;> with_reducible rfl)
        simp only [Act.put, List.getElem_toArray, List.getElem_cons_zero, List.getElem_cons_succ, List.setIfInBounds_toArray, List.set_cons_zero, List.set_cons_succ]
        refine wpAnyH_ready (rs := [18]) (by kernel_rfl) (by decide) ?_
        refine AllReadyH.cons rfl (fun K1 hK1 => ?_) AllReadyH.nil
        have q1 := (BW.out.cell (p := ⟨bS, i, none⟩) hbS).trans DS.out
        have q2 := (BW.out.frozen (p := ⟨bS, i, none⟩) hbS).trans DF.out
        go_simp
        refine hK1.out _ _ (hH.set hne1 hne2 _ _) (fun hH => ?_)
        clear hK1 K1 q1 q2
        refine wpAnyH_done (by kernel_rfl) ?_ _
        clear hH
        obtain ⟨SR, SC⟩ := (R3.out.bel BW.out).setS HN.out i q (t, m, z) _ _ HX.out HT.out hr rfl HQ.out.1 HQ.out.2.1 HQ.out.2.2 (own_zero O16.out) (fun k hk hF => by have h1 := (own_type O16.out hk).1; have h2 := HFL.out k hF; have h3 := BL.out.size; omega)
        have SR2 := hide (And.intro SR SC)
        clear SR SC
        go_wp2_with fail
        go_ret2
        exact ⟨rfl, _, _, ⟨_, _, _, _, _, _, _, _, SR2.out.1⟩, (Ch.of_bel (bel_trans BL.out BW.out)).trans SR2.out.2, fun _ h => .inl h, fun k hk => hk.imp id (fun h => by have h1 := (own_type O16.out h).1; have h3 := BL.out.size; omega)⟩
    · go_simp
      have B2 := hide (bel_al BW.out (.cells #[.int .i64 t, .int .i64 m, .int .u64 z] 41))
      refine hK1.out _ _ (S3.out.al B2.out) (fun hH => ?_)
      clear hK1 K1
      replace O5 := hide (And.intro (((bel_new X0 (.cells #[.int .i64 t, .int .i64 m, .int .u64 z] 41)).block _ (lt_of_blk O5.out.1)).trans O5.out.1) O5.out.2)
      have V15 := hide (Val.new X0 t m z)
      replace BW := B2
      clear B2
      generalize X0.alloc (.cells #[.int .i64 t, .int .i64 m, .int .u64 z] 41) = X1 at *
      refine wpAnyH_ready (rs := [12]) (by kernel_rfl) (by decide) ?_
      refine AllReadyH.cons rfl (fun K1 hK1 => ?_) AllReadyH.nil
      have q := (BW.out.cell (p := ⟨bS, i, none⟩) hbS).trans DS.out
      go_simp
      refine hK1.out _ _ hH (fun hH => ?_)
      clear hK1 K1 q
      refine wpAnyH_ready (rs := [13]) (by kernel_rfl) (by decide) ?_
      refine AllReadyH.cons rfl (fun K1 hK1 => ?_) AllReadyH.nil
      have AP := hide (fun ty => app_copy (xs := vcs f) Tryd.underlying46 info_val rfl (by decide) O5.out.1 O5.out.2 (own_keep OQ.out (fun k hk => BW.out.block k (own_type OQ.out hk).2.1)) hfl7 (vcs_one _) BW.out.size ty)
      refine step_appV (TS := 46) (.tmp 49) (.tmp 56) _ _ _ (fun ty => AP.out ty) rfl rfl rfl rfl ?_
      rintro v9 X3 ⟨⟨a9, c9, rfl⟩, o9, b9, _⟩
      have B2 := hide (bel_trans BW.out b9)
      refine hK1.out _ _ (S3.out.al B2.out) (fun hH => ?_)
      clear hK1 K1 AP
      replace V15 := hide (V15.out.al b9)
      have O13 := hide o9
      replace BW := B2
      clear B2 o9 b9 O5
      refine wpAnyH_ready (rs := [16]) (by kernel_rfl) (by decide) ?_
      refine AllReadyH.cons rfl (fun K1 hK1 => ?_) AllReadyH.nil
      have AP := hide (fun ty => push_b O13.out BW.out.size hfl7 t m z V15.out ty)
      refine step_appV (TS := 46) (.tmp 57) (.tmp 59) _ _ _ (fun ty => AP.out ty) rfl rfl rfl rfl ?_
      rintro v9 X4 ⟨⟨a8, c8, rfl⟩, o9, g9⟩
      have B2 := hide (BW.out.grown g9 BW.out.size (fun k hk => (own_type O13.out hk).1))
      refine hK1.out _ _ (S3.out.al B2.out) (fun hH => ?_)
      clear hK1 K1 AP
      have O16 := hide o9
      replace BW := B2
      clear B2 o9 g9 O13 V15
      refine wpAnyH_take (i := 17) (v := ?_) rfl (by kernel_rfl) (by kernel_rfl) (by kernel_rfl) (fun _ _ _ h => h) (Or.inl ⟨by rfl, ?_⟩) hH ?_
      rotate_left 1
      · (intro w hSw; skip; clear hSw; go_simp <;> with_reducible rfl)
      simp only [Act.put, List.getElem_toArray, List.getElem_cons_zero, List.getElem_cons_succ, List.setIfInBounds_toArray, List.set_cons_zero, List.set_cons_succ]
      refine wpAnyH_ready (rs := [18]) (by kernel_rfl) (by decide) ?_
      refine AllReadyH.cons rfl (fun K1 hK1 => ?_) AllReadyH.nil
      have q1 := (BW.out.cell (p := ⟨bS, i, none⟩) hbS).trans DS.out
      have q2 := (BW.out.frozen (p := ⟨bS, i, none⟩) hbS).trans DF.out
      go_simp
      refine hK1.out _ _ (hH.set hne1 hne2 _ _) (fun hH => ?_)
      clear hK1 K1 q1 q2
      refine wpAnyH_done (by kernel_rfl) ?_ _
      clear hH
      obtain ⟨SR, SC⟩ := (R3.out.bel BW.out).setS HN.out i q (t, m, z) _ _ HX.out HT.out hr rfl HQ.out.1 HQ.out.2.1 HQ.out.2.2 (own_zero O16.out) (fun k hk hF => by have h1 := (own_type O16.out hk).1; have h2 := HFL.out k hF; have h3 := BL.out.size; omega)
      have SR2 := hide (And.intro SR SC)
      clear SR SC
      go_wp2_with fail
      go_ret2
      exact ⟨rfl, _, _, ⟨_, _, _, _, _, _, _, _, SR2.out.1⟩, (Ch.of_bel (bel_trans BL.out BW.out)).trans SR2.out.2, fun _ h => .inl h, fun k hk => hk.imp id (fun h => by have h1 := (own_type O16.out h).1; have h3 := BL.out.size; omega)⟩
  · have q := (BW.out.cell (p := ⟨bS, i, none⟩) hbS).trans DS.out
    go_simp
    refine hK1.out _ _ hH (fun hH => ?_)
    clear hK1 K1 q
    refine wpAnyH_ready (rs := [5, 15]) (by kernel_rfl) (by decide) ?_
    refine AllReadyH.cons rfl (fun K1 hK1 => ?_) (AllReadyH.cons rfl (fun K1 hK1 => ?_) AllReadyH.nil)
    · go_simp
      have B2 := hide (bel_al BW.out (.cells #[] 41))
      refine hK1.out _ _ (S3.out.al B2.out) (fun hH => ?_)
      clear hK1 K1
      have O5 := hide (And.intro (Go.Deep.blk_alloc_new W3 (.cells #[] 41)) BW.out.size)
      replace BW := B2
      clear B2
      generalize W3.alloc (.cells #[] 41) = X1 at *
      refine wpAnyH_ready (rs := [13, 15]) (by kernel_rfl) (by decide) ?_
      refine AllReadyH.cons rfl (fun K1 hK1 => ?_) (AllReadyH.cons rfl (fun K1 hK1 => ?_) AllReadyH.nil)
      · have AP := hide (fun ty => app_copy (xs := vcs f) Tryd.underlying46 info_val rfl (by decide) O5.out.1 O5.out.2 (own_keep OQ.out (fun k hk => BW.out.block k (own_type OQ.out hk).2.1)) hfl7 (vcs_one _) BW.out.size ty)
        refine step_appV (TS := 46) (.tmp 49) (.tmp 56) _ _ _ (fun ty => AP.out ty) rfl rfl rfl rfl ?_
        rintro v9 X2 ⟨⟨a9, c9, rfl⟩, o9, b9, _⟩
        have B2 := hide (bel_trans BW.out b9)
        refine hK1.out _ _ (S3.out.al B2.out) (fun hH => ?_)
        clear hK1 K1 AP
        have O13 := hide o9
        replace BW := B2
        clear B2 o9 b9 O5
        refine wpAnyH_ready (rs := [15]) (by kernel_rfl) (by decide) ?_
        refine AllReadyH.cons rfl (fun K1 hK1 => ?_) AllReadyH.nil
        go_simp
        have B2 := hide (bel_al BW.out (.cells #[.int .i64 t, .int .i64 m, .int .u64 z] 41))
        refine hK1.out _ _ (S3.out.al B2.out) (fun hH => ?_)
        clear hK1 K1
        replace O13 := hide (own_keep O13.out (fun k hk => (bel_new X2 (.cells #[.int .i64 t, .int .i64 m, .int .u64 z] 41)).block k (own_type O13.out hk).2.1))
        have V15 := hide (Val.new X2 t m z)
        replace BW := B2
        clear B2
        generalize X2.alloc (.cells #[.int .i64 t, .int .i64 m, .int .u64 z] 41) = X3 at *
        refine wpAnyH_ready (rs := [16]) (by kernel_rfl) (by decide) ?_
        refine AllReadyH.cons rfl (fun K1 hK1 => ?_) AllReadyH.nil
        have AP := hide (fun ty => push_b O13.out BW.out.size hfl7 t m z V15.out ty)
        refine step_appV (TS := 46) (.tmp 57) (.tmp 59) _ _ _ (fun ty => AP.out ty) rfl rfl rfl rfl ?_
        rintro v9 X4 ⟨⟨a8, c8, rfl⟩, o9, g9⟩
        have B2 := hide (BW.out.grown g9 BW.out.size (fun k hk => (own_type O13.out hk).1))
        refine hK1.out _ _ (S3.out.al B2.out) (fun hH => ?_)
        clear hK1 K1 AP
        have O16 := hide o9
        replace BW := B2
        clear B2 o9 g9 O13 V15
        refine wpAnyH_take (i := 17) (v := ?_) rfl (by kernel_rfl) (by kernel_rfl) (by kernel_rfl) (fun _ _ _ h => h) (Or.inl ⟨by rfl, ?_⟩) hH ?_
        rotate_left 1
        · (intro w hSw; skip; clear hSw; go_simp <;> with_reducible rfl)
        simp only [Act.put, List.getElem_toArray, List.getElem_cons_zero, List.getElem_cons_succ, List.setIfInBounds_toArray, List.set_cons_zero, List.set_cons_succ]
        refine wpAnyH_ready (rs := [18]) (by kernel_rfl) (by decide) ?_
        refine AllReadyH.cons rfl (fun K1 hK1 => ?_) AllReadyH.nil
        have q1 := (BW.out.cell (p := ⟨bS, i, none⟩) hbS).trans DS.out
        have q2 := (BW.out.frozen (p := ⟨bS, i, none⟩) hbS).trans DF.out
        go_simp
        refine hK1.out _ _ (hH.set hne1 hne2 _ _) (fun hH => ?_)
        clear hK1 K1 q1 q2
        refine wpAnyH_done (by kernel_rfl) ?_ _
        clear hH
        obtain ⟨SR, SC⟩ := (R3.out.bel BW.out).setS HN.out i q (t, m, z) _ _ HX.out HT.out hr rfl HQ.out.1 HQ.out.2.1 HQ.out.2.2 (own_zero O16.out) (fun k hk hF => by have h1 := (own_type O16.out hk).1; have h2 := HFL.out k hF; have h3 := BL.out.size; omega)
        have SR2 := hide (And.intro SR SC)
        clear SR SC
        go_wp2_with fail
        go_ret2
        exact ⟨rfl, _, _, ⟨_, _, _, _, _, _, _, _, SR2.out.1⟩, (Ch.of_bel (bel_trans BL.out BW.out)).trans SR2.out.2, fun _ h => .inl h, fun k hk => hk.imp id (fun h => by have h1 := (own_type O16.out h).1; have h3 := BL.out.size; omega)⟩
      · go_simp
        have B2 := hide (bel_al BW.out (.cells #[.int .i64 t, .int .i64 m, .int .u64 z] 41))
        refine hK1.out _ _ (S3.out.al B2.out) (fun hH => ?_)
        clear hK1 K1
        replace O5 := hide (And.intro (((bel_new X1 (.cells #[.int .i64 t, .int .i64 m, .int .u64 z] 41)).block _ (lt_of_blk O5.out.1)).trans O5.out.1) O5.out.2)
        have V15 := hide (Val.new X1 t m z)
        replace BW := B2
        clear B2
        generalize X1.alloc (.cells #[.int .i64 t, .int .i64 m, .int .u64 z] 41) = X2 at *
        refine wpAnyH_ready (rs := [13]) (by kernel_rfl) (by decide) ?_
        refine AllReadyH.cons rfl (fun K1 hK1 => ?_) AllReadyH.nil
        have AP := hide (fun ty => app_copy (xs := vcs f) Tryd.underlying46 info_val rfl (by decide) O5.out.1 O5.out.2 (own_keep OQ.out (fun k hk => BW.out.block k (own_type OQ.out hk).2.1)) hfl7 (vcs_one _) BW.out.size ty)
        refine step_appV (TS := 46) (.tmp 49) (.tmp 56) _ _ _ (fun ty => AP.out ty) rfl rfl rfl rfl ?_
        rintro v9 X3 ⟨⟨a9, c9, rfl⟩, o9, b9, _⟩
        have B2 := hide (bel_trans BW.out b9)
        refine hK1.out _ _ (S3.out.al B2.out) (fun hH => ?_)
        clear hK1 K1 AP
        replace V15 := hide (V15.out.al b9)
        have O13 := hide o9
        replace BW := B2
        clear B2 o9 b9 O5
        refine wpAnyH_ready (rs := [16]) (by kernel_rfl) (by decide) ?_
        refine AllReadyH.cons rfl (fun K1 hK1 => ?_) AllReadyH.nil
        have AP := hide (fun ty => push_b O13.out BW.out.size hfl7 t m z V15.out ty)
        refine step_appV (TS := 46) (.tmp 57) (.tmp 59) _ _ _ (fun ty => AP.out ty) rfl rfl rfl rfl ?_
        rintro v9 X4 ⟨⟨a8, c8, rfl⟩, o9, g9⟩
        have B2 := hide (BW.out.grown g9 BW.out.size (fun k hk => (own_type O13.out hk).1))
        refine hK1.out _ _ (S3.out.al B2.out) (fun hH => ?_)
        clear hK1 K1 AP
        have O16 := hide o9
        replace BW := B2
        clear B2 o9 g9 O13 V15
        refine wpAnyH_take (i := 17) (v := ?_) rfl (by kernel_rfl) (by kernel_rfl) (by kernel_rfl) (fun _ _ _ h => h) (Or.inl ⟨by rfl, ?_⟩) hH ?_
        rotate_left 1
        · (intro w hSw; skip; clear hSw; go_simp <;> with_reducible rfl)
        simp only [Act.put, List.getElem_toArray, List.getElem_cons_zero, List.getElem_cons_succ, List.setIfInBounds_toArray, List.set_cons_zero, List.set_cons_succ]
        refine wpAnyH_ready (rs := [18]) (by kernel_rfl) (by decide) ?_
        refine AllReadyH.cons rfl (fun K1 hK1 => ?_) AllReadyH.nil
        have q1 := (BW.out.cell (p := ⟨bS, i, none⟩) hbS).trans DS.out
        have q2 := (BW.out.frozen (p := ⟨bS, i, none⟩) hbS).trans DF.out
        go_simp
        refine hK1.out _ _ (hH.set hne1 hne2 _ _) (fun hH => ?_)
        clear hK1 K1 q1 q2
        refine wpAnyH_done (by kernel_rfl) ?_ _
        clear hH
        obtain ⟨SR, SC⟩ := (R3.out.bel BW.out).setS HN.out i q (t, m, z) _ _ HX.out HT.out hr rfl HQ.out.1 HQ.out.2.1 HQ.out.2.2 (own_zero O16.out) (fun k hk hF => by have h1 := (own_type O16.out hk).1; have h2 := HFL.out k hF; have h3 := BL.out.size; omega)
        have SR2 := hide (And.intro SR SC)
        clear SR SC
        go_wp2_with fail
        go_ret2
        exact ⟨rfl, _, _, ⟨_, _, _, _, _, _, _, _, SR2.out.1⟩, (Ch.of_bel (bel_trans BL.out BW.out)).trans SR2.out.2, fun _ h => .inl h, fun k hk => hk.imp id (fun h => by have h1 := (own_type O16.out h).1; have h3 := BL.out.size; omega)⟩
    · go_simp
      have B2 := hide (bel_al BW.out (.cells #[.int .i64 t, .int .i64 m, .int .u64 z] 41))
      refine hK1.out _ _ (S3.out.al B2.out) (fun hH => ?_)
      clear hK1 K1
      have V15 := hide (Val.new W3 t m z)
      replace BW := B2
      clear B2
      generalize W3.alloc (.cells #[.int .i64 t, .int .i64 m, .int .u64 z] 41) = X1 at *
      refine wpAnyH_ready (rs := [5]) (by kernel_rfl) (by decide) ?_
      refine AllReadyH.cons rfl (fun K1 hK1 => ?_) AllReadyH.nil
      go_simp
      have B2 := hide (bel_al BW.out (.cells #[] 41))
      refine hK1.out _ _ (S3.out.al B2.out) (fun hH => ?_)
      clear hK1 K1
      replace V15 := hide (V15.out.al (bel_new X1 (.cells #[] 41)))
      have O5 := hide (And.intro (Go.Deep.blk_alloc_new X1 (.cells #[] 41)) BW.out.size)
      replace BW := B2
      clear B2
      generalize X1.alloc (.cells #[] 41) = X2 at *
      refine wpAnyH_ready (rs := [13]) (by kernel_rfl) (by decide) ?_
      refine AllReadyH.cons rfl (fun K1 hK1 => ?_) AllReadyH.nil
      have AP := hide (fun ty => app_copy (xs := vcs f) Tryd.underlying46 info_val rfl (by decide) O5.out.1 O5.out.2 (own_keep OQ.out (fun k hk => BW.out.block k (own_type OQ.out hk).2.1)) hfl7 (vcs_one _) BW.out.size ty)
      refine step_appV (TS := 46) (.tmp 49) (.tmp 56) _ _ _ (fun ty => AP.out ty) rfl rfl rfl rfl ?_
      rintro v9 X3 ⟨⟨a9, c9, rfl⟩, o9, b9, _⟩
      have B2 := hide (bel_trans BW.out b9)
      refine hK1.out _ _ (S3.out.al B2.out) (fun hH => ?_)
      clear hK1 K1 AP
      replace V15 := hide (V15.out.al b9)
      have O13 := hide o9
      replace BW := B2
      clear B2 o9 b9 O5
      refine wpAnyH_ready (rs := [16]) (by kernel_rfl) (by decide) ?_
      refine AllReadyH.cons rfl (fun K1 hK1 => ?_) AllReadyH.nil
      have AP := hide (fun ty => push_b O13.out BW.out.size hfl7 t m z V15.out ty)
      refine step_appV (TS := 46) (.tmp 57) (.tmp 59) _ _ _ (fun ty => AP.out ty) rfl rfl rfl rfl ?_
      rintro v9 X4 ⟨⟨a8, c8, rfl⟩, o9, g9⟩
      have B2 := hide (BW.out.grown g9 BW.out.size (fun k hk => (own_type O13.out hk).1))
      refine hK1.out _ _ (S3.out.al B2.out) (fun hH => ?_)
      clear hK1 K1 AP
      have O16 := hide o9
      replace BW := B2
      clear B2 o9 g9 O13 V15
      refine wpAnyH_take (i := 17) (v := ?_) rfl (by kernel_rfl) (by kernel_rfl) (by kernel_rfl) (fun _ _ _ h => h) (Or.inl ⟨by rfl, ?_⟩) hH ?_
      rotate_left 1
      · (intro w hSw; skip; clear hSw; go_simp <;> with_reducible rfl)
      simp only [Act.put, List.getElem_toArray, List.getElem_cons_zero, List.getElem_cons_succ, List.setIfInBounds_toArray, List.set_cons_zero, List.set_cons_succ]
      refine wpAnyH_ready (rs := [18]) (by kernel_rfl) (by decide) ?_
      refine AllReadyH.cons rfl (fun K1 hK1 => ?_) AllReadyH.nil
      have q1 := (BW.out.cell (p := ⟨bS, i, none⟩) hbS).trans DS.out
      have q2 := (BW.out.frozen (p := ⟨bS, i, none⟩) hbS).trans DF.out
      go_simp
      refine hK1.out _ _ (hH.set hne1 hne2 _ _) (fun hH => ?_)
      clear hK1 K1 q1 q2
      refine wpAnyH_done (by kernel_rfl) ?_ _
      clear hH
      obtain ⟨SR, SC⟩ := (R3.out.bel BW.out).setS HN.out i q (t, m, z) _ _ HX.out HT.out hr rfl HQ.out.1 HQ.out.2.1 HQ.out.2.2 (own_zero O16.out) (fun k hk hF => by have h1 := (own_type O16.out hk).1; have h2 := HFL.out k hF; have h3 := BL.out.size; omega)
      have SR2 := hide (And.intro SR SC)
      clear SR SC
      go_wp2_with fail
      go_ret2
      exact ⟨rfl, _, _, ⟨_, _, _, _, _, _, _, _, SR2.out.1⟩, (Ch.of_bel (bel_trans BL.out BW.out)).trans SR2.out.2, fun _ h => .inl h, fun k hk => hk.imp id (fun h => by have h1 := (own_type O16.out h).1; have h3 := BL.out.size; omega)⟩
  · go_simp
    have B2 := hide (bel_al BW.out (.cells #[.int .i64 t, .int .i64 m, .int .u64 z] 41))
    refine hK1.out _ _ (S3.out.al B2.out) (fun hH => ?_)
    clear hK1 K1
    have V15 := hide (Val.new W3 t m z)
    replace BW := B2
    clear B2
    generalize W3.alloc (.cells #[.int .i64 t, .int .i64 m, .int .u64 z] 41) = X0 at *
    refine wpAnyH_ready (rs := [5, 12]) (by kernel_rfl) (by decide) ?_
    refine AllReadyH.cons rfl (fun K1 hK1 => ?_) (AllReadyH.cons rfl (fun K1 hK1 => ?_) AllReadyH.nil)
    · go_simp
      have B2 := hide (bel_al BW.out (.cells #[] 41))
      refine hK1.out _ _ (S3.out.al B2.out) (fun hH => ?_)
      clear hK1 K1
      replace V15 := hide (V15.out.al (bel_new X0 (.cells #[] 41)))
      have O5 := hide (And.intro (Go.Deep.blk_alloc_new X0 (.cells #[] 41)) BW.out.size)
      replace BW := B2
      clear B2
      generalize X0.alloc (.cells #[] 41) = X1 at *
      refine wpAnyH_ready (rs := [12]) (by kernel_rfl) (by decide) ?_
      refine AllReadyH.cons rfl (fun K1 hK1 => ?_) AllReadyH.nil
      have q := (BW.out.cell (p := ⟨bS, i, none⟩) hbS).trans DS.out
      go_simp
      refine hK1.out _ _ hH (fun hH => ?_)
      clear hK1 K1 q
      refine wpAnyH_ready (rs := [13]) (by kernel_rfl) (by decide) ?_
      refine AllReadyH.cons rfl (fun K1 hK1 => ?_) AllReadyH.nil
      have AP := hide (fun ty => app_copy (xs := vcs f) Tryd.underlying46 info_val rfl (by decide) O5.out.1 O5.out.2 (own_keep OQ.out (fun k hk => BW.out.block k (own_type OQ.out hk).2.1)) hfl7 (vcs_one _) BW.out.size ty)
      refine step_appV (TS := 46) (.tmp 49) (.tmp 56) _ _ _ (fun ty => AP.out ty) rfl rfl rfl rfl ?_
      rintro v9 X3 ⟨⟨a9, c9, rfl⟩, o9, b9, _⟩
      have B2 := hide (bel_trans BW.out b9)
      refine hK1.out _ _ (S3.out.al B2.out) (fun hH => ?_)
      clear hK1 K1 AP
      replace V15 := hide (V15.out.al b9)
      have O13 := hide o9
      replace BW := B2
      clear B2 o9 b9 O5
      refine wpAnyH_ready (rs := [16]) (by kernel_rfl) (by decide) ?_
      refine AllReadyH.cons rfl (fun K1 hK1 => ?_) AllReadyH.nil
      have AP := hide (fun ty => push_b O13.out BW.out.size hfl7 t m z V15.out ty)
      refine step_appV (TS := 46) (.tmp 57) (.tmp 59) _ _ _ (fun ty => AP.out ty) rfl rfl rfl rfl ?_
      rintro v9 X4 ⟨⟨a8, c8, rfl⟩, o9, g9⟩
      have B2 := hide (BW.out.grown g9 BW.out.size (fun k hk => (own_type O13.out hk).1))
      refine hK1.out _ _ (S3.out.al B2.out) (fun hH => ?_)
      clear hK1 K1 AP
      have O16 := hide o9
      replace BW := B2
      clear B2 o9 g9 O13 V15
      refine wpAnyH_take (i := 17) (v := ?_) rfl (by kernel_rfl) (by kernel_rfl) (by kernel_rfl) (fun _ _ _ h => h) (Or.inl ⟨by rfl, ?_⟩) hH ?_
      rotate_left 1
      · (intro w hSw; skip; clear hSw; go_simp <;> with_reducible rfl)
      simp only [Act.put, List.getElem_toArray, List.getElem_cons_zero, List.getElem_cons_succ, List.setIfInBounds_toArray, List.set_cons_zero, List.set_cons_succ]
      refine wpAnyH_ready (rs := [18]) (by kernel_rfl) (by decide) ?_
      refine AllReadyH.cons rfl (fun K1 hK1 => ?_) AllReadyH.nil
      have q1 := (BW.out.cell (p := ⟨bS, i, none⟩) hbS).trans DS.out
      have q2 := (BW.out.frozen (p := ⟨bS, i, none⟩) hbS).trans DF.out
      go_simp
      refine hK1.out _ _ (hH.set hne1 hne2 _ _) (fun hH => ?_)
      clear hK1 K1 q1 q2
      refine wpAnyH_done (by kernel_rfl) ?_ _
      clear hH
      obtain ⟨SR, SC⟩ := (R3.out.bel BW.out).setS HN.out i q (t, m, z) _ _ HX.out HT.out hr rfl HQ.out.1 HQ.out.2.1 HQ.out.2.2 (own_zero O16.out) (fun k hk hF => by have h1 := (own_type O16.out hk).1; have h2 := HFL.out k hF; have h3 := BL.out.size; omega)
      have SR2 := hide (And.intro SR SC)
      clear SR SC
      go_wp2_with fail
      go_ret2
      exact ⟨rfl, _, _, ⟨_, _, _, _, _, _, _, _, SR2.out.1⟩, (Ch.of_bel (bel_trans BL.out BW.out)).trans SR2.out.2, fun _ h => .inl h, fun k hk => hk.imp id (fun h => by have h1 := (own_type O16.out h).1; have h3 := BL.out.size; omega)⟩
    · have q := (BW.out.cell (p := ⟨bS, i, none⟩) hbS).trans DS.out
      go_simp
      refine hK1.out _ _ hH (fun hH => ?_)
      clear hK1 K1 q
      refine wpAnyH_ready (rs := [5]) (by kernel_rfl) (by decide) ?_
      refine AllReadyH.cons rfl (fun K1 hK1 => ?_) AllReadyH.nil
      go_simp
      have B2 := hide (bel_al BW.out (.cells #[] 41))
      refine hK1.out _ _ (S3.out.al B2.out) (fun hH => ?_)
      clear hK1 K1
      replace V15 := hide (V15.out.al (bel_new X0 (.cells #[] 41)))
      have O5 := hide (And.intro (Go.Deep.blk_alloc_new X0 (.cells #[] 41)) BW.out.size)
      replace BW := B2
      clear B2
      generalize X0.alloc (.cells #[] 41) = X2 at *
      refine wpAnyH_ready (rs := [13]) (by kernel_rfl) (by decide) ?_
      refine AllReadyH.cons rfl (fun K1 hK1 => ?_) AllReadyH.nil
      have AP := hide (fun ty => app_copy (xs := vcs f) Tryd.underlying46 info_val rfl (by decide) O5.out.1 O5.out.2 (own_keep OQ.out (fun k hk => BW.out.block k (own_type OQ.out hk).2.1)) hfl7 (vcs_one _) BW.out.size ty)
      refine step_appV (TS := 46) (.tmp 49) (.tmp 56) _ _ _ (fun ty => AP.out ty) rfl rfl rfl rfl ?_
      rintro v9 X3 ⟨⟨a9, c9, rfl⟩, o9, b9, _⟩
      have B2 := hide (bel_trans BW.out b9)
      refine hK1.out _ _ (S3.out.al B2.out) (fun hH => ?_)
      clear hK1 K1 AP
      replace V15 := hide (V15.out.al b9)
      have O13 := hide o9
      replace BW := B2
      clear B2 o9 b9 O5
      refine wpAnyH_ready (rs := [16]) (by kernel_rfl) (by decide) ?_
      refine AllReadyH.cons rfl (fun K1 hK1 => ?_) AllReadyH.nil
      have AP := hide (fun ty => push_b O13.out BW.out.size hfl7 t m z V15.out ty)
      refine step_appV (TS := 46) (.tmp 57) (.tmp 59) _ _ _ (fun ty => AP.out ty) rfl rfl rfl rfl ?_
      rintro v9 X4 ⟨⟨a8, c8, rfl⟩, o9, g9⟩
      have B2 := hide (BW.out.grown g9 BW.out.size (fun k hk => (own_type O13.out hk).1))
      refine hK1.out _ _ (S3.out.al B2.out) (fun hH => ?_)
      clear hK1 K1 AP
      have O16 := hide o9
      replace BW := B2
      clear B2 o9 g9 O13 V15
      refine wpAnyH_take (i := 17) (v := ?_) rfl (by kernel_rfl) (by kernel_rfl) (by kernel_rfl) (fun _ _ _ h => h) (Or.inl ⟨by rfl, ?_⟩) hH ?_
      rotate_left 1
      · (intro w hSw; skip; clear hSw; go_simp <;> with_reducible rfl)
      simp only [Act.put, List.getElem_toArray, List.getElem_cons_zero, List.getElem_cons_succ, List.setIfInBounds_toArray, List.set_cons_zero, List.set_cons_succ]
      refine wpAnyH_ready (rs := [18]) (by kernel_rfl) (by decide) ?_
      refine AllReadyH.cons rfl (fun K1 hK1 => ?_) AllReadyH.nil
      have q1 := (BW.out.cell (p := ⟨bS, i, none⟩) hbS).trans DS.out
      have q2 := (BW.out.frozen (p := ⟨bS, i, none⟩) hbS).trans DF.out
      go_simp
      refine hK1.out _ _ (hH.set hne1 hne2 _ _) (fun hH => ?_)
      clear hK1 K1 q1 q2
      refine wpAnyH_done (by kernel_rfl) ?_ _
      clear hH
      obtain ⟨SR, SC⟩ := (R3.out.bel BW.out).setS HN.out i q (t, m, z) _ _ HX.out HT.out hr rfl HQ.out.1 HQ.out.2.1 HQ.out.2.2 (own_zero O16.out) (fun k hk hF => by have h1 := (own_type O16.out hk).1; have h2 := HFL.out k hF; have h3 := BL.out.size; omega)
      have SR2 := hide (And.intro SR SC)
      clear SR SC
      go_wp2_with fail
      go_ret2
      exact ⟨rfl, _, _, ⟨_, _, _, _, _, _, _, _, SR2.out.1⟩, (Ch.of_bel (bel_trans BL.out BW.out)).trans SR2.out.2, fun _ h => .inl h, fun k hk => hk.imp id (fun h => by have h1 := (own_type O16.out h).1; have h3 := BL.out.size; omega)⟩
end Go.Proofs.YtghfjnnmpmfboaaDoor.Ck
