/- The document's Copy. (Written by mk_y.py.) -/
import Derived.Test.YtghfjnnmpmfboaaDoorZk
namespace Go.Proofs.YtghfjnnmpmfboaaDoor.Ck
open Go.RowKit

theorem ccs_one : ∀ C : List Qu, ∀ u ∈ ccs C, u.oneCell' = true
  | [], u, h => by simp [ccs] at h
  | q :: C, u, h => by
    simp only [ccs, List.mem_cons] at h
    rcases h with rfl | rfl | h
    · rfl
    · rfl
    · exact ccs_one C u h

theorem copy_made {W0 w : World} {F R : Nat → Prop} {B g : Nat} {s : St} {vP vL vC vS vT vA : Value} {ss : List Value} {tk : List Int} {u : Nat → Value} (h : Rv W0 F R B g s vP vL vC vS vT vA ss tk) (hB1 : B ≤ 1000000)
    (k0 : (∃ a c, u 5 = .slice a s.P.length c) ∧ w.ownsRow W0.heap.size 41 3 (u 5) s.P.length (vcs s.P)) (k1 : (∃ a c, u 11 = .slice a s.M.length c) ∧ w.ownsRow W0.heap.size 4 1 (u 11) s.M.length (bls s.M))
    (k2 : (∃ a c, u 17 = .slice a s.C.length c) ∧ w.ownsRow W0.heap.size 52 2 (u 17) s.C.length (ccs s.C)) (k3 : (∃ a c, u 23 = .slice a s.C.length c) ∧ w.ownsRow W0.heap.size 46 1 (u 23) s.C.length ss)
    (k4 : (∃ a c, u 29 = .slice a s.C.length c) ∧ w.ownsRow W0.heap.size 3 1 (u 29) s.C.length (nts tk)) (k5 : (∃ a c, u 35 = .slice a s.A.length c) ∧ w.ownsRow W0.heap.size 3 1 (u 35) s.A.length (nts s.A) ∧ ∀ k, (u 29).ownBlock = some k → (u 35).ownBlock = some k → s.A.length = 0)
    (k6 : u 36 = .agg #[u 5, u 11, u 17, u 23, u 29, u 35]) (k7 : ∃ gd cs, u 37 = .pointer (some ⟨gd, 0, none⟩) ∧ u 36 = .agg cs ∧ W0.heap.size ≤ gd ∧ w.heap[gd]? = some (.cells cs 50 (0, 0))) (k8 : Below W0.heap.size W0 w ∧ u 38 = u 37) :
    ∃ gd F', u 38 = .pointer (some ⟨gd, 0, none⟩) ∧ Rt w F' R B gd s ∧ (∀ k, F' k → W0.heap.size ≤ k) ∧ Below W0.heap.size W0 w := by
  obtain ⟨gd, cs, e1, e2, hgd, hcs⟩ := k7
  rw [k6] at e2
  cases e2
  obtain ⟨hB, e38⟩ := k8
  have _ := hB1
  refine ⟨gd, fun k => k = gd ∨ (u 5).ownBlock = some k ∨ (u 11).ownBlock = some k ∨ (u 17).ownBlock = some k ∨ (u 23).ownBlock = some k ∨ (u 29).ownBlock = some k ∨ (u 35).ownBlock = some k, e38.trans e1, ⟨_, _, _, _, _, _, ss, tk, { at_ := hcs, pl := own_zero k0.2, lo := own_zero k1.2, ch := own_zero k2.2, se := own_zero k3.2, ta := own_zero k4.2, ato := own_zero k5.2.1, q := fun i q v t hq hv ht => ?_, ne := fun k h1 h2 => .inr (k5.2.2 k h1 h2), fg := .inl rfl, fP := fun k hk => .inr (.inl hk), fL := fun k hk => .inr (.inr (.inl hk)), fC := fun k hk => .inr (.inr (.inr (.inl hk))), fS := fun k hk => .inr (.inr (.inr (.inr (.inl hk)))), fT := fun k hk => .inr (.inr (.inr (.inr (.inr (.inl hk))))), fA := fun k hk => .inr (.inr (.inr (.inr (.inr (.inr hk))))), fb := fun k hk => ?_, rb := fun k hk => Nat.lt_of_lt_of_le (h.rb k hk) hB.size, fr := fun k hk e => ?_, small := h.small, rooms := h.rooms }⟩, fun k hk => ?_, hB⟩
  · obtain ⟨f, n, h1, h2, h3, h4, h5, h6⟩ := h.q i q v t hq hv ht
    exact ⟨f, n, h1, h2, h3, h4, own_keep h5 (fun k hk => hB.block k (own_type h5 hk).2.1), h6⟩
  · rcases hk with rfl | hk | hk | hk | hk | hk | hk
    · exact lt_of_blk hcs
    · exact (own_type k0.2 hk).2.1
    · exact (own_type k1.2 hk).2.1
    · exact (own_type k2.2 hk).2.1
    · exact (own_type k3.2 hk).2.1
    · exact (own_type k4.2 hk).2.1
    · exact (own_type k5.2.1 hk).2.1
  · have hlt := h.rb k hk
    rcases e with rfl | e | e | e | e | e | e
    · omega
    · have := (own_type k0.2 e).1; omega
    · have := (own_type k1.2 e).1; omega
    · have := (own_type k2.2 e).1; omega
    · have := (own_type k3.2 e).1; omega
    · have := (own_type k4.2 e).1; omega
    · have := (own_type k5.2.1 e).1; omega
  · rcases hk with rfl | e | e | e | e | e | e
    · exact hgd
    · exact (own_type k0.2 e).1
    · exact (own_type k1.2 e).1
    · exact (own_type k2.2 e).1
    · exact (own_type k3.2 e).1
    · exact (own_type k4.2 e).1
    · exact (own_type k5.2.1 e).1
set_option maxRecDepth 20000 in
set_option maxHeartbeats 2000000 in
theorem rCopy_any {w : World} {F R : Nat → Prop} {B g : Nat} {s : St} (h : Rt w F R B g s) (hB1 : B ≤ 1000000) : Calls Tryd.prog 12 #[.pointer (some ⟨g, 0, none⟩)] w fun e w' => ∃ gd F', e = .returned (.pointer (some ⟨gd, 0, none⟩)) ∧ Rt w' F' R B gd s ∧ (∀ k, F' k → w.heap.size ≤ k) ∧ Below w.heap.size w w' := by
  obtain ⟨vP, vL, vC, vS, vT, vA, ss, tk, h⟩ := h
  have hsm := h.small
  have H0 := hide (h.bel (bel_drawn (Below.refl w.heap.size w)))
  have cc : KC (World.drew w) g vP vL vC vS vT vA s.P.length s.M.length s.C.length s.C.length s.C.length s.A.length (vcs s.P) (bls s.M) (ccs s.C) ss (nts tk) (nts s.A) := ⟨H0.out.at_, ⟨H0.out.pl, by omega, vcs_one _⟩, ⟨H0.out.lo, by omega, fun u hu => by unfold bls at hu; obtain ⟨x, _, rfl⟩ := List.mem_map.1 hu; rfl⟩, ⟨H0.out.ch, by omega, ccs_one _⟩, ⟨H0.out.se, by omega, fun u hu => ?_⟩, ⟨H0.out.ta, by omega, fun u hu => by unfold nts at hu; obtain ⟨x, _, rfl⟩ := List.mem_map.1 hu; rfl⟩, ⟨H0.out.ato, by omega, fun u hu => by unfold nts at hu; obtain ⟨x, _, rfl⟩ := List.mem_map.1 hu; rfl⟩⟩
  · clear h hsm
    go_enter Tryd.func12, Tryd.ntmps12
    go_wp2_with fail
    refine wp_fill slC (fun j => if j = 38 then 2 else 3 + j) (fun k j hk => by rcases slC_inj hk with ⟨h1, h2⟩ | ⟨h1, h2⟩ <;> simp [h1, h2] <;> omega) (fun a0 u0 ha0 => ?_)
    have hsz : 40 < a0.tmps.size := by rw [ha0]; simp
    have h0 : a0.eval (.tmp 0) = .pointer (some ⟨g, 0, none⟩) := by rw [ha0]; rfl
    refine wp_region_local (A := fill slC a0) (Fa := KF (World.drew w) g vP vL vC vS vT vA s.P.length s.M.length s.C.length s.C.length s.C.length s.A.length (vcs s.P) (bls s.M) (ccs s.C) ss (nts tk) (nts s.A)) (Ga := fun _ _ wx => Below (World.drew w).heap.size (World.drew w) wx) (Rel := fun _ _ wx wy => Below wx.heap.size wx wy) mixed (by kernel_rfl) (fun i j u v wx wy hij hd hj hr hf => kf_keep i j u v wx wy hij ⟨?_, ?_, ?_, ?_⟩ hj hr hf) (fun i j u v wx wy _ hr hf => bel_trans hf hr) ?_ ?_ ?_
    · intro e1 e2
      subst e1 e2
      exact absurd (hd.symm.trans (show _ = true by kernel_rfl)) (by decide)
    · intro e1
      subst e1
      refine ⟨?_, ?_, ?_, ?_, ?_, ?_⟩ <;> (intro e2; subst e2; exact absurd (hd.symm.trans (show _ = true by kernel_rfl)) (by decide))
    · intro e1 e2
      subst e1 e2
      exact absurd (hd.symm.trans (show _ = true by kernel_rfl)) (by decide)
    · intro e1 e2
      subst e1 e2
      exact absurd (hd.symm.trans (show _ = true by kernel_rfl)) (by decide)
    · intro i hi u wx hd hl hg
      obtain rfl | rfl | rfl | rfl | rfl | rfl | rfl | rfl | rfl | rfl | rfl | rfl | rfl | rfl | rfl | rfl | rfl | rfl | rfl | rfl | rfl | rfl | rfl | rfl | rfl | rfl | rfl | rfl | rfl | rfl | rfl | rfl | rfl | rfl | rfl | rfl | rfl | rfl | rfl : i = 0 ∨ i = 1 ∨ i = 2 ∨ i = 3 ∨ i = 4 ∨ i = 5 ∨ i = 6 ∨ i = 7 ∨ i = 8 ∨ i = 9 ∨ i = 10 ∨ i = 11 ∨ i = 12 ∨ i = 13 ∨ i = 14 ∨ i = 15 ∨ i = 16 ∨ i = 17 ∨ i = 18 ∨ i = 19 ∨ i = 20 ∨ i = 21 ∨ i = 22 ∨ i = 23 ∨ i = 24 ∨ i = 25 ∨ i = 26 ∨ i = 27 ∨ i = 28 ∨ i = 29 ∨ i = 30 ∨ i = 31 ∨ i = 32 ∨ i = 33 ∨ i = 34 ∨ i = 35 ∨ i = 36 ∨ i = 37 ∨ i = 38 := by have : i < 39 := hi; omega
      · refine wpOp_val rfl rfl (.slice (some ⟨wx.heap.size, 0, none⟩) 0 0) (wx.alloc (.cells #[] 41)) (by simp [execOp, go_sem]) ⟨_, fill_put (d := 3) rfl (fun k hk => by have := slC_inj hk; omega), bel_new _ _, bel_al hg _, wx.heap.size, upd_self _ _ _, hg.size, Go.Deep.blk_alloc_new _ _⟩
      · have e0 : (fill slC a0 u).eval (.tmp 0) = .pointer (some ⟨g, 0, none⟩) := (fill_out rfl).trans h0
        refine wpOp_val rfl rfl (.pointer (some ⟨g, 0, none⟩)) wx (by generalize (fill slC a0 u).eval = ev at *; simp [execOp, e0]) ⟨_, fill_put (d := 4) rfl (fun k hk => by have := slC_inj hk; omega), Below.refl _ _, hg, upd_self _ _ _⟩
      · have e4 : (fill slC a0 u).eval (.tmp 4) = u 1 := fill_in (by omega) rfl
        have f1 : u 1 = .pointer (some ⟨g, 0, none⟩) := (hd 1 (by kernel_rfl)).2
        rw [f1] at e4
        refine wpOp_val rfl rfl (.pointer (some ⟨g, 0, none⟩)) wx (by generalize (fill slC a0 u).eval = ev at *; simp [execOp, e4, go_sem]) ⟨_, fill_put (d := 5) rfl (fun k hk => by have := slC_inj hk; omega), Below.refl _ _, hg, upd_self _ _ _⟩
      · have e5 : (fill slC a0 u).eval (.tmp 5) = u 2 := fill_in (by omega) rfl
        have f2 : u 2 = .pointer (some ⟨g, 0, none⟩) := (hd 2 (by kernel_rfl)).2
        rw [f2] at e5
        refine wpOp_val rfl rfl (.pointer (some ⟨g, 0, none⟩)) wx (by generalize (fill slC a0 u).eval = ev at *; simp [execOp, e5, go_sem]) ⟨_, fill_put (d := 6) rfl (fun k hk => by have := slC_inj hk; omega), Below.refl _ _, hg, upd_self _ _ _⟩
      · have e6 : (fill slC a0 u).eval (.tmp 6) = u 3 := fill_in (by omega) rfl
        have f3 : u 3 = .pointer (some ⟨g, 0, none⟩) := (hd 3 (by kernel_rfl)).2
        rw [f3] at e6
        have hc : wx.cell? ⟨g, 0, none⟩ = some vP := (hg.cell (p := ⟨g, 0, none⟩) (lt_of_blk cc.g0)).trans (blk_cell cc.g0 0 _ rfl)
        refine wpOp_val rfl rfl vP wx (by generalize (fill slC a0 u).eval = ev at *; simp [execOp, e6, go_sem, hc]) ⟨_, fill_put (d := 7) rfl (fun k hk => by have := slC_inj hk; omega), Below.refl _ _, hg, upd_self _ _ _⟩
      · have e3 : (fill slC a0 u).eval (.tmp 3) = u 0 := fill_in (by omega) rfl
        obtain ⟨kx, fx1, fx2, fx3⟩ : ∃ k, u 0 = .slice (some ⟨k, 0, none⟩) 0 0 ∧ (World.drew w).heap.size ≤ k ∧ wx.heap[k]? = some (.cells #[] 41 (0, 0)) := (hd 0 (by kernel_rfl)).2
        rw [fx1] at e3
        have e7 : (fill slC a0 u).eval (.tmp 7) = u 4 := fill_in (by omega) rfl
        have f4 : u 4 = vP := (hd 4 (by kernel_rfl)).2
        rw [f4] at e7
        obtain ⟨v9, w9, hrun, ⟨a9, c9, e9⟩, o9, b9, f9⟩ := app_copy (xs := (vcs s.P)) Tryd.underlying46 info_val rfl (by decide) fx3 fx2 (own_keep cc.r0.1 (fun k hk => hg.block k (own_type cc.r0.1 hk).2.1)) (by have := cc.r0.2.1; omega) cc.r0.2.2 hg.size 46
        refine wpOp_val rfl rfl v9 w9 (by generalize (fill slC a0 u).eval = ev at *; simp only [List.getElem_toArray, List.getElem_cons_zero, List.getElem_cons_succ, execOp, resolve, invoke, builtin, Sem.run_bind, Sem.run_pure, Result.andThen_ok, List.map_toArray, List.map_cons, List.map_nil, e3, e7, hrun]) ⟨_, fill_put (d := 8) rfl (fun k hk => by have := slC_inj hk; omega), b9, bel_trans hg b9, ⟨a9, c9, (upd_self _ _ _).trans e9⟩, ?_⟩
        show World.ownsRow _ _ _ _ (upd u 5 v9 5) _ _
        rw [upd_self]
        exact o9
      · refine wpOp_val rfl rfl (.slice (some ⟨wx.heap.size, 0, none⟩) 0 0) (wx.alloc (.cells #[] 4)) (by simp [execOp, go_sem]) ⟨_, fill_put (d := 9) rfl (fun k hk => by have := slC_inj hk; omega), bel_new _ _, bel_al hg _, wx.heap.size, upd_self _ _ _, hg.size, Go.Deep.blk_alloc_new _ _⟩
      · have e0 : (fill slC a0 u).eval (.tmp 0) = .pointer (some ⟨g, 0, none⟩) := (fill_out rfl).trans h0
        refine wpOp_val rfl rfl (.pointer (some ⟨g, 0, none⟩)) wx (by generalize (fill slC a0 u).eval = ev at *; simp [execOp, e0]) ⟨_, fill_put (d := 10) rfl (fun k hk => by have := slC_inj hk; omega), Below.refl _ _, hg, upd_self _ _ _⟩
      · have e10 : (fill slC a0 u).eval (.tmp 10) = u 7 := fill_in (by omega) rfl
        have f7 : u 7 = .pointer (some ⟨g, 0, none⟩) := (hd 7 (by kernel_rfl)).2
        rw [f7] at e10
        refine wpOp_val rfl rfl (.pointer (some ⟨g, 0, none⟩)) wx (by generalize (fill slC a0 u).eval = ev at *; simp [execOp, e10, go_sem]) ⟨_, fill_put (d := 11) rfl (fun k hk => by have := slC_inj hk; omega), Below.refl _ _, hg, upd_self _ _ _⟩
      · have e11 : (fill slC a0 u).eval (.tmp 11) = u 8 := fill_in (by omega) rfl
        have f8 : u 8 = .pointer (some ⟨g, 0, none⟩) := (hd 8 (by kernel_rfl)).2
        rw [f8] at e11
        refine wpOp_val rfl rfl (.pointer (some ⟨g, 1, none⟩)) wx (by generalize (fill slC a0 u).eval = ev at *; simp [execOp, e11, go_sem]) ⟨_, fill_put (d := 12) rfl (fun k hk => by have := slC_inj hk; omega), Below.refl _ _, hg, upd_self _ _ _⟩
      · have e12 : (fill slC a0 u).eval (.tmp 12) = u 9 := fill_in (by omega) rfl
        have f9 : u 9 = .pointer (some ⟨g, 1, none⟩) := (hd 9 (by kernel_rfl)).2
        rw [f9] at e12
        have hc : wx.cell? ⟨g, 1, none⟩ = some vL := (hg.cell (p := ⟨g, 1, none⟩) (lt_of_blk cc.g0)).trans (blk_cell cc.g0 1 _ rfl)
        refine wpOp_val rfl rfl vL wx (by generalize (fill slC a0 u).eval = ev at *; simp [execOp, e12, go_sem, hc]) ⟨_, fill_put (d := 13) rfl (fun k hk => by have := slC_inj hk; omega), Below.refl _ _, hg, upd_self _ _ _⟩
      · have e9 : (fill slC a0 u).eval (.tmp 9) = u 6 := fill_in (by omega) rfl
        obtain ⟨kx, fx1, fx2, fx3⟩ : ∃ k, u 6 = .slice (some ⟨k, 0, none⟩) 0 0 ∧ (World.drew w).heap.size ≤ k ∧ wx.heap[k]? = some (.cells #[] 4 (0, 0)) := (hd 6 (by kernel_rfl)).2
        rw [fx1] at e9
        have e13 : (fill slC a0 u).eval (.tmp 13) = u 10 := fill_in (by omega) rfl
        have f10 : u 10 = vL := (hd 10 (by kernel_rfl)).2
        rw [f10] at e13
        obtain ⟨v9, w9, hrun, ⟨a9, c9, e9⟩, o9, b9, f9⟩ := app_copy (xs := (bls s.M)) Tryd.underlying47 info_bool rfl (by decide) fx3 fx2 (own_keep cc.r1.1 (fun k hk => hg.block k (own_type cc.r1.1 hk).2.1)) (by have := cc.r1.2.1; omega) cc.r1.2.2 hg.size 47
        refine wpOp_val rfl rfl v9 w9 (by generalize (fill slC a0 u).eval = ev at *; simp only [List.getElem_toArray, List.getElem_cons_zero, List.getElem_cons_succ, execOp, resolve, invoke, builtin, Sem.run_bind, Sem.run_pure, Result.andThen_ok, List.map_toArray, List.map_cons, List.map_nil, e9, e13, hrun]) ⟨_, fill_put (d := 14) rfl (fun k hk => by have := slC_inj hk; omega), b9, bel_trans hg b9, ⟨a9, c9, (upd_self _ _ _).trans e9⟩, ?_⟩
        show World.ownsRow _ _ _ _ (upd u 11 v9 11) _ _
        rw [upd_self]
        exact o9
      · refine wpOp_val rfl rfl (.slice (some ⟨wx.heap.size, 0, none⟩) 0 0) (wx.alloc (.cells #[] 52)) (by simp [execOp, go_sem]) ⟨_, fill_put (d := 15) rfl (fun k hk => by have := slC_inj hk; omega), bel_new _ _, bel_al hg _, wx.heap.size, upd_self _ _ _, hg.size, Go.Deep.blk_alloc_new _ _⟩
      · have e0 : (fill slC a0 u).eval (.tmp 0) = .pointer (some ⟨g, 0, none⟩) := (fill_out rfl).trans h0
        refine wpOp_val rfl rfl (.pointer (some ⟨g, 0, none⟩)) wx (by generalize (fill slC a0 u).eval = ev at *; simp [execOp, e0]) ⟨_, fill_put (d := 16) rfl (fun k hk => by have := slC_inj hk; omega), Below.refl _ _, hg, upd_self _ _ _⟩
      · have e16 : (fill slC a0 u).eval (.tmp 16) = u 13 := fill_in (by omega) rfl
        have f13 : u 13 = .pointer (some ⟨g, 0, none⟩) := (hd 13 (by kernel_rfl)).2
        rw [f13] at e16
        refine wpOp_val rfl rfl (.pointer (some ⟨g, 0, none⟩)) wx (by generalize (fill slC a0 u).eval = ev at *; simp [execOp, e16, go_sem]) ⟨_, fill_put (d := 17) rfl (fun k hk => by have := slC_inj hk; omega), Below.refl _ _, hg, upd_self _ _ _⟩
      · have e17 : (fill slC a0 u).eval (.tmp 17) = u 14 := fill_in (by omega) rfl
        have f14 : u 14 = .pointer (some ⟨g, 0, none⟩) := (hd 14 (by kernel_rfl)).2
        rw [f14] at e17
        refine wpOp_val rfl rfl (.pointer (some ⟨g, 2, none⟩)) wx (by generalize (fill slC a0 u).eval = ev at *; simp [execOp, e17, go_sem]) ⟨_, fill_put (d := 18) rfl (fun k hk => by have := slC_inj hk; omega), Below.refl _ _, hg, upd_self _ _ _⟩
      · have e18 : (fill slC a0 u).eval (.tmp 18) = u 15 := fill_in (by omega) rfl
        have f15 : u 15 = .pointer (some ⟨g, 2, none⟩) := (hd 15 (by kernel_rfl)).2
        rw [f15] at e18
        have hc : wx.cell? ⟨g, 2, none⟩ = some vC := (hg.cell (p := ⟨g, 2, none⟩) (lt_of_blk cc.g0)).trans (blk_cell cc.g0 2 _ rfl)
        refine wpOp_val rfl rfl vC wx (by generalize (fill slC a0 u).eval = ev at *; simp [execOp, e18, go_sem, hc]) ⟨_, fill_put (d := 19) rfl (fun k hk => by have := slC_inj hk; omega), Below.refl _ _, hg, upd_self _ _ _⟩
      · have e15 : (fill slC a0 u).eval (.tmp 15) = u 12 := fill_in (by omega) rfl
        obtain ⟨kx, fx1, fx2, fx3⟩ : ∃ k, u 12 = .slice (some ⟨k, 0, none⟩) 0 0 ∧ (World.drew w).heap.size ≤ k ∧ wx.heap[k]? = some (.cells #[] 52 (0, 0)) := (hd 12 (by kernel_rfl)).2
        rw [fx1] at e15
        have e19 : (fill slC a0 u).eval (.tmp 19) = u 16 := fill_in (by omega) rfl
        have f16 : u 16 = vC := (hd 16 (by kernel_rfl)).2
        rw [f16] at e19
        obtain ⟨v9, w9, hrun, ⟨a9, c9, e9⟩, o9, b9, f9⟩ := app_copy (xs := (ccs s.C)) Tryd.underlying23 info_chan rfl (by decide) fx3 fx2 (own_keep cc.r2.1 (fun k hk => hg.block k (own_type cc.r2.1 hk).2.1)) (by have := cc.r2.2.1; omega) cc.r2.2.2 hg.size 23
        refine wpOp_val rfl rfl v9 w9 (by generalize (fill slC a0 u).eval = ev at *; simp only [List.getElem_toArray, List.getElem_cons_zero, List.getElem_cons_succ, execOp, resolve, invoke, builtin, Sem.run_bind, Sem.run_pure, Result.andThen_ok, List.map_toArray, List.map_cons, List.map_nil, e15, e19, hrun]) ⟨_, fill_put (d := 20) rfl (fun k hk => by have := slC_inj hk; omega), b9, bel_trans hg b9, ⟨a9, c9, (upd_self _ _ _).trans e9⟩, ?_⟩
        show World.ownsRow _ _ _ _ (upd u 17 v9 17) _ _
        rw [upd_self]
        exact o9
      · refine wpOp_val rfl rfl (.slice (some ⟨wx.heap.size, 0, none⟩) 0 0) (wx.alloc (.cells #[] 46)) (by simp [execOp, go_sem]) ⟨_, fill_put (d := 21) rfl (fun k hk => by have := slC_inj hk; omega), bel_new _ _, bel_al hg _, wx.heap.size, upd_self _ _ _, hg.size, Go.Deep.blk_alloc_new _ _⟩
      · have e0 : (fill slC a0 u).eval (.tmp 0) = .pointer (some ⟨g, 0, none⟩) := (fill_out rfl).trans h0
        refine wpOp_val rfl rfl (.pointer (some ⟨g, 0, none⟩)) wx (by generalize (fill slC a0 u).eval = ev at *; simp [execOp, e0]) ⟨_, fill_put (d := 22) rfl (fun k hk => by have := slC_inj hk; omega), Below.refl _ _, hg, upd_self _ _ _⟩
      · have e22 : (fill slC a0 u).eval (.tmp 22) = u 19 := fill_in (by omega) rfl
        have f19 : u 19 = .pointer (some ⟨g, 0, none⟩) := (hd 19 (by kernel_rfl)).2
        rw [f19] at e22
        refine wpOp_val rfl rfl (.pointer (some ⟨g, 0, none⟩)) wx (by generalize (fill slC a0 u).eval = ev at *; simp [execOp, e22, go_sem]) ⟨_, fill_put (d := 23) rfl (fun k hk => by have := slC_inj hk; omega), Below.refl _ _, hg, upd_self _ _ _⟩
      · have e23 : (fill slC a0 u).eval (.tmp 23) = u 20 := fill_in (by omega) rfl
        have f20 : u 20 = .pointer (some ⟨g, 0, none⟩) := (hd 20 (by kernel_rfl)).2
        rw [f20] at e23
        refine wpOp_val rfl rfl (.pointer (some ⟨g, 3, none⟩)) wx (by generalize (fill slC a0 u).eval = ev at *; simp [execOp, e23, go_sem]) ⟨_, fill_put (d := 24) rfl (fun k hk => by have := slC_inj hk; omega), Below.refl _ _, hg, upd_self _ _ _⟩
      · have e24 : (fill slC a0 u).eval (.tmp 24) = u 21 := fill_in (by omega) rfl
        have f21 : u 21 = .pointer (some ⟨g, 3, none⟩) := (hd 21 (by kernel_rfl)).2
        rw [f21] at e24
        have hc : wx.cell? ⟨g, 3, none⟩ = some vS := (hg.cell (p := ⟨g, 3, none⟩) (lt_of_blk cc.g0)).trans (blk_cell cc.g0 3 _ rfl)
        refine wpOp_val rfl rfl vS wx (by generalize (fill slC a0 u).eval = ev at *; simp [execOp, e24, go_sem, hc]) ⟨_, fill_put (d := 25) rfl (fun k hk => by have := slC_inj hk; omega), Below.refl _ _, hg, upd_self _ _ _⟩
      · have e21 : (fill slC a0 u).eval (.tmp 21) = u 18 := fill_in (by omega) rfl
        obtain ⟨kx, fx1, fx2, fx3⟩ : ∃ k, u 18 = .slice (some ⟨k, 0, none⟩) 0 0 ∧ (World.drew w).heap.size ≤ k ∧ wx.heap[k]? = some (.cells #[] 46 (0, 0)) := (hd 18 (by kernel_rfl)).2
        rw [fx1] at e21
        have e25 : (fill slC a0 u).eval (.tmp 25) = u 22 := fill_in (by omega) rfl
        have f22 : u 22 = vS := (hd 22 (by kernel_rfl)).2
        rw [f22] at e25
        obtain ⟨v9, w9, hrun, ⟨a9, c9, e9⟩, o9, b9, f9⟩ := app_copy (xs := ss) Tryd.underlying48 info_slv rfl (by decide) fx3 fx2 (own_keep cc.r3.1 (fun k hk => hg.block k (own_type cc.r3.1 hk).2.1)) (by have := cc.r3.2.1; omega) cc.r3.2.2 hg.size 48
        refine wpOp_val rfl rfl v9 w9 (by generalize (fill slC a0 u).eval = ev at *; simp only [List.getElem_toArray, List.getElem_cons_zero, List.getElem_cons_succ, execOp, resolve, invoke, builtin, Sem.run_bind, Sem.run_pure, Result.andThen_ok, List.map_toArray, List.map_cons, List.map_nil, e21, e25, hrun]) ⟨_, fill_put (d := 26) rfl (fun k hk => by have := slC_inj hk; omega), b9, bel_trans hg b9, ⟨a9, c9, (upd_self _ _ _).trans e9⟩, ?_⟩
        show World.ownsRow _ _ _ _ (upd u 23 v9 23) _ _
        rw [upd_self]
        exact o9
      · refine wpOp_val rfl rfl (.slice (some ⟨wx.heap.size, 0, none⟩) 0 0) (wx.alloc (.cells #[] 3)) (by simp [execOp, go_sem]) ⟨_, fill_put (d := 27) rfl (fun k hk => by have := slC_inj hk; omega), bel_new _ _, bel_al hg _, wx.heap.size, upd_self _ _ _, hg.size, Go.Deep.blk_alloc_new _ _⟩
      · have e0 : (fill slC a0 u).eval (.tmp 0) = .pointer (some ⟨g, 0, none⟩) := (fill_out rfl).trans h0
        refine wpOp_val rfl rfl (.pointer (some ⟨g, 0, none⟩)) wx (by generalize (fill slC a0 u).eval = ev at *; simp [execOp, e0]) ⟨_, fill_put (d := 28) rfl (fun k hk => by have := slC_inj hk; omega), Below.refl _ _, hg, upd_self _ _ _⟩
      · have e28 : (fill slC a0 u).eval (.tmp 28) = u 25 := fill_in (by omega) rfl
        have f25 : u 25 = .pointer (some ⟨g, 0, none⟩) := (hd 25 (by kernel_rfl)).2
        rw [f25] at e28
        refine wpOp_val rfl rfl (.pointer (some ⟨g, 0, none⟩)) wx (by generalize (fill slC a0 u).eval = ev at *; simp [execOp, e28, go_sem]) ⟨_, fill_put (d := 29) rfl (fun k hk => by have := slC_inj hk; omega), Below.refl _ _, hg, upd_self _ _ _⟩
      · have e29 : (fill slC a0 u).eval (.tmp 29) = u 26 := fill_in (by omega) rfl
        have f26 : u 26 = .pointer (some ⟨g, 0, none⟩) := (hd 26 (by kernel_rfl)).2
        rw [f26] at e29
        refine wpOp_val rfl rfl (.pointer (some ⟨g, 4, none⟩)) wx (by generalize (fill slC a0 u).eval = ev at *; simp [execOp, e29, go_sem]) ⟨_, fill_put (d := 30) rfl (fun k hk => by have := slC_inj hk; omega), Below.refl _ _, hg, upd_self _ _ _⟩
      · have e30 : (fill slC a0 u).eval (.tmp 30) = u 27 := fill_in (by omega) rfl
        have f27 : u 27 = .pointer (some ⟨g, 4, none⟩) := (hd 27 (by kernel_rfl)).2
        rw [f27] at e30
        have hc : wx.cell? ⟨g, 4, none⟩ = some vT := (hg.cell (p := ⟨g, 4, none⟩) (lt_of_blk cc.g0)).trans (blk_cell cc.g0 4 _ rfl)
        refine wpOp_val rfl rfl vT wx (by generalize (fill slC a0 u).eval = ev at *; simp [execOp, e30, go_sem, hc]) ⟨_, fill_put (d := 31) rfl (fun k hk => by have := slC_inj hk; omega), Below.refl _ _, hg, upd_self _ _ _⟩
      · have e27 : (fill slC a0 u).eval (.tmp 27) = u 24 := fill_in (by omega) rfl
        obtain ⟨kx, fx1, fx2, fx3⟩ : ∃ k, u 24 = .slice (some ⟨k, 0, none⟩) 0 0 ∧ (World.drew w).heap.size ≤ k ∧ wx.heap[k]? = some (.cells #[] 3 (0, 0)) := (hd 24 (by kernel_rfl)).2
        rw [fx1] at e27
        have e31 : (fill slC a0 u).eval (.tmp 31) = u 28 := fill_in (by omega) rfl
        have f28 : u 28 = vT := (hd 28 (by kernel_rfl)).2
        rw [f28] at e31
        obtain ⟨v9, w9, hrun, ⟨a9, c9, e9⟩, o9, b9, f9⟩ := app_copy (xs := (nts tk)) Tryd.underlying22 info3 rfl (by decide) fx3 fx2 (own_keep cc.r4.1 (fun k hk => hg.block k (own_type cc.r4.1 hk).2.1)) (by have := cc.r4.2.1; omega) cc.r4.2.2 hg.size 22
        refine wpOp_val rfl rfl v9 w9 (by generalize (fill slC a0 u).eval = ev at *; simp only [List.getElem_toArray, List.getElem_cons_zero, List.getElem_cons_succ, execOp, resolve, invoke, builtin, Sem.run_bind, Sem.run_pure, Result.andThen_ok, List.map_toArray, List.map_cons, List.map_nil, e27, e31, hrun]) ⟨_, fill_put (d := 32) rfl (fun k hk => by have := slC_inj hk; omega), b9, bel_trans hg b9, ⟨a9, c9, (upd_self _ _ _).trans e9⟩, ?_⟩
        show World.ownsRow _ _ _ _ (upd u 29 v9 29) _ _
        rw [upd_self]
        exact o9
      · refine wpOp_val rfl rfl (.slice (some ⟨wx.heap.size, 0, none⟩) 0 0) (wx.alloc (.cells #[] 3)) (by simp [execOp, go_sem]) ⟨_, fill_put (d := 33) rfl (fun k hk => by have := slC_inj hk; omega), bel_new _ _, bel_al hg _, wx.heap.size, upd_self _ _ _, hg.size, Go.Deep.blk_alloc_new _ _⟩
      · have e0 : (fill slC a0 u).eval (.tmp 0) = .pointer (some ⟨g, 0, none⟩) := (fill_out rfl).trans h0
        refine wpOp_val rfl rfl (.pointer (some ⟨g, 0, none⟩)) wx (by generalize (fill slC a0 u).eval = ev at *; simp [execOp, e0]) ⟨_, fill_put (d := 34) rfl (fun k hk => by have := slC_inj hk; omega), Below.refl _ _, hg, upd_self _ _ _⟩
      · have e34 : (fill slC a0 u).eval (.tmp 34) = u 31 := fill_in (by omega) rfl
        have f31 : u 31 = .pointer (some ⟨g, 0, none⟩) := (hd 31 (by kernel_rfl)).2
        rw [f31] at e34
        refine wpOp_val rfl rfl (.pointer (some ⟨g, 0, none⟩)) wx (by generalize (fill slC a0 u).eval = ev at *; simp [execOp, e34, go_sem]) ⟨_, fill_put (d := 35) rfl (fun k hk => by have := slC_inj hk; omega), Below.refl _ _, hg, upd_self _ _ _⟩
      · have e35 : (fill slC a0 u).eval (.tmp 35) = u 32 := fill_in (by omega) rfl
        have f32 : u 32 = .pointer (some ⟨g, 0, none⟩) := (hd 32 (by kernel_rfl)).2
        rw [f32] at e35
        refine wpOp_val rfl rfl (.pointer (some ⟨g, 5, none⟩)) wx (by generalize (fill slC a0 u).eval = ev at *; simp [execOp, e35, go_sem]) ⟨_, fill_put (d := 36) rfl (fun k hk => by have := slC_inj hk; omega), Below.refl _ _, hg, upd_self _ _ _⟩
      · have e36 : (fill slC a0 u).eval (.tmp 36) = u 33 := fill_in (by omega) rfl
        have f33 : u 33 = .pointer (some ⟨g, 5, none⟩) := (hd 33 (by kernel_rfl)).2
        rw [f33] at e36
        have hc : wx.cell? ⟨g, 5, none⟩ = some vA := (hg.cell (p := ⟨g, 5, none⟩) (lt_of_blk cc.g0)).trans (blk_cell cc.g0 5 _ rfl)
        refine wpOp_val rfl rfl vA wx (by generalize (fill slC a0 u).eval = ev at *; simp [execOp, e36, go_sem, hc]) ⟨_, fill_put (d := 37) rfl (fun k hk => by have := slC_inj hk; omega), Below.refl _ _, hg, upd_self _ _ _⟩
      · have e33 : (fill slC a0 u).eval (.tmp 33) = u 30 := fill_in (by omega) rfl
        obtain ⟨kx, fx1, fx2, fx3⟩ : ∃ k, u 30 = .slice (some ⟨k, 0, none⟩) 0 0 ∧ (World.drew w).heap.size ≤ k ∧ wx.heap[k]? = some (.cells #[] 3 (0, 0)) := (hd 30 (by kernel_rfl)).2
        rw [fx1] at e33
        have e37 : (fill slC a0 u).eval (.tmp 37) = u 34 := fill_in (by omega) rfl
        have f34 : u 34 = vA := (hd 34 (by kernel_rfl)).2
        rw [f34] at e37
        obtain ⟨⟨a29, c29, q29⟩, o29⟩ : (∃ a c, u 29 = .slice a s.C.length c) ∧ wx.ownsRow (World.drew w).heap.size 3 1 (u 29) s.C.length (nts tk) := (hd 29 (by kernel_rfl)).2
        obtain ⟨v9, w9, hrun, ⟨a9, c9, e9⟩, o9, b9, f9⟩ := app_copy (xs := (nts s.A)) Tryd.underlying22 info3 rfl (by decide) fx3 fx2 (own_keep cc.r5.1 (fun k hk => hg.block k (own_type cc.r5.1 hk).2.1)) (by have := cc.r5.2.1; omega) cc.r5.2.2 hg.size 22
        refine wpOp_val rfl rfl v9 w9 (by generalize (fill slC a0 u).eval = ev at *; simp only [List.getElem_toArray, List.getElem_cons_zero, List.getElem_cons_succ, execOp, resolve, invoke, builtin, Sem.run_bind, Sem.run_pure, Result.andThen_ok, List.map_toArray, List.map_cons, List.map_nil, e33, e37, hrun]) ⟨_, fill_put (d := 38) rfl (fun k hk => by have := slC_inj hk; omega), b9, bel_trans hg b9, ⟨a9, c9, (upd_self _ _ _).trans e9⟩, ?_, ?_⟩
        · show World.ownsRow _ _ _ _ (upd u 35 v9 35) _ _
          rw [upd_self]
          exact o9
        · intro k h1 h2
          rw [upd_ne u _ (by decide)] at h1
          rw [upd_self] at h2
          rcases f9 k h2 with h3 | h3
          · have := (own_type o29 h1).2.1
            omega
          · exact h3
      · have e8 : (fill slC a0 u).eval (.tmp 8) = u 5 := fill_in (by omega) rfl
        obtain ⟨⟨a5, c5, q5⟩, _⟩ : (∃ a c, u 5 = .slice a s.P.length c) ∧ wx.ownsRow (World.drew w).heap.size 41 3 (u 5) s.P.length (vcs s.P) := (hd 5 (by kernel_rfl)).2
        rw [q5] at e8
        have e14 : (fill slC a0 u).eval (.tmp 14) = u 11 := fill_in (by omega) rfl
        obtain ⟨⟨a11, c11, q11⟩, _⟩ : (∃ a c, u 11 = .slice a s.M.length c) ∧ wx.ownsRow (World.drew w).heap.size 4 1 (u 11) s.M.length (bls s.M) := (hd 11 (by kernel_rfl)).2
        rw [q11] at e14
        have e20 : (fill slC a0 u).eval (.tmp 20) = u 17 := fill_in (by omega) rfl
        obtain ⟨⟨a17, c17, q17⟩, _⟩ : (∃ a c, u 17 = .slice a s.C.length c) ∧ wx.ownsRow (World.drew w).heap.size 52 2 (u 17) s.C.length (ccs s.C) := (hd 17 (by kernel_rfl)).2
        rw [q17] at e20
        have e26 : (fill slC a0 u).eval (.tmp 26) = u 23 := fill_in (by omega) rfl
        obtain ⟨⟨a23, c23, q23⟩, _⟩ : (∃ a c, u 23 = .slice a s.C.length c) ∧ wx.ownsRow (World.drew w).heap.size 46 1 (u 23) s.C.length ss := (hd 23 (by kernel_rfl)).2
        rw [q23] at e26
        have e32 : (fill slC a0 u).eval (.tmp 32) = u 29 := fill_in (by omega) rfl
        obtain ⟨⟨a29, c29, q29⟩, _⟩ : (∃ a c, u 29 = .slice a s.C.length c) ∧ wx.ownsRow (World.drew w).heap.size 3 1 (u 29) s.C.length (nts tk) := (hd 29 (by kernel_rfl)).2
        rw [q29] at e32
        have e38 : (fill slC a0 u).eval (.tmp 38) = u 35 := fill_in (by omega) rfl
        obtain ⟨⟨a35, c35, q35⟩, _⟩ : (∃ a c, u 35 = .slice a s.A.length c) ∧ wx.ownsRow (World.drew w).heap.size 3 1 (u 35) s.A.length (nts s.A) ∧ ∀ k, (u 29).ownBlock = some k → (u 35).ownBlock = some k → s.A.length = 0 := (hd 35 (by kernel_rfl)).2
        rw [q35] at e38
        refine wpOp_val rfl rfl (.agg #[u 5, u 11, u 17, u 23, u 29, u 35]) wx (by rw [q5, q11, q17, q23, q29, q35]; generalize (fill slC a0 u).eval = ev at *; simp [execOp, e8, e14, e20, e26, e32, e38, go_sem]) ⟨_, fill_put (d := 39) rfl (fun k hk => by have := slC_inj hk; omega), Below.refl _ _, hg, ?_⟩
        show upd u 36 _ 36 = _
        rw [upd_self]
        simp [upd]
      · have e39 : (fill slC a0 u).eval (.tmp 39) = u 36 := fill_in (by omega) rfl
        have f36 : u 36 = .agg #[u 5, u 11, u 17, u 23, u 29, u 35] := (hd 36 (by kernel_rfl)).2
        refine wpOp_val rfl rfl (.pointer (some ⟨wx.heap.size, 0, none⟩)) (wx.alloc (.cells #[u 5, u 11, u 17, u 23, u 29, u 35] 50)) (by rw [f36] at e39; generalize (fill slC a0 u).eval = ev at *; simp [execOp, e39, go_sem]) ⟨_, fill_put (d := 40) rfl (fun k hk => by have := slC_inj hk; omega), bel_new _ _, bel_al hg _, wx.heap.size, #[u 5, u 11, u 17, u 23, u 29, u 35], upd_self _ _ _, (upd_ne u _ (by decide)).trans f36, hg.size, Go.Deep.blk_alloc_new _ _⟩
      · have e40 : (fill slC a0 u).eval (.tmp 40) = u 37 := fill_in (by omega) rfl
        refine wpOp_val rfl rfl (u 37) wx (by generalize (fill slC a0 u).eval = ev at *; simp [execOp, e40]) ⟨_, fill_put (d := 2) rfl (fun k hk => by have := slC_inj hk; omega), Below.refl _ _, hg, ?_⟩
        show upd u 38 (u 37) 38 = upd u 38 (u 37) 37
        rw [upd_self, upd_ne u _ (by decide)]
    · intro u wx hall
      have P9 := hide (copy_made H0.out hB1 (hall 5 (by decide)).2 (hall 11 (by decide)).2 (hall 17 (by decide)).2 (hall 23 (by decide)).2 (hall 29 (by decide)).2 (hall 35 (by decide)).2 (hall 36 (by decide)).2 (hall 37 (by decide)).2 (hall 38 (by decide)))
      clear hall cc h0 hsz H0
      obtain ⟨gd, F', e38, R9, L9, B9⟩ := P9.out
      subst ha0
      simp [fill, fillL, slC, e38]
      go_wp2_with fail
      go_ret
      exact ⟨gd, F', rfl, R9, fun k hk => L9 k hk, B9.os, B9.tape, B9.output, B9.size, B9.block⟩
    · intro j
      exact Below.refl _ _
  · obtain ⟨i, hi, rfl⟩ := List.mem_iff_getElem.1 hu
    have hsl := h.sl
    have htl := h.tl
    obtain ⟨f, n, _, _, _, _, h5, _⟩ := h.q i (s.C[i]'(by omega)) ss[i] (tk[i]'(by omega)) (List.getElem?_eq_getElem _) (List.getElem?_eq_getElem hi) (List.getElem?_eq_getElem _)
    obtain ⟨a, c, e, _⟩ := own_slice h5
    rw [e]
    rfl
end Go.Proofs.YtghfjnnmpmfboaaDoor.Ck
