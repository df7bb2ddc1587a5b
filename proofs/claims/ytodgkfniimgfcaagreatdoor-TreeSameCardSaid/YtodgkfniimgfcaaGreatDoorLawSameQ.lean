/- TreeSame: trees are the same just if all but places is; how many nodes they have, how deep they are. -/
import Derived.Test.YtodgkfniimgfcaaGreatDoorHtQ
import Derived.Test.YtodgkfniimgfcaaGreatDoorHuQ
import Derived.Deep.RegionHeld
namespace Go.Proofs.YtodgkfniimgfcaaGreatDoor.Ck
open Go.RowKit

set_option maxRecDepth 20000 in
set_option maxHeartbeats 8000000 in
theorem same2_any (n n' : Nd) (v v' : Value) (p : List Addr) (w : World) (he : Ev w p) (hv : NodeR w n v) (hv' : NodeR w n' v') :
    Calls Tryz.prog 5 #[v, v'] w fun e w' => e = .returned (.bool true) ∧ Below w.heap.size w w' := by
  obtain ⟨kd, ps, nm, t, nz, z, ob, bi, ks⟩ := n
  obtain ⟨kd', ps', nm', t', nz', z', ob', bi', ks'⟩ := n'
  unfold NodeR at hv hv'
  obtain ⟨s, rfl, hk⟩ := hv
  obtain ⟨s', rfl, hk'⟩ := hv'
  obtain ⟨oa, ck, rfl, _⟩ := hk.kid
  obtain ⟨oa', ck', rfl, _⟩ := hk'.kid
  obtain ⟨len, hln⟩ : ∃ len, len = ks.length := ⟨_, rfl⟩
  obtain ⟨len', hln'⟩ : ∃ len', len' = ks'.length := ⟨_, rfl⟩
  rw [← hln] at hk ⊢
  rw [← hln'] at hk' ⊢
  have hb1 := bel_new w (.cells #[.int .i64 kd, .int .i64 ps, .string nm, .int .i64 t, .int .i64 nz, .int .i64 z, .int .i64 ob, .int .u64 bi, .slice oa len ck] 26)
  have hb2 := bel_new (w.alloc (.cells #[.int .i64 kd, .int .i64 ps, .string nm, .int .i64 t, .int .i64 nz, .int .i64 z, .int .i64 ob, .int .u64 bi, .slice oa len ck] 26)) (.cells #[.int .i64 kd', .int .i64 ps', .string nm', .int .i64 t', .int .i64 nz', .int .i64 z', .int .i64 ob', .int .u64 bi', .slice oa' len' ck'] 26)
  have s1 : (w.alloc (.cells #[.int .i64 kd, .int .i64 ps, .string nm, .int .i64 t, .int .i64 nz, .int .i64 z, .int .i64 ob, .int .u64 bi, .slice oa len ck] 26)).heap.size = w.heap.size + 1 := by simp
  have k1 : Nod (w.alloc (.cells #[.int .i64 kd, .int .i64 ps, .string nm, .int .i64 t, .int .i64 nz, .int .i64 z, .int .i64 ob, .int .u64 bi, .slice oa len ck] 26)) w.heap.size (.int .i64 kd) (.int .i64 ps) (.string nm) (.int .i64 t) (.int .i64 nz) (.int .i64 z) (.int .i64 ob) (.int .u64 bi) (.slice oa len ck) := Go.Deep.blk_alloc_new _ _
  have k2 : Nod ((w.alloc (.cells #[.int .i64 kd, .int .i64 ps, .string nm, .int .i64 t, .int .i64 nz, .int .i64 z, .int .i64 ob, .int .u64 bi, .slice oa len ck] 26)).alloc (.cells #[.int .i64 kd', .int .i64 ps', .string nm', .int .i64 t', .int .i64 nz', .int .i64 z', .int .i64 ob', .int .u64 bi', .slice oa' len' ck'] 26)) (w.alloc (.cells #[.int .i64 kd, .int .i64 ps, .string nm, .int .i64 t, .int .i64 nz, .int .i64 z, .int .i64 ob, .int .u64 bi, .slice oa len ck] 26)).heap.size (.int .i64 kd') (.int .i64 ps') (.string nm') (.int .i64 t') (.int .i64 nz') (.int .i64 z') (.int .i64 ob') (.int .u64 bi') (.slice oa' len' ck') := Go.Deep.blk_alloc_new _ _
  rw [s1] at k2
  have B2 := hide (bel_trans hb1 hb2)
  have N2 := hide (k1.bel hb2)
  have P2 := hide k2
  have K2 := hide (KidsR.bel B2.out _ _ hk)
  have J2 := hide (KidsR.bel B2.out _ _ hk')
  have E2 := hide (he.bel B2.out)
  clear he hk hk' hln hln' hb1 hb2 s1 k1 k2
  go_enter Tryz.func5, Tryz.ntmps5
  go_wp2_with fail
  generalize (w.alloc (.cells #[.int .i64 kd, .int .i64 ps, .string nm, .int .i64 t, .int .i64 nz, .int .i64 z, .int .i64 ob, .int .u64 bi, .slice oa len ck] 26)).alloc (.cells #[.int .i64 kd', .int .i64 ps', .string nm', .int .i64 t', .int .i64 nz', .int .i64 z', .int .i64 ob', .int .u64 bi', .slice oa' len' ck'] 26) = w2 at *
  refine (alive_any p w2 E2.out).mono ?_
  rintro e w3 ⟨rfl, hb3⟩
  have N3 := hide (N2.out.bel hb3)
  have P3 := hide (P2.out.bel hb3)
  have K3 := hide (KidsR.bel hb3 _ _ K2.out)
  have J3 := hide (KidsR.bel hb3 _ _ J2.out)
  have B3 := hide (bel_trans B2.out hb3)
  clear hb3 N2 P2 K2 J2 B2 E2
  obtain ⟨_, e0, e1, e2, e3, e4, e5, e6, e7, e8⟩ := N3.out.all
  obtain ⟨_, g0, g1, g2, g3, g4, g5, g6, g7, g8⟩ := P3.out.all
  have RR := hide (nodes_any (show NodeR w3 (Nd.mk kd ps nm t nz z ob bi ks) (.agg #[.int .i64 kd, .int .i64 ps, .string nm, .int .i64 t, .int .i64 nz, .int .i64 z, .int .i64 ob, .int .u64 bi, .slice oa len ck]) by unfold NodeR; exact ⟨_, rfl, K3.out⟩) 3000)
  obtain ⟨x1, hx1⟩ : ∃ x1, nodW (Nd.mk kd ps nm t nz z ob bi ks) 3000 = x1 := ⟨_, rfl⟩
  rw [hx1] at RR
  have Hx1 := hide hx1
  clear hx1
  go_wp2_with fail
  refine RR.out.mono ?_
  rintro e w4 ⟨rfl, hb⟩
  have N4 := hide (N3.out.bel hb)
  have P4 := hide (P3.out.bel hb)
  have K4 := hide (KidsR.bel hb _ _ K3.out)
  have J4 := hide (KidsR.bel hb _ _ J3.out)
  have B4 := hide (bel_trans B3.out hb)
  clear RR hb N3 P3 K3 J3 B3 e0 e1 e2 e3 e4 e5 e6 e7 e8 g0 g1 g2 g3 g4 g5 g6 g7 g8
  by_cases hc : 3000 < x1
  · go_wp2_with fail
    go_ret
    exact ⟨rfl, B4.out⟩
  have Cx1 : Hid (¬ (3000 : Int) < x1) := hc
  obtain ⟨_, e0, e1, e2, e3, e4, e5, e6, e7, e8⟩ := N4.out.all
  obtain ⟨_, g0, g1, g2, g3, g4, g5, g6, g7, g8⟩ := P4.out.all
  have RR := hide (nodes_any (show NodeR w4 (Nd.mk kd' ps' nm' t' nz' z' ob' bi' ks') (.agg #[.int .i64 kd', .int .i64 ps', .string nm', .int .i64 t', .int .i64 nz', .int .i64 z', .int .i64 ob', .int .u64 bi', .slice oa' len' ck']) by unfold NodeR; exact ⟨_, rfl, J4.out⟩) 3000)
  obtain ⟨x2, hx2⟩ : ∃ x2, nodW (Nd.mk kd' ps' nm' t' nz' z' ob' bi' ks') 3000 = x2 := ⟨_, rfl⟩
  rw [hx2] at RR
  have Hx2 := hide hx2
  clear hx2
  go_wp2_with fail
  refine RR.out.mono ?_
  rintro e w5 ⟨rfl, hb⟩
  have N5 := hide (N4.out.bel hb)
  have P5 := hide (P4.out.bel hb)
  have K5 := hide (KidsR.bel hb _ _ K4.out)
  have J5 := hide (KidsR.bel hb _ _ J4.out)
  have B5 := hide (bel_trans B4.out hb)
  clear RR hb N4 P4 K4 J4 B4 e0 e1 e2 e3 e4 e5 e6 e7 e8 g0 g1 g2 g3 g4 g5 g6 g7 g8
  by_cases hc : 3000 < x2
  · go_wp2_with fail
    go_ret
    exact ⟨rfl, B5.out⟩
  have Cx2 : Hid (¬ (3000 : Int) < x2) := hc
  obtain ⟨_, e0, e1, e2, e3, e4, e5, e6, e7, e8⟩ := N5.out.all
  obtain ⟨_, g0, g1, g2, g3, g4, g5, g6, g7, g8⟩ := P5.out.all
  have RR := hide (deep_any (show NodeR w5 (Nd.mk kd ps nm t nz z ob bi ks) (.agg #[.int .i64 kd, .int .i64 ps, .string nm, .int .i64 t, .int .i64 nz, .int .i64 z, .int .i64 ob, .int .u64 bi, .slice oa len ck]) by unfold NodeR; exact ⟨_, rfl, K5.out⟩) 500)
  obtain ⟨x3, hx3⟩ : ∃ x3, deeW (Nd.mk kd ps nm t nz z ob bi ks) 500 = x3 := ⟨_, rfl⟩
  rw [hx3] at RR
  have Hx3 := hide hx3
  clear hx3
  go_wp2_with fail
  refine RR.out.mono ?_
  rintro e w6 ⟨rfl, hb⟩
  have N6 := hide (N5.out.bel hb)
  have P6 := hide (P5.out.bel hb)
  have K6 := hide (KidsR.bel hb _ _ K5.out)
  have J6 := hide (KidsR.bel hb _ _ J5.out)
  have B6 := hide (bel_trans B5.out hb)
  clear RR hb N5 P5 K5 J5 B5 e0 e1 e2 e3 e4 e5 e6 e7 e8 g0 g1 g2 g3 g4 g5 g6 g7 g8
  by_cases hc : 500 < x3
  · go_wp2_with fail
    go_ret
    exact ⟨rfl, B6.out⟩
  have Cx3 : Hid (¬ (500 : Int) < x3) := hc
  obtain ⟨_, e0, e1, e2, e3, e4, e5, e6, e7, e8⟩ := N6.out.all
  obtain ⟨_, g0, g1, g2, g3, g4, g5, g6, g7, g8⟩ := P6.out.all
  have RR := hide (deep_any (show NodeR w6 (Nd.mk kd' ps' nm' t' nz' z' ob' bi' ks') (.agg #[.int .i64 kd', .int .i64 ps', .string nm', .int .i64 t', .int .i64 nz', .int .i64 z', .int .i64 ob', .int .u64 bi', .slice oa' len' ck']) by unfold NodeR; exact ⟨_, rfl, J6.out⟩) 500)
  obtain ⟨x4, hx4⟩ : ∃ x4, deeW (Nd.mk kd' ps' nm' t' nz' z' ob' bi' ks') 500 = x4 := ⟨_, rfl⟩
  rw [hx4] at RR
  have Hx4 := hide hx4
  clear hx4
  go_wp2_with fail
  refine RR.out.mono ?_
  rintro e w7 ⟨rfl, hb⟩
  have N7 := hide (N6.out.bel hb)
  have P7 := hide (P6.out.bel hb)
  have K7 := hide (KidsR.bel hb _ _ K6.out)
  have J7 := hide (KidsR.bel hb _ _ J6.out)
  have B7 := hide (bel_trans B6.out hb)
  clear RR hb N6 P6 K6 J6 B6 e0 e1 e2 e3 e4 e5 e6 e7 e8 g0 g1 g2 g3 g4 g5 g6 g7 g8
  by_cases hc : 500 < x4
  · go_wp2_with fail
    go_ret
    exact ⟨rfl, B7.out⟩
  have Cx4 : Hid (¬ (500 : Int) < x4) := hc
  go_wp2_with fail
  have hcn : cntW (Nd.mk kd ps nm t nz z ob bi ks) = nodW (Nd.mk kd ps nm t nz z ob bi ks) 1073741824 := counts_same (by rw [Hx1.out]; have := Cx1.out; omega)
  have hdp : depW (Nd.mk kd' ps' nm' t' nz' z' ob' bi' ks') = deeW (Nd.mk kd' ps' nm' t' nz' z' ob' bi' ks') 1073741824 := depths_same (by rw [Hx4.out]; have := Cx4.out; omega)
  have HCN := hide hcn
  have HDP := hide hdp
  obtain ⟨q, hq⟩ : ∃ q, sameN (Nd.mk kd ps nm t nz z ob bi ks) (Nd.mk kd' ps' nm' t' nz' z' ob' bi' ks') = q := ⟨_, rfl⟩
  obtain ⟨cn, hcn2⟩ : ∃ cn, cntW (Nd.mk kd ps nm t nz z ob bi ks) = cn := ⟨_, rfl⟩
  obtain ⟨dp, hdp2⟩ : ∃ dp, depW (Nd.mk kd' ps' nm' t' nz' z' ob' bi' ks') = dp := ⟨_, rfl⟩
  have HQ := hide hq
  have HC2 := hide hcn2
  have HD2 := hide hdp2
  have hqq : (q == q) = true := by simp
  have hcc : (cn == cn) = true := by simp
  have hdd : (dp == dp) = true := by simp
  clear hcn hdp hq hcn2 hdp2
  refine wp_region_held_drew (S := fun w' => Nod w' w.heap.size (.int .i64 kd) (.int .i64 ps) (.string nm) (.int .i64 t) (.int .i64 nz) (.int .i64 z) (.int .i64 ob) (.int .u64 bi) (.slice oa len ck) ∧ Nod w' (w.heap.size + 1) (.int .i64 kd') (.int .i64 ps') (.string nm') (.int .i64 t') (.int .i64 nz') (.int .i64 z') (.int .i64 ob') (.int .u64 bi') (.slice oa' len' ck')) mixed ⟨N7.out.drew, P7.out.drew⟩ (fun hH => ?_)
  have BW0 : Hid (Below w7.heap.size w7 w7.drew) := bel_drawn (Below.refl _ _)
  generalize World.drew w7 = W0 at *
  refine wpAnyH_take (i := 0) (v := ?_) rfl (by kernel_rfl) (by kernel_rfl) (by kernel_rfl) (fun _ _ _ h => h) (Or.inl ⟨by rfl, ?_⟩) hH ?_
  rotate_left 1
  · (intro w hSw; obtain ⟨_, e0, e1, e2, e3, e4, e5, e6, e7, e8⟩ := hSw.1.all; obtain ⟨_, g0, g1, g2, g3, g4, g5, g6, g7, g8⟩ := hSw.2.all; clear hSw; go_simp <;> with_reducible rfl)
  simp only [Act.put, List.getElem_toArray, List.getElem_cons_zero, List.setIfInBounds_toArray, List.set_cons_zero, List.set_cons_succ]
  refine wpAnyH_take (i := 1) (v := ?_) rfl (by kernel_rfl) (by kernel_rfl) (by kernel_rfl) (fun _ _ _ h => h) (Or.inl ⟨by rfl, ?_⟩) hH ?_
  rotate_left 1
  · (intro w hSw; obtain ⟨_, e0, e1, e2, e3, e4, e5, e6, e7, e8⟩ := hSw.1.all; obtain ⟨_, g0, g1, g2, g3, g4, g5, g6, g7, g8⟩ := hSw.2.all; clear hSw; go_simp <;> with_reducible rfl)
  simp only [Act.put, List.getElem_toArray, List.getElem_cons_zero, List.getElem_cons_succ, List.setIfInBounds_toArray, List.set_cons_zero, List.set_cons_succ]
  refine wpAnyH_take (i := 3) (v := ?_) rfl (by kernel_rfl) (by kernel_rfl) (by kernel_rfl) (fun _ _ _ h => h) (Or.inl ⟨by rfl, ?_⟩) hH ?_
  rotate_left 1
  · (intro w hSw; obtain ⟨_, e0, e1, e2, e3, e4, e5, e6, e7, e8⟩ := hSw.1.all; obtain ⟨_, g0, g1, g2, g3, g4, g5, g6, g7, g8⟩ := hSw.2.all; clear hSw; go_simp <;> with_reducible rfl)
  simp only [Act.put, List.getElem_toArray, List.getElem_cons_zero, List.getElem_cons_succ, List.setIfInBounds_toArray, List.set_cons_zero, List.set_cons_succ]
  refine wpAnyH_take (i := 4) (v := ?_) rfl (by kernel_rfl) (by kernel_rfl) (by kernel_rfl) (fun _ _ _ h => h) (Or.inl ⟨by rfl, ?_⟩) hH ?_
  rotate_left 1
  · (intro w hSw; obtain ⟨_, e0, e1, e2, e3, e4, e5, e6, e7, e8⟩ := hSw.1.all; obtain ⟨_, g0, g1, g2, g3, g4, g5, g6, g7, g8⟩ := hSw.2.all; clear hSw; go_simp <;> with_reducible rfl)
  simp only [Act.put, List.getElem_toArray, List.getElem_cons_zero, List.getElem_cons_succ, List.setIfInBounds_toArray, List.set_cons_zero, List.set_cons_succ]
  refine wpAnyH_ready (rs := [2]) (by kernel_rfl) (by decide) ?_
  refine AllReadyH.cons rfl (fun K1 hK1 => ?_) AllReadyH.nil
  go_simp
  refine (same_any (show NodeR W0 (Nd.mk kd ps nm t nz z ob bi ks) (.agg #[.int .i64 kd, .int .i64 ps, .string nm, .int .i64 t, .int .i64 nz, .int .i64 z, .int .i64 ob, .int .u64 bi, .slice oa len ck]) by unfold NodeR; exact ⟨_, rfl, KidsR.bel BW0.out _ _ K7.out⟩) (show NodeR W0 (Nd.mk kd' ps' nm' t' nz' z' ob' bi' ks') (.agg #[.int .i64 kd', .int .i64 ps', .string nm', .int .i64 t', .int .i64 nz', .int .i64 z', .int .i64 ob', .int .u64 bi', .slice oa' len' ck']) by unfold NodeR; exact ⟨_, rfl, KidsR.bel BW0.out _ _ J7.out⟩)).mono ?_
  rw [HQ.out]
  rintro e W1 ⟨rfl, hb⟩
  have BW1 := hide (bel_trans BW0.out hb)
  refine hK1.out _ _ ⟨hH.1.bel hb, hH.2.bel hb⟩ (fun hH => ?_)
  clear hK1 K1 hb
  refine wpAnyH_ready (rs := [5]) (by kernel_rfl) (by decide) ?_
  refine AllReadyH.cons rfl (fun K1 hK1 => ?_) AllReadyH.nil
  go_simp
  refine (rsame_any (show NodeR W1 (Nd.mk kd ps nm t nz z ob bi ks) (.agg #[.int .i64 kd, .int .i64 ps, .string nm, .int .i64 t, .int .i64 nz, .int .i64 z, .int .i64 ob, .int .u64 bi, .slice oa len ck]) by unfold NodeR; exact ⟨_, rfl, KidsR.bel BW1.out _ _ K7.out⟩) (show NodeR W1 (Nd.mk kd' ps' nm' t' nz' z' ob' bi' ks') (.agg #[.int .i64 kd', .int .i64 ps', .string nm', .int .i64 t', .int .i64 nz', .int .i64 z', .int .i64 ob', .int .u64 bi', .slice oa' len' ck']) by unfold NodeR; exact ⟨_, rfl, KidsR.bel BW1.out _ _ J7.out⟩)).mono ?_
  rw [HQ.out]
  rintro e W2 ⟨rfl, hb⟩
  have BW2 := hide (bel_trans BW1.out hb)
  refine hK1.out _ _ ⟨hH.1.bel hb, hH.2.bel hb⟩ (fun hH => ?_)
  clear hK1 K1 hb
  refine wpAnyH_take (i := 6) (v := ?_) rfl (by kernel_rfl) (by kernel_rfl) (by kernel_rfl) (fun _ _ _ h => h) (Or.inl ⟨by rfl, ?_⟩) hH ?_
  rotate_left 1
  · (intro w hSw; obtain ⟨_, e0, e1, e2, e3, e4, e5, e6, e7, e8⟩ := hSw.1.all; obtain ⟨_, g0, g1, g2, g3, g4, g5, g6, g7, g8⟩ := hSw.2.all; clear hSw; go_simp <;> with_reducible rfl)
  simp only [Act.put, List.getElem_toArray, List.getElem_cons_zero, List.getElem_cons_succ, List.setIfInBounds_toArray, List.set_cons_zero, List.set_cons_succ]
  refine wpAnyH_take (i := 7) (v := ?_) rfl (by kernel_rfl) (by kernel_rfl) (by kernel_rfl) (fun _ _ _ h => h) (Or.inl ⟨by rfl, ?_⟩) hH ?_
  rotate_left 1
  · (intro w hSw; obtain ⟨_, e0, e1, e2, e3, e4, e5, e6, e7, e8⟩ := hSw.1.all; obtain ⟨_, g0, g1, g2, g3, g4, g5, g6, g7, g8⟩ := hSw.2.all; clear hSw; go_simp <;> with_reducible rfl)
  simp only [Act.put, List.getElem_toArray, List.getElem_cons_zero, List.getElem_cons_succ, List.setIfInBounds_toArray, List.set_cons_zero, List.set_cons_succ]
  refine wpAnyH_take (i := 8) (v := ?_) rfl (by kernel_rfl) (by kernel_rfl) (by kernel_rfl) (fun _ _ _ h => h) (Or.inl ⟨by rfl, ?_⟩) hH ?_
  rotate_left 1
  · (intro w hSw; obtain ⟨_, e0, e1, e2, e3, e4, e5, e6, e7, e8⟩ := hSw.1.all; obtain ⟨_, g0, g1, g2, g3, g4, g5, g6, g7, g8⟩ := hSw.2.all; clear hSw; go_simp <;> with_reducible rfl)
  simp only [Act.put, List.getElem_toArray, List.getElem_cons_zero, List.getElem_cons_succ, List.setIfInBounds_toArray, List.set_cons_zero, List.set_cons_succ]
  refine wpAnyH_take (i := 9) (v := ?_) rfl (by kernel_rfl) (by kernel_rfl) (by kernel_rfl) (fun _ _ _ h => h) (Or.inl ⟨by rfl, ?_⟩) hH ?_
  rotate_left 1
  · (intro w hSw; obtain ⟨_, e0, e1, e2, e3, e4, e5, e6, e7, e8⟩ := hSw.1.all; obtain ⟨_, g0, g1, g2, g3, g4, g5, g6, g7, g8⟩ := hSw.2.all; clear hSw; go_simp <;> with_reducible rfl)
  simp only [Act.put, List.getElem_toArray, List.getElem_cons_zero, List.getElem_cons_succ, List.setIfInBounds_toArray, List.set_cons_zero, List.set_cons_succ]
  refine wpAnyH_ready (rs := [10]) (by kernel_rfl) (by decide) ?_
  refine AllReadyH.cons rfl (fun K1 hK1 => ?_) AllReadyH.nil
  go_simp
  refine (same_any (show NodeR W2 (Nd.mk kd ps nm t nz z ob bi ks) (.agg #[.int .i64 kd, .int .i64 ps, .string nm, .int .i64 t, .int .i64 nz, .int .i64 z, .int .i64 ob, .int .u64 bi, .slice oa len ck]) by unfold NodeR; exact ⟨_, rfl, KidsR.bel BW2.out _ _ K7.out⟩) (show NodeR W2 (Nd.mk kd ps nm t nz z ob bi ks) (.agg #[.int .i64 kd, .int .i64 ps, .string nm, .int .i64 t, .int .i64 nz, .int .i64 z, .int .i64 ob, .int .u64 bi, .slice oa len ck]) by unfold NodeR; exact ⟨_, rfl, KidsR.bel BW2.out _ _ K7.out⟩)).mono ?_
  rw [same_self]
  rintro e W3 ⟨rfl, hb⟩
  have BW3 := hide (bel_trans BW2.out hb)
  refine hK1.out _ _ ⟨hH.1.bel hb, hH.2.bel hb⟩ (fun hH => ?_)
  clear hK1 K1 hb
  refine wpAnyH_take (i := 11) (v := ?_) rfl (by kernel_rfl) (by kernel_rfl) (by kernel_rfl) (fun _ _ _ h => h) (Or.inl ⟨by rfl, ?_⟩) hH ?_
  rotate_left 1
  · (intro w hSw; obtain ⟨_, e0, e1, e2, e3, e4, e5, e6, e7, e8⟩ := hSw.1.all; obtain ⟨_, g0, g1, g2, g3, g4, g5, g6, g7, g8⟩ := hSw.2.all; clear hSw; go_simp <;> with_reducible rfl)
  simp only [Act.put, List.getElem_toArray, List.getElem_cons_zero, List.getElem_cons_succ, List.setIfInBounds_toArray, List.set_cons_zero, List.set_cons_succ]
  refine wpAnyH_take (i := 12) (v := ?_) rfl (by kernel_rfl) (by kernel_rfl) (by kernel_rfl) (fun _ _ _ h => h) (Or.inl ⟨by rfl, ?_⟩) hH ?_
  rotate_left 1
  · (intro w hSw; obtain ⟨_, e0, e1, e2, e3, e4, e5, e6, e7, e8⟩ := hSw.1.all; obtain ⟨_, g0, g1, g2, g3, g4, g5, g6, g7, g8⟩ := hSw.2.all; clear hSw; go_simp <;> with_reducible rfl)
  simp only [Act.put, List.getElem_toArray, List.getElem_cons_zero, List.getElem_cons_succ, List.setIfInBounds_toArray, List.set_cons_zero, List.set_cons_succ]
  refine wpAnyH_take (i := 13) (v := ?_) rfl (by kernel_rfl) (by kernel_rfl) (by kernel_rfl) (fun _ _ _ h => h) (Or.inl ⟨by rfl, ?_⟩) hH ?_
  rotate_left 1
  · (intro w hSw; obtain ⟨_, e0, e1, e2, e3, e4, e5, e6, e7, e8⟩ := hSw.1.all; obtain ⟨_, g0, g1, g2, g3, g4, g5, g6, g7, g8⟩ := hSw.2.all; clear hSw; go_simp <;> with_reducible rfl)
  simp only [Act.put, List.getElem_toArray, List.getElem_cons_zero, List.getElem_cons_succ, List.setIfInBounds_toArray, List.set_cons_zero, List.set_cons_succ]
  refine wpAnyH_take (i := 15) (v := ?_) rfl (by kernel_rfl) (by kernel_rfl) (by kernel_rfl) (fun _ _ _ h => h) (Or.inl ⟨by rfl, ?_⟩) hH ?_
  rotate_left 1
  · (intro w hSw; obtain ⟨_, e0, e1, e2, e3, e4, e5, e6, e7, e8⟩ := hSw.1.all; obtain ⟨_, g0, g1, g2, g3, g4, g5, g6, g7, g8⟩ := hSw.2.all; clear hSw; go_simp <;> with_reducible rfl)
  simp only [Act.put, List.getElem_toArray, List.getElem_cons_zero, List.getElem_cons_succ, List.setIfInBounds_toArray, List.set_cons_zero, List.set_cons_succ]
  refine wpAnyH_ready (rs := [14]) (by kernel_rfl) (by decide) ?_
  refine AllReadyH.cons rfl (fun K1 hK1 => ?_) AllReadyH.nil
  go_simp
  refine (count_any (show NodeR W3 (Nd.mk kd ps nm t nz z ob bi ks) (.agg #[.int .i64 kd, .int .i64 ps, .string nm, .int .i64 t, .int .i64 nz, .int .i64 z, .int .i64 ob, .int .u64 bi, .slice oa len ck]) by unfold NodeR; exact ⟨_, rfl, KidsR.bel BW3.out _ _ K7.out⟩)).mono ?_
  rw [HC2.out]
  rintro e W4 ⟨rfl, hb⟩
  have BW4 := hide (bel_trans BW3.out hb)
  refine hK1.out _ _ ⟨hH.1.bel hb, hH.2.bel hb⟩ (fun hH => ?_)
  clear hK1 K1 hb
  refine wpAnyH_ready (rs := [16]) (by kernel_rfl) (by decide) ?_
  refine AllReadyH.cons rfl (fun K1 hK1 => ?_) AllReadyH.nil
  go_simp
  refine (nodes_any (show NodeR W4 (Nd.mk kd ps nm t nz z ob bi ks) (.agg #[.int .i64 kd, .int .i64 ps, .string nm, .int .i64 t, .int .i64 nz, .int .i64 z, .int .i64 ob, .int .u64 bi, .slice oa len ck]) by unfold NodeR; exact ⟨_, rfl, KidsR.bel BW4.out _ _ K7.out⟩) 1073741824).mono ?_
  rw [← HCN.out, HC2.out]
  rintro e W5 ⟨rfl, hb⟩
  have BW5 := hide (bel_trans BW4.out hb)
  refine hK1.out _ _ ⟨hH.1.bel hb, hH.2.bel hb⟩ (fun hH => ?_)
  clear hK1 K1 hb
  refine wpAnyH_take (i := 17) (v := ?_) rfl (by kernel_rfl) (by kernel_rfl) (by kernel_rfl) (fun _ _ _ h => h) (Or.inl ⟨by rfl, ?_⟩) hH ?_
  rotate_left 1
  · (intro w hSw; obtain ⟨_, e0, e1, e2, e3, e4, e5, e6, e7, e8⟩ := hSw.1.all; obtain ⟨_, g0, g1, g2, g3, g4, g5, g6, g7, g8⟩ := hSw.2.all; clear hSw; go_simp <;> with_reducible rfl)
  simp only [Act.put, List.getElem_toArray, List.getElem_cons_zero, List.getElem_cons_succ, List.setIfInBounds_toArray, List.set_cons_zero, List.set_cons_succ]
  refine wpAnyH_take (i := 18) (v := ?_) rfl (by kernel_rfl) (by kernel_rfl) (by kernel_rfl) (fun _ _ _ h => h) (Or.inl ⟨by rfl, ?_⟩) hH ?_
  rotate_left 1
  · (intro w hSw; obtain ⟨_, e0, e1, e2, e3, e4, e5, e6, e7, e8⟩ := hSw.1.all; obtain ⟨_, g0, g1, g2, g3, g4, g5, g6, g7, g8⟩ := hSw.2.all; clear hSw; go_simp <;> with_reducible rfl)
  simp only [Act.put, List.getElem_toArray, List.getElem_cons_zero, List.getElem_cons_succ, List.setIfInBounds_toArray, List.set_cons_zero, List.set_cons_succ]
  refine wpAnyH_take (i := 19) (v := ?_) rfl (by kernel_rfl) (by kernel_rfl) (by kernel_rfl) (fun _ _ _ h => h) (Or.inl ⟨by rfl, ?_⟩) hH ?_
  rotate_left 1
  · (intro w hSw; obtain ⟨_, e0, e1, e2, e3, e4, e5, e6, e7, e8⟩ := hSw.1.all; obtain ⟨_, g0, g1, g2, g3, g4, g5, g6, g7, g8⟩ := hSw.2.all; clear hSw; go_simp <;> with_reducible rfl)
  simp only [Act.put, List.getElem_toArray, List.getElem_cons_zero, List.getElem_cons_succ, List.setIfInBounds_toArray, List.set_cons_zero, List.set_cons_succ]
  refine wpAnyH_take (i := 20) (v := ?_) rfl (by kernel_rfl) (by kernel_rfl) (by kernel_rfl) (fun _ _ _ h => h) (Or.inl ⟨by rfl, ?_⟩) hH ?_
  rotate_left 1
  · (intro w hSw; obtain ⟨_, e0, e1, e2, e3, e4, e5, e6, e7, e8⟩ := hSw.1.all; obtain ⟨_, g0, g1, g2, g3, g4, g5, g6, g7, g8⟩ := hSw.2.all; clear hSw; go_simp <;> with_reducible rfl)
  simp only [Act.put, List.getElem_toArray, List.getElem_cons_zero, List.getElem_cons_succ, List.setIfInBounds_toArray, List.set_cons_zero, List.set_cons_succ]
  refine wpAnyH_take (i := 22) (v := ?_) rfl (by kernel_rfl) (by kernel_rfl) (by kernel_rfl) (fun _ _ _ h => h) (Or.inl ⟨by rfl, ?_⟩) hH ?_
  rotate_left 1
  · (intro w hSw; obtain ⟨_, e0, e1, e2, e3, e4, e5, e6, e7, e8⟩ := hSw.1.all; obtain ⟨_, g0, g1, g2, g3, g4, g5, g6, g7, g8⟩ := hSw.2.all; clear hSw; go_simp <;> with_reducible rfl)
  simp only [Act.put, List.getElem_toArray, List.getElem_cons_zero, List.getElem_cons_succ, List.setIfInBounds_toArray, List.set_cons_zero, List.set_cons_succ]
  refine wpAnyH_ready (rs := [21]) (by kernel_rfl) (by decide) ?_
  refine AllReadyH.cons rfl (fun K1 hK1 => ?_) AllReadyH.nil
  go_simp
  refine (depth_any (show NodeR W5 (Nd.mk kd' ps' nm' t' nz' z' ob' bi' ks') (.agg #[.int .i64 kd', .int .i64 ps', .string nm', .int .i64 t', .int .i64 nz', .int .i64 z', .int .i64 ob', .int .u64 bi', .slice oa' len' ck']) by unfold NodeR; exact ⟨_, rfl, KidsR.bel BW5.out _ _ J7.out⟩)).mono ?_
  rw [HD2.out]
  rintro e W6 ⟨rfl, hb⟩
  have BW6 := hide (bel_trans BW5.out hb)
  refine hK1.out _ _ ⟨hH.1.bel hb, hH.2.bel hb⟩ (fun hH => ?_)
  clear hK1 K1 hb
  refine wpAnyH_ready (rs := [23]) (by kernel_rfl) (by decide) ?_
  refine AllReadyH.cons rfl (fun K1 hK1 => ?_) AllReadyH.nil
  go_simp
  refine (deep_any (show NodeR W6 (Nd.mk kd' ps' nm' t' nz' z' ob' bi' ks') (.agg #[.int .i64 kd', .int .i64 ps', .string nm', .int .i64 t', .int .i64 nz', .int .i64 z', .int .i64 ob', .int .u64 bi', .slice oa' len' ck']) by unfold NodeR; exact ⟨_, rfl, KidsR.bel BW6.out _ _ J7.out⟩) 1073741824).mono ?_
  rw [← HDP.out, HD2.out]
  rintro e W7 ⟨rfl, hb⟩
  have BW7 := hide (bel_trans BW6.out hb)
  refine hK1.out _ _ ⟨hH.1.bel hb, hH.2.bel hb⟩ (fun hH => ?_)
  clear hK1 K1 hb
  refine wpAnyH_take (i := 24) (v := ?_) rfl (by kernel_rfl) (by kernel_rfl) (by kernel_rfl) (fun _ _ _ h => h) (Or.inl ⟨by rfl, ?_⟩) hH ?_
  rotate_left 1
  · (intro w hSw; obtain ⟨_, e0, e1, e2, e3, e4, e5, e6, e7, e8⟩ := hSw.1.all; obtain ⟨_, g0, g1, g2, g3, g4, g5, g6, g7, g8⟩ := hSw.2.all; clear hSw; go_simp <;> with_reducible rfl)
  simp only [Act.put, List.getElem_toArray, List.getElem_cons_zero, List.getElem_cons_succ, List.setIfInBounds_toArray, List.set_cons_zero, List.set_cons_succ]
  refine wpAnyH_take (i := 25) (v := ?_) rfl (by kernel_rfl) (by kernel_rfl) (by kernel_rfl) (fun _ _ _ h => h) (Or.inl ⟨by rfl, ?_⟩) hH ?_
  rotate_left 1
  · (intro w hSw; obtain ⟨_, e0, e1, e2, e3, e4, e5, e6, e7, e8⟩ := hSw.1.all; obtain ⟨_, g0, g1, g2, g3, g4, g5, g6, g7, g8⟩ := hSw.2.all; clear hSw; go_simp <;> with_reducible rfl)
  simp only [Act.put, List.getElem_toArray, List.getElem_cons_zero, List.getElem_cons_succ, List.setIfInBounds_toArray, List.set_cons_zero, List.set_cons_succ]
  refine wpAnyH_take (i := 26) (v := ?_) rfl (by kernel_rfl) (by kernel_rfl) (by kernel_rfl) (fun _ _ _ h => h) (Or.inl ⟨by rfl, ?_⟩) hH ?_
  rotate_left 1
  · (intro w hSw; obtain ⟨_, e0, e1, e2, e3, e4, e5, e6, e7, e8⟩ := hSw.1.all; obtain ⟨_, g0, g1, g2, g3, g4, g5, g6, g7, g8⟩ := hSw.2.all; clear hSw; go_simp <;> with_reducible rfl)
  simp only [Act.put, List.getElem_toArray, List.getElem_cons_zero, List.getElem_cons_succ, List.setIfInBounds_toArray, List.set_cons_zero, List.set_cons_succ]
  refine wpAnyH_done (by kernel_rfl) ?_ _
  go_wp2_with fail
  go_ret
  exact ⟨rfl, bel_trans B7.out BW7.out⟩

end Go.Proofs.YtodgkfniimgfcaaGreatDoor.Ck
