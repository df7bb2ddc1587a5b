/- Package proofread: change, by instruction. (Written by mk_f.py.) -/
import Derived.Test.YtlheflkdapckbaaDoorPf
import Derived.Test.YtlheflkdapckbaaDoorCno
import Derived.Test.YtlheflkdapckbaaDoorCn
import Derived.Deep.CutRange
namespace Go.Proofs.YtlheflkdapckbaaDoor.Ck
open Go.RowKit

set_option maxRecDepth 20000 in
set_option maxHeartbeats 2000000 in
theorem change_22 {w0 w : World} {p : List Addr} {g b : Nat} {vP vC vF vB vLo vM vS vL v : Value} {c : Cd} {f : Fn3} {hi : Int} {s : List Int} (h : Cg w0 w p g b vP vC vF vB c f vLo hi vM vS vL v s) (n : Nat) (b' bits at_ : Int) (hn : n < c.F.length) (fm : Fm c) : Calls Tryd.prog 47 #[.pointer (some ⟨g, 0, none⟩), .pointer (some ⟨b, 0, none⟩), .agg #[.int .i64 22, .int .i64 (n : Nat), .int .i64 b', .int .u64 bits, .int .i64 at_]] w (GkP p w b w0.heap.size (changeM c f.lo ⟨22, (n : Nat), b', bits, at_⟩ s)) := by
  have EM : Hid (changeM c f.lo ⟨22, (n : Nat), b', bits, at_⟩ s = takeM (parT c n) s) := hide (by simp [changeM])
  generalize changeM c f.lo ⟨22, (n : Nat), b', bits, at_⟩ s = o at *
  have AB := hide (bel_new w (.cells #[.int .i64 22, .int .i64 (n : Nat), .int .i64 b', .int .u64 bits, .int .i64 at_] 44))
  have V0 := hide (Go.Deep.blk_alloc_new w (.cells #[.int .i64 22, .int .i64 (n : Nat), .int .i64 b', .int .u64 bits, .int .i64 at_] 44))
  have hz1 : (w.alloc (.cells #[.int .i64 22, .int .i64 (n : Nat), .int .i64 b', .int .u64 bits, .int .i64 at_] 44)).heap.size = w.heap.size + 1 := by simp
  have SZ1 := hide hz1
  clear hz1
  have H1 := hide (h.low AB.out)
  have B1 := hide (AB.out.mono h.sk.low)
  have PT : Hid (parT c (n : Int) = (c.F.getD n zF).lo.take (c.F.getD n zF).pa.toNat) := hide (by unfold parT; simp)
  obtain ⟨aF, cF, eF, _⟩ := h.rr.cv.F.form
  subst eF
  have y4 := blk_cell (h.rr.low AB.out).at_ 4 _ rfl
  obtain ⟨_, _, e9, _, _, h9⟩ := h.rr.cv.F
  obtain ⟨bF, oF, vl, e8, hbF, q0, q1, q2, sl⟩ := h9 n hn
  cases e9
  subst e8
  have z0 := (AB.out.cell (p := ⟨bF, oF + n * 3, none⟩) hbF).trans q0
  have z1 := (AB.out.cell (p := ⟨bF, oF + n * 3 + 1, none⟩) hbF).trans q1
  have z2 := (AB.out.cell (p := ⟨bF, oF + n * 3 + 2, none⟩) hbF).trans q2
  obtain ⟨aL, cL, eL, hL1, _⟩ := sl.form
  subst eL
  have SL := hide (sl.bel AB.out)
  have hfm := fm.f _ (show c.F.getD n zF ∈ c.F by rw [List.getD_eq_getElem?_getD, List.getElem?_eq_getElem hn]; exact List.getElem_mem hn)
  obtain ⟨m, hm⟩ : ∃ m, m = c.F.length := ⟨_, rfl⟩
  rw [← hm] at y4
  have hn1 : (n : Int) < (m : Int) := by omega
  have hn0 : n < m := by omega
  clear hbF q0 q1 q2 h9 hn hm sl fm
  generalize c.F.getD n zF = ff at *
  obtain ⟨fs, fp, fl⟩ := ff
  simp only at *
  obtain ⟨k, rfl⟩ : ∃ k : Nat, fp = k := ⟨fp.toNat, by omega⟩
  have hkl : k ≤ fl.length := by omega
  have HK := hide (And.intro hkl hfm.2.2)
  obtain ⟨nl, hnl⟩ : ∃ q, q = fl.length := ⟨_, rfl⟩
  have HNL := hide hnl
  rw [← hnl] at z2 SL hL1 hkl
  have hkc : k ≤ cL := by omega
  clear hfm hnl
  clear h AB
  have x0 := blk_cell V0.out 0 _ rfl
  have x1 := blk_cell V0.out 1 _ rfl
  clear V0
  go_enter Tryd.func47, Tryd.ntmps47
  go_wp2_with fail
  generalize w.alloc (.cells #[.int .i64 22, .int .i64 (n : Nat), .int .i64 b', .int .u64 bits, .int .i64 at_] 44) = w1 at *
  have AD : Below w1.heap.size w1 w1.drew := bel_drawn (Below.refl _ _)
  have HD := hide (H1.out.low AD)
  have BD := hide (B1.out.trans (AD.mono H1.out.sk.low))
  have SD := hide (SL.out.bel AD)
  refine wp_region_T (S := fun wz => wz.cell? ⟨g, 4, none⟩ = some (.slice (some ⟨bF, oF, none⟩) m cF) ∧ wz.cell? ⟨w.heap.size, 1, none⟩ = some (.int .i64 (n : Nat)) ∧ wz.cell? ⟨bF, oF + n * 3, none⟩ = some (.int .i64 fs) ∧ wz.cell? ⟨bF, oF + n * 3 + 1, none⟩ = some (.int .i64 (k : Nat)) ∧ wz.cell? ⟨bF, oF + n * 3 + 2, none⟩ = some (.slice aL nl cL)) (fun _ => true) mixed ⟨y4, x1, z0, z1, z2⟩ (fun hH => ?_)
  clear B1 H1 AD SL
  have B1 := BD
  have H1 := HD
  have SL := SD
  clear BD HD SD
  generalize w1.drew = wd at *
  refine Tm 0 ?_
  simp only [Act.put, SA]
  refine Tm 1 ?_
  simp only [Act.put, SA]
  refine Tm 2 ?_
  simp only [Act.put, SA]
  refine Tm 3 ?_
  simp only [Act.put, SA]
  refine Tl 4 (v := ?_) ?_ hH ?_
  rotate_left 1
  · (intro w hSw; have q := hSw.1; clear hSw; go_simp <;> with_reducible rfl)
  simp only [Act.put, SA]
  refine Tm 5 ?_
  simp only [Act.put, SA]
  refine Tl 6 (v := ?_) ?_ hH ?_
  rotate_left 1
  · (intro w hSw; have q := hSw.2.1; clear hSw; go_simp <;> with_reducible rfl)
  simp only [Act.put, SA]
  refine Tm 7 ?_
  simp only [Act.put, SA]
  refine Tl 8 (v := ?_) ?_ hH ?_
  rotate_left 1
  · (intro w hSw; have q0 := hSw.2.2.1; have q1 := hSw.2.2.2.1; have q2 := hSw.2.2.2.2; clear hSw; go_simp <;> with_reducible rfl)
  simp only [Act.put, SA]
  have HH := hide hH
  refine Tr 9 (fun K1 hK1 => ?_)
  go_simp
  have SN := hide (show _ ∧ _ ∧ _ ∧ _ ∧ _ from ⟨cell_new hH.1 (.cells #[.int .i64 0, .int .i64 0, .slice none 0 0] 46), cell_new hH.2.1 (.cells #[.int .i64 0, .int .i64 0, .slice none 0 0] 46), cell_new hH.2.2.1 (.cells #[.int .i64 0, .int .i64 0, .slice none 0 0] 46), cell_new hH.2.2.2.1 (.cells #[.int .i64 0, .int .i64 0, .slice none 0 0] 46), cell_new hH.2.2.2.2 (.cells #[.int .i64 0, .int .i64 0, .slice none 0 0] 46)⟩)
  refine hK1.out _ _ (fun _ => SN.out) (fun _ => ?_)
  clear hK1 K1 hH SN
  have V1 := hide (Go.Deep.blk_alloc_new wd (.cells #[.int .i64 0, .int .i64 0, .slice none 0 0] 46))
  have f0 := blk_frz V1.out 0
  have f1 := blk_frz V1.out 1
  have f2 := blk_frz V1.out 2
  refine Tr 10 (fun K1 hK1 => ?_)
  go_simp
  clear V1 f0 f1 f2
  have V2 := hide (Go.Deep.blk_alloc_new wd (.cells #[.int .i64 fs, .int .i64 (k : Nat), .slice aL nl cL] 46))
  have SN := hide (show _ ∧ _ ∧ _ ∧ _ ∧ _ from ⟨cell_new HH.out.1 (.cells #[.int .i64 fs, .int .i64 (k : Nat), .slice aL nl cL] 46), cell_new HH.out.2.1 (.cells #[.int .i64 fs, .int .i64 (k : Nat), .slice aL nl cL] 46), cell_new HH.out.2.2.1 (.cells #[.int .i64 fs, .int .i64 (k : Nat), .slice aL nl cL] 46), cell_new HH.out.2.2.2.1 (.cells #[.int .i64 fs, .int .i64 (k : Nat), .slice aL nl cL] 46), cell_new HH.out.2.2.2.2 (.cells #[.int .i64 fs, .int .i64 (k : Nat), .slice aL nl cL] 46)⟩)
  refine hK1.out _ _ (fun _ => SN.out) (fun _ => ?_)
  clear hK1 K1 SN HH
  refine T_done (by kernel_rfl) ?_ _
  have LK : Hid ((fl.take k).length = k) := hide (by rw [List.length_take]; have := HK.out.1; omega)
  have CC := hide ((H1.out.low (bel_new wd (.cells #[.int .i64 fs, .int .i64 (k : Nat), .slice aL nl cL] 46))).take (sl_pre (SL.out.bel (bel_new wd (.cells #[.int .i64 fs, .int .i64 (k : Nat), .slice aL nl cL] 46))) hkl) (by rw [LK.out]; have := HK.out; omega))
  rw [LK.out] at CC
  have BN := hide (B1.out.trans ((bel_new wd (.cells #[.int .i64 fs, .int .i64 (k : Nat), .slice aL nl cL] 46)).mono H1.out.sk.low))
  have EM2 : Hid (o = takeM (fl.take k) s) := hide (by rw [EM.out, PT.out]; simp)
  have x0 := blk_cell V2.out 0 _ rfl
  have x1 := blk_cell V2.out 1 _ rfl
  have x2 := blk_cell V2.out 2 _ rfl
  clear V2 SL EM PT B1 H1 LK
  generalize wd.alloc (.cells #[.int .i64 fs, .int .i64 (k : Nat), .slice aL nl cL] 46) = w5 at *
  go_wp2_with fail
  refine CC.out.mono ?_
  intro e w2 hp
  rcases hp.both with ⟨s2, v2, hs, rfl, k2, b2⟩ | ⟨hs, rfl, b2⟩
  rotate_left 1
  · exact ⟨rfl, GkP.no (EM2.out.trans hs) (BN.out.trans b2)⟩
  have Z := hide (And.intro k2 (And.intro b2 hs))
  clear k2 b2 hs hp CC
  go_wp2_with fail
  go_end0
  exact GkP.yes (EM2.out.trans Z.out.2.2) Z.out.1 (BN.out.trans Z.out.2.1)
set_option maxRecDepth 20000 in
set_option maxHeartbeats 2000000 in
theorem change_23 {w0 w : World} {p : List Addr} {g b : Nat} {vP vC vF vB vLo vM vS vL v : Value} {c : Cd} {f : Fn3} {hi : Int} {s : List Int} (h : Cg w0 w p g b vP vC vF vB c f vLo hi vM vS vL v s) (n : Nat) (b' bits at_ : Int) (hn : n < c.F.length) (fm : Fm c) : Calls Tryd.prog 47 #[.pointer (some ⟨g, 0, none⟩), .pointer (some ⟨b, 0, none⟩), .agg #[.int .i64 23, .int .i64 (n : Nat), .int .i64 b', .int .u64 bits, .int .i64 at_]] w (GkP p w b w0.heap.size (changeM c f.lo ⟨23, (n : Nat), b', bits, at_⟩ s)) := by
  have EM : Hid (changeM c f.lo ⟨23, (n : Nat), b', bits, at_⟩ s = takeM (parT c n) s) := hide (by simp [changeM])
  generalize changeM c f.lo ⟨23, (n : Nat), b', bits, at_⟩ s = o at *
  have AB := hide (bel_new w (.cells #[.int .i64 23, .int .i64 (n : Nat), .int .i64 b', .int .u64 bits, .int .i64 at_] 44))
  have V0 := hide (Go.Deep.blk_alloc_new w (.cells #[.int .i64 23, .int .i64 (n : Nat), .int .i64 b', .int .u64 bits, .int .i64 at_] 44))
  have hz1 : (w.alloc (.cells #[.int .i64 23, .int .i64 (n : Nat), .int .i64 b', .int .u64 bits, .int .i64 at_] 44)).heap.size = w.heap.size + 1 := by simp
  have SZ1 := hide hz1
  clear hz1
  have H1 := hide (h.low AB.out)
  have B1 := hide (AB.out.mono h.sk.low)
  have PT : Hid (parT c (n : Int) = (c.F.getD n zF).lo.take (c.F.getD n zF).pa.toNat) := hide (by unfold parT; simp)
  obtain ⟨aF, cF, eF, _⟩ := h.rr.cv.F.form
  subst eF
  have y4 := blk_cell (h.rr.low AB.out).at_ 4 _ rfl
  obtain ⟨_, _, e9, _, _, h9⟩ := h.rr.cv.F
  obtain ⟨bF, oF, vl, e8, hbF, q0, q1, q2, sl⟩ := h9 n hn
  cases e9
  subst e8
  have z0 := (AB.out.cell (p := ⟨bF, oF + n * 3, none⟩) hbF).trans q0
  have z1 := (AB.out.cell (p := ⟨bF, oF + n * 3 + 1, none⟩) hbF).trans q1
  have z2 := (AB.out.cell (p := ⟨bF, oF + n * 3 + 2, none⟩) hbF).trans q2
  obtain ⟨aL, cL, eL, hL1, _⟩ := sl.form
  subst eL
  have SL := hide (sl.bel AB.out)
  have hfm := fm.f _ (show c.F.getD n zF ∈ c.F by rw [List.getD_eq_getElem?_getD, List.getElem?_eq_getElem hn]; exact List.getElem_mem hn)
  obtain ⟨m, hm⟩ : ∃ m, m = c.F.length := ⟨_, rfl⟩
  rw [← hm] at y4
  have hn1 : (n : Int) < (m : Int) := by omega
  have hn0 : n < m := by omega
  clear hbF q0 q1 q2 h9 hn hm sl fm
  generalize c.F.getD n zF = ff at *
  obtain ⟨fs, fp, fl⟩ := ff
  simp only at *
  obtain ⟨k, rfl⟩ : ∃ k : Nat, fp = k := ⟨fp.toNat, by omega⟩
  have hkl : k ≤ fl.length := by omega
  have HK := hide (And.intro hkl hfm.2.2)
  obtain ⟨nl, hnl⟩ : ∃ q, q = fl.length := ⟨_, rfl⟩
  have HNL := hide hnl
  rw [← hnl] at z2 SL hL1 hkl
  have hkc : k ≤ cL := by omega
  clear hfm hnl
  clear h AB
  have x0 := blk_cell V0.out 0 _ rfl
  have x1 := blk_cell V0.out 1 _ rfl
  clear V0
  go_enter Tryd.func47, Tryd.ntmps47
  go_wp2_with fail
  generalize w.alloc (.cells #[.int .i64 23, .int .i64 (n : Nat), .int .i64 b', .int .u64 bits, .int .i64 at_] 44) = w1 at *
  have AD : Below w1.heap.size w1 w1.drew := bel_drawn (Below.refl _ _)
  have HD := hide (H1.out.low AD)
  have BD := hide (B1.out.trans (AD.mono H1.out.sk.low))
  have SD := hide (SL.out.bel AD)
  refine wp_region_T (S := fun wz => wz.cell? ⟨g, 4, none⟩ = some (.slice (some ⟨bF, oF, none⟩) m cF) ∧ wz.cell? ⟨w.heap.size, 1, none⟩ = some (.int .i64 (n : Nat)) ∧ wz.cell? ⟨bF, oF + n * 3, none⟩ = some (.int .i64 fs) ∧ wz.cell? ⟨bF, oF + n * 3 + 1, none⟩ = some (.int .i64 (k : Nat)) ∧ wz.cell? ⟨bF, oF + n * 3 + 2, none⟩ = some (.slice aL nl cL)) (fun _ => true) mixed ⟨y4, x1, z0, z1, z2⟩ (fun hH => ?_)
  clear B1 H1 AD SL
  have B1 := BD
  have H1 := HD
  have SL := SD
  clear BD HD SD
  generalize w1.drew = wd at *
  refine Tm 0 ?_
  simp only [Act.put, SA]
  refine Tm 1 ?_
  simp only [Act.put, SA]
  refine Tm 2 ?_
  simp only [Act.put, SA]
  refine Tm 3 ?_
  simp only [Act.put, SA]
  refine Tl 4 (v := ?_) ?_ hH ?_
  rotate_left 1
  · (intro w hSw; have q := hSw.1; clear hSw; go_simp <;> with_reducible rfl)
  simp only [Act.put, SA]
  refine Tm 5 ?_
  simp only [Act.put, SA]
  refine Tl 6 (v := ?_) ?_ hH ?_
  rotate_left 1
  · (intro w hSw; have q := hSw.2.1; clear hSw; go_simp <;> with_reducible rfl)
  simp only [Act.put, SA]
  refine Tm 7 ?_
  simp only [Act.put, SA]
  refine Tl 8 (v := ?_) ?_ hH ?_
  rotate_left 1
  · (intro w hSw; have q0 := hSw.2.2.1; have q1 := hSw.2.2.2.1; have q2 := hSw.2.2.2.2; clear hSw; go_simp <;> with_reducible rfl)
  simp only [Act.put, SA]
  have HH := hide hH
  refine Tr 9 (fun K1 hK1 => ?_)
  go_simp
  have SN := hide (show _ ∧ _ ∧ _ ∧ _ ∧ _ from ⟨cell_new hH.1 (.cells #[.int .i64 0, .int .i64 0, .slice none 0 0] 46), cell_new hH.2.1 (.cells #[.int .i64 0, .int .i64 0, .slice none 0 0] 46), cell_new hH.2.2.1 (.cells #[.int .i64 0, .int .i64 0, .slice none 0 0] 46), cell_new hH.2.2.2.1 (.cells #[.int .i64 0, .int .i64 0, .slice none 0 0] 46), cell_new hH.2.2.2.2 (.cells #[.int .i64 0, .int .i64 0, .slice none 0 0] 46)⟩)
  refine hK1.out _ _ (fun _ => SN.out) (fun _ => ?_)
  clear hK1 K1 hH SN
  have V1 := hide (Go.Deep.blk_alloc_new wd (.cells #[.int .i64 0, .int .i64 0, .slice none 0 0] 46))
  have f0 := blk_frz V1.out 0
  have f1 := blk_frz V1.out 1
  have f2 := blk_frz V1.out 2
  refine Tr 10 (fun K1 hK1 => ?_)
  go_simp
  clear V1 f0 f1 f2
  have V2 := hide (Go.Deep.blk_alloc_new wd (.cells #[.int .i64 fs, .int .i64 (k : Nat), .slice aL nl cL] 46))
  have SN := hide (show _ ∧ _ ∧ _ ∧ _ ∧ _ from ⟨cell_new HH.out.1 (.cells #[.int .i64 fs, .int .i64 (k : Nat), .slice aL nl cL] 46), cell_new HH.out.2.1 (.cells #[.int .i64 fs, .int .i64 (k : Nat), .slice aL nl cL] 46), cell_new HH.out.2.2.1 (.cells #[.int .i64 fs, .int .i64 (k : Nat), .slice aL nl cL] 46), cell_new HH.out.2.2.2.1 (.cells #[.int .i64 fs, .int .i64 (k : Nat), .slice aL nl cL] 46), cell_new HH.out.2.2.2.2 (.cells #[.int .i64 fs, .int .i64 (k : Nat), .slice aL nl cL] 46)⟩)
  refine hK1.out _ _ (fun _ => SN.out) (fun _ => ?_)
  clear hK1 K1 SN HH
  refine T_done (by kernel_rfl) ?_ _
  have LK : Hid ((fl.take k).length = k) := hide (by rw [List.length_take]; have := HK.out.1; omega)
  have CC := hide ((H1.out.low (bel_new wd (.cells #[.int .i64 fs, .int .i64 (k : Nat), .slice aL nl cL] 46))).take (sl_pre (SL.out.bel (bel_new wd (.cells #[.int .i64 fs, .int .i64 (k : Nat), .slice aL nl cL] 46))) hkl) (by rw [LK.out]; have := HK.out; omega))
  rw [LK.out] at CC
  have BN := hide (B1.out.trans ((bel_new wd (.cells #[.int .i64 fs, .int .i64 (k : Nat), .slice aL nl cL] 46)).mono H1.out.sk.low))
  have EM2 : Hid (o = takeM (fl.take k) s) := hide (by rw [EM.out, PT.out]; simp)
  have x0 := blk_cell V2.out 0 _ rfl
  have x1 := blk_cell V2.out 1 _ rfl
  have x2 := blk_cell V2.out 2 _ rfl
  clear V2 SL EM PT B1 H1 LK
  generalize wd.alloc (.cells #[.int .i64 fs, .int .i64 (k : Nat), .slice aL nl cL] 46) = w5 at *
  go_wp2_with fail
  refine CC.out.mono ?_
  intro e w2 hp
  rcases hp.both with ⟨s2, v2, hs, rfl, k2, b2⟩ | ⟨hs, rfl, b2⟩
  rotate_left 1
  · exact ⟨rfl, GkP.no (EM2.out.trans hs) (BN.out.trans b2)⟩
  have Z := hide (And.intro k2 (And.intro b2 hs))
  clear k2 b2 hs hp CC
  go_wp2_with fail
  go_end0
  exact GkP.yes (EM2.out.trans Z.out.2.2) Z.out.1 (BN.out.trans Z.out.2.1)
end Go.Proofs.YtlheflkdapckbaaDoor.Ck
