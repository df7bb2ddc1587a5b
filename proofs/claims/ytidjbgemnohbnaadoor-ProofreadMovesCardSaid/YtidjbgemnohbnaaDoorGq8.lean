/- Texts of this proof, packed. -/
import Derived.Test.YtidjbgemnohbnaaDoorGq5
import Derived.Test.YtidjbgemnohbnaaDoorGq4
import Derived.Deep.CutRange
import Derived.Test.YtidjbgemnohbnaaDoorGq6
import Derived.Test.YtidjbgemnohbnaaDoorGq7
/- Package proofread: change, by instruction. (Written by mk_f.py.) -/
namespace Go.Proofs.YtidjbgemnohbnaaDoor.Ck
open Go.RowKit

set_option maxRecDepth 20000 in
set_option maxHeartbeats 2000000 in
theorem change_8 {w0 w : World} {p : List Addr} {g b : Nat} {vP vC vF vB vLo vM vS vL v : Value} {c : Cd} {f : Fn3} {hi : Int} {s : List Int} (h : Cg w0 w p g b vP vC vF vB c f vLo hi vM vS vL v s) (n : Nat) (b' bits at_ : Int) (hn : n < c.P.length) : Calls Tryd.prog 45 #[.pointer (some ⟨g, 0, none⟩), .pointer (some ⟨b, 0, none⟩), .agg #[.int .i64 8, .int .i64 (n : Nat), .int .i64 b', .int .u64 bits, .int .i64 at_]] w (GkP p w b w0.heap.size (changeM c f.lo ⟨8, (n : Nat), b', bits, at_⟩ s)) := by
  have EM : Hid (changeM c f.lo ⟨8, (n : Nat), b', bits, at_⟩ s = (takeM [1] s).map fun s' => s' ++ [c.P.getD n 0]) := hide (by simp [changeM])
  generalize changeM c f.lo ⟨8, (n : Nat), b', bits, at_⟩ s = o at *
  have AB := hide (bel_new w (.cells #[.int .i64 8, .int .i64 (n : Nat), .int .i64 b', .int .u64 bits, .int .i64 at_] 44))
  have V0 := hide (Go.Deep.blk_alloc_new w (.cells #[.int .i64 8, .int .i64 (n : Nat), .int .i64 b', .int .u64 bits, .int .i64 at_] 44))
  have hz1 : (w.alloc (.cells #[.int .i64 8, .int .i64 (n : Nat), .int .i64 b', .int .u64 bits, .int .i64 at_] 44)).heap.size = w.heap.size + 1 := by simp
  have SZ1 := hide hz1
  clear hz1
  have H1 := hide (h.low AB.out)
  have B1 := hide (AB.out.mono h.sk.low)
  have NBX : Hid (w.heap.size ≠ b) := hide (fun e => by have h1 := lt_of_blk h.sk.at_; omega)
  have HNN := hide hn
  obtain ⟨t, ht⟩ : ∃ t, t = c.P.getD n 0 := ⟨_, rfl⟩
  rw [← ht] at EM
  have HT := hide ht
  clear hn ht
  clear h AB
  have x0 := blk_cell V0.out 0 _ rfl
  have x1 := blk_cell V0.out 1 _ rfl
  clear V0
  go_enter Tryd.func45, Tryd.ntmps45
  go_wp2_with fail
  generalize w.alloc (.cells #[.int .i64 8, .int .i64 (n : Nat), .int .i64 b', .int .u64 bits, .int .i64 at_] 44) = w1 at *
  have CC := hide (H1.out.tk1 1 (fits_k (by decide) (by decide)))
  rw [SZ1.out] at CC
  refine CC.out.mono ?_
  intro e w2 hp
  rcases hp.both with ⟨s2, v2, hs, rfl, k2, t2⟩ | ⟨hs, rfl, t2⟩
  rotate_left 1
  · exact ⟨rfl, GkP.no (by rw [EM.out, hs]; rfl) (B1.out.trans (((bel_new w1 (.cells #[.int .i64 1] 3)).mono H1.out.sk.low).trans (t2.bel H1.out.sk.hb (Nat.le_trans H1.out.sk.low (bel_new w1 (.cells #[.int .i64 1] 3)).size))))⟩
  have x1n := t2.cell (cell_new x1 (.cells #[.int .i64 1] 3)) NBX.out
  have BN := hide (((bel_new w1 (.cells #[.int .i64 1] 3)).mono H1.out.sk.low).trans (t2.bel H1.out.sk.hb (Nat.le_trans H1.out.sk.low (bel_new w1 (.cells #[.int .i64 1] 3)).size)))
  have H2 := hide (H1.out.next k2 BN.out (Nat.le_trans (takeM_len hs) H1.out.n))
  have BD := hide (B1.out.trans BN.out)
  have EM2 := hide (EM.out.trans (by rw [hs]; rfl : _ = some (s2 ++ [t])))
  clear hp CC k2 t2 hs x0 x1 B1 H1 EM BN
  have B1 := BD
  have H1 := H2
  have EM := EM2
  clear BD H2 EM2
  obtain ⟨aP, cP, eP, _⟩ := H1.out.rr.cv.P.form
  subst eP
  have y0 := blk_cell H1.out.rr.at_ 0 _ rfl
  obtain ⟨bP, oP, e9, hbP, zP⟩ := H1.out.rr.cv.P.at n HNN.out
  subst e9
  rw [← HT.out] at zP
  obtain ⟨m, hm⟩ : ∃ m, m = c.P.length := ⟨_, rfl⟩
  rw [← hm] at y0
  have hn1 : (n : Int) < (m : Int) := by have := HNN.out; omega
  have hn0 : n < m := by have := HNN.out; omega
  clear hbP hm
  generalize w2 = w1 at *
  go_wp2_with fail
  refine wp_quiet_tail 10 mixed (by kernel_rfl) ?_
  simp only [List.take_succ_cons, List.take_zero, List.drop_succ_cons, List.drop_zero]
  repeat (first | go_big_quiet_skip | (go_big_quiet_want; go_big_quiet_op; go_big_quiet_on))
  refine wpQuiet_nil ?_
  go_wp2_with fail
  have SZD : Hid (w1.drew.heap.size = w1.heap.size) := hide (by simp)
  have HD := hide (H1.out.low (bel_drawn (Below.refl _ _)))
  have BD := hide (B1.out.trans ((bel_drawn (n := w1.heap.size) (Below.refl _ _)).mono H1.out.sk.low))
  clear B1 H1
  have B1 := BD
  have H1 := HD
  clear BD HD
  generalize w1.drew = wd at *
  have CC := hide (H1.out.push t)
  refine CC.out.mono ?_
  intro e w2 hp
  rcases hp.both with ⟨s2, v2, hs, rfl, k2, b2⟩ | ⟨hs, rfl, b2⟩
  rotate_left 1
  · cases hs
  have Z := hide (And.intro k2 (And.intro b2 hs))
  clear k2 b2 hs hp CC
  go_wp2_with fail
  go_end0
  exact GkP.yes (EM.out.trans Z.out.2.2) Z.out.1 (B1.out.trans Z.out.2.1)
end Go.Proofs.YtidjbgemnohbnaaDoor.Ck

/- Package proofread: change, by instruction. (Written by mk_f.py.) -/
namespace Go.Proofs.YtidjbgemnohbnaaDoor.Ck
open Go.RowKit

set_option maxRecDepth 20000 in
set_option maxHeartbeats 2000000 in
theorem change_22 {w0 w : World} {p : List Addr} {g b : Nat} {vP vC vF vB vLo vM vS vL v : Value} {c : Cd} {f : Fn3} {hi : Int} {s : List Int} (h : Cg w0 w p g b vP vC vF vB c f vLo hi vM vS vL v s) (n : Nat) (b' bits at_ : Int) (hn : n < c.F.length) (fm : Fm c) : Calls Tryd.prog 45 #[.pointer (some ⟨g, 0, none⟩), .pointer (some ⟨b, 0, none⟩), .agg #[.int .i64 22, .int .i64 (n : Nat), .int .i64 b', .int .u64 bits, .int .i64 at_]] w (GkP p w b w0.heap.size (changeM c f.lo ⟨22, (n : Nat), b', bits, at_⟩ s)) := by
  have EM : Hid (changeM c f.lo ⟨22, (n : Nat), b', bits, at_⟩ s = takeM (parT c n) s) := hide (by simp [changeM])
  generalize changeM c f.lo ⟨22, (n : Nat), b', bits, at_⟩ s = o at *
  have AB := hide (bel_new w (.cells #[.int .i64 22, .int .i64 (n : Nat), .int .i64 b', .int .u64 bits, .int .i64 at_] 44))
  have V0 := hide (Go.Deep.blk_alloc_new w (.cells #[.int .i64 22, .int .i64 (n : Nat), .int .i64 b', .int .u64 bits, .int .i64 at_] 44))
  have hz1 : (w.alloc (.cells #[.int .i64 22, .int .i64 (n : Nat), .int .i64 b', .int .u64 bits, .int .i64 at_] 44)).heap.size = w.heap.size + 1 := by simp
  have SZ1 := hide hz1
  clear hz1
  have H1 := hide (h.low AB.out)
  have B1 := hide (AB.out.mono h.sk.low)
  have PT : Hid (parT c (n : Int) = (c.F.getD n zF).lo.take (c.F.getD n zF).pa.toNat) := hide (by unfold parT; simp)
  obtain ⟨aF, cF, eF, _⟩ := h.rr.cv.F.form
  subst eF
  have y4 := blk_cell (h.rr.low AB.out).at_ 4 _ rfl
  obtain ⟨_, _, e9, _, _, h9⟩ := h.rr.cv.F
  obtain ⟨bF, oF, vl, e8, hbF, q0, q1, q2, sl⟩ := h9 n hn
  cases e9
  subst e8
  have z0 := (AB.out.cell (p := ⟨bF, oF + n * 3, none⟩) hbF).trans q0
  have z1 := (AB.out.cell (p := ⟨bF, oF + n * 3 + 1, none⟩) hbF).trans q1
  have z2 := (AB.out.cell (p := ⟨bF, oF + n * 3 + 2, none⟩) hbF).trans q2
  obtain ⟨aL, cL, eL, hL1, _⟩ := sl.form
  subst eL
  have SL := hide (sl.bel AB.out)
  have hfm := fm.f _ (show c.F.getD n zF ∈ c.F by rw [List.getD_eq_getElem?_getD, List.getElem?_eq_getElem hn]; exact List.getElem_mem hn)
  obtain ⟨m, hm⟩ : ∃ m, m = c.F.length := ⟨_, rfl⟩
  rw [← hm] at y4
  have hn1 : (n : Int) < (m : Int) := by omega
  have hn0 : n < m := by omega
  clear hbF q0 q1 q2 h9 hn hm sl fm
  generalize c.F.getD n zF = ff at *
  obtain ⟨fs, fp, fl⟩ := ff
  simp only at *
  obtain ⟨k, rfl⟩ : ∃ k : Nat, fp = k := ⟨fp.toNat, by omega⟩
  have hkl : k ≤ fl.length := by omega
  have HK := hide (And.intro hkl hfm.2.2)
  obtain ⟨nl, hnl⟩ : ∃ q, q = fl.length := ⟨_, rfl⟩
  have HNL := hide hnl
  rw [← hnl] at z2 SL hL1 hkl
  have hkc : k ≤ cL := by omega
  clear hfm hnl
  clear h AB
  have x0 := blk_cell V0.out 0 _ rfl
  have x1 := blk_cell V0.out 1 _ rfl
  clear V0
  go_enter Tryd.func45, Tryd.ntmps45
  go_wp2_with fail
  generalize w.alloc (.cells #[.int .i64 22, .int .i64 (n : Nat), .int .i64 b', .int .u64 bits, .int .i64 at_] 44) = w1 at *
  have AD : Below w1.heap.size w1 w1.drew := bel_drawn (Below.refl _ _)
  have HD := hide (H1.out.low AD)
  have BD := hide (B1.out.trans (AD.mono H1.out.sk.low))
  have SD := hide (SL.out.bel AD)
  refine wp_region_T (S := fun wz => wz.cell? ⟨g, 4, none⟩ = some (.slice (some ⟨bF, oF, none⟩) m cF) ∧ wz.cell? ⟨w.heap.size, 1, none⟩ = some (.int .i64 (n : Nat)) ∧ wz.cell? ⟨bF, oF + n * 3, none⟩ = some (.int .i64 fs) ∧ wz.cell? ⟨bF, oF + n * 3 + 1, none⟩ = some (.int .i64 (k : Nat)) ∧ wz.cell? ⟨bF, oF + n * 3 + 2, none⟩ = some (.slice aL nl cL)) (fun _ => true) mixed ⟨y4, x1, z0, z1, z2⟩ (fun hH => ?_)
  clear B1 H1 AD SL
  have B1 := BD
  have H1 := HD
  have SL := SD
  clear BD HD SD
  generalize w1.drew = wd at *
  refine Tm 0 ?_
  simp only [Act.put, SA]
  refine Tm 1 ?_
  simp only [Act.put, SA]
  refine Tm 2 ?_
  simp only [Act.put, SA]
  refine Tm 3 ?_
  simp only [Act.put, SA]
  refine Tl 4 (v := ?_) ?_ hH ?_
  rotate_left 1
  · (intro w hSw; have q := hSw.1; clear hSw; go_simp <;> with_reducible rfl)
  simp only [Act.put, SA]
  refine Tm 5 ?_
  simp only [Act.put, SA]
  refine Tl 6 (v := ?_) ?_ hH ?_
  rotate_left 1
  · (intro w hSw; have q := hSw.2.1; clear hSw; go_simp <;> with_reducible rfl)
  simp only [Act.put, SA]
  refine Tm 7 ?_
  simp only [Act.put, SA]
  refine Tl 8 (v := ?_) ?_ hH ?_
  rotate_left 1
  · (intro w hSw; have q0 := hSw.2.2.1; have q1 := hSw.2.2.2.1; have q2 := hSw.2.2.2.2; clear hSw; go_simp <;> with_reducible rfl)
  simp only [Act.put, SA]
  have HH := hide hH
  refine Tr 9 (fun K1 hK1 => ?_)
  go_simp
  have SN := hide (show _ ∧ _ ∧ _ ∧ _ ∧ _ from ⟨cell_new hH.1 (.cells #[.int .i64 0, .int .i64 0, .slice none 0 0] 46), cell_new hH.2.1 (.cells #[.int .i64 0, .int .i64 0, .slice none 0 0] 46), cell_new hH.2.2.1 (.cells #[.int .i64 0, .int .i64 0, .slice none 0 0] 46), cell_new hH.2.2.2.1 (.cells #[.int .i64 0, .int .i64 0, .slice none 0 0] 46), cell_new hH.2.2.2.2 (.cells #[.int .i64 0, .int .i64 0, .slice none 0 0] 46)⟩)
  refine hK1.out _ _ (fun _ => SN.out) (fun _ => ?_)
  clear hK1 K1 hH SN
  have V1 := hide (Go.Deep.blk_alloc_new wd (.cells #[.int .i64 0, .int .i64 0, .slice none 0 0] 46))
  have f0 := blk_frz V1.out 0
  have f1 := blk_frz V1.out 1
  have f2 := blk_frz V1.out 2
  refine Tr 10 (fun K1 hK1 => ?_)
  go_simp
  clear V1 f0 f1 f2
  have V2 := hide (Go.Deep.blk_alloc_new wd (.cells #[.int .i64 fs, .int .i64 (k : Nat), .slice aL nl cL] 46))
  have SN := hide (show _ ∧ _ ∧ _ ∧ _ ∧ _ from ⟨cell_new HH.out.1 (.cells #[.int .i64 fs, .int .i64 (k : Nat), .slice aL nl cL] 46), cell_new HH.out.2.1 (.cells #[.int .i64 fs, .int .i64 (k : Nat), .slice aL nl cL] 46), cell_new HH.out.2.2.1 (.cells #[.int .i64 fs, .int .i64 (k : Nat), .slice aL nl cL] 46), cell_new HH.out.2.2.2.1 (.cells #[.int .i64 fs, .int .i64 (k : Nat), .slice aL nl cL] 46), cell_new HH.out.2.2.2.2 (.cells #[.int .i64 fs, .int .i64 (k : Nat), .slice aL nl cL] 46)⟩)
  refine hK1.out _ _ (fun _ => SN.out) (fun _ => ?_)
  clear hK1 K1 SN HH
  refine T_done (by kernel_rfl) ?_ _
  have LK : Hid ((fl.take k).length = k) := hide (by rw [List.length_take]; have := HK.out.1; omega)
  have CC := hide ((H1.out.low (bel_new wd (.cells #[.int .i64 fs, .int .i64 (k : Nat), .slice aL nl cL] 46))).take (sl_pre (SL.out.bel (bel_new wd (.cells #[.int .i64 fs, .int .i64 (k : Nat), .slice aL nl cL] 46))) hkl) (by rw [LK.out]; have := HK.out; omega))
  rw [LK.out] at CC
  have BN := hide (B1.out.trans ((bel_new wd (.cells #[.int .i64 fs, .int .i64 (k : Nat), .slice aL nl cL] 46)).mono H1.out.sk.low))
  have EM2 : Hid (o = takeM (fl.take k) s) := hide (by rw [EM.out, PT.out]; simp)
  have x0 := blk_cell V2.out 0 _ rfl
  have x1 := blk_cell V2.out 1 _ rfl
  have x2 := blk_cell V2.out 2 _ rfl
  clear V2 SL EM PT B1 H1 LK
  generalize wd.alloc (.cells #[.int .i64 fs, .int .i64 (k : Nat), .slice aL nl cL] 46) = w5 at *
  go_wp2_with fail
  refine CC.out.mono ?_
  intro e w2 hp
  rcases hp.both with ⟨s2, v2, hs, rfl, k2, b2⟩ | ⟨hs, rfl, b2⟩
  rotate_left 1
  · exact ⟨rfl, GkP.no (EM2.out.trans hs) (BN.out.trans b2)⟩
  have Z := hide (And.intro k2 (And.intro b2 hs))
  clear k2 b2 hs hp CC
  go_wp2_with fail
  go_end0
  exact GkP.yes (EM2.out.trans Z.out.2.2) Z.out.1 (BN.out.trans Z.out.2.1)
set_option maxRecDepth 20000 in
set_option maxHeartbeats 2000000 in
theorem change_23 {w0 w : World} {p : List Addr} {g b : Nat} {vP vC vF vB vLo vM vS vL v : Value} {c : Cd} {f : Fn3} {hi : Int} {s : List Int} (h : Cg w0 w p g b vP vC vF vB c f vLo hi vM vS vL v s) (n : Nat) (b' bits at_ : Int) (hn : n < c.F.length) (fm : Fm c) : Calls Tryd.prog 45 #[.pointer (some ⟨g, 0, none⟩), .pointer (some ⟨b, 0, none⟩), .agg #[.int .i64 23, .int .i64 (n : Nat), .int .i64 b', .int .u64 bits, .int .i64 at_]] w (GkP p w b w0.heap.size (changeM c f.lo ⟨23, (n : Nat), b', bits, at_⟩ s)) := by
  have EM : Hid (changeM c f.lo ⟨23, (n : Nat), b', bits, at_⟩ s = takeM (parT c n) s) := hide (by simp [changeM])
  generalize changeM c f.lo ⟨23, (n : Nat), b', bits, at_⟩ s = o at *
  have AB := hide (bel_new w (.cells #[.int .i64 23, .int .i64 (n : Nat), .int .i64 b', .int .u64 bits, .int .i64 at_] 44))
  have V0 := hide (Go.Deep.blk_alloc_new w (.cells #[.int .i64 23, .int .i64 (n : Nat), .int .i64 b', .int .u64 bits, .int .i64 at_] 44))
  have hz1 : (w.alloc (.cells #[.int .i64 23, .int .i64 (n : Nat), .int .i64 b', .int .u64 bits, .int .i64 at_] 44)).heap.size = w.heap.size + 1 := by simp
  have SZ1 := hide hz1
  clear hz1
  have H1 := hide (h.low AB.out)
  have B1 := hide (AB.out.mono h.sk.low)
  have PT : Hid (parT c (n : Int) = (c.F.getD n zF).lo.take (c.F.getD n zF).pa.toNat) := hide (by unfold parT; simp)
  obtain ⟨aF, cF, eF, _⟩ := h.rr.cv.F.form
  subst eF
  have y4 := blk_cell (h.rr.low AB.out).at_ 4 _ rfl
  obtain ⟨_, _, e9, _, _, h9⟩ := h.rr.cv.F
  obtain ⟨bF, oF, vl, e8, hbF, q0, q1, q2, sl⟩ := h9 n hn
  cases e9
  subst e8
  have z0 := (AB.out.cell (p := ⟨bF, oF + n * 3, none⟩) hbF).trans q0
  have z1 := (AB.out.cell (p := ⟨bF, oF + n * 3 + 1, none⟩) hbF).trans q1
  have z2 := (AB.out.cell (p := ⟨bF, oF + n * 3 + 2, none⟩) hbF).trans q2
  obtain ⟨aL, cL, eL, hL1, _⟩ := sl.form
  subst eL
  have SL := hide (sl.bel AB.out)
  have hfm := fm.f _ (show c.F.getD n zF ∈ c.F by rw [List.getD_eq_getElem?_getD, List.getElem?_eq_getElem hn]; exact List.getElem_mem hn)
  obtain ⟨m, hm⟩ : ∃ m, m = c.F.length := ⟨_, rfl⟩
  rw [← hm] at y4
  have hn1 : (n : Int) < (m : Int) := by omega
  have hn0 : n < m := by omega
  clear hbF q0 q1 q2 h9 hn hm sl fm
  generalize c.F.getD n zF = ff at *
  obtain ⟨fs, fp, fl⟩ := ff
  simp only at *
  obtain ⟨k, rfl⟩ : ∃ k : Nat, fp = k := ⟨fp.toNat, by omega⟩
  have hkl : k ≤ fl.length := by omega
  have HK := hide (And.intro hkl hfm.2.2)
  obtain ⟨nl, hnl⟩ : ∃ q, q = fl.length := ⟨_, rfl⟩
  have HNL := hide hnl
  rw [← hnl] at z2 SL hL1 hkl
  have hkc : k ≤ cL := by omega
  clear hfm hnl
  clear h AB
  have x0 := blk_cell V0.out 0 _ rfl
  have x1 := blk_cell V0.out 1 _ rfl
  clear V0
  go_enter Tryd.func45, Tryd.ntmps45
  go_wp2_with fail
  generalize w.alloc (.cells #[.int .i64 23, .int .i64 (n : Nat), .int .i64 b', .int .u64 bits, .int .i64 at_] 44) = w1 at *
  have AD : Below w1.heap.size w1 w1.drew := bel_drawn (Below.refl _ _)
  have HD := hide (H1.out.low AD)
  have BD := hide (B1.out.trans (AD.mono H1.out.sk.low))
  have SD := hide (SL.out.bel AD)
  refine wp_region_T (S := fun wz => wz.cell? ⟨g, 4, none⟩ = some (.slice (some ⟨bF, oF, none⟩) m cF) ∧ wz.cell? ⟨w.heap.size, 1, none⟩ = some (.int .i64 (n : Nat)) ∧ wz.cell? ⟨bF, oF + n * 3, none⟩ = some (.int .i64 fs) ∧ wz.cell? ⟨bF, oF + n * 3 + 1, none⟩ = some (.int .i64 (k : Nat)) ∧ wz.cell? ⟨bF, oF + n * 3 + 2, none⟩ = some (.slice aL nl cL)) (fun _ => true) mixed ⟨y4, x1, z0, z1, z2⟩ (fun hH => ?_)
  clear B1 H1 AD SL
  have B1 := BD
  have H1 := HD
  have SL := SD
  clear BD HD SD
  generalize w1.drew = wd at *
  refine Tm 0 ?_
  simp only [Act.put, SA]
  refine Tm 1 ?_
  simp only [Act.put, SA]
  refine Tm 2 ?_
  simp only [Act.put, SA]
  refine Tm 3 ?_
  simp only [Act.put, SA]
  refine Tl 4 (v := ?_) ?_ hH ?_
  rotate_left 1
  · (intro w hSw; have q := hSw.1; clear hSw; go_simp <;> with_reducible rfl)
  simp only [Act.put, SA]
  refine Tm 5 ?_
  simp only [Act.put, SA]
  refine Tl 6 (v := ?_) ?_ hH ?_
  rotate_left 1
  · (intro w hSw; have q := hSw.2.1; clear hSw; go_simp <;> with_reducible rfl)
  simp only [Act.put, SA]
  refine Tm 7 ?_
  simp only [Act.put, SA]
  refine Tl 8 (v := ?_) ?_ hH ?_
  rotate_left 1
  · (intro w hSw; have q0 := hSw.2.2.1; have q1 := hSw.2.2.2.1; have q2 := hSw.2.2.2.2; clear hSw; go_simp <;> with_reducible rfl)
  simp only [Act.put, SA]
  have HH := hide hH
  refine Tr 9 (fun K1 hK1 => ?_)
  go_simp
  have SN := hide (show _ ∧ _ ∧ _ ∧ _ ∧ _ from ⟨cell_new hH.1 (.cells #[.int .i64 0, .int .i64 0, .slice none 0 0] 46), cell_new hH.2.1 (.cells #[.int .i64 0, .int .i64 0, .slice none 0 0] 46), cell_new hH.2.2.1 (.cells #[.int .i64 0, .int .i64 0, .slice none 0 0] 46), cell_new hH.2.2.2.1 (.cells #[.int .i64 0, .int .i64 0, .slice none 0 0] 46), cell_new hH.2.2.2.2 (.cells #[.int .i64 0, .int .i64 0, .slice none 0 0] 46)⟩)
  refine hK1.out _ _ (fun _ => SN.out) (fun _ => ?_)
  clear hK1 K1 hH SN
  have V1 := hide (Go.Deep.blk_alloc_new wd (.cells #[.int .i64 0, .int .i64 0, .slice none 0 0] 46))
  have f0 := blk_frz V1.out 0
  have f1 := blk_frz V1.out 1
  have f2 := blk_frz V1.out 2
  refine Tr 10 (fun K1 hK1 => ?_)
  go_simp
  clear V1 f0 f1 f2
  have V2 := hide (Go.Deep.blk_alloc_new wd (.cells #[.int .i64 fs, .int .i64 (k : Nat), .slice aL nl cL] 46))
  have SN := hide (show _ ∧ _ ∧ _ ∧ _ ∧ _ from ⟨cell_new HH.out.1 (.cells #[.int .i64 fs, .int .i64 (k : Nat), .slice aL nl cL] 46), cell_new HH.out.2.1 (.cells #[.int .i64 fs, .int .i64 (k : Nat), .slice aL nl cL] 46), cell_new HH.out.2.2.1 (.cells #[.int .i64 fs, .int .i64 (k : Nat), .slice aL nl cL] 46), cell_new HH.out.2.2.2.1 (.cells #[.int .i64 fs, .int .i64 (k : Nat), .slice aL nl cL] 46), cell_new HH.out.2.2.2.2 (.cells #[.int .i64 fs, .int .i64 (k : Nat), .slice aL nl cL] 46)⟩)
  refine hK1.out _ _ (fun _ => SN.out) (fun _ => ?_)
  clear hK1 K1 SN HH
  refine T_done (by kernel_rfl) ?_ _
  have LK : Hid ((fl.take k).length = k) := hide (by rw [List.length_take]; have := HK.out.1; omega)
  have CC := hide ((H1.out.low (bel_new wd (.cells #[.int .i64 fs, .int .i64 (k : Nat), .slice aL nl cL] 46))).take (sl_pre (SL.out.bel (bel_new wd (.cells #[.int .i64 fs, .int .i64 (k : Nat), .slice aL nl cL] 46))) hkl) (by rw [LK.out]; have := HK.out; omega))
  rw [LK.out] at CC
  have BN := hide (B1.out.trans ((bel_new wd (.cells #[.int .i64 fs, .int .i64 (k : Nat), .slice aL nl cL] 46)).mono H1.out.sk.low))
  have EM2 : Hid (o = takeM (fl.take k) s) := hide (by rw [EM.out, PT.out]; simp)
  have x0 := blk_cell V2.out 0 _ rfl
  have x1 := blk_cell V2.out 1 _ rfl
  have x2 := blk_cell V2.out 2 _ rfl
  clear V2 SL EM PT B1 H1 LK
  generalize wd.alloc (.cells #[.int .i64 fs, .int .i64 (k : Nat), .slice aL nl cL] 46) = w5 at *
  go_wp2_with fail
  refine CC.out.mono ?_
  intro e w2 hp
  rcases hp.both with ⟨s2, v2, hs, rfl, k2, b2⟩ | ⟨hs, rfl, b2⟩
  rotate_left 1
  · exact ⟨rfl, GkP.no (EM2.out.trans hs) (BN.out.trans b2)⟩
  have Z := hide (And.intro k2 (And.intro b2 hs))
  clear k2 b2 hs hp CC
  go_wp2_with fail
  go_end0
  exact GkP.yes (EM2.out.trans Z.out.2.2) Z.out.1 (BN.out.trans Z.out.2.1)
end Go.Proofs.YtidjbgemnohbnaaDoor.Ck

/- Package proofread: change. (Written by mk_j.py.) -/
namespace Go.Proofs.YtidjbgemnohbnaaDoor.Ck
open Go.RowKit

def insA (x : In5) : Value := .agg #[.int .i64 x.op, .int .i64 x.a, .int .i64 x.b, .int .u64 x.bits, .int .i64 x.at_]
theorem change_any {w0 w : World} {p : List Addr} {g b : Nat} {vP vC vF vB vLo vM vS vL v : Value} {c : Cd} {f : Fn3} {hi : Int} {s : List Int} (h : Cg w0 w p g b vP vC vF vB c f vLo hi vM vS vL v s) (fm : Fm c) (x : In5) (hx : insB c x = true) (ho : x.op ≠ 12 ∧ x.op ≠ 13 ∧ x.op ≠ 14 ∧ x.op ≠ 25 ∧ x.op ≠ 26) :
    Calls Tryd.prog 45 #[.pointer (some ⟨g, 0, none⟩), .pointer (some ⟨b, 0, none⟩), insA x] w (GkP p w b w0.heap.size (changeM c f.lo x s)) := by
  obtain ⟨op, a, b', bits, at_⟩ := x
  obtain ⟨q4, q6, q8, q10, q11, _, _, q17, q22, r1, r2⟩ := insB_at hx
  simp only at ho
  unfold insA
  simp only
  have hop : op = 1 ∨ op = 2 ∨ op = 3 ∨ op = 4 ∨ op = 5 ∨ op = 6 ∨ op = 7 ∨ op = 8 ∨ op = 9 ∨ op = 10 ∨ op = 11 ∨ op = 15 ∨ op = 16 ∨ op = 17 ∨ op = 18 ∨ op = 19 ∨ op = 20 ∨ op = 21 ∨ op = 22 ∨ op = 23 ∨ op = 24 := by omega
  rcases hop with rfl | rfl | rfl | rfl | rfl | rfl | rfl | rfl | rfl | rfl | rfl | rfl | rfl | rfl | rfl | rfl | rfl | rfl | rfl | rfl | rfl
  · exact change_1 h a b' bits at_
  · exact change_2 h a b' bits at_
  · exact change_3 h a b' bits at_
  · obtain ⟨n, rfl, _⟩ := inI_of (q4 (by decide))
    exact change_4 h n b' bits at_
  · obtain ⟨n, rfl, _⟩ := inI_of (q4 (by decide))
    exact change_5 h n b' bits at_
  · obtain ⟨n, rfl, hn⟩ := in_of (q6 (by decide))
    exact change_6 h n b' bits at_ hn
  · obtain ⟨n, rfl, hn⟩ := in_of (q6 (by decide))
    exact change_7 h n b' bits at_ hn
  · obtain ⟨n, rfl, hn⟩ := in_of (q8 (by decide))
    exact change_8 h n b' bits at_ hn
  · obtain ⟨n, rfl, hn⟩ := in_of (q8 (by decide))
    exact change_9 h n b' bits at_ hn
  · exact change_10 h a b' bits at_ (q10 rfl).1 (q10 rfl).2
  · exact change_11 h a b' bits at_ (q11 rfl).1 (q11 rfl).2
  · exact change_15 h a b' bits at_
  · exact change_16 h a b' bits at_
  · obtain ⟨n, rfl, hn⟩ := in_of (q17 (by decide))
    exact change_17 h n b' bits at_ hn
  · obtain ⟨n, rfl, hn⟩ := in_of (q17 (by decide))
    exact change_18 h n b' bits at_ hn
  · exact change_19 h a b' bits at_
  · exact change_20 h a b' bits at_
  · exact change_21 h a b' bits at_
  · obtain ⟨n, rfl, hn⟩ := in_of (q22 (by decide))
    exact change_22 h n b' bits at_ hn fm
  · obtain ⟨n, rfl, hn⟩ := in_of (q22 (by decide))
    exact change_23 h n b' bits at_ hn fm
  · exact change_24 h a b' bits at_
end Go.Proofs.YtidjbgemnohbnaaDoor.Ck
