/- Texts of this proof, packed. -/
import Derived.Test.YtidjbgemnohbnaaDoorGq5
import Derived.Test.YtidjbgemnohbnaaDoorGq4
import Derived.Deep.CutRange
/- Package proofread: change, by instruction. (Written by mk_f.py.) -/
namespace Go.Proofs.YtidjbgemnohbnaaDoor.Ck
open Go.RowKit

set_option maxRecDepth 20000 in
set_option maxHeartbeats 2000000 in
theorem change_6 {w0 w : World} {p : List Addr} {g b : Nat} {vP vC vF vB vLo vM vS vL v : Value} {c : Cd} {f : Fn3} {hi : Int} {s : List Int} (h : Cg w0 w p g b vP vC vF vB c f vLo hi vM vS vL v s) (n : Nat) (b' bits at_ : Int) (hn : n < c.P.length) : Calls Tryd.prog 45 #[.pointer (some ⟨g, 0, none⟩), .pointer (some ⟨b, 0, none⟩), .agg #[.int .i64 6, .int .i64 (n : Nat), .int .i64 b', .int .u64 bits, .int .i64 at_]] w (GkP p w b w0.heap.size (changeM c f.lo ⟨6, (n : Nat), b', bits, at_⟩ s)) := by
  have EM : Hid (changeM c f.lo ⟨6, (n : Nat), b', bits, at_⟩ s = some (s ++ [c.P.getD n 0])) := hide (by simp [changeM])
  generalize changeM c f.lo ⟨6, (n : Nat), b', bits, at_⟩ s = o at *
  have AB := hide (bel_new w (.cells #[.int .i64 6, .int .i64 (n : Nat), .int .i64 b', .int .u64 bits, .int .i64 at_] 44))
  have V0 := hide (Go.Deep.blk_alloc_new w (.cells #[.int .i64 6, .int .i64 (n : Nat), .int .i64 b', .int .u64 bits, .int .i64 at_] 44))
  have hz1 : (w.alloc (.cells #[.int .i64 6, .int .i64 (n : Nat), .int .i64 b', .int .u64 bits, .int .i64 at_] 44)).heap.size = w.heap.size + 1 := by simp
  have SZ1 := hide hz1
  clear hz1
  have H1 := hide (h.low AB.out)
  have B1 := hide (AB.out.mono h.sk.low)
  obtain ⟨aP, cP, eP, _⟩ := h.rr.cv.P.form
  subst eP
  have y0 := blk_cell (h.rr.low AB.out).at_ 0 _ rfl
  obtain ⟨bP, oP, rfl, hbP, yP⟩ := h.rr.cv.P.at n hn
  have zP := (AB.out.cell (p := ⟨bP, oP + n, none⟩) hbP).trans yP
  have F1 := hide (fits1 h.rr.cv.P.fits hn)
  obtain ⟨m, hm⟩ : ∃ m, m = c.P.length := ⟨_, rfl⟩
  rw [← hm] at y0
  have hn1 : (n : Int) < (m : Int) := by omega
  have hn0 : n < m := by omega
  have NB : Hid (g ≠ b ∧ w.heap.size ≠ b ∧ bP ≠ b) := hide ⟨fun e => by have h1 := lt_of_blk h.rd.at_; have h2 := h.sk.hb; omega, fun e => by have h1 := lt_of_blk h.sk.at_; omega, fun e => by obtain ⟨b9, o9, e9, h9, _⟩ := h.rd.cv.P.at n hn; cases e9; have h2 := h.sk.hb; omega⟩
  clear hbP yP hn hm
  generalize c.P.getD n 0 = t at *
  clear h AB
  have x0 := blk_cell V0.out 0 _ rfl
  have x1 := blk_cell V0.out 1 _ rfl
  clear V0
  go_enter Tryd.func45, Tryd.ntmps45
  go_wp2_with fail
  generalize w.alloc (.cells #[.int .i64 6, .int .i64 (n : Nat), .int .i64 b', .int .u64 bits, .int .i64 at_] 44) = w1 at *
  refine wp_quiet_tail 10 mixed (by kernel_rfl) ?_
  simp only [List.take_succ_cons, List.take_zero, List.drop_succ_cons, List.drop_zero]
  repeat (first | go_big_quiet_skip | (go_big_quiet_want; go_big_quiet_op; go_big_quiet_on))
  refine wpQuiet_nil ?_
  go_wp2_with fail
  have SZD : Hid (w1.drew.heap.size = w1.heap.size) := hide (by simp)
  have HD := hide (H1.out.low (bel_drawn (Below.refl _ _)))
  have BD := hide (B1.out.trans ((bel_drawn (n := w1.heap.size) (Below.refl _ _)).mono H1.out.sk.low))
  clear B1 H1
  have B1 := BD
  have H1 := HD
  clear BD HD
  generalize w1.drew = wd at *
  have CC := hide (H1.out.push t)
  refine CC.out.mono ?_
  intro e w2 hp
  rcases hp.both with ⟨s2, v2, hs, rfl, k2, b2⟩ | ⟨hs, rfl, b2⟩
  rotate_left 1
  · cases hs
  have Z := hide (And.intro k2 (And.intro b2 hs))
  clear k2 b2 hs hp CC
  go_wp2_with fail
  go_end0
  exact GkP.yes (EM.out.trans Z.out.2.2) Z.out.1 (B1.out.trans Z.out.2.1)
set_option maxRecDepth 20000 in
set_option maxHeartbeats 2000000 in
theorem change_7 {w0 w : World} {p : List Addr} {g b : Nat} {vP vC vF vB vLo vM vS vL v : Value} {c : Cd} {f : Fn3} {hi : Int} {s : List Int} (h : Cg w0 w p g b vP vC vF vB c f vLo hi vM vS vL v s) (n : Nat) (b' bits at_ : Int) (hn : n < c.P.length) : Calls Tryd.prog 45 #[.pointer (some ⟨g, 0, none⟩), .pointer (some ⟨b, 0, none⟩), .agg #[.int .i64 7, .int .i64 (n : Nat), .int .i64 b', .int .u64 bits, .int .i64 at_]] w (GkP p w b w0.heap.size (changeM c f.lo ⟨7, (n : Nat), b', bits, at_⟩ s)) := by
  have EM : Hid (changeM c f.lo ⟨7, (n : Nat), b', bits, at_⟩ s = takeM [c.P.getD n 0] s) := hide (by simp [changeM])
  generalize changeM c f.lo ⟨7, (n : Nat), b', bits, at_⟩ s = o at *
  have AB := hide (bel_new w (.cells #[.int .i64 7, .int .i64 (n : Nat), .int .i64 b', .int .u64 bits, .int .i64 at_] 44))
  have V0 := hide (Go.Deep.blk_alloc_new w (.cells #[.int .i64 7, .int .i64 (n : Nat), .int .i64 b', .int .u64 bits, .int .i64 at_] 44))
  have hz1 : (w.alloc (.cells #[.int .i64 7, .int .i64 (n : Nat), .int .i64 b', .int .u64 bits, .int .i64 at_] 44)).heap.size = w.heap.size + 1 := by simp
  have SZ1 := hide hz1
  clear hz1
  have H1 := hide (h.low AB.out)
  have B1 := hide (AB.out.mono h.sk.low)
  obtain ⟨aP, cP, eP, _⟩ := h.rr.cv.P.form
  subst eP
  have y0 := blk_cell (h.rr.low AB.out).at_ 0 _ rfl
  obtain ⟨bP, oP, rfl, hbP, yP⟩ := h.rr.cv.P.at n hn
  have zP := (AB.out.cell (p := ⟨bP, oP + n, none⟩) hbP).trans yP
  have F1 := hide (fits1 h.rr.cv.P.fits hn)
  obtain ⟨m, hm⟩ : ∃ m, m = c.P.length := ⟨_, rfl⟩
  rw [← hm] at y0
  have hn1 : (n : Int) < (m : Int) := by omega
  have hn0 : n < m := by omega
  have NB : Hid (g ≠ b ∧ w.heap.size ≠ b ∧ bP ≠ b) := hide ⟨fun e => by have h1 := lt_of_blk h.rd.at_; have h2 := h.sk.hb; omega, fun e => by have h1 := lt_of_blk h.sk.at_; omega, fun e => by obtain ⟨b9, o9, e9, h9, _⟩ := h.rd.cv.P.at n hn; cases e9; have h2 := h.sk.hb; omega⟩
  clear hbP yP hn hm
  generalize c.P.getD n 0 = t at *
  clear h AB
  have x0 := blk_cell V0.out 0 _ rfl
  have x1 := blk_cell V0.out 1 _ rfl
  clear V0
  go_enter Tryd.func45, Tryd.ntmps45
  go_wp2_with fail
  generalize w.alloc (.cells #[.int .i64 7, .int .i64 (n : Nat), .int .i64 b', .int .u64 bits, .int .i64 at_] 44) = w1 at *
  have AD : Below w1.heap.size w1 w1.drew := bel_drawn (Below.refl _ _)
  have HD := hide (H1.out.low AD)
  have BD := hide (B1.out.trans (AD.mono H1.out.sk.low))
  have NE := hide (show g ≠ b ∧ w.heap.size ≠ b ∧ bP ≠ b from NB.out)
  refine wp_region_T (S := fun wz => wz.cell? ⟨g, 0, none⟩ = some (.slice (some ⟨bP, oP, none⟩) m cP) ∧ wz.cell? ⟨w.heap.size, 1, none⟩ = some (.int .i64 (n : Nat)) ∧ wz.cell? ⟨bP, oP + n, none⟩ = some (.int .i64 t)) (fun _ => true) mixed ⟨y0, x1, zP⟩ (fun hH => ?_)
  clear B1 H1 AD
  have B1 := BD
  have H1 := HD
  clear BD HD
  generalize w1.drew = wd at *
  refine Tm 0 ?_
  simp only [Act.put, SA]
  refine Tm 1 ?_
  simp only [Act.put, SA]
  refine Tm 2 ?_
  simp only [Act.put, SA]
  refine Tm 3 ?_
  simp only [Act.put, SA]
  refine Tm 4 ?_
  simp only [Act.put, SA]
  refine Tl 5 (v := ?_) ?_ hH ?_
  rotate_left 1
  · (intro w hSw; have q := hSw.1; clear hSw; go_simp <;> with_reducible rfl)
  simp only [Act.put, SA]
  refine Tm 6 ?_
  simp only [Act.put, SA]
  refine Tl 7 (v := ?_) ?_ hH ?_
  rotate_left 1
  · (intro w hSw; have q := hSw.2.1; clear hSw; go_simp <;> with_reducible rfl)
  simp only [Act.put, SA]
  refine Tm 8 ?_
  simp only [Act.put, SA]
  refine Tl 9 (v := ?_) ?_ hH ?_
  rotate_left 1
  · (intro w hSw; have q := hSw.2.2; clear hSw; go_simp <;> with_reducible rfl)
  simp only [Act.put, SA]
  refine Tr 10 (fun K1 hK1 => ?_)
  go_simp
  have CC := hide (H1.out.tk1 t F1.out)
  have L1 := hide H1.out.sk.low
  have HB := hide H1.out.sk.hb
  have SN := hide (show _ ∧ _ ∧ _ from ⟨cell_new hH.1 (.cells #[.int .i64 t] 3), cell_new hH.2.1 (.cells #[.int .i64 t] 3), cell_new hH.2.2 (.cells #[.int .i64 t] 3)⟩)
  have BN := hide (B1.out.trans ((bel_new wd (.cells #[.int .i64 t] 3)).mono L1.out))
  have LN := hide (show w0.heap.size ≤ (wd.alloc (.cells #[.int .i64 t] 3)).heap.size from Nat.le_trans L1.out (bel_new wd _).size)
  refine hK1.out _ _ (fun _ => SN.out) (fun _ => ?_)
  clear hK1 K1 hH
  refine Tr 11 (fun K1 hK1 => ?_)
  go_simp
  refine CC.out.mono ?_
  intro e w2 hp
  rcases hp.both with ⟨s2, v2, hs, rfl, k2, t2⟩ | ⟨hs, rfl, t2⟩
  rotate_left 1
  · exact ⟨rfl, GkP.no (by rw [EM.out]; exact hs) (BN.out.trans (t2.bel HB.out LN.out))⟩
  refine hK1.out _ _ (fun _ => ⟨t2.cell SN.out.1 NE.out.1, t2.cell SN.out.2.1 NE.out.2.1, t2.cell SN.out.2.2 NE.out.2.2⟩) (fun _ => ?_)
  have Z := hide (And.intro k2 (And.intro (t2.bel HB.out LN.out) hs))
  clear k2 t2 hs hp CC hK1 K1 SN
  refine T_done (by kernel_rfl) ?_ _
  go_wp2_with fail
  go_end0
  exact GkP.yes (EM.out.trans Z.out.2.2) Z.out.1 (BN.out.trans Z.out.2.1)
set_option maxRecDepth 20000 in
set_option maxHeartbeats 2000000 in
theorem change_9 {w0 w : World} {p : List Addr} {g b : Nat} {vP vC vF vB vLo vM vS vL v : Value} {c : Cd} {f : Fn3} {hi : Int} {s : List Int} (h : Cg w0 w p g b vP vC vF vB c f vLo hi vM vS vL v s) (n : Nat) (b' bits at_ : Int) (hn : n < c.P.length) : Calls Tryd.prog 45 #[.pointer (some ⟨g, 0, none⟩), .pointer (some ⟨b, 0, none⟩), .agg #[.int .i64 9, .int .i64 (n : Nat), .int .i64 b', .int .u64 bits, .int .i64 at_]] w (GkP p w b w0.heap.size (changeM c f.lo ⟨9, (n : Nat), b', bits, at_⟩ s)) := by
  have EM : Hid (changeM c f.lo ⟨9, (n : Nat), b', bits, at_⟩ s = takeM [1, c.P.getD n 0] s) := hide (by simp [changeM])
  generalize changeM c f.lo ⟨9, (n : Nat), b', bits, at_⟩ s = o at *
  have AB := hide (bel_new w (.cells #[.int .i64 9, .int .i64 (n : Nat), .int .i64 b', .int .u64 bits, .int .i64 at_] 44))
  have V0 := hide (Go.Deep.blk_alloc_new w (.cells #[.int .i64 9, .int .i64 (n : Nat), .int .i64 b', .int .u64 bits, .int .i64 at_] 44))
  have hz1 : (w.alloc (.cells #[.int .i64 9, .int .i64 (n : Nat), .int .i64 b', .int .u64 bits, .int .i64 at_] 44)).heap.size = w.heap.size + 1 := by simp
  have SZ1 := hide hz1
  clear hz1
  have H1 := hide (h.low AB.out)
  have B1 := hide (AB.out.mono h.sk.low)
  obtain ⟨aP, cP, eP, _⟩ := h.rr.cv.P.form
  subst eP
  have y0 := blk_cell (h.rr.low AB.out).at_ 0 _ rfl
  obtain ⟨bP, oP, rfl, hbP, yP⟩ := h.rr.cv.P.at n hn
  have zP := (AB.out.cell (p := ⟨bP, oP + n, none⟩) hbP).trans yP
  have F1 := hide (fits1 h.rr.cv.P.fits hn)
  obtain ⟨m, hm⟩ : ∃ m, m = c.P.length := ⟨_, rfl⟩
  rw [← hm] at y0
  have hn1 : (n : Int) < (m : Int) := by omega
  have hn0 : n < m := by omega
  have NB : Hid (g ≠ b ∧ w.heap.size ≠ b ∧ bP ≠ b) := hide ⟨fun e => by have h1 := lt_of_blk h.rd.at_; have h2 := h.sk.hb; omega, fun e => by have h1 := lt_of_blk h.sk.at_; omega, fun e => by obtain ⟨b9, o9, e9, h9, _⟩ := h.rd.cv.P.at n hn; cases e9; have h2 := h.sk.hb; omega⟩
  clear hbP yP hn hm
  generalize c.P.getD n 0 = t at *
  have F2 := hide (fits_2 (fits_k (k := 1) (by decide) (by decide)) F1.out)
  clear h AB
  have x0 := blk_cell V0.out 0 _ rfl
  have x1 := blk_cell V0.out 1 _ rfl
  clear V0
  go_enter Tryd.func45, Tryd.ntmps45
  go_wp2_with fail
  generalize w.alloc (.cells #[.int .i64 9, .int .i64 (n : Nat), .int .i64 b', .int .u64 bits, .int .i64 at_] 44) = w1 at *
  have AD : Below w1.heap.size w1 w1.drew := bel_drawn (Below.refl _ _)
  have HD := hide (H1.out.low AD)
  have BD := hide (B1.out.trans (AD.mono H1.out.sk.low))
  have NE := hide (show g ≠ b ∧ w.heap.size ≠ b ∧ bP ≠ b from NB.out)
  refine wp_region_T (S := fun wz => wz.cell? ⟨g, 0, none⟩ = some (.slice (some ⟨bP, oP, none⟩) m cP) ∧ wz.cell? ⟨w.heap.size, 1, none⟩ = some (.int .i64 (n : Nat)) ∧ wz.cell? ⟨bP, oP + n, none⟩ = some (.int .i64 t)) (fun _ => true) mixed ⟨y0, x1, zP⟩ (fun hH => ?_)
  clear B1 H1 AD
  have B1 := BD
  have H1 := HD
  clear BD HD
  generalize w1.drew = wd at *
  refine Tm 0 ?_
  simp only [Act.put, SA]
  refine Tm 1 ?_
  simp only [Act.put, SA]
  refine Tm 2 ?_
  simp only [Act.put, SA]
  refine Tm 3 ?_
  simp only [Act.put, SA]
  refine Tm 4 ?_
  simp only [Act.put, SA]
  refine Tl 5 (v := ?_) ?_ hH ?_
  rotate_left 1
  · (intro w hSw; have q := hSw.1; clear hSw; go_simp <;> with_reducible rfl)
  simp only [Act.put, SA]
  refine Tm 6 ?_
  simp only [Act.put, SA]
  refine Tl 7 (v := ?_) ?_ hH ?_
  rotate_left 1
  · (intro w hSw; have q := hSw.2.1; clear hSw; go_simp <;> with_reducible rfl)
  simp only [Act.put, SA]
  refine Tm 8 ?_
  simp only [Act.put, SA]
  refine Tl 9 (v := ?_) ?_ hH ?_
  rotate_left 1
  · (intro w hSw; have q := hSw.2.2; clear hSw; go_simp <;> with_reducible rfl)
  simp only [Act.put, SA]
  refine Tr 10 (fun K1 hK1 => ?_)
  go_simp
  have CC := hide (H1.out.tk2 1 t F2.out)
  have L1 := hide H1.out.sk.low
  have HB := hide H1.out.sk.hb
  have SN := hide (show _ ∧ _ ∧ _ from ⟨cell_new hH.1 (.cells #[.int .i64 1, .int .i64 t] 3), cell_new hH.2.1 (.cells #[.int .i64 1, .int .i64 t] 3), cell_new hH.2.2 (.cells #[.int .i64 1, .int .i64 t] 3)⟩)
  have BN := hide (B1.out.trans ((bel_new wd (.cells #[.int .i64 1, .int .i64 t] 3)).mono L1.out))
  have LN := hide (show w0.heap.size ≤ (wd.alloc (.cells #[.int .i64 1, .int .i64 t] 3)).heap.size from Nat.le_trans L1.out (bel_new wd _).size)
  refine hK1.out _ _ (fun _ => SN.out) (fun _ => ?_)
  clear hK1 K1 hH
  refine Tr 11 (fun K1 hK1 => ?_)
  go_simp
  refine CC.out.mono ?_
  intro e w2 hp
  rcases hp.both with ⟨s2, v2, hs, rfl, k2, t2⟩ | ⟨hs, rfl, t2⟩
  rotate_left 1
  · exact ⟨rfl, GkP.no (by rw [EM.out]; exact hs) (BN.out.trans (t2.bel HB.out LN.out))⟩
  refine hK1.out _ _ (fun _ => ⟨t2.cell SN.out.1 NE.out.1, t2.cell SN.out.2.1 NE.out.2.1, t2.cell SN.out.2.2 NE.out.2.2⟩) (fun _ => ?_)
  have Z := hide (And.intro k2 (And.intro (t2.bel HB.out LN.out) hs))
  clear k2 t2 hs hp CC hK1 K1 SN
  refine T_done (by kernel_rfl) ?_ _
  go_wp2_with fail
  go_end0
  exact GkP.yes (EM.out.trans Z.out.2.2) Z.out.1 (BN.out.trans Z.out.2.1)
end Go.Proofs.YtidjbgemnohbnaaDoor.Ck

/- Package proofread: change, by instruction. (Written by mk_f.py.) -/
namespace Go.Proofs.YtidjbgemnohbnaaDoor.Ck
open Go.RowKit

set_option maxRecDepth 20000 in
set_option maxHeartbeats 2000000 in
theorem change_17 {w0 w : World} {p : List Addr} {g b : Nat} {vP vC vF vB vLo vM vS vL v : Value} {c : Cd} {f : Fn3} {hi : Int} {s : List Int} (h : Cg w0 w p g b vP vC vF vB c f vLo hi vM vS vL v s) (n : Nat) (b' bits at_ : Int) (hn : n < c.C.length) : Calls Tryd.prog 45 #[.pointer (some ⟨g, 0, none⟩), .pointer (some ⟨b, 0, none⟩), .agg #[.int .i64 17, .int .i64 (n : Nat), .int .i64 b', .int .u64 bits, .int .i64 at_]] w (GkP p w b w0.heap.size (changeM c f.lo ⟨17, (n : Nat), b', bits, at_⟩ s)) := by
  have EM : Hid (changeM c f.lo ⟨17, (n : Nat), b', bits, at_⟩ s = takeM [(c.C.getD n z2).1] s) := hide (by simp [changeM, chanT])
  generalize changeM c f.lo ⟨17, (n : Nat), b', bits, at_⟩ s = o at *
  have AB := hide (bel_new w (.cells #[.int .i64 17, .int .i64 (n : Nat), .int .i64 b', .int .u64 bits, .int .i64 at_] 44))
  have V0 := hide (Go.Deep.blk_alloc_new w (.cells #[.int .i64 17, .int .i64 (n : Nat), .int .i64 b', .int .u64 bits, .int .i64 at_] 44))
  have hz1 : (w.alloc (.cells #[.int .i64 17, .int .i64 (n : Nat), .int .i64 b', .int .u64 bits, .int .i64 at_] 44)).heap.size = w.heap.size + 1 := by simp
  have SZ1 := hide hz1
  clear hz1
  have H1 := hide (h.low AB.out)
  have B1 := hide (AB.out.mono h.sk.low)
  obtain ⟨aC, cC, eC, _⟩ := h.rr.cv.C.form
  subst eC
  have y3 := blk_cell (h.rr.low AB.out).at_ 3 _ rfl
  obtain ⟨_, _, e9, _, _, h9⟩ := h.rr.cv.C
  obtain ⟨bC, oC, e8, hbC, yC, _⟩ := h9 n hn
  cases e9
  subst e8
  have zC := (AB.out.cell (p := ⟨bC, oC + n * 2, none⟩) hbC).trans yC
  have F1 := hide (fits_1 (h.rr.cv.L.K _ (show c.C.getD n z2 ∈ c.C by rw [List.getD_eq_getElem?_getD, List.getElem?_eq_getElem hn]; exact List.getElem_mem hn)))
  obtain ⟨m, hm⟩ : ∃ m, m = c.C.length := ⟨_, rfl⟩
  rw [← hm] at y3
  have hn1 : (n : Int) < (m : Int) := by omega
  have hn0 : n < m := by omega
  have NB : Hid (g ≠ b ∧ w.heap.size ≠ b ∧ bC ≠ b) := hide ⟨fun e => by have h1 := lt_of_blk h.rd.at_; have h2 := h.sk.hb; omega, fun e => by have h1 := lt_of_blk h.sk.at_; omega, fun e => by obtain ⟨_, _, q9, _, _, q8⟩ := h.rd.cv.C; obtain ⟨b9, o9, e9, l9, _⟩ := q8 n hn; cases q9; cases e9; have h2 := h.sk.hb; omega⟩
  clear hbC yC h9 hn hm
  generalize (c.C.getD n z2).1 = t at *
  clear h AB
  have x0 := blk_cell V0.out 0 _ rfl
  have x1 := blk_cell V0.out 1 _ rfl
  clear V0
  go_enter Tryd.func45, Tryd.ntmps45
  go_wp2_with fail
  generalize w.alloc (.cells #[.int .i64 17, .int .i64 (n : Nat), .int .i64 b', .int .u64 bits, .int .i64 at_] 44) = w1 at *
  have AD : Below w1.heap.size w1 w1.drew := bel_drawn (Below.refl _ _)
  have HD := hide (H1.out.low AD)
  have BD := hide (B1.out.trans (AD.mono H1.out.sk.low))
  have NE := hide (show g ≠ b ∧ w.heap.size ≠ b ∧ bC ≠ b from NB.out)
  refine wp_region_T (S := fun wz => wz.cell? ⟨g, 3, none⟩ = some (.slice (some ⟨bC, oC, none⟩) m cC) ∧ wz.cell? ⟨w.heap.size, 1, none⟩ = some (.int .i64 (n : Nat)) ∧ wz.cell? ⟨bC, oC + n * 2, none⟩ = some (.int .i64 t)) (fun _ => true) mixed ⟨y3, x1, zC⟩ (fun hH => ?_)
  clear B1 H1 AD
  have B1 := BD
  have H1 := HD
  clear BD HD
  generalize w1.drew = wd at *
  refine Tm 0 ?_
  simp only [Act.put, SA]
  refine Tm 1 ?_
  simp only [Act.put, SA]
  refine Tm 2 ?_
  simp only [Act.put, SA]
  refine Tm 3 ?_
  simp only [Act.put, SA]
  refine Tm 4 ?_
  simp only [Act.put, SA]
  refine Tl 5 (v := ?_) ?_ hH ?_
  rotate_left 1
  · (intro w hSw; have q := hSw.1; clear hSw; go_simp <;> with_reducible rfl)
  simp only [Act.put, SA]
  refine Tm 6 ?_
  simp only [Act.put, SA]
  refine Tl 7 (v := ?_) ?_ hH ?_
  rotate_left 1
  · (intro w hSw; have q := hSw.2.1; clear hSw; go_simp <;> with_reducible rfl)
  simp only [Act.put, SA]
  refine Tm 8 ?_
  simp only [Act.put, SA]
  refine Tm 9 ?_
  simp only [Act.put, SA]
  refine Tl 10 (v := ?_) ?_ hH ?_
  rotate_left 1
  · (intro w hSw; have q := hSw.2.2; clear hSw; go_simp <;> with_reducible rfl)
  simp only [Act.put, SA]
  refine Tr 11 (fun K1 hK1 => ?_)
  go_simp
  have CC := hide (H1.out.tk1 t F1.out)
  have L1 := hide H1.out.sk.low
  have HB := hide H1.out.sk.hb
  have SN := hide (show _ ∧ _ ∧ _ from ⟨cell_new hH.1 (.cells #[.int .i64 t] 3), cell_new hH.2.1 (.cells #[.int .i64 t] 3), cell_new hH.2.2 (.cells #[.int .i64 t] 3)⟩)
  have BN := hide (B1.out.trans ((bel_new wd (.cells #[.int .i64 t] 3)).mono L1.out))
  have LN := hide (show w0.heap.size ≤ (wd.alloc (.cells #[.int .i64 t] 3)).heap.size from Nat.le_trans L1.out (bel_new wd _).size)
  refine hK1.out _ _ (fun _ => SN.out) (fun _ => ?_)
  clear hK1 K1 hH
  refine Tr 12 (fun K1 hK1 => ?_)
  go_simp
  refine CC.out.mono ?_
  intro e w2 hp
  rcases hp.both with ⟨s2, v2, hs, rfl, k2, t2⟩ | ⟨hs, rfl, t2⟩
  rotate_left 1
  · exact ⟨rfl, GkP.no (by rw [EM.out]; exact hs) (BN.out.trans (t2.bel HB.out LN.out))⟩
  refine hK1.out _ _ (fun _ => ⟨t2.cell SN.out.1 NE.out.1, t2.cell SN.out.2.1 NE.out.2.1, t2.cell SN.out.2.2 NE.out.2.2⟩) (fun _ => ?_)
  have Z := hide (And.intro k2 (And.intro (t2.bel HB.out LN.out) hs))
  clear k2 t2 hs hp CC hK1 K1 SN
  refine T_done (by kernel_rfl) ?_ _
  go_wp2_with fail
  go_end0
  exact GkP.yes (EM.out.trans Z.out.2.2) Z.out.1 (BN.out.trans Z.out.2.1)
set_option maxRecDepth 20000 in
set_option maxHeartbeats 2000000 in
theorem change_18 {w0 w : World} {p : List Addr} {g b : Nat} {vP vC vF vB vLo vM vS vL v : Value} {c : Cd} {f : Fn3} {hi : Int} {s : List Int} (h : Cg w0 w p g b vP vC vF vB c f vLo hi vM vS vL v s) (n : Nat) (b' bits at_ : Int) (hn : n < c.C.length) : Calls Tryd.prog 45 #[.pointer (some ⟨g, 0, none⟩), .pointer (some ⟨b, 0, none⟩), .agg #[.int .i64 18, .int .i64 (n : Nat), .int .i64 b', .int .u64 bits, .int .i64 at_]] w (GkP p w b w0.heap.size (changeM c f.lo ⟨18, (n : Nat), b', bits, at_⟩ s)) := by
  have EM : Hid (changeM c f.lo ⟨18, (n : Nat), b', bits, at_⟩ s = some (s ++ [(c.C.getD n z2).1])) := hide (by simp [changeM, chanT])
  generalize changeM c f.lo ⟨18, (n : Nat), b', bits, at_⟩ s = o at *
  have AB := hide (bel_new w (.cells #[.int .i64 18, .int .i64 (n : Nat), .int .i64 b', .int .u64 bits, .int .i64 at_] 44))
  have V0 := hide (Go.Deep.blk_alloc_new w (.cells #[.int .i64 18, .int .i64 (n : Nat), .int .i64 b', .int .u64 bits, .int .i64 at_] 44))
  have hz1 : (w.alloc (.cells #[.int .i64 18, .int .i64 (n : Nat), .int .i64 b', .int .u64 bits, .int .i64 at_] 44)).heap.size = w.heap.size + 1 := by simp
  have SZ1 := hide hz1
  clear hz1
  have H1 := hide (h.low AB.out)
  have B1 := hide (AB.out.mono h.sk.low)
  obtain ⟨aC, cC, eC, _⟩ := h.rr.cv.C.form
  subst eC
  have y3 := blk_cell (h.rr.low AB.out).at_ 3 _ rfl
  obtain ⟨_, _, e9, _, _, h9⟩ := h.rr.cv.C
  obtain ⟨bC, oC, e8, hbC, yC, _⟩ := h9 n hn
  cases e9
  subst e8
  have zC := (AB.out.cell (p := ⟨bC, oC + n * 2, none⟩) hbC).trans yC
  have F1 := hide (fits_1 (h.rr.cv.L.K _ (show c.C.getD n z2 ∈ c.C by rw [List.getD_eq_getElem?_getD, List.getElem?_eq_getElem hn]; exact List.getElem_mem hn)))
  obtain ⟨m, hm⟩ : ∃ m, m = c.C.length := ⟨_, rfl⟩
  rw [← hm] at y3
  have hn1 : (n : Int) < (m : Int) := by omega
  have hn0 : n < m := by omega
  have NB : Hid (g ≠ b ∧ w.heap.size ≠ b ∧ bC ≠ b) := hide ⟨fun e => by have h1 := lt_of_blk h.rd.at_; have h2 := h.sk.hb; omega, fun e => by have h1 := lt_of_blk h.sk.at_; omega, fun e => by obtain ⟨_, _, q9, _, _, q8⟩ := h.rd.cv.C; obtain ⟨b9, o9, e9, l9, _⟩ := q8 n hn; cases q9; cases e9; have h2 := h.sk.hb; omega⟩
  clear hbC yC h9 hn hm
  generalize (c.C.getD n z2).1 = t at *
  clear h AB
  have x0 := blk_cell V0.out 0 _ rfl
  have x1 := blk_cell V0.out 1 _ rfl
  clear V0
  go_enter Tryd.func45, Tryd.ntmps45
  go_wp2_with fail
  generalize w.alloc (.cells #[.int .i64 18, .int .i64 (n : Nat), .int .i64 b', .int .u64 bits, .int .i64 at_] 44) = w1 at *
  refine wp_quiet_tail 11 mixed (by kernel_rfl) ?_
  simp only [List.take_succ_cons, List.take_zero, List.drop_succ_cons, List.drop_zero]
  repeat (first | go_big_quiet_skip | (go_big_quiet_want; go_big_quiet_op; go_big_quiet_on))
  refine wpQuiet_nil ?_
  go_wp2_with fail
  have SZD : Hid (w1.drew.heap.size = w1.heap.size) := hide (by simp)
  have HD := hide (H1.out.low (bel_drawn (Below.refl _ _)))
  have BD := hide (B1.out.trans ((bel_drawn (n := w1.heap.size) (Below.refl _ _)).mono H1.out.sk.low))
  clear B1 H1
  have B1 := BD
  have H1 := HD
  clear BD HD
  generalize w1.drew = wd at *
  have CC := hide (H1.out.push t)
  refine CC.out.mono ?_
  intro e w2 hp
  rcases hp.both with ⟨s2, v2, hs, rfl, k2, b2⟩ | ⟨hs, rfl, b2⟩
  rotate_left 1
  · cases hs
  have Z := hide (And.intro k2 (And.intro b2 hs))
  clear k2 b2 hs hp CC
  go_wp2_with fail
  go_end0
  exact GkP.yes (EM.out.trans Z.out.2.2) Z.out.1 (B1.out.trans Z.out.2.1)
end Go.Proofs.YtidjbgemnohbnaaDoor.Ck

/- Package proofread: change, by instruction. (Written by mk_f.py.) -/
namespace Go.Proofs.YtidjbgemnohbnaaDoor.Ck
open Go.RowKit

set_option maxRecDepth 20000 in
set_option maxHeartbeats 2000000 in
theorem change_10 {w0 w : World} {p : List Addr} {g b : Nat} {vP vC vF vB vLo vM vS vL v : Value} {c : Cd} {f : Fn3} {hi : Int} {s : List Int} (h : Cg w0 w p g b vP vC vF vB c f vLo hi vM vS vL v s) (a b' bits at_ : Int) (h1 : 1 ≤ a) (h4 : a ≤ 4) : Calls Tryd.prog 45 #[.pointer (some ⟨g, 0, none⟩), .pointer (some ⟨b, 0, none⟩), .agg #[.int .i64 10, .int .i64 a, .int .i64 b', .int .u64 bits, .int .i64 at_]] w (GkP p w b w0.heap.size (changeM c f.lo ⟨10, a, b', bits, at_⟩ s)) := by
  have EM : Hid (changeM c f.lo ⟨10, a, b', bits, at_⟩ s = unS a s) := hide (by simp [changeM])
  generalize changeM c f.lo ⟨10, a, b', bits, at_⟩ s = o at *
  have AB := hide (bel_new w (.cells #[.int .i64 10, .int .i64 a, .int .i64 b', .int .u64 bits, .int .i64 at_] 44))
  have V0 := hide (Go.Deep.blk_alloc_new w (.cells #[.int .i64 10, .int .i64 a, .int .i64 b', .int .u64 bits, .int .i64 at_] 44))
  have hz1 : (w.alloc (.cells #[.int .i64 10, .int .i64 a, .int .i64 b', .int .u64 bits, .int .i64 at_] 44)).heap.size = w.heap.size + 1 := by simp
  have SZ1 := hide hz1
  clear hz1
  have H1 := hide (h.low AB.out)
  have B1 := hide (AB.out.mono h.sk.low)
  have HH := hide (And.intro h1 h4)
  have OP := hide (operator_any 10 a (w.alloc (.cells #[.int .i64 10, .int .i64 a, .int .i64 b', .int .u64 bits, .int .i64 at_] 44)))
  clear h AB h1 h4
  have x0 := blk_cell V0.out 0 _ rfl
  have x1 := blk_cell V0.out 1 _ rfl
  clear V0
  go_enter Tryd.func45, Tryd.ntmps45
  go_wp2_with fail
  generalize w.alloc (.cells #[.int .i64 10, .int .i64 a, .int .i64 b', .int .u64 bits, .int .i64 at_] 44) = w1 at *
  generalize hz : opN 10 a = z at *
  have HZ := hide hz
  clear hz
  refine OP.out.mono ?_
  rintro e w9 ⟨rfl, b9⟩
  have H2 := hide (H1.out.low b9)
  have BD := hide (B1.out.trans (b9.mono H1.out.sk.low))
  clear B1 H1 OP b9
  have B1 := BD
  clear BD
  have U9 := hide (unary_stk H2.out.er H2.out.gc H2.out.sk a HH.out.1 HH.out.2 H2.out.n)
  rw [HZ.out] at U9
  go_wp2_with fail
  have CC := hide (U9.out)
  refine CC.out.mono ?_
  intro e w2 hp
  rcases hp.both with ⟨s2, v2, hs, rfl, k2, b2⟩ | ⟨hs, rfl, b2⟩
  rotate_left 1
  · exact ⟨rfl, GkP.no (by rw [EM.out]; first | exact hs | (rw [hs]; rfl)) (B1.out.trans b2)⟩
  have Z := hide (And.intro k2 (And.intro b2 hs))
  clear k2 b2 hs hp CC
  go_wp2_with fail
  go_end0
  exact GkP.yes (EM.out.trans Z.out.2.2) Z.out.1 (B1.out.trans Z.out.2.1)
set_option maxRecDepth 20000 in
set_option maxHeartbeats 2000000 in
theorem change_11 {w0 w : World} {p : List Addr} {g b : Nat} {vP vC vF vB vLo vM vS vL v : Value} {c : Cd} {f : Fn3} {hi : Int} {s : List Int} (h : Cg w0 w p g b vP vC vF vB c f vLo hi vM vS vL v s) (a b' bits at_ : Int) (h1 : 1 ≤ a) (h4 : a ≤ 11) : Calls Tryd.prog 45 #[.pointer (some ⟨g, 0, none⟩), .pointer (some ⟨b, 0, none⟩), .agg #[.int .i64 11, .int .i64 a, .int .i64 b', .int .u64 bits, .int .i64 at_]] w (GkP p w b w0.heap.size (changeM c f.lo ⟨11, a, b', bits, at_⟩ s)) := by
  have EM : Hid (changeM c f.lo ⟨11, a, b', bits, at_⟩ s = binS a s) := hide (by simp [changeM])
  generalize changeM c f.lo ⟨11, a, b', bits, at_⟩ s = o at *
  have AB := hide (bel_new w (.cells #[.int .i64 11, .int .i64 a, .int .i64 b', .int .u64 bits, .int .i64 at_] 44))
  have V0 := hide (Go.Deep.blk_alloc_new w (.cells #[.int .i64 11, .int .i64 a, .int .i64 b', .int .u64 bits, .int .i64 at_] 44))
  have hz1 : (w.alloc (.cells #[.int .i64 11, .int .i64 a, .int .i64 b', .int .u64 bits, .int .i64 at_] 44)).heap.size = w.heap.size + 1 := by simp
  have SZ1 := hide hz1
  clear hz1
  have H1 := hide (h.low AB.out)
  have B1 := hide (AB.out.mono h.sk.low)
  have HH := hide (And.intro h1 h4)
  have OP := hide (operator_any 11 a (w.alloc (.cells #[.int .i64 11, .int .i64 a, .int .i64 b', .int .u64 bits, .int .i64 at_] 44)))
  clear h AB h1 h4
  have x0 := blk_cell V0.out 0 _ rfl
  have x1 := blk_cell V0.out 1 _ rfl
  clear V0
  go_enter Tryd.func45, Tryd.ntmps45
  go_wp2_with fail
  generalize w.alloc (.cells #[.int .i64 11, .int .i64 a, .int .i64 b', .int .u64 bits, .int .i64 at_] 44) = w1 at *
  generalize hz : opN 11 a = z at *
  have HZ := hide hz
  clear hz
  refine OP.out.mono ?_
  rintro e w9 ⟨rfl, b9⟩
  have H2 := hide (H1.out.low b9)
  have BD := hide (B1.out.trans (b9.mono H1.out.sk.low))
  clear B1 H1 OP b9
  have B1 := BD
  clear BD
  have U9 := hide (binary_stk H2.out.er H2.out.gc H2.out.sk a HH.out.1 HH.out.2 H2.out.n)
  rw [HZ.out] at U9
  go_wp2_with fail
  have CC := hide (U9.out)
  refine CC.out.mono ?_
  intro e w2 hp
  rcases hp.both with ⟨s2, v2, hs, rfl, k2, b2⟩ | ⟨hs, rfl, b2⟩
  rotate_left 1
  · exact ⟨rfl, GkP.no (by rw [EM.out]; first | exact hs | (rw [hs]; rfl)) (B1.out.trans b2)⟩
  have Z := hide (And.intro k2 (And.intro b2 hs))
  clear k2 b2 hs hp CC
  go_wp2_with fail
  go_end0
  exact GkP.yes (EM.out.trans Z.out.2.2) Z.out.1 (B1.out.trans Z.out.2.1)
end Go.Proofs.YtidjbgemnohbnaaDoor.Ck
