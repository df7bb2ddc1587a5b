/- SyncPlays: one call on both states: mutexes. (Written by mk_y.py.) -/
import Derived.Test.YtghfjnnmpmfboaaDoorWb
namespace Go.Proofs.YtghfjnnmpmfboaaDoor.Ck
open Go.RowKit

theorem DoP.low {w0 w w' : World} {G R : Nat → Prop} {B g gm : Nat} {s' : St} (h : DoP w0 w G R B g gm s' w') : Below w0.heap.size w0 w' := by
  obtain ⟨G', R', h1, _⟩ := h
  exact h1.low
set_option maxRecDepth 20000 in
set_option maxHeartbeats 2000000 in
theorem do_lock {w0 w : World} {G R : Nat → Prop} {B g gm : Nat} {s : St} {p : List Addr} (h : Pr w0 w G R B g gm s) (h17 : Errs17 w0 p) (_hB1 : B ≤ 100000) (i n t m z : Int) : Calls Tryd.prog 13 #[.pointer (some ⟨g, 0, none⟩), .pointer (some ⟨gm, 0, none⟩), .agg #[.int .i64 3, .int .i64 i, .int .i64 n, .int .i64 t, .int .i64 m, .int .u64 z]] w (DoE w0 w G R (B + 1) g gm ((tnM s i true).2)) := by
  have hb0 := bel_new w (.cells #[.int .i64 3, .int .i64 i, .int .i64 n, .int .i64 t, .int .i64 m, .int .u64 z] 43)
  have X1 : Hid (Bx (w.alloc (.cells #[.int .i64 3, .int .i64 i, .int .i64 n, .int .i64 t, .int .i64 m, .int .u64 z] 43)) w.heap.size 3 i n t m z) := hide (Go.Deep.blk_alloc_new w (.cells #[.int .i64 3, .int .i64 i, .int .i64 n, .int .i64 t, .int .i64 m, .int .u64 z] 43))
  obtain ⟨F, F2, K⟩ := (h.bel hb0).kp
  have HN := hide (h.box K)
  have E7 := h17.below (Nat.le_refl _) K.hbl
  have H17 := hide h17
  have HB0 := hide hb0
  clear h h17 hb0
  obtain ⟨⟨⟨bo, c⟩, s2⟩, hc⟩ : ∃ x, tnM s i true = x := ⟨_, rfl⟩
  have hc17 : c ≤ 17 := by
    have : (tnM s i true).1.2 = c := by rw [hc]
    rw [← this]
    unfold tnM
    split
    · simp
    · simp
  have MT := fun (w3 : World) (hm3 : Rt w3 F2 R B gm s) => mTurn hm3 i true
  have SL := fun (w3 : World) (hs3 : Stt w3 F g s) (he : E2 w3 p) => sLock hs3 he i
  have NU := fun (w3 : World) (he : Errs17 w3 p) => num_o p c w3 he hc17
  simp only [hc] at MT SL ⊢
  generalize erO p c = ev at *
  have HK := hide K
  have MT1 := hide MT
  have SL1 := hide SL
  have NU1 := hide NU
  have HE := hide E7
  clear K MT SL NU E7 hc hc17
  go_enter Tryd.func13, Tryd.ntmps13
  go_wp2_with fail
  obtain ⟨b, hb⟩ : ∃ b, w.heap.size = b := ⟨_, rfl⟩
  generalize w.alloc (.cells #[.int .i64 3, .int .i64 i, .int .i64 n, .int .i64 t, .int .i64 m, .int .u64 z] 43) = wa at *
  rw [hb] at X1 HN ⊢
  clear hb
  obtain ⟨x0, x1, x2, x3, x4, x5⟩ := X1.out.all
  refine (MT1.out _ HK.out.hm).mono ?_
  rintro e w1 ⟨rfl, F2', R', hm1, c1, r1, r2⟩
  obtain ⟨y0, y1, y2, y3, y4, y5⟩ := (X1.out.ch c1 HN.out.2).all
  have S1 := hide (HK.out.s1 c1)
  have E1 := hide (H17.out.below (Nat.le_refl _) (HK.out.b2 c1))
  have M1 := hide (And.intro hm1 (And.intro c1 (And.intro r1 r2)))
  clear hm1 c1 r1 r2 x0 x1 x2 x3 x4 x5 X1
  go_wp2_with fail
  refine (SL1.out _ S1.out E1.out.e2).mono ?_
  rintro e w2 ⟨rfl, F', hs2, c2⟩
  have D := hide (HK.out.done2 M1.out.1 M1.out.2.1 M1.out.2.2.1 M1.out.2.2.2 hs2 c2)
  have E3 := hide (H17.out.below (Nat.le_refl _) D.out.low)
  clear hs2 c2 S1 E1 M1 HK y0 y1 y2 y3 y4 y5
  cases bo
  all_goals
    go_wp2_with fail
    refine (NU1.out _ E3.out).mono ?_
    rintro e w3 ⟨rfl, hb3⟩
    go_wp2_with fail
    go_ret
    exact DoE.mk (by simp) HB0.out (D.out.bel hb3)
set_option maxRecDepth 20000 in
set_option maxHeartbeats 2000000 in
theorem do_unlock {w0 w : World} {G R : Nat → Prop} {B g gm : Nat} {s : St} {p : List Addr} (h : Pr w0 w G R B g gm s) (h17 : Errs17 w0 p) (_hB1 : B ≤ 100000) (i n t m z : Int) : Calls Tryd.prog 13 #[.pointer (some ⟨g, 0, none⟩), .pointer (some ⟨gm, 0, none⟩), .agg #[.int .i64 4, .int .i64 i, .int .i64 n, .int .i64 t, .int .i64 m, .int .u64 z]] w (DoE w0 w G R (B + 1) g gm ((tnM s i false).2)) := by
  have hb0 := bel_new w (.cells #[.int .i64 4, .int .i64 i, .int .i64 n, .int .i64 t, .int .i64 m, .int .u64 z] 43)
  have X1 : Hid (Bx (w.alloc (.cells #[.int .i64 4, .int .i64 i, .int .i64 n, .int .i64 t, .int .i64 m, .int .u64 z] 43)) w.heap.size 4 i n t m z) := hide (Go.Deep.blk_alloc_new w (.cells #[.int .i64 4, .int .i64 i, .int .i64 n, .int .i64 t, .int .i64 m, .int .u64 z] 43))
  obtain ⟨F, F2, K⟩ := (h.bel hb0).kp
  have HN := hide (h.box K)
  have E7 := h17.below (Nat.le_refl _) K.hbl
  have H17 := hide h17
  have HB0 := hide hb0
  clear h h17 hb0
  obtain ⟨⟨⟨bo, c⟩, s2⟩, hc⟩ : ∃ x, tnM s i false = x := ⟨_, rfl⟩
  have hc17 : c ≤ 17 := by
    have : (tnM s i false).1.2 = c := by rw [hc]
    rw [← this]
    unfold tnM
    split
    · simp
    · simp
  have MT := fun (w3 : World) (hm3 : Rt w3 F2 R B gm s) => mTurn hm3 i false
  have SL := fun (w3 : World) (hs3 : Stt w3 F g s) (he : E2 w3 p) => sUnlock hs3 he i
  have NU := fun (w3 : World) (he : Errs17 w3 p) => num_o p c w3 he hc17
  simp only [hc] at MT SL ⊢
  generalize erO p c = ev at *
  have HK := hide K
  have MT1 := hide MT
  have SL1 := hide SL
  have NU1 := hide NU
  have HE := hide E7
  clear K MT SL NU E7 hc hc17
  go_enter Tryd.func13, Tryd.ntmps13
  go_wp2_with fail
  obtain ⟨b, hb⟩ : ∃ b, w.heap.size = b := ⟨_, rfl⟩
  generalize w.alloc (.cells #[.int .i64 4, .int .i64 i, .int .i64 n, .int .i64 t, .int .i64 m, .int .u64 z] 43) = wa at *
  rw [hb] at X1 HN ⊢
  clear hb
  obtain ⟨x0, x1, x2, x3, x4, x5⟩ := X1.out.all
  refine (MT1.out _ HK.out.hm).mono ?_
  rintro e w1 ⟨rfl, F2', R', hm1, c1, r1, r2⟩
  obtain ⟨y0, y1, y2, y3, y4, y5⟩ := (X1.out.ch c1 HN.out.2).all
  have S1 := hide (HK.out.s1 c1)
  have E1 := hide (H17.out.below (Nat.le_refl _) (HK.out.b2 c1))
  have M1 := hide (And.intro hm1 (And.intro c1 (And.intro r1 r2)))
  clear hm1 c1 r1 r2 x0 x1 x2 x3 x4 x5 X1
  go_wp2_with fail
  refine (SL1.out _ S1.out E1.out.e2).mono ?_
  rintro e w2 ⟨rfl, F', hs2, c2⟩
  have D := hide (HK.out.done2 M1.out.1 M1.out.2.1 M1.out.2.2.1 M1.out.2.2.2 hs2 c2)
  have E3 := hide (H17.out.below (Nat.le_refl _) D.out.low)
  clear hs2 c2 S1 E1 M1 HK y0 y1 y2 y3 y4 y5
  cases bo
  all_goals
    go_wp2_with fail
    refine (NU1.out _ E3.out).mono ?_
    rintro e w3 ⟨rfl, hb3⟩
    go_wp2_with fail
    go_ret
    exact DoE.mk (by simp) HB0.out (D.out.bel hb3)
end Go.Proofs.YtghfjnnmpmfboaaDoor.Ck
