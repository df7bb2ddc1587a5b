/- SyncPlays: one call on both states: channels. (Written by mk_y.py.) -/
import Derived.Test.YtghfjnnmpmfboaaDoorWc
namespace Go.Proofs.YtghfjnnmpmfboaaDoor.Ck
open Go.RowKit

set_option maxRecDepth 20000 in
set_option maxHeartbeats 2000000 in
theorem do_send {w0 w : World} {G R : Nat → Prop} {B g gm : Nat} {s : St} {p : List Addr} (h : Pr w0 w G R B g gm s) (h17 : Errs17 w0 p) (_hB1 : B ≤ 100000) (i n t m z : Int) : Calls Tryd.prog 13 #[.pointer (some ⟨g, 0, none⟩), .pointer (some ⟨gm, 0, none⟩), .agg #[.int .i64 5, .int .i64 i, .int .i64 n, .int .i64 t, .int .i64 m, .int .u64 z]] w (DoE w0 w G R (B + 1) g gm ((sdM s i (t, m, z)).2)) := by
  have hb0 := bel_new w (.cells #[.int .i64 5, .int .i64 i, .int .i64 n, .int .i64 t, .int .i64 m, .int .u64 z] 43)
  have X1 : Hid (Bx (w.alloc (.cells #[.int .i64 5, .int .i64 i, .int .i64 n, .int .i64 t, .int .i64 m, .int .u64 z] 43)) w.heap.size 5 i n t m z) := hide (Go.Deep.blk_alloc_new w (.cells #[.int .i64 5, .int .i64 i, .int .i64 n, .int .i64 t, .int .i64 m, .int .u64 z] 43))
  obtain ⟨F, F2, K⟩ := (h.bel hb0).kp
  have HN := hide (h.box K)
  have E7 := h17.below (Nat.le_refl _) K.hbl
  have H17 := hide h17
  have HB0 := hide hb0
  clear h h17 hb0
  obtain ⟨⟨⟨bo, c⟩, s2⟩, hc⟩ : ∃ x, sdM s i (t, m, z) = x := ⟨_, rfl⟩
  have hc17 : c ≤ 17 := by
    have : (sdM s i (t, m, z)).1.2 = c := by rw [hc]
    rw [← this]
    unfold sdM
    split
    · simp
    · simp only
      split
      · split <;> simp
      · simp
  have MT := fun (w3 : World) (hm3 : Rt w3 F2 R B gm s) => mSend hm3 (by omega) i (t, m, z)
  have SL := fun (w3 : World) (hs3 : Stt w3 F g s) (he : E2 w3 p) => sSend hs3 he i (t, m, z)
  have NU := fun (w3 : World) (he : Errs17 w3 p) => num_o p c w3 he hc17
  simp only [hc] at MT SL ⊢
  generalize erO p c = ev at *
  have HK := hide K
  have MT1 := hide MT
  have SL1 := hide SL
  have NU1 := hide NU
  have HE := hide E7
  clear K MT SL NU E7 hc hc17
  go_enter Tryd.func13, Tryd.ntmps13
  go_wp2_with fail
  obtain ⟨b, hb⟩ : ∃ b, w.heap.size = b := ⟨_, rfl⟩
  generalize w.alloc (.cells #[.int .i64 5, .int .i64 i, .int .i64 n, .int .i64 t, .int .i64 m, .int .u64 z] 43) = wa at *
  rw [hb] at X1 HN ⊢
  clear hb
  obtain ⟨x0, x1, x2, x3, x4, x5⟩ := X1.out.all
  refine (SL1.out _ HK.out.hs HE.out.e2).mono ?_
  rintro e w1 ⟨rfl, F', hs1, c1⟩
  obtain ⟨y0, y1, y2, y3, y4, y5⟩ := (X1.out.ch c1 HN.out.1).all
  have S1 := hide (HK.out.m1 c1)
  have M1 := hide (And.intro hs1 c1)
  clear hs1 c1 x0 x1 x2 x3 x4 x5 X1 HE
  go_wp2_with fail
  refine (MT1.out _ S1.out).mono ?_
  rintro e w2 ⟨rfl, F2', R', hm2, c2, r1, r2⟩
  have D := hide (HK.out.done1 M1.out.1 M1.out.2 hm2 c2 r1 r2)
  have E3 := hide (H17.out.below (Nat.le_refl _) D.out.low)
  clear hm2 c2 r1 r2 S1 M1 HK y0 y1 y2 y3 y4 y5
  cases bo
  all_goals
    go_wp2_with fail
    refine (NU1.out _ E3.out).mono ?_
    rintro e w3 ⟨rfl, hb3⟩
    go_wp2_with fail
    go_ret
    exact DoE.mk (by simp) HB0.out (D.out.bel hb3)
set_option maxRecDepth 20000 in
set_option maxHeartbeats 2000000 in
theorem do_recv {w0 w : World} {G R : Nat → Prop} {B g gm : Nat} {s : St} {p : List Addr} (h : Pr w0 w G R B g gm s) (h17 : Errs17 w0 p) (_hB1 : B ≤ 100000) (i n t m z : Int) : Calls Tryd.prog 13 #[.pointer (some ⟨g, 0, none⟩), .pointer (some ⟨gm, 0, none⟩), .agg #[.int .i64 6, .int .i64 i, .int .i64 n, .int .i64 t, .int .i64 m, .int .u64 z]] w (DoE w0 w G R (B + 1) g gm ((rcM s i).2)) := by
  have hb0 := bel_new w (.cells #[.int .i64 6, .int .i64 i, .int .i64 n, .int .i64 t, .int .i64 m, .int .u64 z] 43)
  have X1 : Hid (Bx (w.alloc (.cells #[.int .i64 6, .int .i64 i, .int .i64 n, .int .i64 t, .int .i64 m, .int .u64 z] 43)) w.heap.size 6 i n t m z) := hide (Go.Deep.blk_alloc_new w (.cells #[.int .i64 6, .int .i64 i, .int .i64 n, .int .i64 t, .int .i64 m, .int .u64 z] 43))
  obtain ⟨F, F2, K⟩ := (h.bel hb0).kp
  have HN := hide (h.box K)
  have E7 := h17.below (Nat.le_refl _) K.hbl
  have H17 := hide h17
  have HB0 := hide hb0
  clear h h17 hb0
  obtain ⟨⟨⟨⟨v0, v1, v2⟩, bo, c⟩, s2⟩, hc⟩ : ∃ x, rcM s i = x := ⟨_, rfl⟩
  have hc17 : c ≤ 17 := by
    have : (rcM s i).1.2.2 = c := by rw [hc]
    rw [← this]
    unfold rcM
    split
    · simp
    · split <;> simp
  have MT := fun (w3 : World) (hm3 : Rt w3 F2 R B gm s) => mRecv hm3 (by omega) i
  have SL := fun (w3 : World) (hs3 : Stt w3 F g s) (he : E2 w3 p) => sRecv hs3 he i
  have NU := fun (w3 : World) (he : Errs17 w3 p) => num_o p c w3 he hc17
  simp only [hc, recvV, recvM] at MT SL ⊢
  generalize erO p c = ev at *
  have HK := hide K
  have MT1 := hide MT
  have SL1 := hide SL
  have NU1 := hide NU
  have HE := hide E7
  have EV := eq_vv
  clear K MT SL NU E7 hc hc17
  go_enter Tryd.func13, Tryd.ntmps13
  go_wp2_with fail
  obtain ⟨b, hb⟩ : ∃ b, w.heap.size = b := ⟨_, rfl⟩
  generalize w.alloc (.cells #[.int .i64 6, .int .i64 i, .int .i64 n, .int .i64 t, .int .i64 m, .int .u64 z] 43) = wa at *
  rw [hb] at X1 HN ⊢
  clear hb
  obtain ⟨x0, x1, x2, x3, x4, x5⟩ := X1.out.all
  refine (SL1.out _ HK.out.hs HE.out.e2).mono ?_
  rintro e w1 ⟨rfl, F', hs1, c1⟩
  have X2 := (X1.out.ch c1 HN.out.1).al (bel_new _ (.cells #[.int .i64 v0, .int .i64 v1, .int .u64 v2] 41))
  obtain ⟨y0, y1, y2, y3, y4, y5⟩ := X2.all
  have S1 := hide ((HK.out.m1 c1).bel (bel_new _ (.cells #[.int .i64 v0, .int .i64 v1, .int .u64 v2] 41)))
  have M1 := hide (And.intro (hs1.bel (bel_new _ (.cells #[.int .i64 v0, .int .i64 v1, .int .u64 v2] 41))) (c1.trans (Ch.of_bel (bel_new _ (.cells #[.int .i64 v0, .int .i64 v1, .int .u64 v2] 41)))))
  have V1 := hide (Val.new w1 v0 v1 v2)
  have HV : Hid (¬ F2 w1.heap.size) := hide (fun e => by have := (HK.out.m1 c1).fb _ e; omega)
  clear hs1 c1 x0 x1 x2 x3 x4 x5 X1 HE
  go_wp2_with fail
  obtain ⟨b2, hb2⟩ : ∃ b, w1.heap.size = b := ⟨_, rfl⟩
  generalize w1.alloc (.cells #[.int .i64 v0, .int .i64 v1, .int .u64 v2] 41) = w2 at *
  rw [hb2] at V1 HV ⊢
  clear hb2
  refine (MT1.out _ S1.out).mono ?_
  rintro e w3 ⟨rfl, F2', R', hm2, c2, r1, r2⟩
  have D := hide ((HK.out.done1 M1.out.1 M1.out.2 hm2 c2 r1 r2).bel (bel_new _ (.cells #[.int .i64 v0, .int .i64 v1, .int .u64 v2] 41)))
  have E3 := hide (H17.out.below (Nat.le_refl _) D.out.low)
  have V3 : Val w3 b2 v0 v1 v2 := (c2.blk b2 V1.out.lt HV.out).trans V1.out
  obtain ⟨_, u0, u1, u2⟩ := (V3.al (bel_new _ (.cells #[.int .i64 v0, .int .i64 v1, .int .u64 v2] 41))).all
  clear hm2 c2 r1 r2 S1 M1 HK y0 y1 y2 y3 y4 y5 V1 V3 HV X2
  cases bo
  all_goals
    go_wp2_with fail
    refine (NU1.out _ E3.out).mono ?_
    rintro e w4 ⟨rfl, hb3⟩
    go_wp2_with fail
    go_ret
    exact DoE.mk (by simp) HB0.out (D.out.bel hb3)
end Go.Proofs.YtghfjnnmpmfboaaDoor.Ck
