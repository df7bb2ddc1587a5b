/- Texts of this proof, packed: contracts of the program's functions, and the plain model that they are held against. -/
import Derived.Test.YtfojninaginnoaaGreatDoorQai
set_option maxRecDepth 20000
set_option maxHeartbeats 4000000
namespace Go.Proofs.YtfojninaginnoaaGreatDoor.Ck
open Go.RowKit
theorem share_5 {w : World} {F : Nat -> Prop} {g : Nat} {s : St} {p : List Addr} (h : Stt w F g s) (h17 : E2 w p) (a v0 v1 v2 : Int) (aa : Option Addr) (na ca : Nat) (i : Nat) (q : Qu) (hx : s.C[i]? = some q) (hB : isB v0 v1 v2 q.t = true) (hr : (q.l.length : Int) < q.room) : Calls Tryz.prog 72 #[P_ g, .agg #[I_ 5, I_ (i : Nat), I_ a, I_ v0, I_ v1, .int .u64 v2, .slice aa na ca]] w (Sp w F g ({ s with C := s.C.set i { q with l := q.l ++ [(v0, v1, v2)] } }) (.agg #[I_ 0, I_ 0, .int .u64 0])) := by
  have B1 : Hid (Below w.heap.size w (((w.alloc (.cells #[I_ 5, I_ (i : Nat), I_ a, I_ v0, I_ v1, .int .u64 v2, .slice aa na ca] 67)).alloc (.cells #[I_ 0, I_ 0, .int .u64 0] 64)).alloc (.cells #[I_ 0, I_ 0, .int .u64 0] 64))) := Za (Zu (Zu (Zd w _) _) _)
  have hs1 : (w.alloc (.cells #[I_ 5, I_ (i : Nat), I_ a, I_ v0, I_ v1, .int .u64 v2, .slice aa na ca] 67)).heap.size = w.heap.size + 1 := by simp
  have hs2 : ((w.alloc (.cells #[I_ 5, I_ (i : Nat), I_ a, I_ v0, I_ v1, .int .u64 v2, .slice aa na ca] 67)).alloc (.cells #[I_ 0, I_ 0, .int .u64 0] 64)).heap.size = w.heap.size + 1 + 1 := by simp
  have Y1 : Hid (Val (((w.alloc (.cells #[I_ 5, I_ (i : Nat), I_ a, I_ v0, I_ v1, .int .u64 v2, .slice aa na ca] 67)).alloc (.cells #[I_ 0, I_ 0, .int .u64 0] 64)).alloc (.cells #[I_ 0, I_ 0, .int .u64 0] 64)) (w.heap.size + 1) 0 0 0) := Za (by
    have e1 := Val.new (w.alloc (.cells #[I_ 5, I_ (i : Nat), I_ a, I_ v0, I_ v1, .int .u64 v2, .slice aa na ca] 67)) 0 0 0
    rw [hs1] at e1
    exact e1.al (Zd _ _))
  have Y2 : Hid (Val (((w.alloc (.cells #[I_ 5, I_ (i : Nat), I_ a, I_ v0, I_ v1, .int .u64 v2, .slice aa na ca] 67)).alloc (.cells #[I_ 0, I_ 0, .int .u64 0] 64)).alloc (.cells #[I_ 0, I_ 0, .int .u64 0] 64)) (w.heap.size + 1 + 1) 0 0 0) := Za (by
    have e1 := Val.new ((w.alloc (.cells #[I_ 5, I_ (i : Nat), I_ a, I_ v0, I_ v1, .int .u64 v2, .slice aa na ca] 67)).alloc (.cells #[I_ 0, I_ 0, .int .u64 0] 64)) 0 0 0
    rw [hs2] at e1
    exact e1)
  have Y0 : Hid (Wv (((w.alloc (.cells #[I_ 5, I_ (i : Nat), I_ a, I_ v0, I_ v1, .int .u64 v2, .slice aa na ca] 67)).alloc (.cells #[I_ 0, I_ 0, .int .u64 0] 64)).alloc (.cells #[I_ 0, I_ 0, .int .u64 0] 64)) w.heap.size 5 (i : Nat) a (v0, v1, v2) (.slice aa na ca)) := Za (((Wv.new w 5 (i : Nat) a v0 v1 v2 (.slice aa na ca)).al (Zd _ _)).al (Zd _ _))
  have FL : Hid (∀ k, F k -> k < w.heap.size) := Za h.fb
  have H1 := Za (h.bel B1.out)
  have H7 := Za (h17.below (Nat.le_refl _) B1.out)
  clear h h17 hs1 hs2
  go_enter Tryz.func72, Tryz.ntmps72
  go_upto_region 2 with fail
  generalize ((w.alloc _).alloc _).alloc _ = W1 at *
  obtain ⟨q0, q1, q2, q3, q4, q5, q6⟩ := Y0.out.all
  have hl0 := Y0.out.lt
  obtain ⟨⟨a0, a1, a2⟩, e0, e1, e2⟩ := Y1.out.all
  obtain ⟨⟨b0, b1, b2⟩, d0, d1, d2⟩ := Y2.out.all
  go_wp2_with fail
  refine (Send_room H1.out H7.out i q hx v0 v1 v2 hB hr).mono ?_
  rintro e w2 ⟨rfl, F', st, ch⟩
  have V1 := (ch.blk (w.heap.size + 1) Y1.out.lt (fun e => by have := FL.out _ e; omega)).trans Y1.out
  have V2 := (ch.blk (w.heap.size + 1 + 1) Y2.out.lt (fun e => by have := FL.out _ e; omega)).trans Y2.out
  obtain ⟨⟨f0, f1, f2⟩, g0, g1, g2⟩ := (show Val w2 (w.heap.size + 1) 0 0 0 from V1).all
  obtain ⟨⟨k0, k1, k2⟩, j0, j1, j2⟩ := (show Val w2 (w.heap.size + 1 + 1) 0 0 0 from V2).all
  have ST := Za (And.intro st ch)
  have NF : Hid (¬ F' (w.heap.size + 1)) := Za (fun hF => by
    rcases ch.grow _ hF with h1 | h1
    · exact absurd (FL.out _ h1) (by omega)
    · exact absurd Y1.out.lt (by omega))
  clear st ch q0 q1 q2 q3 q4 q5 q6 a0 a1 a2 e0 e1 e2 b0 b1 b2 d0 d1 d2 H1 H7
  go_wp2_with fail
  exact ret_v (w.heap.size + 1) rfl rfl (Val.set V1 0 0 0) rfl (Sp.mk rfl (ST.out.1.keep (fun k hk => ne3 (fun e => NF.out (e ▸ hk))) (by rw [Zi, Zi, Zi]; exact Nat.le_refl _)) (((Ch.of_bel B1.out).trans ST.out.2).below (Zt (Below.refl _ _) (by omega) _ _ _)))
theorem share_6 {w : World} {F : Nat -> Prop} {g : Nat} {s : St} {p : List Addr} (h : Stt w F g s) (h17 : E2 w p) (a v0 v1 v2 : Int) (aa : Option Addr) (na ca : Nat) (i : Nat) (q : Qu) (hx : s.C[i]? = some q) (y : V3) (l : List V3) (hl : q.l = y :: l) : Calls Tryz.prog 72 #[P_ g, .agg #[I_ 6, I_ (i : Nat), I_ a, I_ v0, I_ v1, .int .u64 v2, .slice aa na ca]] w (Sp w F g ({ s with C := s.C.set i { q with l := l } }) (.agg #[I_ y.1, I_ y.2.1, .int .u64 y.2.2])) := by
  have B1 : Hid (Below w.heap.size w (((w.alloc (.cells #[I_ 6, I_ (i : Nat), I_ a, I_ v0, I_ v1, .int .u64 v2, .slice aa na ca] 67)).alloc (.cells #[I_ 0, I_ 0, .int .u64 0] 64)).alloc (.cells #[I_ 0, I_ 0, .int .u64 0] 64))) := Za (Zu (Zu (Zd w _) _) _)
  have hs1 : (w.alloc (.cells #[I_ 6, I_ (i : Nat), I_ a, I_ v0, I_ v1, .int .u64 v2, .slice aa na ca] 67)).heap.size = w.heap.size + 1 := by simp
  have hs2 : ((w.alloc (.cells #[I_ 6, I_ (i : Nat), I_ a, I_ v0, I_ v1, .int .u64 v2, .slice aa na ca] 67)).alloc (.cells #[I_ 0, I_ 0, .int .u64 0] 64)).heap.size = w.heap.size + 1 + 1 := by simp
  have Y1 : Hid (Val (((w.alloc (.cells #[I_ 6, I_ (i : Nat), I_ a, I_ v0, I_ v1, .int .u64 v2, .slice aa na ca] 67)).alloc (.cells #[I_ 0, I_ 0, .int .u64 0] 64)).alloc (.cells #[I_ 0, I_ 0, .int .u64 0] 64)) (w.heap.size + 1) 0 0 0) := Za (by
    have e1 := Val.new (w.alloc (.cells #[I_ 6, I_ (i : Nat), I_ a, I_ v0, I_ v1, .int .u64 v2, .slice aa na ca] 67)) 0 0 0
    rw [hs1] at e1
    exact e1.al (Zd _ _))
  have Y2 : Hid (Val (((w.alloc (.cells #[I_ 6, I_ (i : Nat), I_ a, I_ v0, I_ v1, .int .u64 v2, .slice aa na ca] 67)).alloc (.cells #[I_ 0, I_ 0, .int .u64 0] 64)).alloc (.cells #[I_ 0, I_ 0, .int .u64 0] 64)) (w.heap.size + 1 + 1) 0 0 0) := Za (by
    have e1 := Val.new ((w.alloc (.cells #[I_ 6, I_ (i : Nat), I_ a, I_ v0, I_ v1, .int .u64 v2, .slice aa na ca] 67)).alloc (.cells #[I_ 0, I_ 0, .int .u64 0] 64)) 0 0 0
    rw [hs2] at e1
    exact e1)
  have Y0 : Hid (Wv (((w.alloc (.cells #[I_ 6, I_ (i : Nat), I_ a, I_ v0, I_ v1, .int .u64 v2, .slice aa na ca] 67)).alloc (.cells #[I_ 0, I_ 0, .int .u64 0] 64)).alloc (.cells #[I_ 0, I_ 0, .int .u64 0] 64)) w.heap.size 6 (i : Nat) a (v0, v1, v2) (.slice aa na ca)) := Za (((Wv.new w 6 (i : Nat) a v0 v1 v2 (.slice aa na ca)).al (Zd _ _)).al (Zd _ _))
  have FL : Hid (∀ k, F k -> k < w.heap.size) := Za h.fb
  have H1 := Za (h.bel B1.out)
  have H7 := Za (h17.below (Nat.le_refl _) B1.out)
  obtain ⟨y0, y1, y2⟩ := y
  clear h h17 hs1 hs2
  go_enter Tryz.func72, Tryz.ntmps72
  go_upto_region 2 with fail
  generalize ((w.alloc _).alloc _).alloc _ = W1 at *
  obtain ⟨q0, q1, q2, q3, q4, q5, q6⟩ := Y0.out.all
  have hl0 := Y0.out.lt
  obtain ⟨⟨a0, a1, a2⟩, e0, e1, e2⟩ := Y1.out.all
  obtain ⟨⟨b0, b1, b2⟩, d0, d1, d2⟩ := Y2.out.all
  go_wp2_with fail
  refine (Recv_some H1.out i q hx (y0, y1, y2) l hl).mono ?_
  rintro e w2 ⟨rfl, F', st, ch⟩
  have V1 := (ch.blk (w.heap.size + 1) Y1.out.lt (fun e => by have := FL.out _ e; omega)).trans Y1.out
  have V2 := (ch.blk (w.heap.size + 1 + 1) Y2.out.lt (fun e => by have := FL.out _ e; omega)).trans Y2.out
  obtain ⟨⟨f0, f1, f2⟩, g0, g1, g2⟩ := (show Val w2 (w.heap.size + 1) 0 0 0 from V1).all
  obtain ⟨⟨k0, k1, k2⟩, j0, j1, j2⟩ := (show Val w2 (w.heap.size + 1 + 1) 0 0 0 from V2).all
  have ST := Za (And.intro st ch)
  have NF : Hid (∀ k, F' k -> k ≠ w.heap.size + 1 /\ k ≠ w.heap.size + 1 + 1) := Za (fun k hF => by
    have z1 := Y1.out.lt
    have z2 := Y2.out.lt
    rcases ch.grow _ hF with h1 | h1
    · have := FL.out _ h1
      omega
    · omega)
  clear st ch q0 q1 q2 q3 q4 q5 q6 a0 a1 a2 e0 e1 e2 b0 b1 b2 d0 d1 d2 H1 H7
  go_wp2_with fail
  have U1 : Val (((w2.setCell ⟨w.heap.size + 1 + 1, 0, none⟩ (I_ (y0))).setCell ⟨w.heap.size + 1 + 1, 1, none⟩ (I_ (y1))).setCell ⟨w.heap.size + 1 + 1, 2, none⟩ (.int .u64 (y2))) (w.heap.size + 1) 0 0 0 := (ne3 (by omega)).trans V1
  have BB : Below w.heap.size w2 ((((((w2.setCell ⟨w.heap.size + 1 + 1, 0, none⟩ (I_ (y0))).setCell ⟨w.heap.size + 1 + 1, 1, none⟩ (I_ (y1))).setCell ⟨w.heap.size + 1 + 1, 2, none⟩ (.int .u64 (y2))).setCell ⟨w.heap.size + 1, 0, none⟩ (I_ (y0))).setCell ⟨w.heap.size + 1, 1, none⟩ (I_ (y1))).setCell ⟨w.heap.size + 1, 2, none⟩ (.int .u64 (y2))) := Zt (Zt (Below.refl _ _) (by omega) _ _ _) (by omega) _ _ _
  exact ret_v (w.heap.size + 1) rfl rfl (U1.set _ _ _) rfl (Sp.mk rfl (ST.out.1.keep (fun k hk => (ne3 (NF.out k hk).1).trans (ne3 (NF.out k hk).2)) BB.size) (((Ch.of_bel B1.out).trans ST.out.2).below BB))
theorem share_7 {w : World} {F : Nat -> Prop} {g : Nat} {s : St} {p : List Addr} (h : Stt w F g s) (h17 : E2 w p) (a v0 v1 v2 : Int) (aa : Option Addr) (na ca : Nat) (i : Nat) (x : Int) (hx : s.A[i]? = some x) : Calls Tryz.prog 72 #[P_ g, .agg #[I_ 7, I_ (i : Nat), I_ a, I_ v0, I_ v1, .int .u64 v2, .slice aa na ca]] w (Sp w F g (s) (.agg #[I_ 1, I_ x, .int .u64 0])) := by
  have B1 : Hid (Below w.heap.size w (((w.alloc (.cells #[I_ 7, I_ (i : Nat), I_ a, I_ v0, I_ v1, .int .u64 v2, .slice aa na ca] 67)).alloc (.cells #[I_ 0, I_ 0, .int .u64 0] 64)).alloc (.cells #[I_ 0, I_ 0, .int .u64 0] 64))) := Za (Zu (Zu (Zd w _) _) _)
  have hs1 : (w.alloc (.cells #[I_ 7, I_ (i : Nat), I_ a, I_ v0, I_ v1, .int .u64 v2, .slice aa na ca] 67)).heap.size = w.heap.size + 1 := by simp
  have hs2 : ((w.alloc (.cells #[I_ 7, I_ (i : Nat), I_ a, I_ v0, I_ v1, .int .u64 v2, .slice aa na ca] 67)).alloc (.cells #[I_ 0, I_ 0, .int .u64 0] 64)).heap.size = w.heap.size + 1 + 1 := by simp
  have Y1 : Hid (Val (((w.alloc (.cells #[I_ 7, I_ (i : Nat), I_ a, I_ v0, I_ v1, .int .u64 v2, .slice aa na ca] 67)).alloc (.cells #[I_ 0, I_ 0, .int .u64 0] 64)).alloc (.cells #[I_ 0, I_ 0, .int .u64 0] 64)) (w.heap.size + 1) 0 0 0) := Za (by
    have e1 := Val.new (w.alloc (.cells #[I_ 7, I_ (i : Nat), I_ a, I_ v0, I_ v1, .int .u64 v2, .slice aa na ca] 67)) 0 0 0
    rw [hs1] at e1
    exact e1.al (Zd _ _))
  have Y2 : Hid (Val (((w.alloc (.cells #[I_ 7, I_ (i : Nat), I_ a, I_ v0, I_ v1, .int .u64 v2, .slice aa na ca] 67)).alloc (.cells #[I_ 0, I_ 0, .int .u64 0] 64)).alloc (.cells #[I_ 0, I_ 0, .int .u64 0] 64)) (w.heap.size + 1 + 1) 0 0 0) := Za (by
    have e1 := Val.new ((w.alloc (.cells #[I_ 7, I_ (i : Nat), I_ a, I_ v0, I_ v1, .int .u64 v2, .slice aa na ca] 67)).alloc (.cells #[I_ 0, I_ 0, .int .u64 0] 64)) 0 0 0
    rw [hs2] at e1
    exact e1)
  have Y0 : Hid (Wv (((w.alloc (.cells #[I_ 7, I_ (i : Nat), I_ a, I_ v0, I_ v1, .int .u64 v2, .slice aa na ca] 67)).alloc (.cells #[I_ 0, I_ 0, .int .u64 0] 64)).alloc (.cells #[I_ 0, I_ 0, .int .u64 0] 64)) w.heap.size 7 (i : Nat) a (v0, v1, v2) (.slice aa na ca)) := Za (((Wv.new w 7 (i : Nat) a v0 v1 v2 (.slice aa na ca)).al (Zd _ _)).al (Zd _ _))
  have FL : Hid (∀ k, F k -> k < w.heap.size) := Za h.fb
  have H1 := Za (h.bel B1.out)
  have H7 := Za (h17.below (Nat.le_refl _) B1.out)
  clear h h17 hs1 hs2
  go_enter Tryz.func72, Tryz.ntmps72
  go_upto_region 2 with fail
  generalize ((w.alloc _).alloc _).alloc _ = W1 at *
  obtain ⟨q0, q1, q2, q3, q4, q5, q6⟩ := Y0.out.all
  have hl0 := Y0.out.lt
  obtain ⟨⟨a0, a1, a2⟩, e0, e1, e2⟩ := Y1.out.all
  obtain ⟨⟨b0, b1, b2⟩, d0, d1, d2⟩ := Y2.out.all
  go_wp2_with fail
  refine (Get_in H1.out i x hx).mono ?_
  rintro e w1 ⟨rfl, rfl⟩
  go_wp2_with fail
  refine (int_any x _).mono ?_
  rintro e w2 ⟨rfl, hb⟩
  have V1 := Y1.out.al hb
  have V2 := Y2.out.al hb
  obtain ⟨⟨f0, f1, f2⟩, g0, g1, g2⟩ := V1.all
  obtain ⟨⟨k0, k1, k2⟩, j0, j1, j2⟩ := V2.all
  have HB := Za hb
  clear hb q0 q1 q2 q3 q4 q5 q6 a0 a1 a2 e0 e1 e2 b0 b1 b2 d0 d1 d2 H7
  go_wp2_with fail
  have U1 : Val (((w2.setCell ⟨w.heap.size + 1 + 1, 0, none⟩ (I_ (1))).setCell ⟨w.heap.size + 1 + 1, 1, none⟩ (I_ (x))).setCell ⟨w.heap.size + 1 + 1, 2, none⟩ (.int .u64 (0))) (w.heap.size + 1) 0 0 0 := (ne3 (by omega)).trans V1
  have BB : Below w.heap.size w2 ((((((w2.setCell ⟨w.heap.size + 1 + 1, 0, none⟩ (I_ (1))).setCell ⟨w.heap.size + 1 + 1, 1, none⟩ (I_ (x))).setCell ⟨w.heap.size + 1 + 1, 2, none⟩ (.int .u64 (0))).setCell ⟨w.heap.size + 1, 0, none⟩ (I_ (1))).setCell ⟨w.heap.size + 1, 1, none⟩ (I_ (x))).setCell ⟨w.heap.size + 1, 2, none⟩ (.int .u64 (0))) := Zt (Zt (Below.refl _ _) (by omega) _ _ _) (by omega) _ _ _
  exact ret_v (w.heap.size + 1) rfl rfl (U1.set _ _ _) rfl (Sp.mk rfl (((H1.out.bel HB.out).keep (fun k hk => BB.block k (FL.out k hk)) BB.size)) (((Ch.of_bel B1.out).trans (Ch.of_bel HB.out)).below BB))
theorem share_8 {w : World} {F : Nat -> Prop} {g : Nat} {s : St} {p : List Addr} (h : Stt w F g s) (h17 : E2 w p) (a v0 v1 v2 : Int) (aa : Option Addr) (na ca : Nat) (i : Nat) (x : Int) (hx : s.A[i]? = some x) : Calls Tryz.prog 72 #[P_ g, .agg #[I_ 8, I_ (i : Nat), I_ a, I_ v0, I_ v1, .int .u64 v2, .slice aa na ca]] w (Sp w F g ({ s with A := s.A.set i v1 }) (.agg #[I_ 0, I_ 0, .int .u64 0])) := by
  have B1 : Hid (Below w.heap.size w (((w.alloc (.cells #[I_ 8, I_ (i : Nat), I_ a, I_ v0, I_ v1, .int .u64 v2, .slice aa na ca] 67)).alloc (.cells #[I_ 0, I_ 0, .int .u64 0] 64)).alloc (.cells #[I_ 0, I_ 0, .int .u64 0] 64))) := Za (Zu (Zu (Zd w _) _) _)
  have hs1 : (w.alloc (.cells #[I_ 8, I_ (i : Nat), I_ a, I_ v0, I_ v1, .int .u64 v2, .slice aa na ca] 67)).heap.size = w.heap.size + 1 := by simp
  have hs2 : ((w.alloc (.cells #[I_ 8, I_ (i : Nat), I_ a, I_ v0, I_ v1, .int .u64 v2, .slice aa na ca] 67)).alloc (.cells #[I_ 0, I_ 0, .int .u64 0] 64)).heap.size = w.heap.size + 1 + 1 := by simp
  have Y1 : Hid (Val (((w.alloc (.cells #[I_ 8, I_ (i : Nat), I_ a, I_ v0, I_ v1, .int .u64 v2, .slice aa na ca] 67)).alloc (.cells #[I_ 0, I_ 0, .int .u64 0] 64)).alloc (.cells #[I_ 0, I_ 0, .int .u64 0] 64)) (w.heap.size + 1) 0 0 0) := Za (by
    have e1 := Val.new (w.alloc (.cells #[I_ 8, I_ (i : Nat), I_ a, I_ v0, I_ v1, .int .u64 v2, .slice aa na ca] 67)) 0 0 0
    rw [hs1] at e1
    exact e1.al (Zd _ _))
  have Y2 : Hid (Val (((w.alloc (.cells #[I_ 8, I_ (i : Nat), I_ a, I_ v0, I_ v1, .int .u64 v2, .slice aa na ca] 67)).alloc (.cells #[I_ 0, I_ 0, .int .u64 0] 64)).alloc (.cells #[I_ 0, I_ 0, .int .u64 0] 64)) (w.heap.size + 1 + 1) 0 0 0) := Za (by
    have e1 := Val.new ((w.alloc (.cells #[I_ 8, I_ (i : Nat), I_ a, I_ v0, I_ v1, .int .u64 v2, .slice aa na ca] 67)).alloc (.cells #[I_ 0, I_ 0, .int .u64 0] 64)) 0 0 0
    rw [hs2] at e1
    exact e1)
  have Y0 : Hid (Wv (((w.alloc (.cells #[I_ 8, I_ (i : Nat), I_ a, I_ v0, I_ v1, .int .u64 v2, .slice aa na ca] 67)).alloc (.cells #[I_ 0, I_ 0, .int .u64 0] 64)).alloc (.cells #[I_ 0, I_ 0, .int .u64 0] 64)) w.heap.size 8 (i : Nat) a (v0, v1, v2) (.slice aa na ca)) := Za (((Wv.new w 8 (i : Nat) a v0 v1 v2 (.slice aa na ca)).al (Zd _ _)).al (Zd _ _))
  have FL : Hid (∀ k, F k -> k < w.heap.size) := Za h.fb
  have H1 := Za (h.bel B1.out)
  have H7 := Za (h17.below (Nat.le_refl _) B1.out)
  clear h h17 hs1 hs2
  go_enter Tryz.func72, Tryz.ntmps72
  go_upto_region 2 with fail
  generalize ((w.alloc _).alloc _).alloc _ = W1 at *
  obtain ⟨q0, q1, q2, q3, q4, q5, q6⟩ := Y0.out.all
  have hl0 := Y0.out.lt
  obtain ⟨⟨a0, a1, a2⟩, e0, e1, e2⟩ := Y1.out.all
  obtain ⟨⟨b0, b1, b2⟩, d0, d1, d2⟩ := Y2.out.all
  go_wp2_with fail
  refine (Put_in H1.out i x v1 hx).mono ?_
  rintro e w2 ⟨rfl, F', st, ch⟩
  have V1 := (ch.blk (w.heap.size + 1) Y1.out.lt (fun e => by have := FL.out _ e; omega)).trans Y1.out
  have V2 := (ch.blk (w.heap.size + 1 + 1) Y2.out.lt (fun e => by have := FL.out _ e; omega)).trans Y2.out
  obtain ⟨⟨f0, f1, f2⟩, g0, g1, g2⟩ := (show Val w2 (w.heap.size + 1) 0 0 0 from V1).all
  obtain ⟨⟨k0, k1, k2⟩, j0, j1, j2⟩ := (show Val w2 (w.heap.size + 1 + 1) 0 0 0 from V2).all
  have ST := Za (And.intro st ch)
  have NF : Hid (¬ F' (w.heap.size + 1)) := Za (fun hF => by
    rcases ch.grow _ hF with h1 | h1
    · exact absurd (FL.out _ h1) (by omega)
    · exact absurd Y1.out.lt (by omega))
  clear st ch q0 q1 q2 q3 q4 q5 q6 a0 a1 a2 e0 e1 e2 b0 b1 b2 d0 d1 d2 H1 H7
  go_wp2_with fail
  exact ret_v (w.heap.size + 1) rfl rfl (Val.set V1 0 0 0) rfl (Sp.mk rfl (ST.out.1.keep (fun k hk => ne3 (fun e => NF.out (e ▸ hk))) (by rw [Zi, Zi, Zi]; exact Nat.le_refl _)) (((Ch.of_bel B1.out).trans ST.out.2).below (Zt (Below.refl _ _) (by omega) _ _ _)))
theorem share_9 {w : World} {F : Nat -> Prop} {g : Nat} {s : St} {p : List Addr} (h : Stt w F g s) (h17 : E2 w p) (a v0 v1 v2 : Int) (aa : Option Addr) (na ca : Nat) (i : Nat) (x : Int) (hx : s.A[i]? = some x) : Calls Tryz.prog 72 #[P_ g, .agg #[I_ 9, I_ (i : Nat), I_ a, I_ v0, I_ v1, .int .u64 v2, .slice aa na ca]] w (Sp w F g ({ s with A := s.A.set i (wrap64 (x + v1)) }) (.agg #[I_ 0, I_ 0, .int .u64 0])) := by
  have B1 : Hid (Below w.heap.size w (((w.alloc (.cells #[I_ 9, I_ (i : Nat), I_ a, I_ v0, I_ v1, .int .u64 v2, .slice aa na ca] 67)).alloc (.cells #[I_ 0, I_ 0, .int .u64 0] 64)).alloc (.cells #[I_ 0, I_ 0, .int .u64 0] 64))) := Za (Zu (Zu (Zd w _) _) _)
  have hs1 : (w.alloc (.cells #[I_ 9, I_ (i : Nat), I_ a, I_ v0, I_ v1, .int .u64 v2, .slice aa na ca] 67)).heap.size = w.heap.size + 1 := by simp
  have hs2 : ((w.alloc (.cells #[I_ 9, I_ (i : Nat), I_ a, I_ v0, I_ v1, .int .u64 v2, .slice aa na ca] 67)).alloc (.cells #[I_ 0, I_ 0, .int .u64 0] 64)).heap.size = w.heap.size + 1 + 1 := by simp
  have Y1 : Hid (Val (((w.alloc (.cells #[I_ 9, I_ (i : Nat), I_ a, I_ v0, I_ v1, .int .u64 v2, .slice aa na ca] 67)).alloc (.cells #[I_ 0, I_ 0, .int .u64 0] 64)).alloc (.cells #[I_ 0, I_ 0, .int .u64 0] 64)) (w.heap.size + 1) 0 0 0) := Za (by
    have e1 := Val.new (w.alloc (.cells #[I_ 9, I_ (i : Nat), I_ a, I_ v0, I_ v1, .int .u64 v2, .slice aa na ca] 67)) 0 0 0
    rw [hs1] at e1
    exact e1.al (Zd _ _))
  have Y2 : Hid (Val (((w.alloc (.cells #[I_ 9, I_ (i : Nat), I_ a, I_ v0, I_ v1, .int .u64 v2, .slice aa na ca] 67)).alloc (.cells #[I_ 0, I_ 0, .int .u64 0] 64)).alloc (.cells #[I_ 0, I_ 0, .int .u64 0] 64)) (w.heap.size + 1 + 1) 0 0 0) := Za (by
    have e1 := Val.new ((w.alloc (.cells #[I_ 9, I_ (i : Nat), I_ a, I_ v0, I_ v1, .int .u64 v2, .slice aa na ca] 67)).alloc (.cells #[I_ 0, I_ 0, .int .u64 0] 64)) 0 0 0
    rw [hs2] at e1
    exact e1)
  have Y0 : Hid (Wv (((w.alloc (.cells #[I_ 9, I_ (i : Nat), I_ a, I_ v0, I_ v1, .int .u64 v2, .slice aa na ca] 67)).alloc (.cells #[I_ 0, I_ 0, .int .u64 0] 64)).alloc (.cells #[I_ 0, I_ 0, .int .u64 0] 64)) w.heap.size 9 (i : Nat) a (v0, v1, v2) (.slice aa na ca)) := Za (((Wv.new w 9 (i : Nat) a v0 v1 v2 (.slice aa na ca)).al (Zd _ _)).al (Zd _ _))
  have FL : Hid (∀ k, F k -> k < w.heap.size) := Za h.fb
  have H1 := Za (h.bel B1.out)
  have H7 := Za (h17.below (Nat.le_refl _) B1.out)
  clear h h17 hs1 hs2
  go_enter Tryz.func72, Tryz.ntmps72
  go_upto_region 2 with fail
  generalize ((w.alloc _).alloc _).alloc _ = W1 at *
  obtain ⟨q0, q1, q2, q3, q4, q5, q6⟩ := Y0.out.all
  have hl0 := Y0.out.lt
  obtain ⟨⟨a0, a1, a2⟩, e0, e1, e2⟩ := Y1.out.all
  obtain ⟨⟨b0, b1, b2⟩, d0, d1, d2⟩ := Y2.out.all
  go_wp2_with fail
  refine (Add_in H1.out i x v1 hx).mono ?_
  rintro e w2 ⟨rfl, F', st, ch⟩
  have V1 := (ch.blk (w.heap.size + 1) Y1.out.lt (fun e => by have := FL.out _ e; omega)).trans Y1.out
  have V2 := (ch.blk (w.heap.size + 1 + 1) Y2.out.lt (fun e => by have := FL.out _ e; omega)).trans Y2.out
  obtain ⟨⟨f0, f1, f2⟩, g0, g1, g2⟩ := (show Val w2 (w.heap.size + 1) 0 0 0 from V1).all
  obtain ⟨⟨k0, k1, k2⟩, j0, j1, j2⟩ := (show Val w2 (w.heap.size + 1 + 1) 0 0 0 from V2).all
  have ST := Za (And.intro st ch)
  have NF : Hid (¬ F' (w.heap.size + 1)) := Za (fun hF => by
    rcases ch.grow _ hF with h1 | h1
    · exact absurd (FL.out _ h1) (by omega)
    · exact absurd Y1.out.lt (by omega))
  clear st ch q0 q1 q2 q3 q4 q5 q6 a0 a1 a2 e0 e1 e2 b0 b1 b2 d0 d1 d2 H1 H7
  go_wp2_with fail
  exact ret_v (w.heap.size + 1) rfl rfl (Val.set V1 0 0 0) rfl (Sp.mk rfl (ST.out.1.keep (fun k hk => ne3 (fun e => NF.out (e ▸ hk))) (by rw [Zi, Zi, Zi]; exact Nat.le_refl _)) (((Ch.of_bel B1.out).trans ST.out.2).below (Zt (Below.refl _ _) (by omega) _ _ _)))
theorem share_11 {w : World} {F : Nat -> Prop} {g : Nat} {s : St} {p : List Addr} (h : Stt w F g s) (h17 : E2 w p) (a v0 v1 v2 : Int) (aa : Option Addr) (na ca : Nat) (o : Int) : Calls Tryz.prog 72 #[P_ g, .agg #[I_ 11, I_ o, I_ a, I_ v0, I_ v1, .int .u64 v2, .slice aa na ca]] w (Sp w F g (s) (.agg #[I_ 0, I_ 0, .int .u64 0])) := by
  have B1 : Hid (Below w.heap.size w (((w.alloc (.cells #[I_ 11, I_ o, I_ a, I_ v0, I_ v1, .int .u64 v2, .slice aa na ca] 67)).alloc (.cells #[I_ 0, I_ 0, .int .u64 0] 64)).alloc (.cells #[I_ 0, I_ 0, .int .u64 0] 64))) := Za (Zu (Zu (Zd w _) _) _)
  have hs1 : (w.alloc (.cells #[I_ 11, I_ o, I_ a, I_ v0, I_ v1, .int .u64 v2, .slice aa na ca] 67)).heap.size = w.heap.size + 1 := by simp
  have hs2 : ((w.alloc (.cells #[I_ 11, I_ o, I_ a, I_ v0, I_ v1, .int .u64 v2, .slice aa na ca] 67)).alloc (.cells #[I_ 0, I_ 0, .int .u64 0] 64)).heap.size = w.heap.size + 1 + 1 := by simp
  have Y1 : Hid (Val (((w.alloc (.cells #[I_ 11, I_ o, I_ a, I_ v0, I_ v1, .int .u64 v2, .slice aa na ca] 67)).alloc (.cells #[I_ 0, I_ 0, .int .u64 0] 64)).alloc (.cells #[I_ 0, I_ 0, .int .u64 0] 64)) (w.heap.size + 1) 0 0 0) := Za (by
    have e1 := Val.new (w.alloc (.cells #[I_ 11, I_ o, I_ a, I_ v0, I_ v1, .int .u64 v2, .slice aa na ca] 67)) 0 0 0
    rw [hs1] at e1
    exact e1.al (Zd _ _))
  have Y2 : Hid (Val (((w.alloc (.cells #[I_ 11, I_ o, I_ a, I_ v0, I_ v1, .int .u64 v2, .slice aa na ca] 67)).alloc (.cells #[I_ 0, I_ 0, .int .u64 0] 64)).alloc (.cells #[I_ 0, I_ 0, .int .u64 0] 64)) (w.heap.size + 1 + 1) 0 0 0) := Za (by
    have e1 := Val.new ((w.alloc (.cells #[I_ 11, I_ o, I_ a, I_ v0, I_ v1, .int .u64 v2, .slice aa na ca] 67)).alloc (.cells #[I_ 0, I_ 0, .int .u64 0] 64)) 0 0 0
    rw [hs2] at e1
    exact e1)
  have Y0 : Hid (Wv (((w.alloc (.cells #[I_ 11, I_ o, I_ a, I_ v0, I_ v1, .int .u64 v2, .slice aa na ca] 67)).alloc (.cells #[I_ 0, I_ 0, .int .u64 0] 64)).alloc (.cells #[I_ 0, I_ 0, .int .u64 0] 64)) w.heap.size 11 o a (v0, v1, v2) (.slice aa na ca)) := Za (((Wv.new w 11 o a v0 v1 v2 (.slice aa na ca)).al (Zd _ _)).al (Zd _ _))
  have FL : Hid (∀ k, F k -> k < w.heap.size) := Za h.fb
  have H1 := Za (h.bel B1.out)
  have H7 := Za (h17.below (Nat.le_refl _) B1.out)
  clear h h17 hs1 hs2
  go_enter Tryz.func72, Tryz.ntmps72
  go_upto_region 2 with fail
  generalize ((w.alloc _).alloc _).alloc _ = W1 at *
  obtain ⟨q0, q1, q2, q3, q4, q5, q6⟩ := Y0.out.all
  have hl0 := Y0.out.lt
  obtain ⟨⟨a0, a1, a2⟩, e0, e1, e2⟩ := Y1.out.all
  obtain ⟨⟨b0, b1, b2⟩, d0, d1, d2⟩ := Y2.out.all
  go_wp2_with fail
  have V1 := Y1.out
  have BB : Below w.heap.size W1 (((W1.setCell ⟨w.heap.size + 1, 0, none⟩ (I_ 0)).setCell ⟨w.heap.size + 1, 1, none⟩ (I_ 0)).setCell ⟨w.heap.size + 1, 2, none⟩ (.int .u64 0)) := Zt (Below.refl _ _) (by omega) _ _ _
  exact ret_v (w.heap.size + 1) rfl rfl (V1.set 0 0 0) rfl (Sp.mk rfl (H1.out.keep (fun k hk => BB.block k (FL.out k hk)) BB.size) ((Ch.of_bel B1.out).below BB))
theorem own_len {w : World} {B : Nat} {T : TypeId} {n : Nat} {v : Value} {len len' : Nat} {xs : List Value} (h : w.ownsRow B T n v len xs) (e : len = len') : w.ownsRow B T n v len' xs := by
 subst e
 exact h
theorem bls_one (l : List Bool) : ∀ u ∈ bls l, u.oneCell' = true := fun u hu => by unfold bls at hu; obtain ⟨x, _, rfl⟩ := List.mem_map.1 hu; rfl
theorem nts_one (l : List Int) : ∀ u ∈ nts l, u.oneCell' = true := fun u hu => by unfold nts at hu; obtain ⟨x, _, rfl⟩ := List.mem_map.1 hu; rfl
theorem sv_begin {W w : World} {gs : Nat} {s : St} {vP vM vA : Value} (hsm : s.P.length <= 128 /\ s.M.length <= 32 /\ s.A.length <= 32) (oP : W.ownsRow w.heap.size 64 3 vP s.P.length (vcs s.P)) (oM : W.ownsRow w.heap.size 4 1 vM s.M.length (bls s.M)) (oA : W.ownsRow w.heap.size 3 1 vA s.A.length (nts s.A))
 (hg : W.heap[gs]? = some (.cells #[vP, vM, .slice none 0 0, vA] 110 (0, 0))) (hgs : w.heap.size <= gs) (hB : Below w.heap.size w W) : Mk w W gs { s with C := [] } := by
 refine ⟨fun k => k = gs ∨ vP.ownBlock = some k ∨ vM.ownBlock = some k ∨ vA.ownBlock = some k, ⟨_, _, _, _, [], { at_ := hg, pl := Yf oP, mu := Yf oM, ch := Yl _ _ _, ato := Yf oA, len := rfl, q := fun i q v h _ => (by simp at h), ne := fun i j v v' k _ h _ => (by simp at h), fg := .inl rfl, fP := fun k h => .inr (.inl h), fM := fun k h => .inr (.inr (.inl h)), fC := fun k h => (by cases h), fA := fun k h => .inr (.inr (.inr h)), fb := fun k h => ?_, small := (by simp; omega), rooms := fun q h => (by cases h) }⟩, fun k h => ?_, hB⟩
 · rcases h with rfl | h | h | h
   · exact Ze hg
   · exact (Zf oP h).2.1
   · exact (Zf oM h).2.1
   · exact (Zf oA h).2.1
 · rcases h with rfl | h | h | h
   · exact hgs
   · exact (Zf oP h).1
   · exact (Zf oM h).1
   · exact (Zf oA h).1
def Sy (w : World) (g : Nat) (vP vM vA : Value) : Prop := (w.cell? ⟨g, 0, none⟩ = some vP /\ w.cell? ⟨g, 1, none⟩ = some vM /\ w.cell? ⟨g, 3, none⟩ = some vA) /\ g < w.heap.size
theorem Sy.al {w w' : World} {g : Nat} {vP vM vA : Value} (h : Sy w g vP vM vA) (hb : Below w.heap.size w w') : Sy w' g vP vM vA := ⟨⟨(hb.cell (p := ⟨g, 0, none⟩) h.2).trans h.1.1, (hb.cell (p := ⟨g, 1, none⟩) h.2).trans h.1.2.1, (hb.cell (p := ⟨g, 3, none⟩) h.2).trans h.1.2.2⟩, Nat.lt_of_lt_of_le h.2 hb.size⟩
theorem Copy_any {w : World} {F : Nat -> Prop} {g : Nat} {s : St} (h : Stt w F g s) : Calls Tryz.prog 83 #[P_ g] w fun e w' => ∃ gc, e = .returned (P_ gc) /\ Mk w w' gc s := by
  obtain ⟨vP, vM, vC, vA, vs, h⟩ := h
  have hsm := h.small
  obtain ⟨aP, cP, eP, _⟩ := Zl h.pl
  obtain ⟨aM, cM, eM, _⟩ := Zl h.mu
  obtain ⟨aC, cC, eC, hcC, _⟩ := Zl h.ch
  obtain ⟨aA, cA, eA, _⟩ := Zl h.ato
  obtain ⟨nP, hnP⟩ : ∃ n, n = s.P.length := ⟨_, rfl⟩
  obtain ⟨nM, hnM⟩ : ∃ n, n = s.M.length := ⟨_, rfl⟩
  obtain ⟨nC, hnC⟩ : ∃ n, n = s.C.length := ⟨_, rfl⟩
  obtain ⟨nA, hnA⟩ : ∃ n, n = s.A.length := ⟨_, rfl⟩
  have OP := Za h.pl
  have OM := Za h.mu
  have OA := Za h.ato
  rw [← hnP] at eP OP
  rw [← hnM] at eM OM
  rw [← hnC] at eC hcC
  rw [← hnA] at eA OA
  subst eP eM eC eA
  have hgl := h.fb g h.fg
  have h0 := Za (show Sy w g (.slice aP nP cP) (.slice aM nM cM) (.slice aA nA cA) from ⟨⟨h.cells.1, h.cells.2.1, h.cells.2.2.2⟩, hgl⟩)
  have HC2 := Za h.cells.2.2.1
  have H := Za h
  have HSM : Hid (s.P.length <= 128 /\ s.M.length <= 32 /\ s.A.length <= 32) := Za (by omega)
  have HNS := Za (And.intro hnP (And.intro hnM hnA))
  have hnP1 : nP <= 128 := by omega
  have hnM1 : nM <= 32 := by omega
  have hnA1 : nA <= 32 := by omega
  have hnC1 : nC <= 32 := by omega
  have HNC := Za hnC
  clear h hsm hnP hnM hnC hnA
  go_enter Tryz.func83, Tryz.ntmps83
  go_wp2_with fail
  go_cut [3] from 6 to 22 (fun x wc => ∃ gc, x = P_ gc /\ Hid (Mk w wc gc { s with C := [] }))
  case first =>
    refine wp_region_held_drew (S := fun w' => Sy w' g (.slice aP nP cP) (.slice aM nM cM) (.slice aA nA cA)) ZK (h0.out.al (Zp (Below.refl _ _))) (fun hH => ?_)
    have BW := Za (Zp (Below.refl w.heap.size w))
    generalize w.drew = w1 at *
    refine H2_ 0 hH ?_
    simp only [Act.put, S_]
    refine H2_ 1 hH ?_
    simp only [Act.put, S_]
    refine H2_ 2 hH ?_
    simp only [Act.put, S_]
    refine H_ 3 (v := ?_) ?_ hH ?_
    rotate_left 1
    · (intro w hSw; have q := hSw.1; clear hSw; go_simp <;> with_reducible rfl)
    simp only [Act.put, S_]
    refine H2_ 5 hH ?_
    simp only [Act.put, S_]
    refine H2_ 6 hH ?_
    simp only [Act.put, S_]
    refine H2_ 7 hH ?_
    simp only [Act.put, S_]
    refine H_ 8 (v := ?_) ?_ hH ?_
    rotate_left 1
    · (intro w hSw; have q := hSw.1; clear hSw; go_simp <;> with_reducible rfl)
    simp only [Act.put, S_]
    refine H2_ 10 hH ?_
    simp only [Act.put, S_]
    refine H2_ 11 hH ?_
    simp only [Act.put, S_]
    refine H2_ 12 hH ?_
    simp only [Act.put, S_]
    refine H_ 13 (v := ?_) ?_ hH ?_
    rotate_left 1
    · (intro w hSw; have q := hSw.1; clear hSw; go_simp <;> with_reducible rfl)
    simp only [Act.put, S_]
    refine RH_ 4 (fun K1 hK1 => ?_)
    go_simp
    refine (cloneV (Zj OP.out (fun k hk => BW.out.block k (Zf OP.out hk).2.1)) (by omega) (Yt _)).mono ?_
    rintro e d4 ⟨a4, c4, rfl, o4, b4⟩
    have N4 := Za (own_low o4 BW.out.size)
    replace BW := Za (Zg BW.out b4)
    refine hK1.out _ _ (hH.al b4) (fun hH => ?_)
    clear hK1 K1 o4 b4
    refine RH_ 9 (fun K1 hK1 => ?_)
    go_simp
    refine (cloneB (Zj OM.out (fun k hk => BW.out.block k (Zf OM.out hk).2.1)) (by omega) (bls_one _)).mono ?_
    rintro e d9 ⟨a9, c9, rfl, o9, b9⟩
    have N9 := Za (own_low o9 BW.out.size)
    replace BW := Za (Zg BW.out b9)
    replace N4 := Za (Zj N4.out (fun k hk => b9.block k (Zf N4.out hk).2.1))
    refine hK1.out _ _ (hH.al b9) (fun hH => ?_)
    clear hK1 K1 o9 b9
    refine RH_ 14 (fun K1 hK1 => ?_)
    go_simp
    refine (cloneI (Zj OA.out (fun k hk => BW.out.block k (Zf OA.out hk).2.1)) (by omega) (nts_one _)).mono ?_
    rintro e d14 ⟨a14, c14, rfl, o14, b14⟩
    have N14 := Za (own_low o14 BW.out.size)
    replace BW := Za (Zg BW.out b14)
    replace N4 := Za (Zj N4.out (fun k hk => b14.block k (Zf N4.out hk).2.1))
    replace N9 := Za (Zj N9.out (fun k hk => b14.block k (Zf N9.out hk).2.1))
    refine hK1.out _ _ (hH.al b14) (fun hH => ?_)
    clear hK1 K1 o14 b14
    refine H2_ 15 hH ?_
    simp only [Act.put, S_]
    refine RH_ 16 (fun K1 hK1 => ?_)
    go_simp
    have M9 := Za (sv_begin (s := s) (gs := d14.heap.size) HSM.out (Zj (own_len N4.out HNS.out.1) (fun k hk => (Zd d14 (.cells #[.slice a4 nP c4, .slice a9 nM c9, .slice none 0 0, .slice a14 nA c14] 110)).block k (Zf (own_len N4.out HNS.out.1) hk).2.1)) (Zj (own_len N9.out HNS.out.2.1) (fun k hk => (Zd d14 (.cells #[.slice a4 nP c4, .slice a9 nM c9, .slice none 0 0, .slice a14 nA c14] 110)).block k (Zf (own_len N9.out HNS.out.2.1) hk).2.1)) (Zj (own_len N14.out HNS.out.2.2) (fun k hk => (Zd d14 (.cells #[.slice a4 nP c4, .slice a9 nM c9, .slice none 0 0, .slice a14 nA c14] 110)).block k (Zf (own_len N14.out HNS.out.2.2) hk).2.1)) (B_ d14 (.cells #[.slice a4 nP c4, .slice a9 nM c9, .slice none 0 0, .slice a14 nA c14] 110)) BW.out.size (Zu BW.out _))
    refine hK1.out _ _ (hH.al (Zd _ _)) (fun hH => ?_)
    clear hK1 K1
    refine H2_ 17 hH ?_
    simp only [Act.put, S_]
    refine wpAnyH_done (by kernel_rfl) ?_ _
    clear hH
    go_wp2_with fail
    go_meet
    case rel => exact ⟨_, rfl, M9⟩
  case rest =>
    obtain ⟨gc, rfl, M0⟩ := hcut
    have q2 := (M0.out.below.cell (p := ⟨g, 2, none⟩) hgl).trans HC2.out
    have M1 : Hid (Mk w wc gc { s with C := s.C.take 0 }) := M0
    clear h0 M0 OP OM OA HC2
    go_wp2_with fail
    go_loopw [5, 28] (fun x i wr => ∃ k : Nat, k <= nC /\ i = I_ k /\ Hid (Mk w wr gc { s with C := s.C.take k })) (fun x i _ => nC - (intOf i).toNat)
    case atStart => exact ⟨0, Nat.zero_le _, rfl, M1⟩
    case round =>
     obtain ⟨k, hk, rfl, M2⟩ := hrel
     clear M1
     by_cases hlt : k < nC
     · have hlt' : (k : Int) < (nC : Int) := by omega
       have hkC : k < s.C.length := by rw [← HNC.out]; exact hlt
       obtain ⟨q, hq⟩ : ∃ q, s.C[k]? = some q := ⟨_, List.getElem?_eq_getElem hkC⟩
       obtain ⟨vq, hv⟩ : ∃ v, vs[k]? = some v := ⟨_, List.getElem?_eq_getElem (by rw [H.out.len]; exact hkC)⟩
       obtain ⟨oq, _⟩ := H.out.q k q vq hq hv
       have hrm := H.out.rooms q (List.mem_of_getElem? hq)
       have HSN : Hid (s.C.take (k + 1) = s.C.take k ++ [q]) := Za (by rw [List.take_add_one, hq]; rfl)
       obtain ⟨qt, qr, ql⟩ := q
       obtain ⟨nl, hnl0⟩ : ∃ n, n = ql.length := ⟨_, rfl⟩
       simp only at oq hrm
       rw [← hnl0] at oq
       obtain ⟨aq, cq, eq, _⟩ := Zl oq
       subst eq
       obtain ⟨bC, cC', eC, _⟩ := Zq H.out.ch (by omega)
       cases eC
       obtain ⟨q0, q1, q2⟩ := qcs_at _ _ _ _ _ hq hv
       rw [Nat.mul_comm] at q0 q1 q2
       have hbC := (Zf H.out.ch (k := bC) rfl).2.1
       have r0 := (M2.out.below.cell (p := ⟨bC, k * 3, none⟩) hbC).trans (Zk H.out.ch _ _ q0).1
       have r1 := (M2.out.below.cell (p := ⟨bC, k * 3 + 1, none⟩) hbC).trans (Zk H.out.ch _ _ q1).1
       have r2 := (M2.out.below.cell (p := ⟨bC, k * 3 + 2, none⟩) hbC).trans (Zk H.out.ch _ _ q2).1
       obtain ⟨Fc, ⟨wP, wM, wC, wA, ws, S⟩, hF, hB⟩ := M2.out
       obtain ⟨aQ, cQ, eQ, _⟩ := Zl S.ch
       obtain ⟨nQ, hnQ⟩ : ∃ n, n = (s.C.take k).length := ⟨_, rfl⟩
       rw [show ({ s with C := s.C.take k } : St).C.length = nQ from hnQ.symm] at eQ
       subst eQ
       have hnl : nl <= 1000 := by omega
       have HNL := Za hnl0
       have HLS : Hid ((s.C.take k).length < 32) := Za (by simp; omega)
       have HRM : Hid (0 <= qr /\ qr <= 8 /\ ((ql.length : Nat) : Int) <= qr) := Za hrm
       have hbX := Zd wr (.cells #[I_ qt, I_ qr, .slice aq nl cq] 113)
       have oqr := Zj oq (fun k hk => hB.block k (Zf oq hk).2.1)
       have X0 : Hid ((wr.alloc (.cells #[I_ qt, I_ qr, .slice aq nl cq] 113)).drew.heap[wr.heap.size]? = some (.cells #[I_ qt, I_ qr, .slice aq nl cq] 113 (0, 0)) /\ (wr.alloc (.cells #[I_ qt, I_ qr, .slice aq nl cq] 113)).drew.ownsRow 0 64 3 (.slice aq nl cq) nl (vcs ql)) := Za ⟨B_ wr _, Zj oqr (fun k hk => hbX.block k (Zf oqr hk).2.1)⟩
       have S0 := Za (S.bel (Zp hbX))
       have B0 := Za (Zp (Zg hB hbX))
       have HF := Za hF
       clear S hB hF M2 hnQ hbX oqr oq hq hv q0 q1 q2 hrm hnl0 hkC H
       go_wp2_with fail
       refine wp_region_any ZK ?_
       change wpAny _ _ _ _ _ _ _ (World.drew _)
       generalize World.drew _ = W0 at *
       refine T2_ 0 ?_
       simp only [Act.put, S_]
       refine T2_ 1 ?_
       simp only [Act.put, S_]
       refine T2_ 2 ?_
       simp only [Act.put, S_]
       refine T2_ 3 ?_
       simp only [Act.put, S_]
       refine wpAny_ready (rs := [4, 5]) (by kernel_rfl) (by decide) ?_
       refine AllReady.cons rfl (fun K1 hK1 => ?_) (AllReady.cons rfl (fun K1 hK1 => ?_) AllReady.nil)
       · have q := (show W0.cell? ⟨gc, 2, none⟩ = some (.slice aQ nQ cQ) from S0.out.cells.2.2.1)
         go_simp
         refine hK1 _ _ ?_
         clear hK1 K1 q
         refine R_ 5 (fun K1 hK1 => ?_)
         go_simp
         refine (qclone X0.out.1 X0.out.2 hnl).mono ?_
         rintro e W1 ⟨a3, c3, rfl, o3, hb1⟩
         have S1 := Za (S0.out.bel hb1)
         have B1 := Za (Zg B0.out hb1)
         have PU := Za (fun ty => S1.out.pushC ⟨qt, qr, ql⟩ (own_len (Yf o3) HNL.out) (fun k hk hF => by have h1 := (Zf o3 hk).1; have h2 := S0.out.fb k hF; omega) HLS.out HRM.out ty)
         have O3 := Za (fun k hk => Nat.le_trans B0.out.size (Zf o3 (k := k) hk).1)
         clear hb1 o3
         refine hK1 _ _ ?_
         clear hK1 K1
         refine R_ 6 (fun K1 hK1 => ?_)
         go_simp
         refine hK1 _ _ ?_
         clear hK1 K1
         refine R_ 7 (fun K1 hK1 => ?_)
         refine Zr (TS := 108) (.tmp 36) (.tmp 38) _ _ _ (fun ty => PU.out ty) rfl rfl rfl rfl ?_
         rintro v9 w9 ⟨⟨a9, l9, c9, rfl⟩, z1, z2, r9⟩
         have R9 := Za r9
         clear r9
         refine hK1 _ _ ?_
         clear hK1 K1
         refine T2_ 8 ?_
         simp only [Act.put, S_]
         refine T2_ 9 ?_
         simp only [Act.put, S_]
         refine R_ 10 (fun K1 hK1 => ?_)
         go_simp
         refine hK1 _ _ ?_
         clear hK1 K1 z1 z2
         refine wpAny_done (by kernel_rfl) ?_ _
         go_wp2_with fail
         go_roundw
         case rel =>
           refine ⟨k + 1, by omega, by go_num, ?_⟩
           rw [HSN.out]
           refine ⟨_, ⟨_, _, _, _, _, R9.out.2.1⟩, fun k hk => ?_, B1.out.trans (R9.out.2.2.bel HF.out B1.out.size)⟩
           rcases hk with hk | hk | hk
           · exact HF.out k hk
           · rcases R9.out.1 k hk with h1 | h1
             · exact HF.out k (S0.out.fC k h1)
             · exact Nat.le_trans B1.out.size h1
           · exact O3.out k hk
         case measure => simp [intOf]; omega
       · go_simp
         refine (qclone X0.out.1 X0.out.2 hnl).mono ?_
         rintro e W1 ⟨a3, c3, rfl, o3, hb1⟩
         have S1 := Za (S0.out.bel hb1)
         have B1 := Za (Zg B0.out hb1)
         have PU := Za (fun ty => S1.out.pushC ⟨qt, qr, ql⟩ (own_len (Yf o3) HNL.out) (fun k hk hF => by have h1 := (Zf o3 hk).1; have h2 := S0.out.fb k hF; omega) HLS.out HRM.out ty)
         have O3 := Za (fun k hk => Nat.le_trans B0.out.size (Zf o3 (k := k) hk).1)
         clear hb1 o3
         refine hK1 _ _ ?_
         clear hK1 K1
         refine wpAny_ready (rs := [4, 6]) (by kernel_rfl) (by decide) ?_
         refine AllReady.cons rfl (fun K1 hK1 => ?_) (AllReady.cons rfl (fun K1 hK1 => ?_) AllReady.nil)
         · have q := (show W1.cell? ⟨gc, 2, none⟩ = some (.slice aQ nQ cQ) from S1.out.cells.2.2.1)
           go_simp
           refine hK1 _ _ ?_
           clear hK1 K1 q
           refine R_ 6 (fun K1 hK1 => ?_)
           go_simp
           refine hK1 _ _ ?_
           clear hK1 K1
           refine R_ 7 (fun K1 hK1 => ?_)
           refine Zr (TS := 108) (.tmp 36) (.tmp 38) _ _ _ (fun ty => PU.out ty) rfl rfl rfl rfl ?_
           rintro v9 w9 ⟨⟨a9, l9, c9, rfl⟩, z1, z2, r9⟩
           have R9 := Za r9
           clear r9
           refine hK1 _ _ ?_
           clear hK1 K1
           refine T2_ 8 ?_
           simp only [Act.put, S_]
           refine T2_ 9 ?_
           simp only [Act.put, S_]
           refine R_ 10 (fun K1 hK1 => ?_)
           go_simp
           refine hK1 _ _ ?_
           clear hK1 K1 z1 z2
           refine wpAny_done (by kernel_rfl) ?_ _
           go_wp2_with fail
           go_roundw
           case rel =>
             refine ⟨k + 1, by omega, by go_num, ?_⟩
             rw [HSN.out]
             refine ⟨_, ⟨_, _, _, _, _, R9.out.2.1⟩, fun k hk => ?_, B1.out.trans (R9.out.2.2.bel HF.out B1.out.size)⟩
             rcases hk with hk | hk | hk
             · exact HF.out k hk
             · rcases R9.out.1 k hk with h1 | h1
               · exact HF.out k (S0.out.fC k h1)
               · exact Nat.le_trans B1.out.size h1
             · exact O3.out k hk
           case measure => simp [intOf]; omega
         · go_simp
           refine hK1 _ _ ?_
           clear hK1 K1
           refine R_ 4 (fun K1 hK1 => ?_)
           have q := (show (W1.alloc (.cells #[I_ qt, I_ qr, .slice a3 nl c3] 113)).cell? ⟨gc, 2, none⟩ = some (.slice aQ nQ cQ) from ((Zd W1 _).cell (p := ⟨gc, 2, none⟩) (S1.out.fb gc S1.out.fg)).trans S1.out.cells.2.2.1)
           go_simp
           refine hK1 _ _ ?_
           clear hK1 K1 q
           refine R_ 7 (fun K1 hK1 => ?_)
           refine Zr (TS := 108) (.tmp 36) (.tmp 38) _ _ _ (fun ty => PU.out ty) rfl rfl rfl rfl ?_
           rintro v9 w9 ⟨⟨a9, l9, c9, rfl⟩, z1, z2, r9⟩
           have R9 := Za r9
           clear r9
           refine hK1 _ _ ?_
           clear hK1 K1
           refine T2_ 8 ?_
           simp only [Act.put, S_]
           refine T2_ 9 ?_
           simp only [Act.put, S_]
           refine R_ 10 (fun K1 hK1 => ?_)
           go_simp
           refine hK1 _ _ ?_
           clear hK1 K1 z1 z2
           refine wpAny_done (by kernel_rfl) ?_ _
           go_wp2_with fail
           go_roundw
           case rel =>
             refine ⟨k + 1, by omega, by go_num, ?_⟩
             rw [HSN.out]
             refine ⟨_, ⟨_, _, _, _, _, R9.out.2.1⟩, fun k hk => ?_, B1.out.trans (R9.out.2.2.bel HF.out B1.out.size)⟩
             rcases hk with hk | hk | hk
             · exact HF.out k hk
             · rcases R9.out.1 k hk with h1 | h1
               · exact HF.out k (S0.out.fC k h1)
               · exact Nat.le_trans B1.out.size h1
             · exact O3.out k hk
           case measure => simp [intOf]; omega
     · obtain rfl : k = nC := by omega
       have M3 : Hid (Mk w wr gc s) := Za (by
         have := M2.out
         rw [List.take_of_length_le (by rw [← HNC.out]; exact Nat.le_refl _)] at this
         exact this)
       clear M2
       go_wp2_with fail
       go_ret
       exact ⟨gc, rfl, M3.out⟩
theorem wpList_appV {TS : TypeId} {w : World} {ops : Array Oper} {rest : List Oper} {o : Oper} {a : Act} {Q : Exit -> Act -> World -> Prop} (hgd : o.guard = none) (s x : Operand)
 (ho : o.op = .call { callee := .builtin .append, args := #[s, x], argTypes := #[TS, TS] }) (v vx : Value) (hs : a.eval s = v) (hx : a.eval x = vx) (R : Value -> World -> Prop)
 (hrun : ∃ v' w', (Builtin.append_ #[TS, TS] o.type #[v, vx]).run Tryz.prog w = .ok v' w' /\ R v' w')
 (h : ∀ v' w', R v' w' -> wpList Tryz.prog ops Q rest (a.put o.dst v') w') : wpList Tryz.prog ops Q (o :: rest) a w :=
 wpList_plain hgd fun _ hK => by
  obtain ⟨v', w', hr, hR⟩ := hrun
  unfold Oper.wp execOp
  simp only [ho, resolve, invoke, builtin, Sem.run_bind, Sem.run_pure, Result.andThen_ok, List.map_toArray, List.map_cons, List.map_nil, hs, hx, hr]
  exact hK _ _ (h v' w' hR)
theorem push_i2 {w : World} {B : Nat} {v : Value} {l : List Int} {n : Nat} (hn : n = l.length) (hl : l.length <= 100000) (ho : w.ownsRow B 3 1 v n (nts l)) (hB : B <= w.heap.size) (x : Int) (ty : TypeId) :
 ∃ v' w', (Builtin.append_ #[22, 22] ty #[v, .slice (some ⟨w.heap.size, 0, none⟩) 1 1]).run Tryz.prog (w.alloc (.cells #[I_ x] 3)) = .ok v' w' /\ ((∃ a c, v' = .slice a (n + 1) c) /\ w'.ownsRow B 3 1 v' (n + 1) (nts (l ++ [x])) /\ w.grownBy w' v.ownBlock /\ (∀ k, v'.ownBlock = some k -> v.ownBlock = some k ∨ w.heap.size <= k)) := by
 obtain ⟨ie, hi, hz0, hz1, hz2⟩ := info_parts info3
 have hb := Zd w (.cells #[I_ x] 3)
 have o1 := Zj ho (fun k hk => hb.block k (Zf ho hk).2.1)
 have hc : ∀ (j : Nat) (u : Value), (nts [x])[j]? = some u -> (w.alloc (.cells #[I_ x] 3)).cell? ((⟨w.heap.size, 0, none⟩ : Addr).add j) = some u := fun j u hu => by
  rw [show (⟨w.heap.size, 0, none⟩ : Addr).add j = ⟨w.heap.size, j, none⟩ by unfold Addr.add; by_cases h : j = 0 <;> simp [h]]
  exact Zb (B_ w _) j u (by simpa [nts] using hu)
 obtain ⟨v', w', hr, ho', hg, _, hat⟩ := run_append_own_at (P := Tryz.prog) (w.alloc (.cells #[I_ x] 3)) B 22 ty 3 ie _ 1 8 Tryz.underlying22 hi hz0 hz1 hz2 rfl (by decide) v n (nts l) o1 ⟨w.heap.size, 0, none⟩ 1 1 (nts [x]) rfl hc (fun u hu => by simp [nts] at hu; subst hu; rfl) (by unfold maxLen; omega) (by omega) (Nat.le_trans hB hb.size)
 obtain ⟨a9, c9, e9, _⟩ := Zl ho'
 refine ⟨v', w', hr, ⟨_, _, e9⟩, by rw [show nts (l ++ [x]) = nts l ++ nts [x] by simp [nts]]; exact ho', ⟨hg.os, hg.tape, hg.output, Nat.le_trans hb.size hg.size, fun k hk hne => (hg.block k (Nat.lt_of_lt_of_le hk hb.size) hne).trans (hb.block k hk)⟩, fun k hk => ?_⟩
 rcases hat with e | e
 · exact .inl (e.symm.trans hk)
 · rw [e] at hk
   right
   have := Option.some.inj hk
   simp at this
   omega
theorem isB_zero (k t : Int) (hk : 1 <= k /\ k <= 3) : isB (Yj k) 0 0 t = (k == t) := by
 have h : k = 1 ∨ k = 2 ∨ k = 3 := by omega
 rcases h with rfl | rfl | rfl <;> simp [isB, Yn, Yj]
theorem map_set_t {C : List Qu} {i : Nat} {q q' : Qu} (hq : C[i]? = some q) (h : q'.t = q.t) : (C.set i q').map Qu.t = C.map Qu.t := by
 rw [List.map_set]
 exact set_same _ _ _ (by rw [List.getElem?_map, hq, h]; rfl)
def Sq (wc : World) (F : Nat -> Prop) (wr : World) (g : Nat) (s : St) : Prop := ∃ F', Stt wr F' g s /\ Ch F F' wc wr
def Sb (w wc : World) (F : Nat -> Prop) (p : List Addr) : Prop := (∀ k, F k -> w.heap.size <= k) /\ Below w.heap.size w wc /\ E2 w p
section
variable {w wc wr w' : World} {F : Nat → Prop} {g : Nat} {s s' : St} {p : List Addr} {v : Value} {f : FuncId} {args : Array Value}
theorem Sq.errs (h : Sq wc F wr g s) (hb : Sb w wc F p) : E2 wr p := by
 obtain ⟨F', h1, h2⟩ := h
 exact (Mk.of hb.1 hb.2.1 h1 h2).errs hb.2.2
theorem Sq.bel (h : Sq wc F wr g s) (hb : Below wr.heap.size wr w') : Sq wc F w' g s := by
 obtain ⟨F', h1, h2⟩ := h
 exact ⟨F', h1.bel hb, h2.trans (Ch.of_bel hb)⟩
theorem Sq.vb (h : Sq wc F wr g s) (hc : Calls Tryz.prog f args wr (Vb wr v)) : Calls Tryz.prog f args wr fun e w' => e = .returned v /\ Sq wc F w' g s := hc.mono fun _ _ ⟨he, hb⟩ => ⟨he, h.bel hb⟩
theorem Sq.sp (h : Sq wc F wr g s) (hc : ∀ F', Stt wr F' g s -> Calls Tryz.prog f args wr (Sp wr F' g s' v)) : Calls Tryz.prog f args wr fun e w' => e = .returned v /\ Sq wc F w' g s' := by
 obtain ⟨F', h1, h2⟩ := h
 exact (hc F' h1).mono fun _ _ ⟨he, F'', h3, h4⟩ => ⟨he, F'', h3, h2.trans h4⟩
theorem Sq.st (h : Sq wc F wr g s) : ∃ F', Stt wr F' g s := by
 obtain ⟨F', h1, h2⟩ := h
 exact ⟨F', h1⟩
end
theorem chanType_in {w wc : World} {F : Nat -> Prop} {g : Nat} {s : St} {p : List Addr} (h : Stt wc F g s) (hb : Sb w wc F p) (i : Nat) (q : Qu) (hq : s.C[i]? = some q) (ht : 1 <= q.t /\ q.t <= 3) :
 Calls Tryz.prog 84 #[P_ g, I_ (i : Nat)] wc fun e w' => e = .returned (I_ q.t) /\ ∃ s', Sq wc F w' g s' /\ s'.C.map Qu.t = s.C.map Qu.t := by
 have H : Hid (Sq wc F wc g s) := Za ⟨F, h, Ch.refl _ _⟩
 have H7 := Za hb
 have HQ := Za hq
 obtain ⟨t, htt⟩ : ∃ t, q.t = t := ⟨_, rfl⟩
 rw [htt] at ht ⊢
 have HT := Za htt
 clear h hb hq htt
 go_enter Tryz.func84, Tryz.ntmps84
 go_wp2_with fail
 go_loopw [5, 6, 7] (fun x5 x6 x7 wr => ∃ (k : Int), 1 <= k /\ k <= t /\ x5 = I_ k /\ Hid (Sq wc F wr g s)) (fun x5 x6 x7 _ => (4 - intOf x5).toNat)
 case atStart => exact ⟨1, by omega, ht.1, rfl, H⟩
 case round =>
  obtain ⟨k, hk1, hkt, rfl, HM⟩ := hrel
  have hk3 : k <= 3 := by omega
  have ZA := fun w => zero_any k w
  go_wp2_with fail
  refine (ZA _).mono ?_
  rintro e w1 ⟨rfl, hb⟩
  have M1 := Za (HM.out.bel hb)
  clear HM hb
  by_cases he : k = t
  · subst he
    have hB : Hid (isB (Yj k) 0 0 q.t = true) := Za (by rw [isB_zero k _ ⟨hk1, hk3⟩, HT.out]; simp)
    by_cases hr : (q.l.length : Int) < q.room
    · have RM := Za (M1.out.sp fun F' hs => Send_room hs (M1.out.errs H7.out) i q HQ.out (Yj k) 0 0 hB.out hr)
      generalize Yj k = zk at *
      clear hr
      go_wp2_with fail
      refine RM.out.mono ?_
      rintro e w2 ⟨rfl, h2⟩
      have M2 := Za h2
      clear h2
      go_wp2_with fail
      go_ret
      exact ⟨rfl, _, M2.out, map_set_t HQ.out rfl⟩
    · obtain ⟨F', hs⟩ := M1.out.st
      have RM := Za (M1.out.vb (Send_full hs (M1.out.errs H7.out) i q HQ.out (Yj k) 0 0 hB.out (by omega)))
      generalize Yj k = zk at *
      clear hr hs
      go_wp2_with fail
      refine RM.out.mono ?_
      rintro e w2 ⟨rfl, h2⟩
      have M2 := Za h2
      clear h2
      go_wp2_with fail
      go_ret
      exact ⟨rfl, _, M2.out, rfl⟩
  · have hB : Hid (isB (Yj k) 0 0 q.t = false) := Za (by rw [isB_zero k _ ⟨hk1, hk3⟩, HT.out]; simp [he])
    obtain ⟨F', hs⟩ := M1.out.st
    have RM := Za (M1.out.vb (Send_bad hs (M1.out.errs H7.out) i q HQ.out (Yj k) 0 0 hB.out))
    have hlt : k < t := by omega
    clear hs
    unfold errV at *
    generalize adr p 4 = ad at *
    generalize Yj k = zk at *
    go_wp2_with fail
    refine RM.out.mono ?_
    rintro e w2 ⟨rfl, h2⟩
    have M2 := Za h2
    clear h2 RM M1
    go_wp2_with fail
    go_roundw
    case rel => exact ⟨k + 1, by omega, by omega, by go_num, M2⟩
    case measure => simp [intOf]; omega
theorem chanType_out {w wc : World} {F : Nat -> Prop} {g : Nat} {s : St} {p : List Addr} (h : Stt wc F g s) (hb : Sb w wc F p) (i : Int) (hi : i < 0 ∨ (s.C.length : Int) <= i) :
 Calls Tryz.prog 84 #[P_ g, I_ i] wc fun e w' => e = .returned (I_ 0) /\ Sq wc F w' g s := by
 have H : Hid (Sq wc F wc g s) := Za ⟨F, h, Ch.refl _ _⟩
 have H7 := Za hb
 have HI := Za hi
 clear h hb hi
 go_enter Tryz.func84, Tryz.ntmps84
 go_wp2_with fail
 go_loopw [5, 6, 7] (fun x5 x6 x7 wr => ∃ (k : Int), 1 <= k /\ k <= 4 /\ x5 = I_ k /\ Hid (Sq wc F wr g s)) (fun x5 x6 x7 _ => (4 - intOf x5).toNat)
 case atStart => exact ⟨1, by omega, by omega, rfl, H⟩
 case round =>
  obtain ⟨k, hk1, hkt, rfl, HM⟩ := hrel
  by_cases hk3 : k <= 3
  · have ZA := fun w => zero_any k w
    go_wp2_with fail
    refine (ZA _).mono ?_
    rintro e w1 ⟨rfl, hb⟩
    have M1 := Za (HM.out.bel hb)
    clear HM hb
    obtain ⟨F', hs⟩ := M1.out.st
    have RM := Za (M1.out.vb (Send_out hs (M1.out.errs H7.out) i (Yj k) 0 0 HI.out))
    clear hs
    unfold errV at *
    generalize adr p 0 = ad at *
    generalize Yj k = zk at *
    go_wp2_with fail
    refine RM.out.mono ?_
    rintro e w2 ⟨rfl, h2⟩
    have M2 := Za h2
    clear h2 RM M1
    go_wp2_with fail
    go_roundw
    case rel => exact ⟨k + 1, by omega, by omega, by go_num, M2⟩
    case measure => simp [intOf]; omega
  · have e : k = 4 := by omega
    subst e
    go_wp2_with fail
    go_ret
    exact ⟨rfl, HM.out⟩
theorem chanTypes_any {w : World} {F : Nat -> Prop} {g : Nat} {s : St} {p : List Addr} (h : Stt w F g s) (h17 : E2 w p) (ht : ∀ q ∈ s.C, 1 <= q.t /\ q.t <= 3) :
    Calls Tryz.prog 54 #[P_ g] w fun e w' => ∃ a c, e = .returned (.slice a s.C.length c) /\ w'.ownsRow w.heap.size 3 1 (.slice a s.C.length c) s.C.length (nts (s.C.map Qu.t)) /\ Below w.heap.size w w' := by
  have CP := Za (Copy_any h)
  have H7 := Za h17
  have HT := Za ht
  have hn32 : s.C.length <= 32 := by
    obtain ⟨_, _, _, _, _, hS⟩ := h
    have := hS.small
    omega
  obtain ⟨n, hn⟩ : ∃ n, n = s.C.length := ⟨_, rfl⟩
  rw [← hn] at hn32 ⊢
  have HN := Za hn
  have CI : Hid (∀ (k : Nat) (wr : World) (F : Nat -> Prop) (gc : Nat) (s' : St), Stt wr F gc s' -> Sb w wr F p -> s'.C.map Qu.t = s.C.map Qu.t -> Calls Tryz.prog 84 #[P_ gc, I_ (k : Nat)] wr fun e w' => e = .returned (I_ (((s.C.map Qu.t)[k]?).getD 0)) /\ ∃ s'', Sq wr F w' gc s'' /\ s''.C.map Qu.t = s.C.map Qu.t) := Za (fun k wr F gc s' hm hsb he => by
    by_cases hk : k < s'.C.length
    · have hq : s'.C[k]? = some s'.C[k] := List.getElem?_eq_getElem hk
      have e1 : (s.C.map Qu.t)[k]? = some s'.C[k].t := by rw [← he, List.getElem?_map, hq]; rfl
      rw [e1]
      have htq : 1 <= s'.C[k].t /\ s'.C[k].t <= 3 := by
        rw [List.getElem?_map] at e1
        obtain ⟨q', hq', e2⟩ := Option.map_eq_some_iff.1 e1
        have := ht q' (List.mem_of_getElem? hq')
        rw [e2] at this
        exact this
      exact (chanType_in hm hsb k _ hq htq).mono fun e w' ⟨h1, s'', h2, h3⟩ => ⟨h1, s'', h2, h3.trans he⟩
    · have e1 : (s.C.map Qu.t)[k]? = none := by
        rw [← he]
        apply List.getElem?_eq_none
        simp
        omega
      rw [e1]
      exact (chanType_out hm hsb (k : Int) (by omega)).mono fun e w' ⟨h1, h2⟩ => ⟨h1, s', h2, he⟩)
  have TV : Hid (∀ k, k < n -> (((s.C.map Qu.t)[k]?).getD 0) ≠ 0) := Za (fun k hk => by
    have hk' : k < s.C.length := by omega
    have e1 : (s.C.map Qu.t)[k]? = some (s.C[k]).t := by simp [hk']
    rw [e1]
    have := ht s.C[k] (List.getElem_mem hk')
    show s.C[k].t ≠ 0
    omega)
  have TE : Hid ((((s.C.map Qu.t)[n]?).getD 0) = 0) := Za (by
    have : (s.C.map Qu.t)[n]? = none := List.getElem?_eq_none (by simp; omega)
    rw [this]
    rfl)
  clear h h17 ht hn
  go_enter Tryz.func54, Tryz.ntmps54
  go_wp2_with fail
  refine CP.out.mono ?_
  rintro e w1 ⟨gc, rfl, F1, hs1, hF1, hb1⟩
  have C0 := Za (CI.out 0 w1 F1 gc s hs1 ⟨hF1, hb1, H7.out⟩ rfl)
  have M1 := Za (And.intro hF1 hb1)
  clear hs1 hF1 hb1 CP
  go_wp2_with fail
  refine C0.out.mono ?_
  rintro e w2 ⟨rfl, s2, ⟨F2, m2, c2⟩, e2⟩
  have M2 : Hid (Stt w2 F2 gc s2 /\ Sb w w2 F2 p /\ s2.C.map Qu.t = s.C.map Qu.t) := Za ⟨m2, ⟨c2.low M1.out.1 M1.out.2.size, M1.out.2.trans (c2.bel M1.out.1 M1.out.2.size), H7.out⟩, e2⟩
  clear m2 c2 e2 C0 M1
  obtain ⟨x0, hx0⟩ : ∃ x0, (((s.C.map Qu.t)[0]?).getD 0) = x0 := ⟨_, rfl⟩
  rw [hx0]
  have HX0 := Za hx0
  clear hx0
  go_wp2_with fail
  go_loopw [4, 5] (fun x4 x5 wr => ∃ (k : Nat) (a : Option Addr) (c : Nat) (y : Int), k <= n /\ x4 = .slice a k c /\ x5 = I_ y /\ Hid (y = (((s.C.map Qu.t)[k]?).getD 0)) /\ Hid (wr.ownsRow w.heap.size 3 1 (.slice a k c) k (nts ((s.C.map Qu.t).take k)) /\ ∃ F' s', Stt wr F' gc s' /\ Sb w wr F' p /\ s'.C.map Qu.t = s.C.map Qu.t /\ ∀ j, (Value.slice a k c).ownBlock = some j -> ¬ F' j)) (fun x4 x5 _ => n - (match x4 with | .slice _ k _ => k | _ => 0))
  case atStart => exact ⟨0, none, 0, x0, Nat.zero_le _, rfl, rfl, Za HX0.out.symm, Za ⟨World.ownsRow_nil _ _ _ _, F2, s2, M2.out.1, M2.out.2.1, M2.out.2.2, fun j hj => by cases hj⟩⟩
  case round =>
    obtain ⟨k, a, c, y, hk, rfl, rfl, hy, HO⟩ := hrel
    by_cases hlt : k < n
    · have hy0 : y ≠ 0 := by rw [hy.out]; exact TV.out k hlt
      have hyb : (y == 0) = false := by simp [hy0]
      have PU := Za (fun ty => push_i2 (n := k) (l := (s.C.map Qu.t).take k) (by simp; have := HN.out; omega) (by simp; omega) HO.out.1 (by obtain ⟨_, _, _, _, hb, _⟩ := HO.out; exact hb.2.1.size) y ty)
      have TS : Hid ((s.C.map Qu.t).take (k + 1) = (s.C.map Qu.t).take k ++ [y]) := Za (by
        rw [take_snoc _ k 0 (by simp; have := HN.out; omega), hy.out, List.getD_eq_getElem?_getD])
      go_wp2_with (first | (at_builtin; refine wpList_appV (TS := 22) rfl (.tmp 16) (.tmp 18) rfl _ _ rfl rfl _ (PU.out _) ?_; rintro v9 w9 ⟨⟨a9, c9, rfl⟩, r9⟩; have R9 := Za r9; clear r9))
      obtain ⟨o1, F', s', hs, hsb, hm, hd⟩ := HO.out
      obtain ⟨o9, g9, b9⟩ := R9.out
      have hs9 : Stt w9 F' gc s' := hs.keep (fun j hj => g9.block j (hs.fb j hj) (fun e => hd j e.symm hj)) g9.size
      have hsb9 : Sb w w9 F' p := ⟨hsb.1, hsb.2.1.grown g9 hsb.2.1.size (fun j hj => (Zf o1 hj).1), hsb.2.2⟩
      have hd9 : ∀ j, (Value.slice a9 (k + 1) c9).ownBlock = some j -> ¬ F' j := fun j hj hF => by
        rcases b9 j hj with h1 | h1
        · exact hd j h1 hF
        · have := hs.fb j hF
          omega
      have C9 := Za (CI.out (k + 1) w9 F' gc s' hs9 hsb9 hm)
      have K9 : Hid (Sb w w9 F' p /\ (∀ j, (Value.slice a9 (k + 1) c9).ownBlock = some j -> ¬ F' j) /\ w9.ownsRow w.heap.size 3 1 (.slice a9 (k + 1) c9) (k + 1) (nts ((s.C.map Qu.t).take (k + 1)))) := Za ⟨hsb9, hd9, by rw [TS.out]; exact o9⟩
      clear o1 hs hsb hm hd o9 g9 b9 hs9 hsb9 hd9 R9 PU HO
      refine C9.out.mono ?_
      rintro e w10 ⟨rfl, s3, ⟨F3, m3, c3⟩, e3⟩
      have K10 : Hid (Stt w10 F3 gc s3 /\ Ch F' F3 w9 w10 /\ s3.C.map Qu.t = s.C.map Qu.t) := Za ⟨m3, c3, e3⟩
      clear m3 c3 e3 C9
      obtain ⟨y9, hy9⟩ : ∃ y9, (((s.C.map Qu.t)[k + 1]?).getD 0) = y9 := ⟨_, rfl⟩
      rw [hy9]
      have HY9 := Za hy9
      clear hy9
      go_wp2_with fail
      go_roundw
      case rel =>
        obtain ⟨k1, k2, k3⟩ := K9.out
        obtain ⟨m3, c3, e3⟩ := K10.out
        refine ⟨k + 1, a9, c9, y9, by omega, rfl, rfl, Za HY9.out.symm, Za ⟨Zj k3 (fun j hj => c3.blk j (Zf k3 hj).2.1 (k2 j hj)), F3, s3, m3, ⟨c3.low k1.1 k1.2.1.size, k1.2.1.trans (c3.bel k1.1 k1.2.1.size), k1.2.2⟩, e3, fun j hj hF => ?_⟩⟩
        rcases c3.grow j hF with h1 | h1
        · exact k2 j hj h1
        · have := (Zf k3 hj).2.1
          omega
      case measure => simp; omega
    · obtain rfl : k = n := by omega
      have e0 : y = 0 := by rw [hy.out]; exact TE.out
      subst e0
      have TK : Hid ((s.C.map Qu.t).take k = s.C.map Qu.t) := Za (List.take_of_length_le (by simp; have := HN.out; omega))
      go_wp2_with fail
      go_ret
      refine ⟨a, c, rfl, ?_, ?_⟩
      · have := HO.out.1
        rw [TK.out] at this
        exact this
      · obtain ⟨_, _, _, _, hb, _⟩ := HO.out
        exact hb.2.1
theorem lk_range {α : Type} {l : List α} {i : Int} {x : α} (h : lk l i = some x) : 0 <= i /\ l[i.toNat]? = some x := by
 unfold lk at h
 split at h
 · rename_i h0
   exact ⟨h0, h⟩
 · cases h
theorem share_t (s : St) (w : Wt) : (ZF s w).1.C.map Qu.t = s.C.map Qu.t := by
 unfold ZF
 split
 · rfl
 split
 · rfl
 split
 · rfl
 split
 · rfl
 split
 · split
   · rename_i q hq
     exact map_set_t (lk_range hq).2 rfl
   · rfl
 split
 · split
   · rename_i q hq
     exact map_set_t (lk_range hq).2 rfl
   · rfl
 split
 · rfl
 split
 · rfl
 split
 · rfl
 rfl
theorem share_any {w : World} {F : Nat -> Prop} {g : Nat} {r : Rm} {p : List Addr} (h : Stt w F g r.s) (h17 : E2 w p) (k o a v0 v1 v2 : Int) (aa : Option Addr) (na ca : Nat) (hc : ZY r ⟨k, o, a, (v0, v1, v2)⟩ = true) (h10 : k ≠ 10) (h12 : k ≠ 12) (h5 : k = 5 -> YF r.s o = false) :
 Calls Tryz.prog 72 #[P_ g, .agg #[I_ k, I_ o, I_ a, I_ v0, I_ v1, .int .u64 v2, .slice aa na ca]] w (Sp w F g (ZF r.s ⟨k, o, a, (v0, v1, v2)⟩).1 (.agg #[I_ (ZF r.s ⟨k, o, a, (v0, v1, v2)⟩).2.1, I_ (ZF r.s ⟨k, o, a, (v0, v1, v2)⟩).2.2.1, .int .u64 (ZF r.s ⟨k, o, a, (v0, v1, v2)⟩).2.2.2])) := by
 have hk : k = 1 ∨ k = 2 ∨ k = 3 ∨ k = 4 ∨ k = 5 ∨ k = 6 ∨ k = 7 ∨ k = 8 ∨ k = 9 ∨ k = 11 := by
  by_cases hh : k = 1 ∨ k = 2 ∨ k = 3 ∨ k = 4 ∨ k = 5 ∨ k = 6 ∨ k = 7 ∨ k = 8 ∨ k = 9 ∨ k = 11
  · exact hh
  · have : ZY r ⟨k, o, a, (v0, v1, v2)⟩ = false := by
     unfold ZY
     simp only
     rw [if_neg (by omega), if_neg (by omega), if_neg (by omega), if_neg (by omega), if_neg (by omega), if_neg (by omega)]
     simp
     omega
    rw [this] at hc
    cases hc
 rcases hk with rfl | rfl | rfl | rfl | rfl | rfl | rfl | rfl | rfl | rfl
 · have hc' : canA r.s ⟨1, o, a, (v0, v1, v2)⟩ = true := hc
   unfold canA at hc'
   cases hl : lk r.s.P o with
   | none => simp [hl] at hc'
   | some x =>
    obtain ⟨i, rfl, hi⟩ := ZD hl
    have e : ZF r.s ⟨1, (i : Int), a, (v0, v1, v2)⟩ = (r.s, x) := by unfold ZF; simp only [if_true]; rw [hl]; rfl
    rw [e]
    exact share_1 h h17 a v0 v1 v2 aa na ca i x hi
 · have hc' : canA r.s ⟨2, o, a, (v0, v1, v2)⟩ = true := hc
   unfold canA at hc'
   cases hl : lk r.s.P o with
   | none => simp [hl] at hc'
   | some x =>
    rw [hl] at hc'
    obtain ⟨i, rfl, hi⟩ := ZD hl
    exact share_2 h h17 a v0 v1 v2 aa na ca i x hi (by simpa [isV] using hc')
 · have hc' : canL r.s ⟨3, o, a, (v0, v1, v2)⟩ = true := hc
   unfold canL at hc'
   cases hl : lk r.s.M o with
   | none => simp [hl] at hc'
   | some x =>
    obtain ⟨i, rfl, hi⟩ := ZD hl
    exact share_3 h h17 a v0 v1 v2 aa na ca i x hi
 · have hc' : (lk r.s.M o).isSome = true := hc
   cases hl : lk r.s.M o with
   | none => simp [hl] at hc'
   | some x =>
    obtain ⟨i, rfl, hi⟩ := ZD hl
    exact share_4 h h17 a v0 v1 v2 aa na ca i x hi
 · have hc' : canS r ⟨5, o, a, (v0, v1, v2)⟩ = true := hc
   have hz := h5 rfl
   unfold canS at hc'
   unfold YF at hz
   cases hl : lk r.s.C o with
   | none => simp [hl] at hc'
   | some q =>
    rw [hl] at hc' hz
    simp only [Bool.and_eq_true, isV] at hc'
    have hz' : ¬ q.room = 0 := by simpa using hz
    rw [if_neg hz'] at hc'
    obtain ⟨i, rfl, hi⟩ := ZD hl
    have e : ZF r.s ⟨5, (i : Int), a, (v0, v1, v2)⟩ = ({ r.s with C := r.s.C.set i { q with l := q.l ++ [(v0, v1, v2)] } }, z3) := by
     have e0 : ZF r.s ⟨5, (i : Int), a, (v0, v1, v2)⟩ = (match lk r.s.C (i : Int) with | some q => ({ r.s with C := r.s.C.set (i : Int).toNat { q with l := q.l ++ [(v0, v1, v2)] } }, z3) | none => (r.s, z3)) := rfl
     rw [e0, hl]
     rfl
    rw [e]
    exact share_5 h h17 a v0 v1 v2 aa na ca i q hi hc'.1 (by simpa using hc'.2)
 · have hc' : canR r.s ⟨6, o, a, (v0, v1, v2)⟩ = true := hc
   unfold canR at hc'
   cases hl : lk r.s.C o with
   | none => simp [hl] at hc'
   | some q =>
    rw [hl] at hc'
    simp only [decide_eq_true_eq] at hc'
    obtain ⟨i, rfl, hi⟩ := ZD hl
    cases hq : q.l with
    | nil => rw [hq] at hc'; simp at hc'
    | cons y l =>
     have e : ZF r.s ⟨6, (i : Int), a, (v0, v1, v2)⟩ = ({ r.s with C := r.s.C.set i { q with l := l } }, y) := by
      have e0 : ZF r.s ⟨6, (i : Int), a, (v0, v1, v2)⟩ = (match lk r.s.C (i : Int) with | some q => ({ r.s with C := r.s.C.set (i : Int).toNat { q with l := q.l.tail } }, q.l.headD z3) | none => (r.s, z3)) := rfl
      rw [e0, hl]
      simp only [hq]
      rfl
     rw [e]
     exact share_6 h h17 a v0 v1 v2 aa na ca i q hi y l hq
 · have hc' : canC r.s ⟨7, o, a, (v0, v1, v2)⟩ = true := hc
   unfold canC at hc'
   cases hl : lk r.s.A o with
   | none => simp [hl] at hc'
   | some x =>
    obtain ⟨i, rfl, hi⟩ := ZD hl
    have e : ZF r.s ⟨7, (i : Int), a, (v0, v1, v2)⟩ = (r.s, (1, x, 0)) := by
     have e0 : ZF r.s ⟨7, (i : Int), a, (v0, v1, v2)⟩ = (r.s, (1, (lk r.s.A (i : Int)).getD 0, 0)) := rfl
     rw [e0, hl]
     rfl
    rw [e]
    exact share_7 h h17 a v0 v1 v2 aa na ca i x hi
 · have hc' : canC r.s ⟨8, o, a, (v0, v1, v2)⟩ = true := hc
   unfold canC at hc'
   cases hl : lk r.s.A o with
   | none => simp [hl] at hc'
   | some x =>
    obtain ⟨i, rfl, hi⟩ := ZD hl
    exact share_8 h h17 a v0 v1 v2 aa na ca i x hi
 · have hc' : canC r.s ⟨9, o, a, (v0, v1, v2)⟩ = true := hc
   unfold canC at hc'
   cases hl : lk r.s.A o with
   | none => simp [hl] at hc'
   | some x =>
    obtain ⟨i, rfl, hi⟩ := ZD hl
    have e : ZF r.s ⟨9, (i : Int), a, (v0, v1, v2)⟩ = ({ r.s with A := r.s.A.set i (wrap64 (x + v1)) }, z3) := by
     have e0 : ZF r.s ⟨9, (i : Int), a, (v0, v1, v2)⟩ = ({ r.s with A := r.s.A.set (i : Int).toNat (wrap64 ((lk r.s.A (i : Int)).getD 0 + v1)) }, z3) := rfl
     rw [e0, hl]
     rfl
    rw [e]
    exact share_9 h h17 a v0 v1 v2 aa na ca i x hi
 · exact share_11 h h17 a v0 v1 v2 aa na ca o
theorem meet_any {w : World} {G : Nat -> Prop} {g : Nat} {S : List (List Wt)} {r : Rm} (h : Rn w G g S r) (i t : Nat) (x y : Gr) (hx : r.gs[i]? = some x) (hl : r.ev.length <= 90000) (k o a v0 v1 v2 : Int) (aa : Option Addr) (na ca : Nat) (ht : recvR r.gs o = some t) (hy : r.gs[t]? = some y) :
 Calls Tryz.prog 70 #[P_ g, I_ (i : Nat), .agg #[I_ k, I_ o, I_ a, I_ v0, I_ v1, .int .u64 v2, .slice aa na ca]] w (RnP w G g S (meetR r i ⟨k, o, a, (v0, v1, v2)⟩) (.tuple #[])) := by
 have B0 := Za (Zd w (.cells #[I_ k, I_ o, I_ a, I_ v0, I_ v1, .int .u64 v2, .slice aa na ca] 67))
 have V0 := Za (Wv.new w k o a v0 v1 v2 (.slice aa na ca))
 have NG : Hid (¬ G w.heap.size) := Za (fun hG => absurd (h.fb _ hG) (by omega))
 have RC := Za (receiver_any (h.bel B0.out) o)
 have hri : recvI r.gs o = t := by unfold recvI; rw [ht]
 rw [hri] at RC
 have HR := Za (h.bel B0.out)
 obtain ⟨r1, hr1⟩ : ∃ r1, r1 = Zz r i o := ⟨_, rfl⟩
 obtain ⟨r2, hr2⟩ : ∃ r2, r2 = Zz r1 t o := ⟨_, rfl⟩
 have hg1 : Hid (r1.gs = r.gs) := Za (by rw [hr1]; exact note_gs _ _ _)
 have hg2 : Hid (r2.gs = r1.gs) := Za (by rw [hr2]; exact note_gs _ _ _)
 have hl1 : Hid (r1.ev.length <= 90001) := Za (by rw [hr1]; have := note_len r i o; omega)
 have em : meetR r i ⟨k, o, a, (v0, v1, v2)⟩ = (match Yg r2 i with | (r2, true) => (Yg r2 t).1 | (r2, false) => r2) := by
  unfold meetR
  simp only [ht]
  rw [← hr1, ← hr2]
  generalize Yg r2 i = q
  obtain ⟨qa, qb⟩ := q
  cases qb <;> rfl
 rw [em]
 obtain ⟨q, hq⟩ : ∃ q, Yg r2 i = q := ⟨_, rfl⟩
 rw [hq]
 have hq3 : Hid (∃ z, q.1.gs[t]? = some z) := Za ⟨_, List.getElem?_eq_getElem (by rw [← hq, ask_gs, hg2.out, hg1.out]; exact (G_ hy))⟩
 have HX := Za (And.intro hx hy)
 have HL := Za hl
 have H1 := Za hr1
 have H2 := Za hr2
 have HQ := Za hq
 clear h hri em hx hy hl hr1 hr2 hq ht
 obtain ⟨r3, bq⟩ := q
 go_enter Tryz.func70, Tryz.ntmps70
 go_upto_region 1 with fail
 generalize w.alloc _ = w1 at *
 obtain ⟨q0, q1, q2, q3, q4, q5, q6⟩ := V0.out.all
 go_wp2_with fail
 refine RC.out.mono ?_
 rintro e w2 ⟨rfl, b2⟩
 have V2 := Za (V0.out.al b2)
 have NO := Za (note_any (HR.out.bel b2) i x HX.out.1 o (by have := HL.out; omega))
 rw [← H1.out] at NO
 have C2 := Za (Zg B0.out b2)
 have L2 := Za (V0.out.al b2).lt
 clear b2 RC q0 q1 q2 q3 q4 q5 q6 V0 HR
 obtain ⟨q0, q1, q2, q3, q4, q5, q6⟩ := V2.out.all
 go_wp2_with fail
 refine NO.out.mono ?_
 rintro e w3 ⟨rfl, G3, rn3, c3⟩
 obtain ⟨k3, n3, l3⟩ := c3.keepB NG.out L2.out
 have V3 : Hid (Wv w3 w.heap.size k o a (v0, v1, v2) (.slice aa na ca)) := Za (k3.trans V2.out)
 have N3 := Za (And.intro n3 l3)
 have NO2 := Za (note_any rn3 t y (by rw [hg1.out]; exact HX.out.2) o (by have := hl1.out; omega))
 rw [← H2.out] at NO2
 have C3 := Za ((Ch.of_bel C2.out).trans c3)
 clear rn3 c3 NO k3 n3 l3 q0 q1 q2 q3 q4 q5 q6 V2 C2
 obtain ⟨q0, q1, q2, q3, q4, q5, q6⟩ := V3.out.all
 go_wp2_with fail
 refine NO2.out.mono ?_
 rintro e w4 ⟨rfl, G4, rn4, c4⟩
 obtain ⟨k4, n4, l4⟩ := c4.keepB N3.out.1 N3.out.2
 have V4 : Hid (Wv w4 w.heap.size k o a (v0, v1, v2) (.slice aa na ca)) := Za (k4.trans V3.out)
 have N4 := Za (And.intro n4 l4)
 have AK := Za (ask_any rn4 i x (by rw [hg2.out, hg1.out]; exact HX.out.1) 0 0 0)
 rw [HQ.out] at AK
 have C4 := Za (C3.out.trans c4)
 clear rn4 c4 NO2 k4 n4 l4 q0 q1 q2 q3 q4 q5 q6 V3 C3 N3
 go_wp2_with fail
 refine AK.out.mono ?_
 rintro e w5 ⟨rfl, G5, rn5, c5⟩
 obtain ⟨k5, n5, l5⟩ := c5.keepB N4.out.1 N4.out.2
 have V5 : Hid (Wv w5 w.heap.size k o a (v0, v1, v2) (.slice aa na ca)) := Za (k5.trans V4.out)
 have C5 := Za (And.intro rn5 (C4.out.trans c5))
 clear rn5 c5 AK C4 k5 n5 l5 V4 N4
 cases bq with
 | true =>
  obtain ⟨z, hz⟩ := hq3.out
  have AK := Za (ask_any C5.out.1 t z hz v0 v1 v2)
  clear hz
  obtain ⟨q0, q1, q2, q3, q4, q5, q6⟩ := V5.out.all
  go_wp2_with fail
  refine AK.out.mono ?_
  rintro e w6 ⟨rfl, G6, rn6, c6⟩
  have C6 := Za (And.intro rn6 (C5.out.2.trans c6))
  clear rn6 c6 AK C5
  go_wp2_with fail
  go_end0
  exact RnP.mk rfl C6.out.1 C6.out.2
 | false =>
  go_wp2_with fail
  go_end0
  exact RnP.mk rfl C5.out.1 C5.out.2
section
variable {ks : List Nat} {W w' w'' : World} {F F' : Nat → Prop}
theorem Yr.ch (h : Yr ks W w') (c : Ch F F' w' w'') (hn : ∀ k ∈ ks, ¬ F k) : Yr ks W w'' := ⟨Nat.le_trans h.1 c.size, h.2.1, fun k hk => (c.blk k (Nat.lt_of_lt_of_le (h.2.1 k hk) h.1) (hn k hk)).trans (h.2.2 k hk)⟩
end
theorem step_4f {w : World} {G : Nat -> Prop} {g : Nat} {S : List (List Wt)} {r : Rm} {p : List Addr} (h : Rn w G g S r) (h17 : E2 w p) (i : Nat) (x : Gr) (hx : r.gs[i]? = some x) (hl : r.ev.length <= 90000) (hk : x.w.k = 4) (hm : lk r.s.M x.w.o ≠ some true) : Calls Tryz.prog 31 #[P_ g, I_ (i : Nat)] w (RnP w G g S (Yd S r i) (.tuple #[])) := by
 have hst : Yd S r i = faultR r i (4, 0, x.w.a) := by
  unfold Yd
  rw [hx]
  simp only
  rw [if_pos ⟨hk, hm⟩]
 rw [hst]
 clear hst
 have NG : Hid (¬ G w.heap.size) := Za (fun hG => absurd (h.fb _ hG) (by omega))
 have HX := Za hx
 obtain ⟨Fs, Fo, R, gs, vC, vB, vG, vE, ps, ts, h, hG⟩ := h
 obtain ⟨bG, cG, b, t, va, eG, _, _, _, _, _, hA, ⟨s1, s2, s3⟩, s4⟩ := h.see hx
 subst eG
 obtain ⟨aa, na, ca, rfl⟩ := hA.form
 have hi : i < r.gs.length := (G_ hx)
 have hn8 := h.n8
 obtain ⟨⟨c0, c1, c2, c3, c4⟩, c5, c6, c7, c8, c9⟩ := h.cells
 have hgl := h.fb g h.fg
 obtain ⟨rest, ⟨k, o, a, v0, v1, v2⟩⟩ := x
 simp only at s4
 have b1 := Zb s4 1 _ rfl
 have b2 := Zb s4 2 _ rfl
 have b3 := Zb s4 3 _ rfl
 have b4 := Zb s4 4 _ rfl
 have b5 := Zb s4 5 _ rfl
 have b6 := Zb s4 6 _ rfl
 have b7 := Zb s4 7 _ rfl
 obtain ⟨n, hn⟩ : ∃ n, n = r.gs.length := ⟨_, rfl⟩
 rw [← hn] at hi hn8 c3
 have HN := Za hn
 have hi1 : (i : Int) < (n : Int) := by omega
 have hi0 : (0 : Int) <= (i : Int) := by omega
 have hd0 : decide ((i : Int) < 0) = false := by simp
 have hd1 : decide ((n : Int) <= (i : Int)) = false := by simp; omega
 clear hn
 have B0 := Za (Zd w (.cells #[I_ k, I_ o, I_ a, I_ v0, I_ v1, .int .u64 v2, .slice aa na ca] 67))
 have V0 := Za (Wv.new w k o a v0 v1 v2 (.slice aa na ca))
 have HU := Za (h.bel B0.out)
 have HG := Za hG
 have H7 := Za (h17.below (Nat.le_refl _) B0.out)
 have HL := Za hl
 have AR := Za (hA.keep (fun k hk => B0.out.block k (h.rb k hk)) (fun _ h => h))
 have U0 := Za ((B0.out.cell (p := ⟨g, 0, none⟩) hgl).trans c0)
 have hsl := h.st.lt
 simp only at hk hm
 subst hk
 have hlo : (lk r.s.M o).getD false = false := by
  cases hl' : lk r.s.M o with
  | none => rfl
  | some b => cases b with
   | false => rfl
   | true => exact absurd hl' hm
 have LO := Za (fun (m : Nat) => Locked_q (HU.out.st.bel (below_drewN (Below.refl _ _) m)) (H7.out.below (Nat.le_refl _) (below_drewN (Below.refl _ _) m)) o)
 rw [hlo] at LO
 clear hlo hm
 clear h hG h17 hl hA hx c0 c1 c2 c4 c5 c6 c7 c8 c9
 go_enter Tryz.func31, Tryz.ntmps31
 go_upto_region 4 with fail
 generalize w.alloc _ = w1 at *
 clear b1 b2 b3 b4 b5 b6 b7 s1 c3
 obtain ⟨q0, q1, q2, q3, q4, q5, q6⟩ := V0.out.all
 have u0 := U0.out
 go_quiet (first | (go_at_call 64; exact Calls.quiet_of (LO.out _)))
 have HU' := Za (HU.out.bel (w' := w1.drewN nq) (below_drewN (Below.refl _ _) nq))
 have B0' := Za (below_drewN B0.out nq)
 have V0' : Hid (Wv (w1.drewN nq) w.heap.size 4 o a (v0, v1, v2) (.slice aa na ca)) := V0
 have H7' : Hid (E2 (w1.drewN nq) p) := Za (H7.out.below (Nat.le_refl _) (below_drewN (Below.refl _ _) nq))
 have U0' : Hid ((w1.drewN nq).cell? ⟨g, 0, none⟩ = some (P_ gs)) := U0
 have AR' := Za (AR.out.keep (w' := w1.drewN nq) (fun _ _ => rfl) (fun _ h => h))
 clear HU B0 V0 H7 U0 AR q0 q1 q2 q3 q4 q5 q6 u0
 have HU := HU'
 have B0 := B0'
 have V0 := V0'
 have H7 := H7'
 have U0 := U0'
 have AR := AR'
 clear HU' B0' V0' H7' U0' AR'
 generalize w1.drewN nq = w2 at *
 obtain ⟨q0, q1, q2, q3, q4, q5, q6⟩ := V0.out.all
 have u0 := U0.out
 have FA := Za (fault_any (r := r) (G := G) (S := S) ⟨_, _, _, _, _, _, _, _, _, _, HU.out, HG.out⟩ i 4 0 a)
 go_wp2_with fail
 refine FA.out.mono ?_
 rintro e w3 ⟨rfl, G3, rn3, c3⟩
 have Z := Za (And.intro rn3 ((Ch.of_bel B0.out).trans c3))
 clear rn3 c3 FA
 go_wp2_with fail
 go_end0
 exact RnP.mk rfl Z.out.1 Z.out.2
theorem step_10 {w : World} {G : Nat -> Prop} {g : Nat} {S : List (List Wt)} {r : Rm} {p : List Addr} (h : Rn w G g S r) (h17 : E2 w p) (i : Nat) (x : Gr) (hx : r.gs[i]? = some x) (hl : r.ev.length <= 90000) (hk : x.w.k = 10) : Calls Tryz.prog 31 #[P_ g, I_ (i : Nat)] w (RnP w G g S (Yd S r i) (.tuple #[])) := by
 have hst : Yd S r i = splitR S r i x.w := by
  unfold Yd
  rw [hx]
  simp only
  rw [if_neg (by omega), if_pos hk]
 rw [hst]
 clear hst
 have NG : Hid (¬ G w.heap.size) := Za (fun hG => absurd (h.fb _ hG) (by omega))
 have HX := Za hx
 obtain ⟨Fs, Fo, R, gs, vC, vB, vG, vE, ps, ts, h, hG⟩ := h
 obtain ⟨bG, cG, b, t, va, eG, _, _, _, _, _, hA, ⟨s1, s2, s3⟩, s4⟩ := h.see hx
 subst eG
 obtain ⟨aa, na, ca, rfl⟩ := hA.form
 have hi : i < r.gs.length := (G_ hx)
 have hn8 := h.n8
 obtain ⟨⟨c0, c1, c2, c3, c4⟩, c5, c6, c7, c8, c9⟩ := h.cells
 have hgl := h.fb g h.fg
 obtain ⟨rest, ⟨k, o, a, v0, v1, v2⟩⟩ := x
 simp only at s4
 have b1 := Zb s4 1 _ rfl
 have b2 := Zb s4 2 _ rfl
 have b3 := Zb s4 3 _ rfl
 have b4 := Zb s4 4 _ rfl
 have b5 := Zb s4 5 _ rfl
 have b6 := Zb s4 6 _ rfl
 have b7 := Zb s4 7 _ rfl
 obtain ⟨n, hn⟩ : ∃ n, n = r.gs.length := ⟨_, rfl⟩
 rw [← hn] at hi hn8 c3
 have HN := Za hn
 have hi1 : (i : Int) < (n : Int) := by omega
 have hi0 : (0 : Int) <= (i : Int) := by omega
 have hd0 : decide ((i : Int) < 0) = false := by simp
 have hd1 : decide ((n : Int) <= (i : Int)) = false := by simp; omega
 clear hn
 have B0 := Za (Zd w (.cells #[I_ k, I_ o, I_ a, I_ v0, I_ v1, .int .u64 v2, .slice aa na ca] 67))
 have V0 := Za (Wv.new w k o a v0 v1 v2 (.slice aa na ca))
 have HU := Za (h.bel B0.out)
 have HG := Za hG
 have H7 := Za (h17.below (Nat.le_refl _) B0.out)
 have HL := Za hl
 have AR := Za (hA.keep (fun k hk => B0.out.block k (h.rb k hk)) (fun _ h => h))
 have U0 := Za ((B0.out.cell (p := ⟨g, 0, none⟩) hgl).trans c0)
 have hsl := h.st.lt
 simp only at hk
 subst hk
 clear h hG h17 hl hA hx c0 c1 c2 c4 c5 c6 c7 c8 c9
 go_enter Tryz.func31, Tryz.ntmps31
 go_upto_region 4 with fail
 generalize w.alloc _ = w1 at *
 clear b1 b2 b3 b4 b5 b6 b7 s1 c3
 obtain ⟨q0, q1, q2, q3, q4, q5, q6⟩ := V0.out.all
 have u0 := U0.out
 go_quiet (fail)
 have HU' := Za (HU.out.bel (w' := w1.drewN nq) (below_drewN (Below.refl _ _) nq))
 have B0' := Za (below_drewN B0.out nq)
 have V0' : Hid (Wv (w1.drewN nq) w.heap.size 10 o a (v0, v1, v2) (.slice aa na ca)) := V0
 have H7' : Hid (E2 (w1.drewN nq) p) := Za (H7.out.below (Nat.le_refl _) (below_drewN (Below.refl _ _) nq))
 have U0' : Hid ((w1.drewN nq).cell? ⟨g, 0, none⟩ = some (P_ gs)) := U0
 have AR' := Za (AR.out.keep (w' := w1.drewN nq) (fun _ _ => rfl) (fun _ h => h))
 clear HU B0 V0 H7 U0 AR q0 q1 q2 q3 q4 q5 q6 u0
 have HU := HU'
 have B0 := B0'
 have V0 := V0'
 have H7 := H7'
 have U0 := U0'
 have AR := AR'
 clear HU' B0' V0' H7' U0' AR'
 generalize w1.drewN nq = w2 at *
 obtain ⟨q0, q1, q2, q3, q4, q5, q6⟩ := V0.out.all
 have u0 := U0.out
 have SP := Za (split_any (r := r) (G := G) (S := S) ⟨_, _, _, _, _, _, _, _, _, _, HU.out, HG.out⟩ i _ HX.out HL.out 10 o a v0 v1 v2 aa na ca R AR.out)
 go_wp2_with fail
 refine SP.out.mono ?_
 rintro e w3 ⟨rfl, G3, rn3, c3⟩
 have Z := Za (And.intro rn3 ((Ch.of_bel B0.out).trans c3))
 clear rn3 c3 SP
 go_wp2_with fail
 go_end0
 exact RnP.mk rfl Z.out.1 Z.out.2
theorem step_5m {w : World} {G : Nat -> Prop} {g : Nat} {S : List (List Wt)} {r : Rm} {p : List Addr} (h : Rn w G g S r) (h17 : E2 w p) (i : Nat) (x : Gr) (hx : r.gs[i]? = some x) (hl : r.ev.length <= 90000) (hk : x.w.k = 5) (hc : ZY r x.w = true) (hz : YF r.s x.w.o = true) : Calls Tryz.prog 31 #[P_ g, I_ (i : Nat)] w (RnP w G g S (Yd S r i) (.tuple #[])) := by
  have hst : Yd S r i = meetR r i x.w := by
    unfold Yd
    rw [hx]
    simp only
    rw [if_neg (by omega), if_neg (by omega), if_pos ⟨hk, hz⟩]
  rw [hst]
  clear hst
  have NG : Hid (¬ G w.heap.size) := Za (fun hG => absurd (h.fb _ hG) (by omega))
  have HX := Za hx
  obtain ⟨Fs, Fo, R, gs, vC, vB, vG, vE, ps, ts, h, hG⟩ := h
  obtain ⟨bG, cG, b, t, va, eG, _, _, _, _, _, hA, ⟨s1, s2, s3⟩, s4⟩ := h.see hx
  subst eG
  obtain ⟨aa, na, ca, rfl⟩ := hA.form
  have hi : i < r.gs.length := (G_ hx)
  have hn8 := h.n8
  obtain ⟨⟨c0, c1, c2, c3, c4⟩, c5, c6, c7, c8, c9⟩ := h.cells
  have hgl := h.fb g h.fg
  obtain ⟨rest, ⟨k, o, a, v0, v1, v2⟩⟩ := x
  simp only at s4
  have b1 := Zb s4 1 _ rfl
  have b2 := Zb s4 2 _ rfl
  have b3 := Zb s4 3 _ rfl
  have b4 := Zb s4 4 _ rfl
  have b5 := Zb s4 5 _ rfl
  have b6 := Zb s4 6 _ rfl
  have b7 := Zb s4 7 _ rfl
  obtain ⟨n, hn⟩ : ∃ n, n = r.gs.length := ⟨_, rfl⟩
  rw [← hn] at hi hn8 c3
  have HN := Za hn
  have hi1 : (i : Int) < (n : Int) := by omega
  have hi0 : (0 : Int) <= (i : Int) := by omega
  have hd0 : decide ((i : Int) < 0) = false := by simp
  have hd1 : decide ((n : Int) <= (i : Int)) = false := by simp; omega
  clear hn
  have B0 := Za (Zd w (.cells #[I_ k, I_ o, I_ a, I_ v0, I_ v1, .int .u64 v2, .slice aa na ca] 67))
  have V0 := Za (Wv.new w k o a v0 v1 v2 (.slice aa na ca))
  have HU := Za (h.bel B0.out)
  have HG := Za hG
  have H7 := Za (h17.below (Nat.le_refl _) B0.out)
  have HL := Za hl
  have AR := Za (hA.keep (fun k hk => B0.out.block k (h.rb k hk)) (fun _ h => h))
  have U0 := Za ((B0.out.cell (p := ⟨g, 0, none⟩) hgl).trans c0)
  have hsl := h.st.lt
  simp only at hk hc hz
  subst hk
  have hq' : ∃ ci q t y, o = (ci : Nat) /\ r.s.C[ci]? = some q /\ q.room = 0 /\ recvR r.gs o = some t /\ r.gs[t]? = some y := by
    have hc' : canS r ⟨5, o, a, (v0, v1, v2)⟩ = true := hc
    unfold canS at hc'
    unfold YF at hz
    cases hl' : lk r.s.C o with
    | none => simp [hl'] at hc'
    | some q =>
      rw [hl'] at hc' hz
      have hz' : q.room = 0 := by simpa using hz
      simp only [Bool.and_eq_true] at hc'
      rw [if_pos hz'] at hc'
      obtain ⟨ci, e, hci⟩ := ZD hl'
      obtain ⟨t, ht⟩ := Option.isSome_iff_exists.1 hc'.2
      obtain ⟨y, hy⟩ : ∃ y, r.gs[t]? = some y := ⟨_, List.getElem?_eq_getElem (by
        unfold recvR at ht
        exact (List.findIdx?_eq_some_iff_getElem.1 ht).1)⟩
      exact ⟨ci, q, t, y, e, hci, hz', ht, hy⟩
  obtain ⟨ci, q, t', y, rfl, hq, hr0, ht', hy'⟩ := hq'
  have HT := Za (And.intro ht' hy')
  clear ht' hy' hc hz
  clear h hG h17 hl hA hx c0 c1 c2 c4 c5 c6 c7 c8 c9
  go_enter Tryz.func31, Tryz.ntmps31
  go_upto_region 4 with fail
  generalize w.alloc _ = w1 at *
  clear b1 b2 b3 b4 b5 b6 b7 s1 c3
  obtain ⟨q0, q1, q2, q3, q4, q5, q6⟩ := V0.out.all
  have u0 := U0.out
  go_quiet (fail)
  have HU' := Za (HU.out.bel (w' := w1.drewN nq) (below_drewN (Below.refl _ _) nq))
  have B0' := Za (below_drewN B0.out nq)
  have V0' : Hid (Wv (w1.drewN nq) w.heap.size 5 (ci : Nat) a (v0, v1, v2) (.slice aa na ca)) := V0
  have H7' : Hid (E2 (w1.drewN nq) p) := Za (H7.out.below (Nat.le_refl _) (below_drewN (Below.refl _ _) nq))
  have U0' : Hid ((w1.drewN nq).cell? ⟨g, 0, none⟩ = some (P_ gs)) := U0
  have AR' := Za (AR.out.keep (w' := w1.drewN nq) (fun _ _ => rfl) (fun _ h => h))
  clear HU B0 V0 H7 U0 AR q0 q1 q2 q3 q4 q5 q6 u0
  have HU := HU'
  have B0 := B0'
  have V0 := V0'
  have H7 := H7'
  have U0 := U0'
  have AR := AR'
  clear HU' B0' V0' H7' U0' AR'
  generalize w1.drewN nq = w2 at *
  obtain ⟨q0, q1, q2, q3, q4, q5, q6⟩ := V0.out.all
  have u0 := U0.out
  have RM := Za (fun (m : Nat) => calls_flip (Room_in (w := w2.drewN m) (HU.out.st.bel (below_drewN (Below.refl _ _) m)) ci q hq))
  obtain ⟨qt, qr, ql⟩ := q
  simp only at hr0
  subst hr0
  clear hq
  go_upto_region 8 with fail
  go_quiet (first | (go_at_call 69; exact Calls.quiet_of_same (RM.out _)))
  have HU' := Za (HU.out.bel (w' := w2.drewN nq) (below_drewN (Below.refl _ _) nq))
  have B0' := Za (below_drewN B0.out nq)
  have V0' : Hid (Wv (w2.drewN nq) w.heap.size 5 (ci : Nat) a (v0, v1, v2) (.slice aa na ca)) := V0
  have H7' : Hid (E2 (w2.drewN nq) p) := Za (H7.out.below (Nat.le_refl _) (below_drewN (Below.refl _ _) nq))
  have U0' : Hid ((w2.drewN nq).cell? ⟨g, 0, none⟩ = some (P_ gs)) := U0
  have AR' := Za (AR.out.keep (w' := w2.drewN nq) (fun _ _ => rfl) (fun _ h => h))
  clear HU B0 V0 H7 U0 AR q0 q1 q2 q3 q4 q5 q6 u0
  have HU := HU'
  have B0 := B0'
  have V0 := V0'
  have H7 := H7'
  have U0 := U0'
  have AR := AR'
  clear HU' B0' V0' H7' U0' AR'
  generalize w2.drewN nq = w3 at *
  obtain ⟨q0, q1, q2, q3, q4, q5, q6⟩ := V0.out.all
  have u0 := U0.out
  have ME := Za (meet_any (r := r) (G := G) (S := S) ⟨_, _, _, _, _, _, _, _, _, _, HU.out, HG.out⟩ i t' _ y HX.out HL.out 5 (ci : Nat) a v0 v1 v2 aa na ca HT.out.1 HT.out.2)
  go_wp2_with fail
  refine ME.out.mono ?_
  rintro e w4 ⟨rfl, G3, rn3, c3⟩
  have Z := Za (And.intro rn3 ((Ch.of_bel B0.out).trans c3))
  clear rn3 c3 ME
  go_wp2_with fail
  go_end0
  exact RnP.mk rfl Z.out.1 Z.out.2
theorem step_12 {w : World} {G : Nat -> Prop} {g : Nat} {S : List (List Wt)} {r : Rm} {p : List Addr} (h : Rn w G g S r) (h17 : E2 w p) (i : Nat) (x : Gr) (hx : r.gs[i]? = some x) (hl : r.ev.length <= 90000) (hk : x.w.k = 12) : Calls Tryz.prog 31 #[P_ g, I_ (i : Nat)] w (RnP w G g S (Yd S r i) (.tuple #[])) := by
 have hst : Yd S r i = { Zz r i x.w.o with gs := (Zz r i x.w.o).gs.set i ⟨x.rest, zW⟩ } := by
  unfold Yd
  rw [hx]
  simp only
  rw [if_neg (by omega), if_neg (by omega), if_neg (by omega), if_pos hk, note_gs]
 rw [hst]
 clear hst
 have NG : Hid (¬ G w.heap.size) := Za (fun hG => absurd (h.fb _ hG) (by omega))
 have HX := Za hx
 obtain ⟨Fs, Fo, R, gs, vC, vB, vG, vE, ps, ts, h, hG⟩ := h
 obtain ⟨bG, cG, b, t, va, eG, _, _, _, _, _, hA, ⟨s1, s2, s3⟩, s4⟩ := h.see hx
 subst eG
 obtain ⟨aa, na, ca, rfl⟩ := hA.form
 have hi : i < r.gs.length := (G_ hx)
 have hn8 := h.n8
 obtain ⟨⟨c0, c1, c2, c3, c4⟩, c5, c6, c7, c8, c9⟩ := h.cells
 have hgl := h.fb g h.fg
 obtain ⟨rest, ⟨k, o, a, v0, v1, v2⟩⟩ := x
 simp only at s4
 have b1 := Zb s4 1 _ rfl
 have b2 := Zb s4 2 _ rfl
 have b3 := Zb s4 3 _ rfl
 have b4 := Zb s4 4 _ rfl
 have b5 := Zb s4 5 _ rfl
 have b6 := Zb s4 6 _ rfl
 have b7 := Zb s4 7 _ rfl
 obtain ⟨n, hn⟩ : ∃ n, n = r.gs.length := ⟨_, rfl⟩
 rw [← hn] at hi hn8 c3
 have HN := Za hn
 have hi1 : (i : Int) < (n : Int) := by omega
 have hi0 : (0 : Int) <= (i : Int) := by omega
 have hd0 : decide ((i : Int) < 0) = false := by simp
 have hd1 : decide ((n : Int) <= (i : Int)) = false := by simp; omega
 clear hn
 have B0 := Za (Zd w (.cells #[I_ k, I_ o, I_ a, I_ v0, I_ v1, .int .u64 v2, .slice aa na ca] 67))
 have V0 := Za (Wv.new w k o a v0 v1 v2 (.slice aa na ca))
 have HU := Za (h.bel B0.out)
 have HG := Za hG
 have H7 := Za (h17.below (Nat.le_refl _) B0.out)
 have HL := Za hl
 have AR := Za (hA.keep (fun k hk => B0.out.block k (h.rb k hk)) (fun _ h => h))
 have U0 := Za ((B0.out.cell (p := ⟨g, 0, none⟩) hgl).trans c0)
 have hsl := h.st.lt
 simp only at hk
 subst hk
 clear h hG h17 hl hA hx c0 c1 c2 c4 c5 c6 c7 c8 c9
 go_enter Tryz.func31, Tryz.ntmps31
 go_upto_region 4 with fail
 generalize w.alloc _ = w1 at *
 clear b1 b2 b3 b4 b5 b6 b7 s1 c3
 obtain ⟨q0, q1, q2, q3, q4, q5, q6⟩ := V0.out.all
 have u0 := U0.out
 go_quiet (fail)
 have HU' := Za (HU.out.bel (w' := w1.drewN nq) (below_drewN (Below.refl _ _) nq))
 have B0' := Za (below_drewN B0.out nq)
 have V0' : Hid (Wv (w1.drewN nq) w.heap.size 12 o a (v0, v1, v2) (.slice aa na ca)) := V0
 have H7' : Hid (E2 (w1.drewN nq) p) := Za (H7.out.below (Nat.le_refl _) (below_drewN (Below.refl _ _) nq))
 have U0' : Hid ((w1.drewN nq).cell? ⟨g, 0, none⟩ = some (P_ gs)) := U0
 have AR' := Za (AR.out.keep (w' := w1.drewN nq) (fun _ _ => rfl) (fun _ h => h))
 clear HU B0 V0 H7 U0 AR q0 q1 q2 q3 q4 q5 q6 u0
 have HU := HU'
 have B0 := B0'
 have V0 := V0'
 have H7 := H7'
 have U0 := U0'
 have AR := AR'
 clear HU' B0' V0' H7' U0' AR'
 generalize w1.drewN nq = w2 at *
 obtain ⟨q0, q1, q2, q3, q4, q5, q6⟩ := V0.out.all
 have u0 := U0.out
 go_upto_region 8 with fail
 go_quiet (fail)
 have HU' := Za (HU.out.bel (w' := w2.drewN nq) (below_drewN (Below.refl _ _) nq))
 have B0' := Za (below_drewN B0.out nq)
 have V0' : Hid (Wv (w2.drewN nq) w.heap.size 12 o a (v0, v1, v2) (.slice aa na ca)) := V0
 have H7' : Hid (E2 (w2.drewN nq) p) := Za (H7.out.below (Nat.le_refl _) (below_drewN (Below.refl _ _) nq))
 have U0' : Hid ((w2.drewN nq).cell? ⟨g, 0, none⟩ = some (P_ gs)) := U0
 have AR' := Za (AR.out.keep (w' := w2.drewN nq) (fun _ _ => rfl) (fun _ h => h))
 clear HU B0 V0 H7 U0 AR q0 q1 q2 q3 q4 q5 q6 u0
 have HU := HU'
 have B0 := B0'
 have V0 := V0'
 have H7 := H7'
 have U0 := U0'
 have AR := AR'
 clear HU' B0' V0' H7' U0' AR'
 generalize w2.drewN nq = w3 at *
 obtain ⟨q0, q1, q2, q3, q4, q5, q6⟩ := V0.out.all
 have u0 := U0.out
 have NO := Za (note_any (r := r) (G := G) (S := S) ⟨_, _, _, _, _, _, _, _, _, _, HU.out, HG.out⟩ i _ HX.out o (by have := HL.out; omega))
 go_wp2_with fail
 refine NO.out.mono ?_
 rintro e w4 ⟨rfl, G4, rn4, c4⟩
 have C4 := Za ((Ch.of_bel B0.out).trans c4)
 have HX4 : (Zz r i o).gs[i]? = _ := (congrArg (fun l => l[i]?) (note_gs r i o)).trans HX.out
 clear c4 NO HU HG H7 U0 AR q0 q1 q2 q3 q4 q5 q6 u0 V0 B0
 generalize Zz r i o = r4 at *
 obtain ⟨Fs4, Fo4, R4, gs4, vC4, vB4, vG4, vE4, ps4, ts4, h4, hG4⟩ := rn4
 obtain ⟨bG4, cG4, b4, t4, va4, eG4, e1, e2, e3, e4, gor, hA4, ⟨s1, s2, s3⟩, s4⟩ := h4.see HX4
 subst eG4
 have c3 := h4.cells.1.2.2.2.1
 have hi4 : i < r4.gs.length := (G_ HX4)
 obtain ⟨n4, hn4⟩ : ∃ n4, n4 = r4.gs.length := ⟨_, rfl⟩
 have hn48 := h4.n8
 rw [← hn4] at c3 hi4 hn48
 have hi14 : (i : Int) < (n4 : Int) := by omega
 have hi04 : (0 : Int) <= (i : Int) := by omega
 have hgl4 := h4.fb g h4.fg
 obtain ⟨h5, c5⟩ := h4.setW HX4 e1 0 0 0 0 0 0 (.slice none 0 0) YN.nilS
 have FI := Za (Yk hG4 h5 c5)
 have p1 := Zb s4 1 _ rfl
 have p2 := Zb s4 2 _ rfl
 have p3 := Zb s4 3 _ rfl
 have p4 := Zb s4 4 _ rfl
 have p5 := Zb s4 5 _ rfl
 have p6 := Zb s4 6 _ rfl
 have p7 := Zb s4 7 _ rfl
 have f1 := Zc s4 1
 have f2 := Zc s4 2
 have f3 := Zc s4 3
 have f4 := Zc s4 4
 have f5 := Zc s4 5
 have f6 := Zc s4 6
 have f7 := Zc s4 7
 clear h4 h5 c5 s4 gor hA4 e1 e2 e3 e4 HX4 hn4 hG4
 go_wp2_with fail
 go_end0
 exact RnP.mk rfl FI.out.1 (C4.out.trans FI.out.2)
end Go.Proofs.YtfojninaginnoaaGreatDoor.Ck
