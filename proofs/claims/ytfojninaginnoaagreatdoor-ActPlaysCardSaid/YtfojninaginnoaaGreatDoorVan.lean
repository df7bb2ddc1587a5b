/- Texts of this proof, packed: contracts of the program's functions, and the plain model that they are held against. -/
import Derived.Test.YtfojninaginnoaaGreatDoorVam
set_option maxRecDepth 20000
set_option maxHeartbeats 4000000
namespace Go.Proofs.YtfojninaginnoaaGreatDoor.Ck
open Go.RowKit
theorem share_5 {w : World} {F : Nat -> Prop} {g : Nat} {s : St} {p : List Addr} (h : Stt w F g s) (h17 : E2 w p) (a v0 v1 v2 : Int) (aa : Option Addr) (na ca : Nat) (i : Nat) (q : Qu) (hx : s.C[i]? = some q) (hB : isB v0 v1 v2 q.t = true) (hr : (q.l.length : Int) < q.room) : Calls Tryz.prog 72 #[P_ g, .agg #[I_ 5, I_ (i : Nat), I_ a, I_ v0, I_ v1, .int .u64 v2, .slice aa na ca]] w (Sp w F g ({ s with C := s.C.set i { q with l := q.l ++ [(v0, v1, v2)] } }) (.agg #[I_ 0, I_ 0, .int .u64 0])) := by
  have B1 : Hid (Below w.heap.size w (((w.alloc (.cells #[I_ 5, I_ (i : Nat), I_ a, I_ v0, I_ v1, .int .u64 v2, .slice aa na ca] 67)).alloc (.cells #[I_ 0, I_ 0, .int .u64 0] 64)).alloc (.cells #[I_ 0, I_ 0, .int .u64 0] 64))) := Za (Zv (Zv (Zd w _) _) _)
  have hs1 : (w.alloc (.cells #[I_ 5, I_ (i : Nat), I_ a, I_ v0, I_ v1, .int .u64 v2, .slice aa na ca] 67)).heap.size = w.heap.size + 1 := by simp
  have hs2 : ((w.alloc (.cells #[I_ 5, I_ (i : Nat), I_ a, I_ v0, I_ v1, .int .u64 v2, .slice aa na ca] 67)).alloc (.cells #[I_ 0, I_ 0, .int .u64 0] 64)).heap.size = w.heap.size + 1 + 1 := by simp
  have Y1 : Hid (Val (((w.alloc (.cells #[I_ 5, I_ (i : Nat), I_ a, I_ v0, I_ v1, .int .u64 v2, .slice aa na ca] 67)).alloc (.cells #[I_ 0, I_ 0, .int .u64 0] 64)).alloc (.cells #[I_ 0, I_ 0, .int .u64 0] 64)) (w.heap.size + 1) 0 0 0) := Za (by
    have e1 := Val.new (w.alloc (.cells #[I_ 5, I_ (i : Nat), I_ a, I_ v0, I_ v1, .int .u64 v2, .slice aa na ca] 67)) 0 0 0
    rw [hs1] at e1
    exact e1.al (Zd _ _))
  have Y2 : Hid (Val (((w.alloc (.cells #[I_ 5, I_ (i : Nat), I_ a, I_ v0, I_ v1, .int .u64 v2, .slice aa na ca] 67)).alloc (.cells #[I_ 0, I_ 0, .int .u64 0] 64)).alloc (.cells #[I_ 0, I_ 0, .int .u64 0] 64)) (w.heap.size + 1 + 1) 0 0 0) := Za (by
    have e1 := Val.new ((w.alloc (.cells #[I_ 5, I_ (i : Nat), I_ a, I_ v0, I_ v1, .int .u64 v2, .slice aa na ca] 67)).alloc (.cells #[I_ 0, I_ 0, .int .u64 0] 64)) 0 0 0
    rw [hs2] at e1
    exact e1)
  have Y0 : Hid (Wv (((w.alloc (.cells #[I_ 5, I_ (i : Nat), I_ a, I_ v0, I_ v1, .int .u64 v2, .slice aa na ca] 67)).alloc (.cells #[I_ 0, I_ 0, .int .u64 0] 64)).alloc (.cells #[I_ 0, I_ 0, .int .u64 0] 64)) w.heap.size 5 (i : Nat) a (v0, v1, v2) (.slice aa na ca)) := Za (((Wv.new w 5 (i : Nat) a v0 v1 v2 (.slice aa na ca)).al (Zd _ _)).al (Zd _ _))
  have FL : Hid (∀ k, F k -> k < w.heap.size) := Za h.fb
  have H1 := Za (h.bel B1.out)
  have H7 := Za (h17.below (Nat.le_refl _) B1.out)
  clear h h17 hs1 hs2
  go_enter Tryz.func72, Tryz.ntmps72
  go_upto_region 2 with fail
  generalize ((w.alloc _).alloc _).alloc _ = W1 at *
  obtain ⟨q0, q1, q2, q3, q4, q5, q6⟩ := Y0.out.all
  have hl0 := Y0.out.lt
  obtain ⟨⟨a0, a1, a2⟩, e0, e1, e2⟩ := Y1.out.all
  obtain ⟨⟨b0, b1, b2⟩, d0, d1, d2⟩ := Y2.out.all
  go_wp2_with fail
  refine (Send_room H1.out H7.out i q hx v0 v1 v2 hB hr).mono ?_
  rintro e w2 ⟨rfl, F', st, ch⟩
  have V1 := (ch.blk (w.heap.size + 1) Y1.out.lt (fun e => by have := FL.out _ e; omega)).trans Y1.out
  have V2 := (ch.blk (w.heap.size + 1 + 1) Y2.out.lt (fun e => by have := FL.out _ e; omega)).trans Y2.out
  obtain ⟨⟨f0, f1, f2⟩, g0, g1, g2⟩ := (show Val w2 (w.heap.size + 1) 0 0 0 from V1).all
  obtain ⟨⟨k0, k1, k2⟩, j0, j1, j2⟩ := (show Val w2 (w.heap.size + 1 + 1) 0 0 0 from V2).all
  have ST := Za (And.intro st ch)
  have NF : Hid (¬ F' (w.heap.size + 1)) := Za (fun hF => by
    rcases ch.grow _ hF with h1 | h1
    · exact absurd (FL.out _ h1) (by omega)
    · exact absurd Y1.out.lt (by omega))
  clear st ch q0 q1 q2 q3 q4 q5 q6 a0 a1 a2 e0 e1 e2 b0 b1 b2 d0 d1 d2 H1 H7
  go_wp2_with fail
  exact ret_v (w.heap.size + 1) rfl rfl (Val.set V1 0 0 0) rfl (Sp.mk rfl (ST.out.1.keep (fun k hk => ne3 (fun e => NF.out (e ▸ hk))) (by rw [Zi, Zi, Zi]; exact Nat.le_refl _)) (((Ch.of_bel B1.out).trans ST.out.2).below (Zt (Below.refl _ _) (by omega) _ _ _)))
theorem share_6 {w : World} {F : Nat -> Prop} {g : Nat} {s : St} {p : List Addr} (h : Stt w F g s) (h17 : E2 w p) (a v0 v1 v2 : Int) (aa : Option Addr) (na ca : Nat) (i : Nat) (q : Qu) (hx : s.C[i]? = some q) (y : V3) (l : List V3) (hl : q.l = y :: l) : Calls Tryz.prog 72 #[P_ g, .agg #[I_ 6, I_ (i : Nat), I_ a, I_ v0, I_ v1, .int .u64 v2, .slice aa na ca]] w (Sp w F g ({ s with C := s.C.set i { q with l := l } }) (.agg #[I_ y.1, I_ y.2.1, .int .u64 y.2.2])) := by
  have B1 : Hid (Below w.heap.size w (((w.alloc (.cells #[I_ 6, I_ (i : Nat), I_ a, I_ v0, I_ v1, .int .u64 v2, .slice aa na ca] 67)).alloc (.cells #[I_ 0, I_ 0, .int .u64 0] 64)).alloc (.cells #[I_ 0, I_ 0, .int .u64 0] 64))) := Za (Zv (Zv (Zd w _) _) _)
  have hs1 : (w.alloc (.cells #[I_ 6, I_ (i : Nat), I_ a, I_ v0, I_ v1, .int .u64 v2, .slice aa na ca] 67)).heap.size = w.heap.size + 1 := by simp
  have hs2 : ((w.alloc (.cells #[I_ 6, I_ (i : Nat), I_ a, I_ v0, I_ v1, .int .u64 v2, .slice aa na ca] 67)).alloc (.cells #[I_ 0, I_ 0, .int .u64 0] 64)).heap.size = w.heap.size + 1 + 1 := by simp
  have Y1 : Hid (Val (((w.alloc (.cells #[I_ 6, I_ (i : Nat), I_ a, I_ v0, I_ v1, .int .u64 v2, .slice aa na ca] 67)).alloc (.cells #[I_ 0, I_ 0, .int .u64 0] 64)).alloc (.cells #[I_ 0, I_ 0, .int .u64 0] 64)) (w.heap.size + 1) 0 0 0) := Za (by
    have e1 := Val.new (w.alloc (.cells #[I_ 6, I_ (i : Nat), I_ a, I_ v0, I_ v1, .int .u64 v2, .slice aa na ca] 67)) 0 0 0
    rw [hs1] at e1
    exact e1.al (Zd _ _))
  have Y2 : Hid (Val (((w.alloc (.cells #[I_ 6, I_ (i : Nat), I_ a, I_ v0, I_ v1, .int .u64 v2, .slice aa na ca] 67)).alloc (.cells #[I_ 0, I_ 0, .int .u64 0] 64)).alloc (.cells #[I_ 0, I_ 0, .int .u64 0] 64)) (w.heap.size + 1 + 1) 0 0 0) := Za (by
    have e1 := Val.new ((w.alloc (.cells #[I_ 6, I_ (i : Nat), I_ a, I_ v0, I_ v1, .int .u64 v2, .slice aa na ca] 67)).alloc (.cells #[I_ 0, I_ 0, .int .u64 0] 64)) 0 0 0
    rw [hs2] at e1
    exact e1)
  have Y0 : Hid (Wv (((w.alloc (.cells #[I_ 6, I_ (i : Nat), I_ a, I_ v0, I_ v1, .int .u64 v2, .slice aa na ca] 67)).alloc (.cells #[I_ 0, I_ 0, .int .u64 0] 64)).alloc (.cells #[I_ 0, I_ 0, .int .u64 0] 64)) w.heap.size 6 (i : Nat) a (v0, v1, v2) (.slice aa na ca)) := Za (((Wv.new w 6 (i : Nat) a v0 v1 v2 (.slice aa na ca)).al (Zd _ _)).al (Zd _ _))
  have FL : Hid (∀ k, F k -> k < w.heap.size) := Za h.fb
  have H1 := Za (h.bel B1.out)
  have H7 := Za (h17.below (Nat.le_refl _) B1.out)
  obtain ⟨y0, y1, y2⟩ := y
  clear h h17 hs1 hs2
  go_enter Tryz.func72, Tryz.ntmps72
  go_upto_region 2 with fail
  generalize ((w.alloc _).alloc _).alloc _ = W1 at *
  obtain ⟨q0, q1, q2, q3, q4, q5, q6⟩ := Y0.out.all
  have hl0 := Y0.out.lt
  obtain ⟨⟨a0, a1, a2⟩, e0, e1, e2⟩ := Y1.out.all
  obtain ⟨⟨b0, b1, b2⟩, d0, d1, d2⟩ := Y2.out.all
  go_wp2_with fail
  refine (Recv_some H1.out i q hx (y0, y1, y2) l hl).mono ?_
  rintro e w2 ⟨rfl, F', st, ch⟩
  have V1 := (ch.blk (w.heap.size + 1) Y1.out.lt (fun e => by have := FL.out _ e; omega)).trans Y1.out
  have V2 := (ch.blk (w.heap.size + 1 + 1) Y2.out.lt (fun e => by have := FL.out _ e; omega)).trans Y2.out
  obtain ⟨⟨f0, f1, f2⟩, g0, g1, g2⟩ := (show Val w2 (w.heap.size + 1) 0 0 0 from V1).all
  obtain ⟨⟨k0, k1, k2⟩, j0, j1, j2⟩ := (show Val w2 (w.heap.size + 1 + 1) 0 0 0 from V2).all
  have ST := Za (And.intro st ch)
  have NF : Hid (∀ k, F' k -> k ≠ w.heap.size + 1 /\ k ≠ w.heap.size + 1 + 1) := Za (fun k hF => by
    have z1 := Y1.out.lt
    have z2 := Y2.out.lt
    rcases ch.grow _ hF with h1 | h1
    · have := FL.out _ h1
      omega
    · omega)
  clear st ch q0 q1 q2 q3 q4 q5 q6 a0 a1 a2 e0 e1 e2 b0 b1 b2 d0 d1 d2 H1 H7
  go_wp2_with fail
  have U1 : Val (((w2.setCell ⟨w.heap.size + 1 + 1, 0, none⟩ (I_ (y0))).setCell ⟨w.heap.size + 1 + 1, 1, none⟩ (I_ (y1))).setCell ⟨w.heap.size + 1 + 1, 2, none⟩ (.int .u64 (y2))) (w.heap.size + 1) 0 0 0 := (ne3 (by omega)).trans V1
  have BB : Below w.heap.size w2 ((((((w2.setCell ⟨w.heap.size + 1 + 1, 0, none⟩ (I_ (y0))).setCell ⟨w.heap.size + 1 + 1, 1, none⟩ (I_ (y1))).setCell ⟨w.heap.size + 1 + 1, 2, none⟩ (.int .u64 (y2))).setCell ⟨w.heap.size + 1, 0, none⟩ (I_ (y0))).setCell ⟨w.heap.size + 1, 1, none⟩ (I_ (y1))).setCell ⟨w.heap.size + 1, 2, none⟩ (.int .u64 (y2))) := Zt (Zt (Below.refl _ _) (by omega) _ _ _) (by omega) _ _ _
  exact ret_v (w.heap.size + 1) rfl rfl (U1.set _ _ _) rfl (Sp.mk rfl (ST.out.1.keep (fun k hk => (ne3 (NF.out k hk).1).trans (ne3 (NF.out k hk).2)) BB.size) (((Ch.of_bel B1.out).trans ST.out.2).below BB))
theorem share_7 {w : World} {F : Nat -> Prop} {g : Nat} {s : St} {p : List Addr} (h : Stt w F g s) (h17 : E2 w p) (a v0 v1 v2 : Int) (aa : Option Addr) (na ca : Nat) (i : Nat) (x : Int) (hx : s.A[i]? = some x) : Calls Tryz.prog 72 #[P_ g, .agg #[I_ 7, I_ (i : Nat), I_ a, I_ v0, I_ v1, .int .u64 v2, .slice aa na ca]] w (Sp w F g (s) (.agg #[I_ 1, I_ x, .int .u64 0])) := by
  have B1 : Hid (Below w.heap.size w (((w.alloc (.cells #[I_ 7, I_ (i : Nat), I_ a, I_ v0, I_ v1, .int .u64 v2, .slice aa na ca] 67)).alloc (.cells #[I_ 0, I_ 0, .int .u64 0] 64)).alloc (.cells #[I_ 0, I_ 0, .int .u64 0] 64))) := Za (Zv (Zv (Zd w _) _) _)
  have hs1 : (w.alloc (.cells #[I_ 7, I_ (i : Nat), I_ a, I_ v0, I_ v1, .int .u64 v2, .slice aa na ca] 67)).heap.size = w.heap.size + 1 := by simp
  have hs2 : ((w.alloc (.cells #[I_ 7, I_ (i : Nat), I_ a, I_ v0, I_ v1, .int .u64 v2, .slice aa na ca] 67)).alloc (.cells #[I_ 0, I_ 0, .int .u64 0] 64)).heap.size = w.heap.size + 1 + 1 := by simp
  have Y1 : Hid (Val (((w.alloc (.cells #[I_ 7, I_ (i : Nat), I_ a, I_ v0, I_ v1, .int .u64 v2, .slice aa na ca] 67)).alloc (.cells #[I_ 0, I_ 0, .int .u64 0] 64)).alloc (.cells #[I_ 0, I_ 0, .int .u64 0] 64)) (w.heap.size + 1) 0 0 0) := Za (by
    have e1 := Val.new (w.alloc (.cells #[I_ 7, I_ (i : Nat), I_ a, I_ v0, I_ v1, .int .u64 v2, .slice aa na ca] 67)) 0 0 0
    rw [hs1] at e1
    exact e1.al (Zd _ _))
  have Y2 : Hid (Val (((w.alloc (.cells #[I_ 7, I_ (i : Nat), I_ a, I_ v0, I_ v1, .int .u64 v2, .slice aa na ca] 67)).alloc (.cells #[I_ 0, I_ 0, .int .u64 0] 64)).alloc (.cells #[I_ 0, I_ 0, .int .u64 0] 64)) (w.heap.size + 1 + 1) 0 0 0) := Za (by
    have e1 := Val.new ((w.alloc (.cells #[I_ 7, I_ (i : Nat), I_ a, I_ v0, I_ v1, .int .u64 v2, .slice aa na ca] 67)).alloc (.cells #[I_ 0, I_ 0, .int .u64 0] 64)) 0 0 0
    rw [hs2] at e1
    exact e1)
  have Y0 : Hid (Wv (((w.alloc (.cells #[I_ 7, I_ (i : Nat), I_ a, I_ v0, I_ v1, .int .u64 v2, .slice aa na ca] 67)).alloc (.cells #[I_ 0, I_ 0, .int .u64 0] 64)).alloc (.cells #[I_ 0, I_ 0, .int .u64 0] 64)) w.heap.size 7 (i : Nat) a (v0, v1, v2) (.slice aa na ca)) := Za (((Wv.new w 7 (i : Nat) a v0 v1 v2 (.slice aa na ca)).al (Zd _ _)).al (Zd _ _))
  have FL : Hid (∀ k, F k -> k < w.heap.size) := Za h.fb
  have H1 := Za (h.bel B1.out)
  have H7 := Za (h17.below (Nat.le_refl _) B1.out)
  clear h h17 hs1 hs2
  go_enter Tryz.func72, Tryz.ntmps72
  go_upto_region 2 with fail
  generalize ((w.alloc _).alloc _).alloc _ = W1 at *
  obtain ⟨q0, q1, q2, q3, q4, q5, q6⟩ := Y0.out.all
  have hl0 := Y0.out.lt
  obtain ⟨⟨a0, a1, a2⟩, e0, e1, e2⟩ := Y1.out.all
  obtain ⟨⟨b0, b1, b2⟩, d0, d1, d2⟩ := Y2.out.all
  go_wp2_with fail
  refine (Get_in H1.out i x hx).mono ?_
  rintro e w1 ⟨rfl, rfl⟩
  go_wp2_with fail
  refine (int_any x _).mono ?_
  rintro e w2 ⟨rfl, hb⟩
  have V1 := Y1.out.al hb
  have V2 := Y2.out.al hb
  obtain ⟨⟨f0, f1, f2⟩, g0, g1, g2⟩ := V1.all
  obtain ⟨⟨k0, k1, k2⟩, j0, j1, j2⟩ := V2.all
  have HB := Za hb
  clear hb q0 q1 q2 q3 q4 q5 q6 a0 a1 a2 e0 e1 e2 b0 b1 b2 d0 d1 d2 H7
  go_wp2_with fail
  have U1 : Val (((w2.setCell ⟨w.heap.size + 1 + 1, 0, none⟩ (I_ (1))).setCell ⟨w.heap.size + 1 + 1, 1, none⟩ (I_ (x))).setCell ⟨w.heap.size + 1 + 1, 2, none⟩ (.int .u64 (0))) (w.heap.size + 1) 0 0 0 := (ne3 (by omega)).trans V1
  have BB : Below w.heap.size w2 ((((((w2.setCell ⟨w.heap.size + 1 + 1, 0, none⟩ (I_ (1))).setCell ⟨w.heap.size + 1 + 1, 1, none⟩ (I_ (x))).setCell ⟨w.heap.size + 1 + 1, 2, none⟩ (.int .u64 (0))).setCell ⟨w.heap.size + 1, 0, none⟩ (I_ (1))).setCell ⟨w.heap.size + 1, 1, none⟩ (I_ (x))).setCell ⟨w.heap.size + 1, 2, none⟩ (.int .u64 (0))) := Zt (Zt (Below.refl _ _) (by omega) _ _ _) (by omega) _ _ _
  exact ret_v (w.heap.size + 1) rfl rfl (U1.set _ _ _) rfl (Sp.mk rfl (((H1.out.bel HB.out).keep (fun k hk => BB.block k (FL.out k hk)) BB.size)) (((Ch.of_bel B1.out).trans (Ch.of_bel HB.out)).below BB))
theorem share_8 {w : World} {F : Nat -> Prop} {g : Nat} {s : St} {p : List Addr} (h : Stt w F g s) (h17 : E2 w p) (a v0 v1 v2 : Int) (aa : Option Addr) (na ca : Nat) (i : Nat) (x : Int) (hx : s.A[i]? = some x) : Calls Tryz.prog 72 #[P_ g, .agg #[I_ 8, I_ (i : Nat), I_ a, I_ v0, I_ v1, .int .u64 v2, .slice aa na ca]] w (Sp w F g ({ s with A := s.A.set i v1 }) (.agg #[I_ 0, I_ 0, .int .u64 0])) := by
  have B1 : Hid (Below w.heap.size w (((w.alloc (.cells #[I_ 8, I_ (i : Nat), I_ a, I_ v0, I_ v1, .int .u64 v2, .slice aa na ca] 67)).alloc (.cells #[I_ 0, I_ 0, .int .u64 0] 64)).alloc (.cells #[I_ 0, I_ 0, .int .u64 0] 64))) := Za (Zv (Zv (Zd w _) _) _)
  have hs1 : (w.alloc (.cells #[I_ 8, I_ (i : Nat), I_ a, I_ v0, I_ v1, .int .u64 v2, .slice aa na ca] 67)).heap.size = w.heap.size + 1 := by simp
  have hs2 : ((w.alloc (.cells #[I_ 8, I_ (i : Nat), I_ a, I_ v0, I_ v1, .int .u64 v2, .slice aa na ca] 67)).alloc (.cells #[I_ 0, I_ 0, .int .u64 0] 64)).heap.size = w.heap.size + 1 + 1 := by simp
  have Y1 : Hid (Val (((w.alloc (.cells #[I_ 8, I_ (i : Nat), I_ a, I_ v0, I_ v1, .int .u64 v2, .slice aa na ca] 67)).alloc (.cells #[I_ 0, I_ 0, .int .u64 0] 64)).alloc (.cells #[I_ 0, I_ 0, .int .u64 0] 64)) (w.heap.size + 1) 0 0 0) := Za (by
    have e1 := Val.new (w.alloc (.cells #[I_ 8, I_ (i : Nat), I_ a, I_ v0, I_ v1, .int .u64 v2, .slice aa na ca] 67)) 0 0 0
    rw [hs1] at e1
    exact e1.al (Zd _ _))
  have Y2 : Hid (Val (((w.alloc (.cells #[I_ 8, I_ (i : Nat), I_ a, I_ v0, I_ v1, .int .u64 v2, .slice aa na ca] 67)).alloc (.cells #[I_ 0, I_ 0, .int .u64 0] 64)).alloc (.cells #[I_ 0, I_ 0, .int .u64 0] 64)) (w.heap.size + 1 + 1) 0 0 0) := Za (by
    have e1 := Val.new ((w.alloc (.cells #[I_ 8, I_ (i : Nat), I_ a, I_ v0, I_ v1, .int .u64 v2, .slice aa na ca] 67)).alloc (.cells #[I_ 0, I_ 0, .int .u64 0] 64)) 0 0 0
    rw [hs2] at e1
    exact e1)
  have Y0 : Hid (Wv (((w.alloc (.cells #[I_ 8, I_ (i : Nat), I_ a, I_ v0, I_ v1, .int .u64 v2, .slice aa na ca] 67)).alloc (.cells #[I_ 0, I_ 0, .int .u64 0] 64)).alloc (.cells #[I_ 0, I_ 0, .int .u64 0] 64)) w.heap.size 8 (i : Nat) a (v0, v1, v2) (.slice aa na ca)) := Za (((Wv.new w 8 (i : Nat) a v0 v1 v2 (.slice aa na ca)).al (Zd _ _)).al (Zd _ _))
  have FL : Hid (∀ k, F k -> k < w.heap.size) := Za h.fb
  have H1 := Za (h.bel B1.out)
  have H7 := Za (h17.below (Nat.le_refl _) B1.out)
  clear h h17 hs1 hs2
  go_enter Tryz.func72, Tryz.ntmps72
  go_upto_region 2 with fail
  generalize ((w.alloc _).alloc _).alloc _ = W1 at *
  obtain ⟨q0, q1, q2, q3, q4, q5, q6⟩ := Y0.out.all
  have hl0 := Y0.out.lt
  obtain ⟨⟨a0, a1, a2⟩, e0, e1, e2⟩ := Y1.out.all
  obtain ⟨⟨b0, b1, b2⟩, d0, d1, d2⟩ := Y2.out.all
  go_wp2_with fail
  refine (Put_in H1.out i x v1 hx).mono ?_
  rintro e w2 ⟨rfl, F', st, ch⟩
  have V1 := (ch.blk (w.heap.size + 1) Y1.out.lt (fun e => by have := FL.out _ e; omega)).trans Y1.out
  have V2 := (ch.blk (w.heap.size + 1 + 1) Y2.out.lt (fun e => by have := FL.out _ e; omega)).trans Y2.out
  obtain ⟨⟨f0, f1, f2⟩, g0, g1, g2⟩ := (show Val w2 (w.heap.size + 1) 0 0 0 from V1).all
  obtain ⟨⟨k0, k1, k2⟩, j0, j1, j2⟩ := (show Val w2 (w.heap.size + 1 + 1) 0 0 0 from V2).all
  have ST := Za (And.intro st ch)
  have NF : Hid (¬ F' (w.heap.size + 1)) := Za (fun hF => by
    rcases ch.grow _ hF with h1 | h1
    · exact absurd (FL.out _ h1) (by omega)
    · exact absurd Y1.out.lt (by omega))
  clear st ch q0 q1 q2 q3 q4 q5 q6 a0 a1 a2 e0 e1 e2 b0 b1 b2 d0 d1 d2 H1 H7
  go_wp2_with fail
  exact ret_v (w.heap.size + 1) rfl rfl (Val.set V1 0 0 0) rfl (Sp.mk rfl (ST.out.1.keep (fun k hk => ne3 (fun e => NF.out (e ▸ hk))) (by rw [Zi, Zi, Zi]; exact Nat.le_refl _)) (((Ch.of_bel B1.out).trans ST.out.2).below (Zt (Below.refl _ _) (by omega) _ _ _)))
theorem share_9 {w : World} {F : Nat -> Prop} {g : Nat} {s : St} {p : List Addr} (h : Stt w F g s) (h17 : E2 w p) (a v0 v1 v2 : Int) (aa : Option Addr) (na ca : Nat) (i : Nat) (x : Int) (hx : s.A[i]? = some x) : Calls Tryz.prog 72 #[P_ g, .agg #[I_ 9, I_ (i : Nat), I_ a, I_ v0, I_ v1, .int .u64 v2, .slice aa na ca]] w (Sp w F g ({ s with A := s.A.set i (wrap64 (x + v1)) }) (.agg #[I_ 0, I_ 0, .int .u64 0])) := by
  have B1 : Hid (Below w.heap.size w (((w.alloc (.cells #[I_ 9, I_ (i : Nat), I_ a, I_ v0, I_ v1, .int .u64 v2, .slice aa na ca] 67)).alloc (.cells #[I_ 0, I_ 0, .int .u64 0] 64)).alloc (.cells #[I_ 0, I_ 0, .int .u64 0] 64))) := Za (Zv (Zv (Zd w _) _) _)
  have hs1 : (w.alloc (.cells #[I_ 9, I_ (i : Nat), I_ a, I_ v0, I_ v1, .int .u64 v2, .slice aa na ca] 67)).heap.size = w.heap.size + 1 := by simp
  have hs2 : ((w.alloc (.cells #[I_ 9, I_ (i : Nat), I_ a, I_ v0, I_ v1, .int .u64 v2, .slice aa na ca] 67)).alloc (.cells #[I_ 0, I_ 0, .int .u64 0] 64)).heap.size = w.heap.size + 1 + 1 := by simp
  have Y1 : Hid (Val (((w.alloc (.cells #[I_ 9, I_ (i : Nat), I_ a, I_ v0, I_ v1, .int .u64 v2, .slice aa na ca] 67)).alloc (.cells #[I_ 0, I_ 0, .int .u64 0] 64)).alloc (.cells #[I_ 0, I_ 0, .int .u64 0] 64)) (w.heap.size + 1) 0 0 0) := Za (by
    have e1 := Val.new (w.alloc (.cells #[I_ 9, I_ (i : Nat), I_ a, I_ v0, I_ v1, .int .u64 v2, .slice aa na ca] 67)) 0 0 0
    rw [hs1] at e1
    exact e1.al (Zd _ _))
  have Y2 : Hid (Val (((w.alloc (.cells #[I_ 9, I_ (i : Nat), I_ a, I_ v0, I_ v1, .int .u64 v2, .slice aa na ca] 67)).alloc (.cells #[I_ 0, I_ 0, .int .u64 0] 64)).alloc (.cells #[I_ 0, I_ 0, .int .u64 0] 64)) (w.heap.size + 1 + 1) 0 0 0) := Za (by
    have e1 := Val.new ((w.alloc (.cells #[I_ 9, I_ (i : Nat), I_ a, I_ v0, I_ v1, .int .u64 v2, .slice aa na ca] 67)).alloc (.cells #[I_ 0, I_ 0, .int .u64 0] 64)) 0 0 0
    rw [hs2] at e1
    exact e1)
  have Y0 : Hid (Wv (((w.alloc (.cells #[I_ 9, I_ (i : Nat), I_ a, I_ v0, I_ v1, .int .u64 v2, .slice aa na ca] 67)).alloc (.cells #[I_ 0, I_ 0, .int .u64 0] 64)).alloc (.cells #[I_ 0, I_ 0, .int .u64 0] 64)) w.heap.size 9 (i : Nat) a (v0, v1, v2) (.slice aa na ca)) := Za (((Wv.new w 9 (i : Nat) a v0 v1 v2 (.slice aa na ca)).al (Zd _ _)).al (Zd _ _))
  have FL : Hid (∀ k, F k -> k < w.heap.size) := Za h.fb
  have H1 := Za (h.bel B1.out)
  have H7 := Za (h17.below (Nat.le_refl _) B1.out)
  clear h h17 hs1 hs2
  go_enter Tryz.func72, Tryz.ntmps72
  go_upto_region 2 with fail
  generalize ((w.alloc _).alloc _).alloc _ = W1 at *
  obtain ⟨q0, q1, q2, q3, q4, q5, q6⟩ := Y0.out.all
  have hl0 := Y0.out.lt
  obtain ⟨⟨a0, a1, a2⟩, e0, e1, e2⟩ := Y1.out.all
  obtain ⟨⟨b0, b1, b2⟩, d0, d1, d2⟩ := Y2.out.all
  go_wp2_with fail
  refine (Add_in H1.out i x v1 hx).mono ?_
  rintro e w2 ⟨rfl, F', st, ch⟩
  have V1 := (ch.blk (w.heap.size + 1) Y1.out.lt (fun e => by have := FL.out _ e; omega)).trans Y1.out
  have V2 := (ch.blk (w.heap.size + 1 + 1) Y2.out.lt (fun e => by have := FL.out _ e; omega)).trans Y2.out
  obtain ⟨⟨f0, f1, f2⟩, g0, g1, g2⟩ := (show Val w2 (w.heap.size + 1) 0 0 0 from V1).all
  obtain ⟨⟨k0, k1, k2⟩, j0, j1, j2⟩ := (show Val w2 (w.heap.size + 1 + 1) 0 0 0 from V2).all
  have ST := Za (And.intro st ch)
  have NF : Hid (¬ F' (w.heap.size + 1)) := Za (fun hF => by
    rcases ch.grow _ hF with h1 | h1
    · exact absurd (FL.out _ h1) (by omega)
    · exact absurd Y1.out.lt (by omega))
  clear st ch q0 q1 q2 q3 q4 q5 q6 a0 a1 a2 e0 e1 e2 b0 b1 b2 d0 d1 d2 H1 H7
  go_wp2_with fail
  exact ret_v (w.heap.size + 1) rfl rfl (Val.set V1 0 0 0) rfl (Sp.mk rfl (ST.out.1.keep (fun k hk => ne3 (fun e => NF.out (e ▸ hk))) (by rw [Zi, Zi, Zi]; exact Nat.le_refl _)) (((Ch.of_bel B1.out).trans ST.out.2).below (Zt (Below.refl _ _) (by omega) _ _ _)))
theorem share_11 {w : World} {F : Nat -> Prop} {g : Nat} {s : St} {p : List Addr} (h : Stt w F g s) (h17 : E2 w p) (a v0 v1 v2 : Int) (aa : Option Addr) (na ca : Nat) (o : Int) : Calls Tryz.prog 72 #[P_ g, .agg #[I_ 11, I_ o, I_ a, I_ v0, I_ v1, .int .u64 v2, .slice aa na ca]] w (Sp w F g (s) (.agg #[I_ 0, I_ 0, .int .u64 0])) := by
  have B1 : Hid (Below w.heap.size w (((w.alloc (.cells #[I_ 11, I_ o, I_ a, I_ v0, I_ v1, .int .u64 v2, .slice aa na ca] 67)).alloc (.cells #[I_ 0, I_ 0, .int .u64 0] 64)).alloc (.cells #[I_ 0, I_ 0, .int .u64 0] 64))) := Za (Zv (Zv (Zd w _) _) _)
  have hs1 : (w.alloc (.cells #[I_ 11, I_ o, I_ a, I_ v0, I_ v1, .int .u64 v2, .slice aa na ca] 67)).heap.size = w.heap.size + 1 := by simp
  have hs2 : ((w.alloc (.cells #[I_ 11, I_ o, I_ a, I_ v0, I_ v1, .int .u64 v2, .slice aa na ca] 67)).alloc (.cells #[I_ 0, I_ 0, .int .u64 0] 64)).heap.size = w.heap.size + 1 + 1 := by simp
  have Y1 : Hid (Val (((w.alloc (.cells #[I_ 11, I_ o, I_ a, I_ v0, I_ v1, .int .u64 v2, .slice aa na ca] 67)).alloc (.cells #[I_ 0, I_ 0, .int .u64 0] 64)).alloc (.cells #[I_ 0, I_ 0, .int .u64 0] 64)) (w.heap.size + 1) 0 0 0) := Za (by
    have e1 := Val.new (w.alloc (.cells #[I_ 11, I_ o, I_ a, I_ v0, I_ v1, .int .u64 v2, .slice aa na ca] 67)) 0 0 0
    rw [hs1] at e1
    exact e1.al (Zd _ _))
  have Y2 : Hid (Val (((w.alloc (.cells #[I_ 11, I_ o, I_ a, I_ v0, I_ v1, .int .u64 v2, .slice aa na ca] 67)).alloc (.cells #[I_ 0, I_ 0, .int .u64 0] 64)).alloc (.cells #[I_ 0, I_ 0, .int .u64 0] 64)) (w.heap.size + 1 + 1) 0 0 0) := Za (by
    have e1 := Val.new ((w.alloc (.cells #[I_ 11, I_ o, I_ a, I_ v0, I_ v1, .int .u64 v2, .slice aa na ca] 67)).alloc (.cells #[I_ 0, I_ 0, .int .u64 0] 64)) 0 0 0
    rw [hs2] at e1
    exact e1)
  have Y0 : Hid (Wv (((w.alloc (.cells #[I_ 11, I_ o, I_ a, I_ v0, I_ v1, .int .u64 v2, .slice aa na ca] 67)).alloc (.cells #[I_ 0, I_ 0, .int .u64 0] 64)).alloc (.cells #[I_ 0, I_ 0, .int .u64 0] 64)) w.heap.size 11 o a (v0, v1, v2) (.slice aa na ca)) := Za (((Wv.new w 11 o a v0 v1 v2 (.slice aa na ca)).al (Zd _ _)).al (Zd _ _))
  have FL : Hid (∀ k, F k -> k < w.heap.size) := Za h.fb
  have H1 := Za (h.bel B1.out)
  have H7 := Za (h17.below (Nat.le_refl _) B1.out)
  clear h h17 hs1 hs2
  go_enter Tryz.func72, Tryz.ntmps72
  go_upto_region 2 with fail
  generalize ((w.alloc _).alloc _).alloc _ = W1 at *
  obtain ⟨q0, q1, q2, q3, q4, q5, q6⟩ := Y0.out.all
  have hl0 := Y0.out.lt
  obtain ⟨⟨a0, a1, a2⟩, e0, e1, e2⟩ := Y1.out.all
  obtain ⟨⟨b0, b1, b2⟩, d0, d1, d2⟩ := Y2.out.all
  go_wp2_with fail
  have V1 := Y1.out
  have BB : Below w.heap.size W1 (((W1.setCell ⟨w.heap.size + 1, 0, none⟩ (I_ 0)).setCell ⟨w.heap.size + 1, 1, none⟩ (I_ 0)).setCell ⟨w.heap.size + 1, 2, none⟩ (.int .u64 0)) := Zt (Below.refl _ _) (by omega) _ _ _
  exact ret_v (w.heap.size + 1) rfl rfl (V1.set 0 0 0) rfl (Sp.mk rfl (H1.out.keep (fun k hk => BB.block k (FL.out k hk)) BB.size) ((Ch.of_bel B1.out).below BB))
theorem lk_range {α : Type} {l : List α} {i : Int} {x : α} (h : lk l i = some x) : 0 <= i /\ l[i.toNat]? = some x := by
 unfold lk at h
 split at h
 · rename_i h0
   exact ⟨h0, h⟩
 · cases h
theorem share_t (s : St) (w : Wt) : (ZH s w).1.C.map Qu.t = s.C.map Qu.t := by
 unfold ZH
 split
 · rfl
 split
 · rfl
 split
 · rfl
 split
 · rfl
 split
 · split
   · rename_i q hq
     exact map_set_t (lk_range hq).2 rfl
   · rfl
 split
 · split
   · rename_i q hq
     exact map_set_t (lk_range hq).2 rfl
   · rfl
 split
 · rfl
 split
 · rfl
 split
 · rfl
 rfl
theorem share_any {w : World} {F : Nat -> Prop} {g : Nat} {r : Rm} {p : List Addr} (h : Stt w F g r.s) (h17 : E2 w p) (k o a v0 v1 v2 : Int) (aa : Option Addr) (na ca : Nat) (hc : Ya r ⟨k, o, a, (v0, v1, v2)⟩ = true) (h10 : k ≠ 10) (h12 : k ≠ 12) (h5 : k = 5 -> YI r.s o = false) :
 Calls Tryz.prog 72 #[P_ g, .agg #[I_ k, I_ o, I_ a, I_ v0, I_ v1, .int .u64 v2, .slice aa na ca]] w (Sp w F g (ZH r.s ⟨k, o, a, (v0, v1, v2)⟩).1 (.agg #[I_ (ZH r.s ⟨k, o, a, (v0, v1, v2)⟩).2.1, I_ (ZH r.s ⟨k, o, a, (v0, v1, v2)⟩).2.2.1, .int .u64 (ZH r.s ⟨k, o, a, (v0, v1, v2)⟩).2.2.2])) := by
 have hk : k = 1 ∨ k = 2 ∨ k = 3 ∨ k = 4 ∨ k = 5 ∨ k = 6 ∨ k = 7 ∨ k = 8 ∨ k = 9 ∨ k = 11 := by
  by_cases hh : k = 1 ∨ k = 2 ∨ k = 3 ∨ k = 4 ∨ k = 5 ∨ k = 6 ∨ k = 7 ∨ k = 8 ∨ k = 9 ∨ k = 11
  · exact hh
  · have : Ya r ⟨k, o, a, (v0, v1, v2)⟩ = false := by
     unfold Ya
     simp only
     rw [if_neg (by omega), if_neg (by omega), if_neg (by omega), if_neg (by omega), if_neg (by omega), if_neg (by omega)]
     simp
     omega
    rw [this] at hc
    cases hc
 rcases hk with rfl | rfl | rfl | rfl | rfl | rfl | rfl | rfl | rfl | rfl
 · have hc' : canA r.s ⟨1, o, a, (v0, v1, v2)⟩ = true := hc
   unfold canA at hc'
   cases hl : lk r.s.P o with
   | none => simp [hl] at hc'
   | some x =>
    obtain ⟨i, rfl, hi⟩ := ZC hl
    have e : ZH r.s ⟨1, (i : Int), a, (v0, v1, v2)⟩ = (r.s, x) := by unfold ZH; simp only [if_true]; rw [hl]; rfl
    rw [e]
    exact share_1 h h17 a v0 v1 v2 aa na ca i x hi
 · have hc' : canA r.s ⟨2, o, a, (v0, v1, v2)⟩ = true := hc
   unfold canA at hc'
   cases hl : lk r.s.P o with
   | none => simp [hl] at hc'
   | some x =>
    rw [hl] at hc'
    obtain ⟨i, rfl, hi⟩ := ZC hl
    exact share_2 h h17 a v0 v1 v2 aa na ca i x hi (by simpa [isV] using hc')
 · have hc' : canL r.s ⟨3, o, a, (v0, v1, v2)⟩ = true := hc
   unfold canL at hc'
   cases hl : lk r.s.M o with
   | none => simp [hl] at hc'
   | some x =>
    obtain ⟨i, rfl, hi⟩ := ZC hl
    exact share_3 h h17 a v0 v1 v2 aa na ca i x hi
 · have hc' : (lk r.s.M o).isSome = true := hc
   cases hl : lk r.s.M o with
   | none => simp [hl] at hc'
   | some x =>
    obtain ⟨i, rfl, hi⟩ := ZC hl
    exact share_4 h h17 a v0 v1 v2 aa na ca i x hi
 · have hc' : canS r ⟨5, o, a, (v0, v1, v2)⟩ = true := hc
   have hz := h5 rfl
   unfold canS at hc'
   unfold YI at hz
   cases hl : lk r.s.C o with
   | none => simp [hl] at hc'
   | some q =>
    rw [hl] at hc' hz
    simp only [Bool.and_eq_true, isV] at hc'
    have hz' : ¬ q.room = 0 := by simpa using hz
    rw [if_neg hz'] at hc'
    obtain ⟨i, rfl, hi⟩ := ZC hl
    have e : ZH r.s ⟨5, (i : Int), a, (v0, v1, v2)⟩ = ({ r.s with C := r.s.C.set i { q with l := q.l ++ [(v0, v1, v2)] } }, z3) := by
     have e0 : ZH r.s ⟨5, (i : Int), a, (v0, v1, v2)⟩ = (match lk r.s.C (i : Int) with | some q => ({ r.s with C := r.s.C.set (i : Int).toNat { q with l := q.l ++ [(v0, v1, v2)] } }, z3) | none => (r.s, z3)) := rfl
     rw [e0, hl]
     rfl
    rw [e]
    exact share_5 h h17 a v0 v1 v2 aa na ca i q hi hc'.1 (by simpa using hc'.2)
 · have hc' : canR r.s ⟨6, o, a, (v0, v1, v2)⟩ = true := hc
   unfold canR at hc'
   cases hl : lk r.s.C o with
   | none => simp [hl] at hc'
   | some q =>
    rw [hl] at hc'
    simp only [decide_eq_true_eq] at hc'
    obtain ⟨i, rfl, hi⟩ := ZC hl
    cases hq : q.l with
    | nil => rw [hq] at hc'; simp at hc'
    | cons y l =>
     have e : ZH r.s ⟨6, (i : Int), a, (v0, v1, v2)⟩ = ({ r.s with C := r.s.C.set i { q with l := l } }, y) := by
      have e0 : ZH r.s ⟨6, (i : Int), a, (v0, v1, v2)⟩ = (match lk r.s.C (i : Int) with | some q => ({ r.s with C := r.s.C.set (i : Int).toNat { q with l := q.l.tail } }, q.l.headD z3) | none => (r.s, z3)) := rfl
      rw [e0, hl]
      simp only [hq]
      rfl
     rw [e]
     exact share_6 h h17 a v0 v1 v2 aa na ca i q hi y l hq
 · have hc' : canC r.s ⟨7, o, a, (v0, v1, v2)⟩ = true := hc
   unfold canC at hc'
   cases hl : lk r.s.A o with
   | none => simp [hl] at hc'
   | some x =>
    obtain ⟨i, rfl, hi⟩ := ZC hl
    have e : ZH r.s ⟨7, (i : Int), a, (v0, v1, v2)⟩ = (r.s, (1, x, 0)) := by
     have e0 : ZH r.s ⟨7, (i : Int), a, (v0, v1, v2)⟩ = (r.s, (1, (lk r.s.A (i : Int)).getD 0, 0)) := rfl
     rw [e0, hl]
     rfl
    rw [e]
    exact share_7 h h17 a v0 v1 v2 aa na ca i x hi
 · have hc' : canC r.s ⟨8, o, a, (v0, v1, v2)⟩ = true := hc
   unfold canC at hc'
   cases hl : lk r.s.A o with
   | none => simp [hl] at hc'
   | some x =>
    obtain ⟨i, rfl, hi⟩ := ZC hl
    exact share_8 h h17 a v0 v1 v2 aa na ca i x hi
 · have hc' : canC r.s ⟨9, o, a, (v0, v1, v2)⟩ = true := hc
   unfold canC at hc'
   cases hl : lk r.s.A o with
   | none => simp [hl] at hc'
   | some x =>
    obtain ⟨i, rfl, hi⟩ := ZC hl
    have e : ZH r.s ⟨9, (i : Int), a, (v0, v1, v2)⟩ = ({ r.s with A := r.s.A.set i (wrap64 (x + v1)) }, z3) := by
     have e0 : ZH r.s ⟨9, (i : Int), a, (v0, v1, v2)⟩ = ({ r.s with A := r.s.A.set (i : Int).toNat (wrap64 ((lk r.s.A (i : Int)).getD 0 + v1)) }, z3) := rfl
     rw [e0, hl]
     rfl
    rw [e]
    exact share_9 h h17 a v0 v1 v2 aa na ca i x hi
 · exact share_11 h h17 a v0 v1 v2 aa na ca o
theorem meet_any {w : World} {G : Nat -> Prop} {g : Nat} {S : List (List Wt)} {r : Rm} (h : Rn w G g S r) (i t : Nat) (x y : Gr) (hx : r.gs[i]? = some x) (hl : r.ev.length <= 90000) (k o a v0 v1 v2 : Int) (aa : Option Addr) (na ca : Nat) (ht : recvR r.gs o = some t) (hy : r.gs[t]? = some y) :
 Calls Tryz.prog 70 #[P_ g, I_ (i : Nat), .agg #[I_ k, I_ o, I_ a, I_ v0, I_ v1, .int .u64 v2, .slice aa na ca]] w (RnP w G g S (meetR r i ⟨k, o, a, (v0, v1, v2)⟩) (.tuple #[])) := by
 have B0 := Za (Zd w (.cells #[I_ k, I_ o, I_ a, I_ v0, I_ v1, .int .u64 v2, .slice aa na ca] 67))
 have V0 := Za (Wv.new w k o a v0 v1 v2 (.slice aa na ca))
 have NG : Hid (¬ G w.heap.size) := Za (fun hG => absurd (h.fb _ hG) (by omega))
 have RC := Za (receiver_any (h.bel B0.out) o)
 have hri : recvI r.gs o = t := by unfold recvI; rw [ht]
 rw [hri] at RC
 have HR := Za (h.bel B0.out)
 obtain ⟨r1, hr1⟩ : ∃ r1, r1 = ZI r i o := ⟨_, rfl⟩
 obtain ⟨r2, hr2⟩ : ∃ r2, r2 = ZI r1 t o := ⟨_, rfl⟩
 have hg1 : Hid (r1.gs = r.gs) := Za (by rw [hr1]; exact note_gs _ _ _)
 have hg2 : Hid (r2.gs = r1.gs) := Za (by rw [hr2]; exact note_gs _ _ _)
 have hl1 : Hid (r1.ev.length <= 90001) := Za (by rw [hr1]; have := note_len r i o; omega)
 have em : meetR r i ⟨k, o, a, (v0, v1, v2)⟩ = (match Ye r2 i with | (r2, true) => (Ye r2 t).1 | (r2, false) => r2) := by
  unfold meetR
  simp only [ht]
  rw [← hr1, ← hr2]
  generalize Ye r2 i = q
  obtain ⟨qa, qb⟩ := q
  cases qb <;> rfl
 rw [em]
 obtain ⟨q, hq⟩ : ∃ q, Ye r2 i = q := ⟨_, rfl⟩
 rw [hq]
 have hq3 : Hid (∃ z, q.1.gs[t]? = some z) := Za ⟨_, List.getElem?_eq_getElem (by rw [← hq, ask_gs, hg2.out, hg1.out]; exact (G_ hy))⟩
 have HX := Za (And.intro hx hy)
 have HL := Za hl
 have H1 := Za hr1
 have H2 := Za hr2
 have HQ := Za hq
 clear h hri em hx hy hl hr1 hr2 hq ht
 obtain ⟨r3, bq⟩ := q
 go_enter Tryz.func70, Tryz.ntmps70
 go_upto_region 1 with fail
 generalize w.alloc _ = w1 at *
 obtain ⟨q0, q1, q2, q3, q4, q5, q6⟩ := V0.out.all
 go_wp2_with fail
 refine RC.out.mono ?_
 rintro e w2 ⟨rfl, b2⟩
 have V2 := Za (V0.out.al b2)
 have NO := Za (note_any (HR.out.bel b2) i x HX.out.1 o (by have := HL.out; omega))
 rw [← H1.out] at NO
 have C2 := Za (Zg B0.out b2)
 have L2 := Za (V0.out.al b2).lt
 clear b2 RC q0 q1 q2 q3 q4 q5 q6 V0 HR
 obtain ⟨q0, q1, q2, q3, q4, q5, q6⟩ := V2.out.all
 go_wp2_with fail
 refine NO.out.mono ?_
 rintro e w3 ⟨rfl, G3, rn3, c3⟩
 obtain ⟨k3, n3, l3⟩ := c3.keepB NG.out L2.out
 have V3 : Hid (Wv w3 w.heap.size k o a (v0, v1, v2) (.slice aa na ca)) := Za (k3.trans V2.out)
 have N3 := Za (And.intro n3 l3)
 have NO2 := Za (note_any rn3 t y (by rw [hg1.out]; exact HX.out.2) o (by have := hl1.out; omega))
 rw [← H2.out] at NO2
 have C3 := Za ((Ch.of_bel C2.out).trans c3)
 clear rn3 c3 NO k3 n3 l3 q0 q1 q2 q3 q4 q5 q6 V2 C2
 obtain ⟨q0, q1, q2, q3, q4, q5, q6⟩ := V3.out.all
 go_wp2_with fail
 refine NO2.out.mono ?_
 rintro e w4 ⟨rfl, G4, rn4, c4⟩
 obtain ⟨k4, n4, l4⟩ := c4.keepB N3.out.1 N3.out.2
 have V4 : Hid (Wv w4 w.heap.size k o a (v0, v1, v2) (.slice aa na ca)) := Za (k4.trans V3.out)
 have N4 := Za (And.intro n4 l4)
 have AK := Za (ask_any rn4 i x (by rw [hg2.out, hg1.out]; exact HX.out.1) 0 0 0)
 rw [HQ.out] at AK
 have C4 := Za (C3.out.trans c4)
 clear rn4 c4 NO2 k4 n4 l4 q0 q1 q2 q3 q4 q5 q6 V3 C3 N3
 go_wp2_with fail
 refine AK.out.mono ?_
 rintro e w5 ⟨rfl, G5, rn5, c5⟩
 obtain ⟨k5, n5, l5⟩ := c5.keepB N4.out.1 N4.out.2
 have V5 : Hid (Wv w5 w.heap.size k o a (v0, v1, v2) (.slice aa na ca)) := Za (k5.trans V4.out)
 have C5 := Za (And.intro rn5 (C4.out.trans c5))
 clear rn5 c5 AK C4 k5 n5 l5 V4 N4
 cases bq with
 | true =>
  obtain ⟨z, hz⟩ := hq3.out
  have AK := Za (ask_any C5.out.1 t z hz v0 v1 v2)
  clear hz
  obtain ⟨q0, q1, q2, q3, q4, q5, q6⟩ := V5.out.all
  go_wp2_with fail
  refine AK.out.mono ?_
  rintro e w6 ⟨rfl, G6, rn6, c6⟩
  have C6 := Za (And.intro rn6 (C5.out.2.trans c6))
  clear rn6 c6 AK C5
  go_wp2_with fail
  go_end0
  exact RnP.mk rfl C6.out.1 C6.out.2
 | false =>
  go_wp2_with fail
  go_end0
  exact RnP.mk rfl C5.out.1 C5.out.2
section
variable {ks : List Nat} {W w' w'' : World} {F F' : Nat → Prop}
theorem Yp.ch (h : Yp ks W w') (c : Ch F F' w' w'') (hn : ∀ k ∈ ks, ¬ F k) : Yp ks W w'' := ⟨Nat.le_trans h.1 c.size, h.2.1, fun k hk => (c.blk k (Nat.lt_of_lt_of_le (h.2.1 k hk) h.1) (hn k hk)).trans (h.2.2 k hk)⟩
end
theorem step_4f {w : World} {G : Nat -> Prop} {g : Nat} {S : List (List Wt)} {r : Rm} {p : List Addr} (h : Rn w G g S r) (h17 : E2 w p) (i : Nat) (x : Gr) (hx : r.gs[i]? = some x) (hl : r.ev.length <= 90000) (hk : x.w.k = 4) (hm : lk r.s.M x.w.o ≠ some true) : Calls Tryz.prog 31 #[P_ g, I_ (i : Nat)] w (RnP w G g S (Yg S r i) (.tuple #[])) := by
 have hst : Yg S r i = faultR r i (4, 0, x.w.a) := by
  unfold Yg
  rw [hx]
  simp only
  rw [if_pos ⟨hk, hm⟩]
 rw [hst]
 clear hst
 have NG : Hid (¬ G w.heap.size) := Za (fun hG => absurd (h.fb _ hG) (by omega))
 have HX := Za hx
 obtain ⟨Fs, Fo, R, gs, vC, vB, vG, vE, ps, ts, h, hG⟩ := h
 obtain ⟨bG, cG, b, t, va, eG, _, _, _, _, _, hA, ⟨s1, s2, s3⟩, s4⟩ := h.see hx
 subst eG
 obtain ⟨aa, na, ca, rfl⟩ := hA.form
 have hi : i < r.gs.length := (G_ hx)
 have hn8 := h.n8
 obtain ⟨⟨c0, c1, c2, c3, c4⟩, c5, c6, c7, c8, c9⟩ := h.cells
 have hgl := h.fb g h.fg
 obtain ⟨rest, ⟨k, o, a, v0, v1, v2⟩⟩ := x
 simp only at s4
 have b1 := Zb s4 1 _ rfl
 have b2 := Zb s4 2 _ rfl
 have b3 := Zb s4 3 _ rfl
 have b4 := Zb s4 4 _ rfl
 have b5 := Zb s4 5 _ rfl
 have b6 := Zb s4 6 _ rfl
 have b7 := Zb s4 7 _ rfl
 obtain ⟨n, hn⟩ : ∃ n, n = r.gs.length := ⟨_, rfl⟩
 rw [← hn] at hi hn8 c3
 have HN := Za hn
 have hi1 : (i : Int) < (n : Int) := by omega
 have hi0 : (0 : Int) <= (i : Int) := by omega
 have hd0 : decide ((i : Int) < 0) = false := by simp
 have hd1 : decide ((n : Int) <= (i : Int)) = false := by simp; omega
 clear hn
 have B0 := Za (Zd w (.cells #[I_ k, I_ o, I_ a, I_ v0, I_ v1, .int .u64 v2, .slice aa na ca] 67))
 have V0 := Za (Wv.new w k o a v0 v1 v2 (.slice aa na ca))
 have HU := Za (h.bel B0.out)
 have HG := Za hG
 have H7 := Za (h17.below (Nat.le_refl _) B0.out)
 have HL := Za hl
 have AR := Za (hA.keep (fun k hk => B0.out.block k (h.rb k hk)) (fun _ h => h))
 have U0 := Za ((B0.out.cell (p := ⟨g, 0, none⟩) hgl).trans c0)
 have hsl := h.st.lt
 simp only at hk hm
 subst hk
 have hlo : (lk r.s.M o).getD false = false := by
  cases hl' : lk r.s.M o with
  | none => rfl
  | some b => cases b with
   | false => rfl
   | true => exact absurd hl' hm
 have LO := Za (fun (m : Nat) => Locked_q (HU.out.st.bel (below_drewN (Below.refl _ _) m)) (H7.out.below (Nat.le_refl _) (below_drewN (Below.refl _ _) m)) o)
 rw [hlo] at LO
 clear hlo hm
 clear h hG h17 hl hA hx c0 c1 c2 c4 c5 c6 c7 c8 c9
 go_enter Tryz.func31, Tryz.ntmps31
 go_upto_region 4 with fail
 generalize w.alloc _ = w1 at *
 clear b1 b2 b3 b4 b5 b6 b7 s1 c3
 obtain ⟨q0, q1, q2, q3, q4, q5, q6⟩ := V0.out.all
 have u0 := U0.out
 go_quiet (first | (go_at_call 64; exact Calls.quiet_of (LO.out _)))
 have HU' := Za (HU.out.bel (w' := w1.drewN nq) (below_drewN (Below.refl _ _) nq))
 have B0' := Za (below_drewN B0.out nq)
 have V0' : Hid (Wv (w1.drewN nq) w.heap.size 4 o a (v0, v1, v2) (.slice aa na ca)) := V0
 have H7' : Hid (E2 (w1.drewN nq) p) := Za (H7.out.below (Nat.le_refl _) (below_drewN (Below.refl _ _) nq))
 have U0' : Hid ((w1.drewN nq).cell? ⟨g, 0, none⟩ = some (P_ gs)) := U0
 have AR' := Za (AR.out.keep (w' := w1.drewN nq) (fun _ _ => rfl) (fun _ h => h))
 clear HU B0 V0 H7 U0 AR q0 q1 q2 q3 q4 q5 q6 u0
 have HU := HU'
 have B0 := B0'
 have V0 := V0'
 have H7 := H7'
 have U0 := U0'
 have AR := AR'
 clear HU' B0' V0' H7' U0' AR'
 generalize w1.drewN nq = w2 at *
 obtain ⟨q0, q1, q2, q3, q4, q5, q6⟩ := V0.out.all
 have u0 := U0.out
 have FA := Za (fault_any (r := r) (G := G) (S := S) ⟨_, _, _, _, _, _, _, _, _, _, HU.out, HG.out⟩ i 4 0 a)
 go_wp2_with fail
 refine FA.out.mono ?_
 rintro e w3 ⟨rfl, G3, rn3, c3⟩
 have Z := Za (And.intro rn3 ((Ch.of_bel B0.out).trans c3))
 clear rn3 c3 FA
 go_wp2_with fail
 go_end0
 exact RnP.mk rfl Z.out.1 Z.out.2
theorem step_10 {w : World} {G : Nat -> Prop} {g : Nat} {S : List (List Wt)} {r : Rm} {p : List Addr} (h : Rn w G g S r) (h17 : E2 w p) (i : Nat) (x : Gr) (hx : r.gs[i]? = some x) (hl : r.ev.length <= 90000) (hk : x.w.k = 10) : Calls Tryz.prog 31 #[P_ g, I_ (i : Nat)] w (RnP w G g S (Yg S r i) (.tuple #[])) := by
 have hst : Yg S r i = splitR S r i x.w := by
  unfold Yg
  rw [hx]
  simp only
  rw [if_neg (by omega), if_pos hk]
 rw [hst]
 clear hst
 have NG : Hid (¬ G w.heap.size) := Za (fun hG => absurd (h.fb _ hG) (by omega))
 have HX := Za hx
 obtain ⟨Fs, Fo, R, gs, vC, vB, vG, vE, ps, ts, h, hG⟩ := h
 obtain ⟨bG, cG, b, t, va, eG, _, _, _, _, _, hA, ⟨s1, s2, s3⟩, s4⟩ := h.see hx
 subst eG
 obtain ⟨aa, na, ca, rfl⟩ := hA.form
 have hi : i < r.gs.length := (G_ hx)
 have hn8 := h.n8
 obtain ⟨⟨c0, c1, c2, c3, c4⟩, c5, c6, c7, c8, c9⟩ := h.cells
 have hgl := h.fb g h.fg
 obtain ⟨rest, ⟨k, o, a, v0, v1, v2⟩⟩ := x
 simp only at s4
 have b1 := Zb s4 1 _ rfl
 have b2 := Zb s4 2 _ rfl
 have b3 := Zb s4 3 _ rfl
 have b4 := Zb s4 4 _ rfl
 have b5 := Zb s4 5 _ rfl
 have b6 := Zb s4 6 _ rfl
 have b7 := Zb s4 7 _ rfl
 obtain ⟨n, hn⟩ : ∃ n, n = r.gs.length := ⟨_, rfl⟩
 rw [← hn] at hi hn8 c3
 have HN := Za hn
 have hi1 : (i : Int) < (n : Int) := by omega
 have hi0 : (0 : Int) <= (i : Int) := by omega
 have hd0 : decide ((i : Int) < 0) = false := by simp
 have hd1 : decide ((n : Int) <= (i : Int)) = false := by simp; omega
 clear hn
 have B0 := Za (Zd w (.cells #[I_ k, I_ o, I_ a, I_ v0, I_ v1, .int .u64 v2, .slice aa na ca] 67))
 have V0 := Za (Wv.new w k o a v0 v1 v2 (.slice aa na ca))
 have HU := Za (h.bel B0.out)
 have HG := Za hG
 have H7 := Za (h17.below (Nat.le_refl _) B0.out)
 have HL := Za hl
 have AR := Za (hA.keep (fun k hk => B0.out.block k (h.rb k hk)) (fun _ h => h))
 have U0 := Za ((B0.out.cell (p := ⟨g, 0, none⟩) hgl).trans c0)
 have hsl := h.st.lt
 simp only at hk
 subst hk
 clear h hG h17 hl hA hx c0 c1 c2 c4 c5 c6 c7 c8 c9
 go_enter Tryz.func31, Tryz.ntmps31
 go_upto_region 4 with fail
 generalize w.alloc _ = w1 at *
 clear b1 b2 b3 b4 b5 b6 b7 s1 c3
 obtain ⟨q0, q1, q2, q3, q4, q5, q6⟩ := V0.out.all
 have u0 := U0.out
 go_quiet (fail)
 have HU' := Za (HU.out.bel (w' := w1.drewN nq) (below_drewN (Below.refl _ _) nq))
 have B0' := Za (below_drewN B0.out nq)
 have V0' : Hid (Wv (w1.drewN nq) w.heap.size 10 o a (v0, v1, v2) (.slice aa na ca)) := V0
 have H7' : Hid (E2 (w1.drewN nq) p) := Za (H7.out.below (Nat.le_refl _) (below_drewN (Below.refl _ _) nq))
 have U0' : Hid ((w1.drewN nq).cell? ⟨g, 0, none⟩ = some (P_ gs)) := U0
 have AR' := Za (AR.out.keep (w' := w1.drewN nq) (fun _ _ => rfl) (fun _ h => h))
 clear HU B0 V0 H7 U0 AR q0 q1 q2 q3 q4 q5 q6 u0
 have HU := HU'
 have B0 := B0'
 have V0 := V0'
 have H7 := H7'
 have U0 := U0'
 have AR := AR'
 clear HU' B0' V0' H7' U0' AR'
 generalize w1.drewN nq = w2 at *
 obtain ⟨q0, q1, q2, q3, q4, q5, q6⟩ := V0.out.all
 have u0 := U0.out
 have SP := Za (split_any (r := r) (G := G) (S := S) ⟨_, _, _, _, _, _, _, _, _, _, HU.out, HG.out⟩ i _ HX.out HL.out 10 o a v0 v1 v2 aa na ca R AR.out)
 go_wp2_with fail
 refine SP.out.mono ?_
 rintro e w3 ⟨rfl, G3, rn3, c3⟩
 have Z := Za (And.intro rn3 ((Ch.of_bel B0.out).trans c3))
 clear rn3 c3 SP
 go_wp2_with fail
 go_end0
 exact RnP.mk rfl Z.out.1 Z.out.2
theorem step_5m {w : World} {G : Nat -> Prop} {g : Nat} {S : List (List Wt)} {r : Rm} {p : List Addr} (h : Rn w G g S r) (h17 : E2 w p) (i : Nat) (x : Gr) (hx : r.gs[i]? = some x) (hl : r.ev.length <= 90000) (hk : x.w.k = 5) (hc : Ya r x.w = true) (hz : YI r.s x.w.o = true) : Calls Tryz.prog 31 #[P_ g, I_ (i : Nat)] w (RnP w G g S (Yg S r i) (.tuple #[])) := by
  have hst : Yg S r i = meetR r i x.w := by
    unfold Yg
    rw [hx]
    simp only
    rw [if_neg (by omega), if_neg (by omega), if_pos ⟨hk, hz⟩]
  rw [hst]
  clear hst
  have NG : Hid (¬ G w.heap.size) := Za (fun hG => absurd (h.fb _ hG) (by omega))
  have HX := Za hx
  obtain ⟨Fs, Fo, R, gs, vC, vB, vG, vE, ps, ts, h, hG⟩ := h
  obtain ⟨bG, cG, b, t, va, eG, _, _, _, _, _, hA, ⟨s1, s2, s3⟩, s4⟩ := h.see hx
  subst eG
  obtain ⟨aa, na, ca, rfl⟩ := hA.form
  have hi : i < r.gs.length := (G_ hx)
  have hn8 := h.n8
  obtain ⟨⟨c0, c1, c2, c3, c4⟩, c5, c6, c7, c8, c9⟩ := h.cells
  have hgl := h.fb g h.fg
  obtain ⟨rest, ⟨k, o, a, v0, v1, v2⟩⟩ := x
  simp only at s4
  have b1 := Zb s4 1 _ rfl
  have b2 := Zb s4 2 _ rfl
  have b3 := Zb s4 3 _ rfl
  have b4 := Zb s4 4 _ rfl
  have b5 := Zb s4 5 _ rfl
  have b6 := Zb s4 6 _ rfl
  have b7 := Zb s4 7 _ rfl
  obtain ⟨n, hn⟩ : ∃ n, n = r.gs.length := ⟨_, rfl⟩
  rw [← hn] at hi hn8 c3
  have HN := Za hn
  have hi1 : (i : Int) < (n : Int) := by omega
  have hi0 : (0 : Int) <= (i : Int) := by omega
  have hd0 : decide ((i : Int) < 0) = false := by simp
  have hd1 : decide ((n : Int) <= (i : Int)) = false := by simp; omega
  clear hn
  have B0 := Za (Zd w (.cells #[I_ k, I_ o, I_ a, I_ v0, I_ v1, .int .u64 v2, .slice aa na ca] 67))
  have V0 := Za (Wv.new w k o a v0 v1 v2 (.slice aa na ca))
  have HU := Za (h.bel B0.out)
  have HG := Za hG
  have H7 := Za (h17.below (Nat.le_refl _) B0.out)
  have HL := Za hl
  have AR := Za (hA.keep (fun k hk => B0.out.block k (h.rb k hk)) (fun _ h => h))
  have U0 := Za ((B0.out.cell (p := ⟨g, 0, none⟩) hgl).trans c0)
  have hsl := h.st.lt
  simp only at hk hc hz
  subst hk
  have hq' : ∃ ci q t y, o = (ci : Nat) /\ r.s.C[ci]? = some q /\ q.room = 0 /\ recvR r.gs o = some t /\ r.gs[t]? = some y := by
    have hc' : canS r ⟨5, o, a, (v0, v1, v2)⟩ = true := hc
    unfold canS at hc'
    unfold YI at hz
    cases hl' : lk r.s.C o with
    | none => simp [hl'] at hc'
    | some q =>
      rw [hl'] at hc' hz
      have hz' : q.room = 0 := by simpa using hz
      simp only [Bool.and_eq_true] at hc'
      rw [if_pos hz'] at hc'
      obtain ⟨ci, e, hci⟩ := ZC hl'
      obtain ⟨t, ht⟩ := Option.isSome_iff_exists.1 hc'.2
      obtain ⟨y, hy⟩ : ∃ y, r.gs[t]? = some y := ⟨_, List.getElem?_eq_getElem (by
        unfold recvR at ht
        exact (List.findIdx?_eq_some_iff_getElem.1 ht).1)⟩
      exact ⟨ci, q, t, y, e, hci, hz', ht, hy⟩
  obtain ⟨ci, q, t', y, rfl, hq, hr0, ht', hy'⟩ := hq'
  have HT := Za (And.intro ht' hy')
  clear ht' hy' hc hz
  clear h hG h17 hl hA hx c0 c1 c2 c4 c5 c6 c7 c8 c9
  go_enter Tryz.func31, Tryz.ntmps31
  go_upto_region 4 with fail
  generalize w.alloc _ = w1 at *
  clear b1 b2 b3 b4 b5 b6 b7 s1 c3
  obtain ⟨q0, q1, q2, q3, q4, q5, q6⟩ := V0.out.all
  have u0 := U0.out
  go_quiet (fail)
  have HU' := Za (HU.out.bel (w' := w1.drewN nq) (below_drewN (Below.refl _ _) nq))
  have B0' := Za (below_drewN B0.out nq)
  have V0' : Hid (Wv (w1.drewN nq) w.heap.size 5 (ci : Nat) a (v0, v1, v2) (.slice aa na ca)) := V0
  have H7' : Hid (E2 (w1.drewN nq) p) := Za (H7.out.below (Nat.le_refl _) (below_drewN (Below.refl _ _) nq))
  have U0' : Hid ((w1.drewN nq).cell? ⟨g, 0, none⟩ = some (P_ gs)) := U0
  have AR' := Za (AR.out.keep (w' := w1.drewN nq) (fun _ _ => rfl) (fun _ h => h))
  clear HU B0 V0 H7 U0 AR q0 q1 q2 q3 q4 q5 q6 u0
  have HU := HU'
  have B0 := B0'
  have V0 := V0'
  have H7 := H7'
  have U0 := U0'
  have AR := AR'
  clear HU' B0' V0' H7' U0' AR'
  generalize w1.drewN nq = w2 at *
  obtain ⟨q0, q1, q2, q3, q4, q5, q6⟩ := V0.out.all
  have u0 := U0.out
  have RM := Za (fun (m : Nat) => calls_flip (Room_in (w := w2.drewN m) (HU.out.st.bel (below_drewN (Below.refl _ _) m)) ci q hq))
  obtain ⟨qt, qr, ql⟩ := q
  simp only at hr0
  subst hr0
  clear hq
  go_upto_region 8 with fail
  go_quiet (first | (go_at_call 69; exact Calls.quiet_of_same (RM.out _)))
  have HU' := Za (HU.out.bel (w' := w2.drewN nq) (below_drewN (Below.refl _ _) nq))
  have B0' := Za (below_drewN B0.out nq)
  have V0' : Hid (Wv (w2.drewN nq) w.heap.size 5 (ci : Nat) a (v0, v1, v2) (.slice aa na ca)) := V0
  have H7' : Hid (E2 (w2.drewN nq) p) := Za (H7.out.below (Nat.le_refl _) (below_drewN (Below.refl _ _) nq))
  have U0' : Hid ((w2.drewN nq).cell? ⟨g, 0, none⟩ = some (P_ gs)) := U0
  have AR' := Za (AR.out.keep (w' := w2.drewN nq) (fun _ _ => rfl) (fun _ h => h))
  clear HU B0 V0 H7 U0 AR q0 q1 q2 q3 q4 q5 q6 u0
  have HU := HU'
  have B0 := B0'
  have V0 := V0'
  have H7 := H7'
  have U0 := U0'
  have AR := AR'
  clear HU' B0' V0' H7' U0' AR'
  generalize w2.drewN nq = w3 at *
  obtain ⟨q0, q1, q2, q3, q4, q5, q6⟩ := V0.out.all
  have u0 := U0.out
  have ME := Za (meet_any (r := r) (G := G) (S := S) ⟨_, _, _, _, _, _, _, _, _, _, HU.out, HG.out⟩ i t' _ y HX.out HL.out 5 (ci : Nat) a v0 v1 v2 aa na ca HT.out.1 HT.out.2)
  go_wp2_with fail
  refine ME.out.mono ?_
  rintro e w4 ⟨rfl, G3, rn3, c3⟩
  have Z := Za (And.intro rn3 ((Ch.of_bel B0.out).trans c3))
  clear rn3 c3 ME
  go_wp2_with fail
  go_end0
  exact RnP.mk rfl Z.out.1 Z.out.2
theorem step_12 {w : World} {G : Nat -> Prop} {g : Nat} {S : List (List Wt)} {r : Rm} {p : List Addr} (h : Rn w G g S r) (h17 : E2 w p) (i : Nat) (x : Gr) (hx : r.gs[i]? = some x) (hl : r.ev.length <= 90000) (hk : x.w.k = 12) : Calls Tryz.prog 31 #[P_ g, I_ (i : Nat)] w (RnP w G g S (Yg S r i) (.tuple #[])) := by
 have hst : Yg S r i = { ZI r i x.w.o with gs := (ZI r i x.w.o).gs.set i ⟨x.rest, zW⟩ } := by
  unfold Yg
  rw [hx]
  simp only
  rw [if_neg (by omega), if_neg (by omega), if_neg (by omega), if_pos hk, note_gs]
 rw [hst]
 clear hst
 have NG : Hid (¬ G w.heap.size) := Za (fun hG => absurd (h.fb _ hG) (by omega))
 have HX := Za hx
 obtain ⟨Fs, Fo, R, gs, vC, vB, vG, vE, ps, ts, h, hG⟩ := h
 obtain ⟨bG, cG, b, t, va, eG, _, _, _, _, _, hA, ⟨s1, s2, s3⟩, s4⟩ := h.see hx
 subst eG
 obtain ⟨aa, na, ca, rfl⟩ := hA.form
 have hi : i < r.gs.length := (G_ hx)
 have hn8 := h.n8
 obtain ⟨⟨c0, c1, c2, c3, c4⟩, c5, c6, c7, c8, c9⟩ := h.cells
 have hgl := h.fb g h.fg
 obtain ⟨rest, ⟨k, o, a, v0, v1, v2⟩⟩ := x
 simp only at s4
 have b1 := Zb s4 1 _ rfl
 have b2 := Zb s4 2 _ rfl
 have b3 := Zb s4 3 _ rfl
 have b4 := Zb s4 4 _ rfl
 have b5 := Zb s4 5 _ rfl
 have b6 := Zb s4 6 _ rfl
 have b7 := Zb s4 7 _ rfl
 obtain ⟨n, hn⟩ : ∃ n, n = r.gs.length := ⟨_, rfl⟩
 rw [← hn] at hi hn8 c3
 have HN := Za hn
 have hi1 : (i : Int) < (n : Int) := by omega
 have hi0 : (0 : Int) <= (i : Int) := by omega
 have hd0 : decide ((i : Int) < 0) = false := by simp
 have hd1 : decide ((n : Int) <= (i : Int)) = false := by simp; omega
 clear hn
 have B0 := Za (Zd w (.cells #[I_ k, I_ o, I_ a, I_ v0, I_ v1, .int .u64 v2, .slice aa na ca] 67))
 have V0 := Za (Wv.new w k o a v0 v1 v2 (.slice aa na ca))
 have HU := Za (h.bel B0.out)
 have HG := Za hG
 have H7 := Za (h17.below (Nat.le_refl _) B0.out)
 have HL := Za hl
 have AR := Za (hA.keep (fun k hk => B0.out.block k (h.rb k hk)) (fun _ h => h))
 have U0 := Za ((B0.out.cell (p := ⟨g, 0, none⟩) hgl).trans c0)
 have hsl := h.st.lt
 simp only at hk
 subst hk
 clear h hG h17 hl hA hx c0 c1 c2 c4 c5 c6 c7 c8 c9
 go_enter Tryz.func31, Tryz.ntmps31
 go_upto_region 4 with fail
 generalize w.alloc _ = w1 at *
 clear b1 b2 b3 b4 b5 b6 b7 s1 c3
 obtain ⟨q0, q1, q2, q3, q4, q5, q6⟩ := V0.out.all
 have u0 := U0.out
 go_quiet (fail)
 have HU' := Za (HU.out.bel (w' := w1.drewN nq) (below_drewN (Below.refl _ _) nq))
 have B0' := Za (below_drewN B0.out nq)
 have V0' : Hid (Wv (w1.drewN nq) w.heap.size 12 o a (v0, v1, v2) (.slice aa na ca)) := V0
 have H7' : Hid (E2 (w1.drewN nq) p) := Za (H7.out.below (Nat.le_refl _) (below_drewN (Below.refl _ _) nq))
 have U0' : Hid ((w1.drewN nq).cell? ⟨g, 0, none⟩ = some (P_ gs)) := U0
 have AR' := Za (AR.out.keep (w' := w1.drewN nq) (fun _ _ => rfl) (fun _ h => h))
 clear HU B0 V0 H7 U0 AR q0 q1 q2 q3 q4 q5 q6 u0
 have HU := HU'
 have B0 := B0'
 have V0 := V0'
 have H7 := H7'
 have U0 := U0'
 have AR := AR'
 clear HU' B0' V0' H7' U0' AR'
 generalize w1.drewN nq = w2 at *
 obtain ⟨q0, q1, q2, q3, q4, q5, q6⟩ := V0.out.all
 have u0 := U0.out
 go_upto_region 8 with fail
 go_quiet (fail)
 have HU' := Za (HU.out.bel (w' := w2.drewN nq) (below_drewN (Below.refl _ _) nq))
 have B0' := Za (below_drewN B0.out nq)
 have V0' : Hid (Wv (w2.drewN nq) w.heap.size 12 o a (v0, v1, v2) (.slice aa na ca)) := V0
 have H7' : Hid (E2 (w2.drewN nq) p) := Za (H7.out.below (Nat.le_refl _) (below_drewN (Below.refl _ _) nq))
 have U0' : Hid ((w2.drewN nq).cell? ⟨g, 0, none⟩ = some (P_ gs)) := U0
 have AR' := Za (AR.out.keep (w' := w2.drewN nq) (fun _ _ => rfl) (fun _ h => h))
 clear HU B0 V0 H7 U0 AR q0 q1 q2 q3 q4 q5 q6 u0
 have HU := HU'
 have B0 := B0'
 have V0 := V0'
 have H7 := H7'
 have U0 := U0'
 have AR := AR'
 clear HU' B0' V0' H7' U0' AR'
 generalize w2.drewN nq = w3 at *
 obtain ⟨q0, q1, q2, q3, q4, q5, q6⟩ := V0.out.all
 have u0 := U0.out
 have NO := Za (note_any (r := r) (G := G) (S := S) ⟨_, _, _, _, _, _, _, _, _, _, HU.out, HG.out⟩ i _ HX.out o (by have := HL.out; omega))
 go_wp2_with fail
 refine NO.out.mono ?_
 rintro e w4 ⟨rfl, G4, rn4, c4⟩
 have C4 := Za ((Ch.of_bel B0.out).trans c4)
 have HX4 : (ZI r i o).gs[i]? = _ := (congrArg (fun l => l[i]?) (note_gs r i o)).trans HX.out
 clear c4 NO HU HG H7 U0 AR q0 q1 q2 q3 q4 q5 q6 u0 V0 B0
 generalize ZI r i o = r4 at *
 obtain ⟨Fs4, Fo4, R4, gs4, vC4, vB4, vG4, vE4, ps4, ts4, h4, hG4⟩ := rn4
 obtain ⟨bG4, cG4, b4, t4, va4, eG4, e1, e2, e3, e4, gor, hA4, ⟨s1, s2, s3⟩, s4⟩ := h4.see HX4
 subst eG4
 have c3 := h4.cells.1.2.2.2.1
 have hi4 : i < r4.gs.length := (G_ HX4)
 obtain ⟨n4, hn4⟩ : ∃ n4, n4 = r4.gs.length := ⟨_, rfl⟩
 have hn48 := h4.n8
 rw [← hn4] at c3 hi4 hn48
 have hi14 : (i : Int) < (n4 : Int) := by omega
 have hi04 : (0 : Int) <= (i : Int) := by omega
 have hgl4 := h4.fb g h4.fg
 obtain ⟨h5, c5⟩ := h4.setW HX4 e1 0 0 0 0 0 0 (.slice none 0 0) YK.nilS
 have FI := Za (Yh hG4 h5 c5)
 have p1 := Zb s4 1 _ rfl
 have p2 := Zb s4 2 _ rfl
 have p3 := Zb s4 3 _ rfl
 have p4 := Zb s4 4 _ rfl
 have p5 := Zb s4 5 _ rfl
 have p6 := Zb s4 6 _ rfl
 have p7 := Zb s4 7 _ rfl
 have f1 := Zc s4 1
 have f2 := Zc s4 2
 have f3 := Zc s4 3
 have f4 := Zc s4 4
 have f5 := Zc s4 5
 have f6 := Zc s4 6
 have f7 := Zc s4 7
 clear h4 h5 c5 s4 gor hA4 e1 e2 e3 e4 HX4 hn4 hG4
 go_wp2_with fail
 go_end0
 exact RnP.mk rfl FI.out.1 (C4.out.trans FI.out.2)
theorem step_d {w : World} {G : Nat -> Prop} {g : Nat} {S : List (List Wt)} {r : Rm} {p : List Addr} (h : Rn w G g S r) (h17 : E2 w p) (i : Nat) (x : Gr) (hx : r.gs[i]? = some x) (hl : r.ev.length <= 90000) (hc : Ya r x.w = true) (h4 : x.w.k ≠ 4) (h5 : x.w.k ≠ 5) (h10 : x.w.k ≠ 10) (h12 : x.w.k ≠ 12) : Calls Tryz.prog 31 #[P_ g, I_ (i : Nat)] w (RnP w G g S (Yg S r i) (.tuple #[])) := by
  have hst : Yg S r i = (Ye (ZI { r with s := (ZH r.s x.w).1 } i x.w.o) i).1 := by
    unfold Yg
    rw [hx]
    simp only
    rw [if_neg (fun e => h4 e.1), if_neg h10, if_neg (fun e => h5 e.1), if_neg h12]
  rw [hst]
  clear hst
  have NG : Hid (¬ G w.heap.size) := Za (fun hG => absurd (h.fb _ hG) (by omega))
  have HX := Za hx
  obtain ⟨Fs, Fo, R, gs, vC, vB, vG, vE, ps, ts, h, hG⟩ := h
  obtain ⟨bG, cG, b, t, va, eG, _, _, _, _, _, hA, ⟨s1, s2, s3⟩, s4⟩ := h.see hx
  subst eG
  obtain ⟨aa, na, ca, rfl⟩ := hA.form
  have hi : i < r.gs.length := (G_ hx)
  have hn8 := h.n8
  obtain ⟨⟨c0, c1, c2, c3, c4⟩, c5, c6, c7, c8, c9⟩ := h.cells
  have hgl := h.fb g h.fg
  obtain ⟨rest, ⟨k, o, a, v0, v1, v2⟩⟩ := x
  simp only at s4
  have b1 := Zb s4 1 _ rfl
  have b2 := Zb s4 2 _ rfl
  have b3 := Zb s4 3 _ rfl
  have b4 := Zb s4 4 _ rfl
  have b5 := Zb s4 5 _ rfl
  have b6 := Zb s4 6 _ rfl
  have b7 := Zb s4 7 _ rfl
  obtain ⟨n, hn⟩ : ∃ n, n = r.gs.length := ⟨_, rfl⟩
  rw [← hn] at hi hn8 c3
  have HN := Za hn
  have hi1 : (i : Int) < (n : Int) := by omega
  have hi0 : (0 : Int) <= (i : Int) := by omega
  have hd0 : decide ((i : Int) < 0) = false := by simp
  have hd1 : decide ((n : Int) <= (i : Int)) = false := by simp; omega
  clear hn
  have B0 := Za (Zd w (.cells #[I_ k, I_ o, I_ a, I_ v0, I_ v1, .int .u64 v2, .slice aa na ca] 67))
  have V0 := Za (Wv.new w k o a v0 v1 v2 (.slice aa na ca))
  have HU := Za (h.bel B0.out)
  have HG := Za hG
  have H7 := Za (h17.below (Nat.le_refl _) B0.out)
  have HL := Za hl
  have AR := Za (hA.keep (fun k hk => B0.out.block k (h.rb k hk)) (fun _ h => h))
  have U0 := Za ((B0.out.cell (p := ⟨g, 0, none⟩) hgl).trans c0)
  have hsl := h.st.lt
  simp only at hc h4 h5 h10 h12
  have hb4 : (k == 4) = false := by simp [h4]
  have hb5 : (k == 5) = false := by simp [h5]
  have hb10 : (k == 10) = false := by simp [h10]
  have hb12 : (k == 12) = false := by simp [h12]
  have HZ : k = 5 -> YI r.s o = false := fun e => absurd e h5
  obtain ⟨sh, hsh⟩ : ∃ sh, sh = ZH r.s ⟨k, o, a, (v0, v1, v2)⟩ := ⟨_, rfl⟩
  have SH := Za (fun (W : World) (hS : Stt W Fs gs r.s) (h7 : E2 W p) => share_any hS h7 k o a v0 v1 v2 aa na ca hc (by first | decide | exact h10) (by first | decide | exact h12) HZ)
  have SM := Za (share_t r.s ⟨k, o, a, (v0, v1, v2)⟩)
  rw [← hsh] at SH SM ⊢
  clear hsh hc
  clear h hG h17 hl hA hx c0 c1 c2 c4 c5 c6 c7 c8 c9
  go_enter Tryz.func31, Tryz.ntmps31
  go_upto_region 4 with fail
  generalize w.alloc _ = w1 at *
  clear b1 b2 b3 b4 b5 b6 b7 s1 c3
  obtain ⟨q0, q1, q2, q3, q4, q5, q6⟩ := V0.out.all
  have u0 := U0.out
  go_quiet (fail)
  have HU' := Za (HU.out.bel (w' := w1.drewN nq) (below_drewN (Below.refl _ _) nq))
  have B0' := Za (below_drewN B0.out nq)
  have V0' : Hid (Wv (w1.drewN nq) w.heap.size k o a (v0, v1, v2) (.slice aa na ca)) := V0
  have H7' : Hid (E2 (w1.drewN nq) p) := Za (H7.out.below (Nat.le_refl _) (below_drewN (Below.refl _ _) nq))
  have U0' : Hid ((w1.drewN nq).cell? ⟨g, 0, none⟩ = some (P_ gs)) := U0
  have AR' := Za (AR.out.keep (w' := w1.drewN nq) (fun _ _ => rfl) (fun _ h => h))
  clear HU B0 V0 H7 U0 AR q0 q1 q2 q3 q4 q5 q6 u0
  have HU := HU'
  have B0 := B0'
  have V0 := V0'
  have H7 := H7'
  have U0 := U0'
  have AR := AR'
  clear HU' B0' V0' H7' U0' AR'
  generalize w1.drewN nq = w2 at *
  obtain ⟨q0, q1, q2, q3, q4, q5, q6⟩ := V0.out.all
  have u0 := U0.out
  go_upto_region 8 with fail
  go_quiet (fail)
  have HU' := Za (HU.out.bel (w' := w2.drewN nq) (below_drewN (Below.refl _ _) nq))
  have B0' := Za (below_drewN B0.out nq)
  have V0' : Hid (Wv (w2.drewN nq) w.heap.size k o a (v0, v1, v2) (.slice aa na ca)) := V0
  have H7' : Hid (E2 (w2.drewN nq) p) := Za (H7.out.below (Nat.le_refl _) (below_drewN (Below.refl _ _) nq))
  have U0' : Hid ((w2.drewN nq).cell? ⟨g, 0, none⟩ = some (P_ gs)) := U0
  have AR' := Za (AR.out.keep (w' := w2.drewN nq) (fun _ _ => rfl) (fun _ h => h))
  clear HU B0 V0 H7 U0 AR q0 q1 q2 q3 q4 q5 q6 u0
  have HU := HU'
  have B0 := B0'
  have V0 := V0'
  have H7 := H7'
  have U0 := U0'
  have AR := AR'
  clear HU' B0' V0' H7' U0' AR'
  generalize w2.drewN nq = w3 at *
  obtain ⟨q0, q1, q2, q3, q4, q5, q6⟩ := V0.out.all
  have u0 := U0.out
  have KG : Hid (g < w.heap.size) := Za hgl
  have NF : Hid (¬ Fs w.heap.size) := Za (fun e => NG.out ((HG.out _).2 (.inl e)))
  have KL0 : Hid (∀ k ∈ [g, w.heap.size], k < w3.drew.heap.size) := Za (fun k hk => by
    show k < w3.heap.size
    have h1 := V0.out.lt
    simp only [List.mem_cons, List.mem_nil_iff, or_false] at hk
    have h2 := hgl
    rcases hk with rfl | rfl <;> omega)
  go_upto_region 1 with fail
  go_cut [5] from 16 to 21 (fun x5 wc => ∃ bl G', x5 = P_ bl /\ Hid ((Rn wc G' g S { r with s := sh.1 } /\ Ch G G' w wc) /\ Val wc bl sh.2.1 sh.2.2.1 sh.2.2.2 /\ (Wv wc w.heap.size k o a (v0, v1, v2) (.slice aa na ca) /\ ¬ G' w.heap.size /\ ¬ G' bl)))
  case first =>
    refine wp_region_held_drew (S := fun w' => Yp [g, w.heap.size] w3.drew w') ZJ (Yp.refl KL0.out) (fun hH => ?_)
    have HU' := Za (HU.out.bel (w' := w3.drew) (below_drewN (Below.refl _ _) 1))
    have B0' := Za (Zp B0.out)
    have H7' : Hid (E2 w3.drew p) := Za (H7.out.below (Nat.le_refl _) (below_drewN (Below.refl _ _) 1))
    have V0' : Hid (Wv w3.drew w.heap.size k o a (v0, v1, v2) (.slice aa na ca)) := V0
    have U0' : Hid (w3.drew.cell? ⟨g, 0, none⟩ = some (P_ gs)) := U0
    clear HU B0 H7 V0 U0 q0 q1 q2 q3 q4 q5 q6 u0 AR
    have HU := HU'
    have B0 := B0'
    have H7 := H7'
    have V0 := V0'
    have U0 := U0'
    clear HU' B0' H7' V0' U0'
    generalize w3.drew = Y0 at *
    refine H2_ 0 hH ?_
    simp only [Act.put, S_]
    refine H2_ 1 hH ?_
    simp only [Act.put, S_]
    refine H2_ 2 hH ?_
    simp only [Act.put, S_]
    refine H_ 3 (v := ?_) ?_ hH ?_
    rotate_left 1
    · (intro w hSw; have q := hSw.cell (by simp) U0.out; clear hSw; go_simp <;> with_reducible rfl)
    simp only [Act.put, S_]
    refine H_ 4 (v := ?_) ?_ hH ?_
    rotate_left 1
    · (intro w hSw; obtain ⟨z0, z1, z2, z3, z4, z5, z6⟩ := V0.out.all; have q0 := hSw.cell (by simp) z0; have q1 := hSw.cell (by simp) z1; have q2 := hSw.cell (by simp) z2; have q3 := hSw.cell (by simp) z3; have q4 := hSw.cell (by simp) z4; have q5 := hSw.cell (by simp) z5; have q6 := hSw.cell (by simp) z6; clear hSw; go_simp <;> with_reducible rfl)
    simp only [Act.put, S_]
    refine wpAnyH_ready (rs := [5, 6]) (by kernel_rfl) (by decide) ?_
    refine AllReadyH.cons rfl (fun K1 hK1 => ?_) (AllReadyH.cons rfl (fun K1 hK1 => ?_) AllReadyH.nil)
    · have hH0 : w.heap.size < Y0.heap.size := by have h1 := hH.1; have h2 := hH.2.1 w.heap.size (by simp); omega
      go_simp
      refine (SH.out Y0 HU.out.st H7.out).mono ?_
      rintro e Y1 ⟨rfl, Fs', st, ch⟩
      have hU := HU.out.state st ch SM.out
      refine hK1.out _ _ (hH.ch ch (fun k hk => by
        simp only [List.mem_cons, List.mem_nil_iff, or_false] at hk
        rcases hk with rfl | rfl
        · exact fun e => HU.out.so _ e HU.out.fg
        · exact fun e => NF.out e)) (fun hH => ?_)
      clear hK1 K1
      have HQ := Za (And.intro hU ((Ch.of_bel B0.out).trans (ch.wide (G := G) (G' := fun k => Fs' k ∨ Fo k ∨ R k) (fun k hk => (HG.out k).2 (.inl hk)) (fun k hk => by
        rcases hk with h1 | h1 | h1
        · rcases ch.grow k h1 with h2 | h2
          · exact .inl ((HG.out k).2 (.inl h2))
          · exact .inr h2
        · exact .inl ((HG.out k).2 (.inr (.inl h1)))
        · exact .inl ((HG.out k).2 (.inr (.inr h1))))))) 
      have GL : Hid (¬ Fs' w.heap.size) := Za (fun hF => by
        rcases ch.grow _ hF with h2 | h2
        · exact NF.out h2
        · have h1 := hH.1
          have h3 := hH.2.1 w.heap.size (by simp)
          have h4 := hH0
          omega)
      clear st ch hU HU B0 H7 hH0
      refine RH_ 6 (fun K1 hK1 => ?_)
      have A2 := Zd Y1 (.cells #[I_ 0, I_ 0, .int .u64 0] 64)
      have N2 := Val.new Y1 0 0 0
      have L0 : w.heap.size < Y1.heap.size := by have h1 := hH.1; have h2 := hH.2.1 w.heap.size (by simp); omega
      go_simp
      refine hK1.out _ _ (hH.al A2) (fun hH => ?_)
      clear hK1 K1
      obtain ⟨bl, hbl⟩ : ∃ bl, Y1.heap.size = bl := ⟨_, rfl⟩
      rw [hbl] at N2 L0 ⊢
      have LB := Za L0
      have ZB := Za N2
      have GB : Hid (¬ (Fs' bl ∨ Fo bl ∨ R bl)) := Za (fun hF => absurd (HQ.out.1.lt hF) (by omega))
      have HQ' := Za (And.intro (HQ.out.1.bel A2) (HQ.out.2.trans (Ch.of_bel A2)))
      clear HQ
      have HQ := HQ'
      clear HQ'
      clear A2 N2 L0 hbl
      generalize Y1.alloc _ = Y2 at *
      refine RH_ 7 (fun K1 hK1 => ?_)
      obtain ⟨⟨f0, f1, f2⟩, e0, e1, e2⟩ := ZB.out.all
      have BB : Below w.heap.size Y2 (((Y2.setCell ⟨bl, 0, none⟩ (I_ sh.2.1)).setCell ⟨bl, 1, none⟩ (I_ sh.2.2.1)).setCell ⟨bl, 2, none⟩ (.int .u64 sh.2.2.2)) := Zt (Below.refl _ _) (Nat.le_of_lt LB.out) _ _ _
      have OO_ : ∀ k, k ≠ bl -> (((Y2.setCell ⟨bl, 0, none⟩ (I_ sh.2.1)).setCell ⟨bl, 1, none⟩ (I_ sh.2.2.1)).setCell ⟨bl, 2, none⟩ (.int .u64 sh.2.2.2)).heap[k]? = Y2.heap[k]? := fun k hk => ne3 hk
      have SS : Y2.heap.size = (((Y2.setCell ⟨bl, 0, none⟩ (I_ sh.2.1)).setCell ⟨bl, 1, none⟩ (I_ sh.2.2.1)).setCell ⟨bl, 2, none⟩ (.int .u64 sh.2.2.2)).heap.size := by simp only [Zi]
      have EE : Val (((Y2.setCell ⟨bl, 0, none⟩ (I_ sh.2.1)).setCell ⟨bl, 1, none⟩ (I_ sh.2.2.1)).setCell ⟨bl, 2, none⟩ (.int .u64 sh.2.2.2)) bl sh.2.1 sh.2.2.1 sh.2.2.2 := ZB.out.set _ _ _
      go_simp
      refine hK1.out _ _ (hH.turn (t := bl) (Nat.le_of_eq SS) (fun k _ hk => OO_ k hk) (fun hm => by have := LB.out; have := KG.out; simp at hm; omega)) (fun hH => ?_)
      clear hK1 K1 f0 f1 f2 e0 e1 e2
      have RN9 := Za (And.intro (HQ.out.1.rn.keep (w' := (((Y2.setCell ⟨bl, 0, none⟩ (I_ sh.2.1)).setCell ⟨bl, 1, none⟩ (I_ sh.2.2.1)).setCell ⟨bl, 2, none⟩ (.int .u64 sh.2.2.2))) (fun k hk => OO_ k (fun e => GB.out (e ▸ hk))) (Nat.le_of_eq SS)) (HQ.out.2.below BB))
      have ZV := Za EE
      have WV := Za (show Wv (((Y2.setCell ⟨bl, 0, none⟩ (I_ sh.2.1)).setCell ⟨bl, 1, none⟩ (I_ sh.2.2.1)).setCell ⟨bl, 2, none⟩ (.int .u64 sh.2.2.2)) w.heap.size k o a (v0, v1, v2) (.slice aa na ca) from (hH.2.2 w.heap.size (by simp)).trans V0.out)
      have NL : Hid (¬ (Fs' w.heap.size ∨ Fo w.heap.size ∨ R w.heap.size)) := Za (fun hF => by
        rcases hF with h1 | h1
        · exact GL.out h1
        · exact NG.out ((HG.out _).2 (.inr h1)))
      clear BB OO_ SS EE hH
      generalize (((Y2.setCell ⟨bl, 0, none⟩ (I_ sh.2.1)).setCell ⟨bl, 1, none⟩ (I_ sh.2.2.1)).setCell ⟨bl, 2, none⟩ (.int .u64 sh.2.2.2)) = Y3 at *
      refine wpAnyH_done (by kernel_rfl) ?_ _
      go_wp2_with fail
      go_meet
      case rel => exact ⟨bl, _, rfl, Za ⟨RN9.out, ZV.out, WV.out, NL.out, GB.out⟩⟩
    · have A1 := Zd Y0 (.cells #[I_ 0, I_ 0, .int .u64 0] 64)
      have N1 := Val.new Y0 0 0 0
      have L0 : w.heap.size < Y0.heap.size := by have h1 := hH.1; have h2 := hH.2.1 w.heap.size (by simp); omega
      go_simp
      refine hK1.out _ _ (hH.al A1) (fun hH => ?_)
      clear hK1 K1
      obtain ⟨bl, hbl⟩ : ∃ bl, Y0.heap.size = bl := ⟨_, rfl⟩
      rw [hbl] at N1 L0 ⊢
      have LB := Za L0
      have ZB := Za N1
      have GB0 : Hid (¬ (Fs bl ∨ Fo bl ∨ R bl)) := Za (fun hF => absurd (HU.out.lt hF) (by omega))
      have HU' := Za (HU.out.bel A1)
      have B0' := Za (Zg B0.out A1)
      have H7' := Za (H7.out.below (Nat.le_refl _) A1)
      clear HU B0 H7
      have HU := HU'
      have B0 := B0'
      have H7 := H7'
      clear HU' B0' H7'
      clear A1 N1 L0 hbl
      generalize Y0.alloc _ = Y1 at *
      refine RH_ 5 (fun K1 hK1 => ?_)
      have hH0 : w.heap.size < Y1.heap.size := by have h1 := hH.1; have h2 := hH.2.1 w.heap.size (by simp); omega
      go_simp
      refine (SH.out Y1 HU.out.st H7.out).mono ?_
      rintro e Y2 ⟨rfl, Fs', st, ch⟩
      have hU := HU.out.state st ch SM.out
      refine hK1.out _ _ (hH.ch ch (fun k hk => by
        simp only [List.mem_cons, List.mem_nil_iff, or_false] at hk
        rcases hk with rfl | rfl
        · exact fun e => HU.out.so _ e HU.out.fg
        · exact fun e => NF.out e)) (fun hH => ?_)
      clear hK1 K1
      have HQ := Za (And.intro hU ((Ch.of_bel B0.out).trans (ch.wide (G := G) (G' := fun k => Fs' k ∨ Fo k ∨ R k) (fun k hk => (HG.out k).2 (.inl hk)) (fun k hk => by
        rcases hk with h1 | h1 | h1
        · rcases ch.grow k h1 with h2 | h2
          · exact .inl ((HG.out k).2 (.inl h2))
          · exact .inr h2
        · exact .inl ((HG.out k).2 (.inr (.inl h1)))
        · exact .inl ((HG.out k).2 (.inr (.inr h1))))))) 
      have GL : Hid (¬ Fs' w.heap.size) := Za (fun hF => by
        rcases ch.grow _ hF with h2 | h2
        · exact NF.out h2
        · have h1 := hH.1
          have h3 := hH.2.1 w.heap.size (by simp)
          have h4 := hH0
          omega)
      have GB : Hid (¬ (Fs' bl ∨ Fo bl ∨ R bl)) := Za (fun hF => by
        rcases hF with h1 | h1
        · rcases ch.grow _ h1 with h2 | h2
          · exact GB0.out (.inl h2)
          · exact absurd ZB.out.lt (by omega)
        · exact GB0.out (.inr h1))
      have ZB' : Hid (Val Y2 bl 0 0 0) := Za ((ch.blk bl ZB.out.lt (fun e => GB0.out (.inl e))).trans ZB.out)
      clear ZB
      have ZB := ZB'
      clear ZB'
      clear st ch hU HU B0 H7 hH0
      refine RH_ 7 (fun K1 hK1 => ?_)
      obtain ⟨⟨f0, f1, f2⟩, e0, e1, e2⟩ := ZB.out.all
      have BB : Below w.heap.size Y2 (((Y2.setCell ⟨bl, 0, none⟩ (I_ sh.2.1)).setCell ⟨bl, 1, none⟩ (I_ sh.2.2.1)).setCell ⟨bl, 2, none⟩ (.int .u64 sh.2.2.2)) := Zt (Below.refl _ _) (Nat.le_of_lt LB.out) _ _ _
      have OO_ : ∀ k, k ≠ bl -> (((Y2.setCell ⟨bl, 0, none⟩ (I_ sh.2.1)).setCell ⟨bl, 1, none⟩ (I_ sh.2.2.1)).setCell ⟨bl, 2, none⟩ (.int .u64 sh.2.2.2)).heap[k]? = Y2.heap[k]? := fun k hk => ne3 hk
      have SS : Y2.heap.size = (((Y2.setCell ⟨bl, 0, none⟩ (I_ sh.2.1)).setCell ⟨bl, 1, none⟩ (I_ sh.2.2.1)).setCell ⟨bl, 2, none⟩ (.int .u64 sh.2.2.2)).heap.size := by simp only [Zi]
      have EE : Val (((Y2.setCell ⟨bl, 0, none⟩ (I_ sh.2.1)).setCell ⟨bl, 1, none⟩ (I_ sh.2.2.1)).setCell ⟨bl, 2, none⟩ (.int .u64 sh.2.2.2)) bl sh.2.1 sh.2.2.1 sh.2.2.2 := ZB.out.set _ _ _
      go_simp
      refine hK1.out _ _ (hH.turn (t := bl) (Nat.le_of_eq SS) (fun k _ hk => OO_ k hk) (fun hm => by have := LB.out; have := KG.out; simp at hm; omega)) (fun hH => ?_)
      clear hK1 K1 f0 f1 f2 e0 e1 e2
      have RN9 := Za (And.intro (HQ.out.1.rn.keep (w' := (((Y2.setCell ⟨bl, 0, none⟩ (I_ sh.2.1)).setCell ⟨bl, 1, none⟩ (I_ sh.2.2.1)).setCell ⟨bl, 2, none⟩ (.int .u64 sh.2.2.2))) (fun k hk => OO_ k (fun e => GB.out (e ▸ hk))) (Nat.le_of_eq SS)) (HQ.out.2.below BB))
      have ZV := Za EE
      have WV := Za (show Wv (((Y2.setCell ⟨bl, 0, none⟩ (I_ sh.2.1)).setCell ⟨bl, 1, none⟩ (I_ sh.2.2.1)).setCell ⟨bl, 2, none⟩ (.int .u64 sh.2.2.2)) w.heap.size k o a (v0, v1, v2) (.slice aa na ca) from (hH.2.2 w.heap.size (by simp)).trans V0.out)
      have NL : Hid (¬ (Fs' w.heap.size ∨ Fo w.heap.size ∨ R w.heap.size)) := Za (fun hF => by
        rcases hF with h1 | h1
        · exact GL.out h1
        · exact NG.out ((HG.out _).2 (.inr h1)))
      clear BB OO_ SS EE hH
      generalize (((Y2.setCell ⟨bl, 0, none⟩ (I_ sh.2.1)).setCell ⟨bl, 1, none⟩ (I_ sh.2.2.1)).setCell ⟨bl, 2, none⟩ (.int .u64 sh.2.2.2)) = Y3 at *
      refine wpAnyH_done (by kernel_rfl) ?_ _
      go_wp2_with fail
      go_meet
      case rel => exact ⟨bl, _, rfl, Za ⟨RN9.out, ZV.out, WV.out, NL.out, GB.out⟩⟩
  case rest =>
    clear HU B0 H7 V0 U0 q0 q1 q2 q3 q4 q5 q6 u0 AR KL0 SH SM NF
    obtain ⟨bl, G', rfl, CU⟩ := hcut
    obtain ⟨q0, q1, q2, q3, q4, q5, q6⟩ := CU.out.2.2.1.all
    have NO := Za (note_any CU.out.1.1 i _ HX.out o (by have := HL.out; show r.ev.length <= 100000; omega))
    have hlb := CU.out.2.1.lt
    have NBL := Za CU.out.2.2.2.2
    go_wp2_with fail
    refine NO.out.mono ?_
    rintro e w8 ⟨rfl, G8, rn8, c8⟩
    have HX8 := Za (show (ZI { r with s := sh.1 } i o).gs[i]? = _ from (congrArg (fun l => l[i]?) (note_gs _ i o)).trans HX.out)
    have AK := Za (ask_any rn8 i _ HX8.out sh.2.1 sh.2.2.1 sh.2.2.2)
    have C8 := Za (CU.out.1.2.trans c8)
    have V8 : Hid (Val w8 bl sh.2.1 sh.2.2.1 sh.2.2.2) := Za ((c8.blk bl CU.out.2.1.lt NBL.out).trans CU.out.2.1)
    clear rn8 c8 NO q0 q1 q2 q3 q4 q5 q6 CU
    obtain ⟨_, e0, e1, e2⟩ := V8.out.all
    go_wp2_with fail
    refine AK.out.mono ?_
    rintro e w9 ⟨rfl, G9, rn9, c9⟩
    have Z := Za (And.intro rn9 (C8.out.trans c9))
    clear rn9 c9 AK
    go_wp2_with fail
    go_end0
    exact RnP.mk rfl Z.out.1 Z.out.2
end Go.Proofs.YtfojninaginnoaaGreatDoor.Ck
