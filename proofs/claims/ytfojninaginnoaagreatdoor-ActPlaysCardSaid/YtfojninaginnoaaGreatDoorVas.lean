/- Texts of this proof, packed: contracts of the program's functions, and the plain model that they are held against. -/
import Derived.Test.YtfojninaginnoaaGreatDoorVar
set_option maxRecDepth 20000
set_option maxHeartbeats 4000000
namespace Go.Proofs.YtfojninaginnoaaGreatDoor.Ck
open Go.RowKit
theorem same_head {w : World} {G Gm : Nat -> Prop} {B g gm : Nat} {S : List (List Wt)} {r : Rm} {p : List Addr} (h7 : E2 w p) (h : Rn w G g S r) (hm : Rr w Gm B gm S r.z) (hs : endR r = r.e) (hl : r.ev.length <= 90000) (hB : B <= 1000000) :
    Calls Tryz.prog 8 #[P_ g, P_ gm] w (Vb w (.bool true)) := by
  have HR := Za h
  have H7 := Za h7
  have HMR := Za hm
  have HS := Za hs
  have HB := Za hB
  have HL := Za hl
  have hgs : r.gs.length <= 8 := by
    obtain ⟨_, _, _, _, _, _, _, _, _, _, h, _⟩ := h
    exact h.n8
  have HF := Za (runn_fits r (by omega))
  obtain ⟨ne, hne⟩ : ∃ n, n = r.ev.length := ⟨_, rfl⟩
  obtain ⟨ng, hng⟩ : ∃ n, n = r.gs.length := ⟨_, rfl⟩
  have WC : Hid (∀ (W : World), Rn W G g S r -> Calls Tryz.prog 28 #[P_ g] W fun e w' => ∃ a c, e = .returned (.slice a ng c) /\ (∀ (i : Nat) (x : Wt), r.z.ws[i]? = some x -> ∃ b, a = some ⟨b, 0, none⟩ /\ b < w'.heap.size /\ w'.cell? ⟨b, i * 7, none⟩ = some (I_ x.k) /\ w'.cell? ⟨b, i * 7 + 1, none⟩ = some (I_ x.o) /\ w'.cell? ⟨b, i * 7 + 2, none⟩ = some (I_ x.a) /\ w'.cell? ⟨b, i * 7 + 3, none⟩ = some (I_ x.v.1) /\ w'.cell? ⟨b, i * 7 + 4, none⟩ = some (I_ x.v.2.1) /\ w'.cell? ⟨b, i * 7 + 5, none⟩ = some (.int .u64 x.v.2.2)) /\ Below W.heap.size W w') := Za (fun W h => (Waits_any h).mono fun e w' ⟨a, c, vas, h1, lv, o, hb⟩ => ⟨a, c, by rw [h1, List.length_map, hng], fun i x hx => by
    have hi : i < (r.gs.map Gr.w).length := (G_ hx)
    obtain ⟨b, c', eb, _⟩ := Zq o (by omega)
    cases eb
    have hv := List.getElem?_eq_getElem (l := vas) (i := i) (by omega)
    have a0 := (Zk o _ _ (wrows_at _ vas i 0 x _ _ hx hv rfl)).1
    have a1 := (Zk o _ _ (wrows_at _ vas i 1 x _ _ hx hv rfl)).1
    have a2 := (Zk o _ _ (wrows_at _ vas i 2 x _ _ hx hv rfl)).1
    have a3 := (Zk o _ _ (wrows_at _ vas i 3 x _ _ hx hv rfl)).1
    have a4 := (Zk o _ _ (wrows_at _ vas i 4 x _ _ hx hv rfl)).1
    have a5 := (Zk o _ _ (wrows_at _ vas i 5 x _ _ hx hv rfl)).1
    rw [Nat.mul_comm 7 i] at a0 a1 a2 a3 a4 a5
    exact ⟨b, rfl, (Zf o (k := b) rfl).2.1, a0, a1, a2, a3, a4, a5⟩, hb⟩)
  have CC : Hid (∀ (W : World), Rn W G g S r -> Calls Tryz.prog 21 #[P_ g] W fun e w' => e = .returned (I_ (ne : Nat)) /\ W = w') := Za (fun W h => by
    have := Count_any h
    rw [← hne] at this
    exact this)
  have SE : Hid (∀ (W : World) (va vb : Value), EvS W va r.ev -> EvS W vb r.ev -> Calls Tryz.prog 24 #[va, vb] W (Vb W (.bool true))) := Za (fun W va vb h1 h2 => by
    have := SameEvents_any h1 h2
    rw [(evsB_iff _ _).2 rfl] at this
    exact this)
  have RD : Hid (∀ W, Rr W Gm B gm S r.z -> Calls Tryz.prog 27 #[P_ gm] W (RunnP W (runnR r))) := Za (fun W hr => by
    have := rRunnable_any hr hB
    rw [show r.z.ws.length = r.gs.length by simp [Rm.z], runZ_eq hs] at this
    exact this)
  have SI : Hid (∀ (W : World) (va vb : Value), Sl W va (runnR r) -> Sl W vb (runnR r) -> Calls Tryz.prog 26 #[va, vb] W (Vb W (.bool true))) := Za (fun W va vb h1 h2 => by
    have := sameInts_any va vb _ _ W h1 h2
    rw [show sameB (runnR r) (runnR r) = true from decide_eq_true rfl] at this
    exact this)
  obtain ⟨Fs, Rs, Fo, R, gs, gt, vW, vE, vL, vO, vA, vs, os, as_, q, hG⟩ := hm
  obtain ⟨aE, cE, eE, _⟩ := Zl q.ev
  subst eE
  have eev : r.z.ev = r.ev := rfl
  rw [eev, ← hne] at q
  obtain ⟨aW, cW, eW, _⟩ := Zl q.wa
  subst eW
  have ews : r.z.ws.length = ng := by simp [Rm.z, hng]
  rw [ews] at q
  have HMW : Hid (∀ wz, Below w.heap.size w wz -> wz.cell? ⟨gm, 1, none⟩ = some (.slice aW ng cW)) := Za (fun wz hb => (q.bel hb).cells.1.2.1)
  have HNG := Za ews
  have WM : Hid (∀ wz, Below w.heap.size w wz -> ∀ (i : Nat) (x : Wt), r.z.ws[i]? = some x -> ∃ b, aW = some ⟨b, 0, none⟩ /\ b < wz.heap.size /\ wz.cell? ⟨b, i * 6, none⟩ = some (I_ x.k) /\ wz.cell? ⟨b, i * 6 + 1, none⟩ = some (I_ x.o) /\ wz.cell? ⟨b, i * 6 + 2, none⟩ = some (I_ x.a) /\ wz.cell? ⟨b, i * 6 + 3, none⟩ = some (I_ x.v.1) /\ wz.cell? ⟨b, i * 6 + 4, none⟩ = some (I_ x.v.2.1) /\ wz.cell? ⟨b, i * 6 + 5, none⟩ = some (.int .u64 x.v.2.2)) := Za (fun wz hb i x hx => by
    obtain ⟨b, c, e, h1, h2⟩ := (q.bel hb).waitAt i x hx
    injection e with e1
    exact ⟨b, e1, h1, h2⟩)
  have HM : Hid (∀ wz, Below w.heap.size w wz -> wz.cell? ⟨gm, 2, none⟩ = some (.slice aE ne cE) /\ wz.cell? ⟨gm, 3, none⟩ = some (I_ r.e.o) /\ wz.cell? ⟨gm, 4, none⟩ = some (I_ r.e.f) /\ wz.cell? ⟨gm, 5, none⟩ = some (I_ r.e.g) /\ wz.cell? ⟨gm, 6, none⟩ = some (I_ r.e.n) /\ wz.cell? ⟨gm, 7, none⟩ = some (I_ r.e.a)) := Za (fun wz hb => ⟨(q.bel hb).cells.1.2.2.1, (q.bel hb).cells.2.1⟩)
  have EVM : Hid (∀ wz, Below w.heap.size w wz -> EvS wz (.slice aE ne cE) r.ev) := Za (fun wz hb => by
    have o := (q.bel hb).ev
    rw [hne] at o ⊢
    exact EvS.of_own o)
  have B0 : Hid (Below w.heap.size w w.drew) := Za (below_drewN (Below.refl _ _) 1)
  have NE : ∀ w, (binOp .neq 37 (.agg #[I_ r.e.o, I_ r.e.f, I_ r.e.g, I_ r.e.n, I_ r.e.a]) (.agg #[I_ r.e.o, I_ r.e.f, I_ r.e.g, I_ r.e.n, I_ r.e.a])).run Tryz.prog w = .ok (.bool false) w := fun w => by
    rw [neq_en]
    simp
  have hne0 : ne <= 90000 := by omega
  have hn8 : ng <= 8 := by omega
  clear h h7 q hG hne eev hl hng ews
  go_enter Tryz.func8, Tryz.ntmps8
  go_upto_region 1 with fail
  refine ZD (S := fun wz => Below w.heap.size w wz) (fun _ => true) ZJ B0.out (fun hH => ?_)
  refine M_ 0 ?_
  simp only [Act.put, S_]
  refine M_ 2 ?_
  simp only [Act.put, S_]
  refine M_ 3 ?_
  simp only [Act.put, S_]
  refine M_ 4 ?_
  simp only [Act.put, S_]
  refine M_ 5 ?_
  simp only [Act.put, S_]
  refine L_ 6 (v := ?_) ?_ hH ?_
  rotate_left 1
  · (intro w hSw; obtain ⟨q0, q1, q2, q3, q4⟩ := (HM.out _ hSw).2; clear hSw; go_simp <;> with_reducible rfl)
  simp only [Act.put, S_]
  refine RT_ 1 (fun K1 hK1 => ?_)
  have CT := Za (End_any (HR.out.bel B0.out) (H7.out.below (Nat.le_refl _) B0.out))
  go_simp
  refine CT.out.mono ?_
  rintro e w1 ⟨rfl, b9⟩
  have B1 := Za (Zg B0.out b9)
  refine hK1.out _ _ (fun _ => B1.out) (fun hh => ?_)
  replace hH := hh rfl
  clear hK1 K1 CT hh
  rw [HS.out]
  unfold EnV
  refine M_ 7 ?_
  simp only [Act.put, S_]
  refine M_ 8 ?_
  simp only [Act.put, S_]
  refine M_ 9 ?_
  simp only [Act.put, S_]
  refine M_ 11 ?_
  simp only [Act.put, S_]
  refine M_ 12 ?_
  simp only [Act.put, S_]
  refine M_ 13 ?_
  simp only [Act.put, S_]
  refine M_ 14 ?_
  simp only [Act.put, S_]
  refine L_ 15 (v := ?_) ?_ hH ?_
  rotate_left 1
  · (intro w hSw; have q := (HM.out _ hSw).1; clear hSw; go_simp <;> with_reducible rfl)
  simp only [Act.put, S_]
  refine M_ 16 ?_
  simp only [Act.put, S_]
  refine RT_ 10 (fun K1 hK1 => ?_)
  have CT := Za (CC.out _ (HR.out.bel B1.out))
  go_simp
  refine CT.out.mono ?_
  rintro e w10 ⟨rfl, rfl⟩
  refine hK1.out _ _ (fun _ => B1.out) (fun hh => ?_)
  replace hH := hh rfl
  clear hK1 K1 CT hh
  refine M_ 17 ?_
  simp only [Act.put, S_]
  refine M_ 18 ?_
  simp only [Act.put, S_]
  refine M_ 19 ?_
  simp only [Act.put, S_]
  refine M_ 20 ?_
  simp only [Act.put, S_]
  refine M_ 22 ?_
  simp only [Act.put, S_]
  refine M_ 23 ?_
  simp only [Act.put, S_]
  refine M_ 24 ?_
  simp only [Act.put, S_]
  refine M_ 25 ?_
  simp only [Act.put, S_]
  refine L_ 26 (v := ?_) ?_ hH ?_
  rotate_left 1
  · (intro w hSw; have q := (HM.out _ hSw).1; clear hSw; go_simp <;> with_reducible rfl)
  simp only [Act.put, S_]
  refine RT_ 21 (fun K1 hK1 => ?_)
  have CT := Za (Events_any (HR.out.bel B1.out) (by have := HL.out; omega))
  go_simp
  refine CT.out.mono ?_
  rintro e w21 ⟨a9, c9, rfl, o9, b9⟩
  have B2 := Za (Zg B1.out b9)
  refine hK1.out _ _ (fun _ => B2.out) (fun hh => ?_)
  replace hH := hh rfl
  clear hK1 K1 CT hh
  have V9 := Za (EvS.of_own o9)
  clear o9 b9
  refine RT_ 27 (fun K1 hK1 => ?_)
  have CT := Za (SE.out _ _ _ V9.out (EVM.out _ B2.out))
  go_simp
  refine CT.out.mono ?_
  rintro e w27 ⟨rfl, b9⟩
  have B3 := Za (Zg B2.out b9)
  refine hK1.out _ _ (fun _ => B3.out) (fun hh => ?_)
  replace hH := hh rfl
  clear hK1 K1 CT hh
  clear b9
  refine M_ 28 ?_
  simp only [Act.put, S_]
  refine M_ 29 ?_
  simp only [Act.put, S_]
  refine M_ 30 ?_
  simp only [Act.put, S_]
  refine M_ 31 ?_
  simp only [Act.put, S_]
  refine M_ 33 ?_
  simp only [Act.put, S_]
  refine M_ 34 ?_
  simp only [Act.put, S_]
  refine M_ 35 ?_
  simp only [Act.put, S_]
  refine RT_ 32 (fun K1 hK1 => ?_)
  have CT := Za (Runnable_any (HR.out.bel B3.out) (H7.out.below (Nat.le_refl _) B3.out))
  go_simp
  refine CT.out.mono ?_
  rintro e w32 ⟨a10, c10, rfl, o10, b9⟩
  have B4 := Za (Zg B3.out b9)
  refine hK1.out _ _ (fun _ => B4.out) (fun hh => ?_)
  replace hH := hh rfl
  clear hK1 K1 CT hh
  have S9 := Za (Sl.of_own o10 HF.out)
  clear o10 b9
  refine RT_ 36 (fun K1 hK1 => ?_)
  have CT := Za (RD.out _ (HMR.out.bel B4.out))
  go_simp
  refine CT.out.mono ?_
  rintro e w36 ⟨a11, c11, rfl, o11, b9⟩
  have B5 := Za (Zg B4.out b9)
  refine hK1.out _ _ (fun _ => B5.out) (fun hh => ?_)
  replace hH := hh rfl
  clear hK1 K1 CT hh
  have S10 := Za (S9.out.below (Nat.le_refl _) b9)
  have S11 := Za (Sl.of_own o11 HF.out)
  clear o11 b9 S9
  refine RT_ 37 (fun K1 hK1 => ?_)
  have CT := Za (SI.out _ _ _ S10.out S11.out)
  go_simp
  refine CT.out.mono ?_
  rintro e w37 ⟨rfl, b9⟩
  have B6 := Za (Zg B5.out b9)
  refine hK1.out _ _ (fun _ => B6.out) (fun hh => ?_)
  replace hH := hh rfl
  clear hK1 K1 CT hh
  clear b9
  refine M_ 38 ?_
  simp only [Act.put, S_]
  refine M_ 39 ?_
  simp only [Act.put, S_]
  have RN6 := Za (HR.out.bel B6.out)
  refine ZW (by kernel_rfl) ?_ _
  have HM2 := Za (HM.out _ B6.out)
  clear hH HR HMR H7 HS HB HL HF CC SE SI RD EVM NE V9 S10 S11 hs hB
  go_wp2_with fail
  refine (WC.out _ RN6.out).mono ?_
  rintro e w50 ⟨a12, c12, rfl, sw, b9⟩
  have WS := Za sw
  have B7 := Za (Zg B6.out b9)
  clear sw b9 WC RN6 HM2
  have m3 := (HM.out _ B7.out).2.1
  have m1 := HMW.out _ B7.out
  have WM7 := Za (WM.out _ B7.out)
  clear HM HMW WM B0 B1 B2 B3 B4 B5 B6
  by_cases h3 : r.e.o = 3
  · rw [h3] at m3
    go_wp2_with fail
    go_ret
    exact ⟨by simp, B7.out⟩
  · have h3' : (r.e.o == 3) = false := by simp [h3]
    go_wp2_with fail
    go_loopw [81] (fun q wr => ∃ k : Nat, k <= ng /\ q = I_ k /\ Hid (Below w50.heap.size w50 wr)) (fun q _ => ng - (intOf q).toNat)
    case atStart => exact ⟨0, Nat.zero_le _, rfl, Za (Below.refl _ _)⟩
    case round =>
      obtain ⟨k, hk, rfl, HI⟩ := hrel
      by_cases hlt : k < ng
      · have hlt' : (k : Int) < (ng : Int) := by omega
        obtain ⟨x, hx⟩ : ∃ x, r.z.ws[k]? = some x := ⟨_, List.getElem?_eq_getElem (by rw [HNG.out]; exact hlt)⟩
        obtain ⟨b, rfl, hbl, l0, l1, l2, l3, l4, l5⟩ := WS.out k x hx
        obtain ⟨bm, rfl, hbm, p0, p1, p2, p3, p4, p5⟩ := WM7.out k x hx
        obtain ⟨xk, xo, xa, xv0, xv1, xv2⟩ := x
        simp only at l0 l1 l2 l3 l4 l5 p0 p1 p2 p3 p4 p5
        have u0 := (HI.out.cell (p := ⟨bm, k * 6, none⟩) hbm).trans p0
        have u1 := (HI.out.cell (p := ⟨bm, k * 6 + 1, none⟩) hbm).trans p1
        have u2 := (HI.out.cell (p := ⟨bm, k * 6 + 2, none⟩) hbm).trans p2
        have u3 := (HI.out.cell (p := ⟨bm, k * 6 + 3, none⟩) hbm).trans p3
        have u4 := (HI.out.cell (p := ⟨bm, k * 6 + 4, none⟩) hbm).trans p4
        have u5 := (HI.out.cell (p := ⟨bm, k * 6 + 5, none⟩) hbm).trans p5
        have HBL := Za hbl
        have LL := Za (show _ /\ _ /\ _ /\ _ /\ _ /\ _ from ⟨l0, l1, l2, l3, l4, l5⟩)
        clear l0 l1 l2 l3 l4 l5 hx hbl hbm m1 m3 p0 p1 p2 p3 p4 p5
        go_upto_region 11 with fail
        have HW : Hid (Below w50.heap.size w50 (wr.alloc (.cells #[I_ xk, I_ xo, I_ xa, I_ xv0, I_ xv1, .int .u64 xv2] 76)).drew) := Za (Zp (Zg HI.out (Zd wr (.cells #[I_ xk, I_ xo, I_ xa, I_ xv0, I_ xv1, .int .u64 xv2] 76))))
        have KB := Za (B_ wr (.cells #[I_ xk, I_ xo, I_ xa, I_ xv0, I_ xv1, .int .u64 xv2] 76))
        refine ZD (S := fun wz => (wz.cell? ⟨b, k * 7, none⟩ = some (I_ xk) /\ wz.cell? ⟨b, k * 7 + 1, none⟩ = some (I_ xo) /\ wz.cell? ⟨b, k * 7 + 2, none⟩ = some (I_ xa) /\ wz.cell? ⟨b, k * 7 + 3, none⟩ = some (I_ xv0) /\ wz.cell? ⟨b, k * 7 + 4, none⟩ = some (I_ xv1) /\ wz.cell? ⟨b, k * 7 + 5, none⟩ = some (.int .u64 xv2)) /\ (wz.cell? ⟨wr.heap.size, 0, none⟩ = some (I_ xk) /\ wz.cell? ⟨wr.heap.size, 1, none⟩ = some (I_ xo) /\ wz.cell? ⟨wr.heap.size, 2, none⟩ = some (I_ xa) /\ wz.cell? ⟨wr.heap.size, 3, none⟩ = some (I_ xv0) /\ wz.cell? ⟨wr.heap.size, 4, none⟩ = some (I_ xv1) /\ wz.cell? ⟨wr.heap.size, 5, none⟩ = some (.int .u64 xv2))) (fun _ => true) ZJ ⟨⟨(HW.out.cell (p := ⟨b, k * 7, none⟩) HBL.out).trans LL.out.1, (HW.out.cell (p := ⟨b, k * 7 + 1, none⟩) HBL.out).trans LL.out.2.1, (HW.out.cell (p := ⟨b, k * 7 + 2, none⟩) HBL.out).trans LL.out.2.2.1, (HW.out.cell (p := ⟨b, k * 7 + 3, none⟩) HBL.out).trans LL.out.2.2.2.1, (HW.out.cell (p := ⟨b, k * 7 + 4, none⟩) HBL.out).trans LL.out.2.2.2.2.1, (HW.out.cell (p := ⟨b, k * 7 + 5, none⟩) HBL.out).trans LL.out.2.2.2.2.2⟩, ⟨Zb KB.out 0 _ rfl, Zb KB.out 1 _ rfl, Zb KB.out 2 _ rfl, Zb KB.out 3 _ rfl, Zb KB.out 4 _ rfl, Zb KB.out 5 _ rfl⟩⟩ (fun hH => ?_)
        clear KB LL
        generalize World.drew _ = wd at *
        refine M_ 0 ?_
        simp only [Act.put, S_]
        refine M_ 1 ?_
        simp only [Act.put, S_]
        refine M_ 2 ?_
        simp only [Act.put, S_]
        refine M_ 3 ?_
        simp only [Act.put, S_]
        refine L_ 4 (v := ?_) ?_ hH ?_
        rotate_left 1
        · (intro w hSw; have hq := hSw; obtain ⟨⟨l0, l1, l2, l3, l4, l5⟩, ⟨q0, q1, q2, q3, q4, q5⟩⟩ := hq; clear hSw; go_simp <;> with_reducible rfl)
        simp only [Act.put, S_]
        refine M_ 5 ?_
        simp only [Act.put, S_]
        refine L_ 6 (v := ?_) ?_ hH ?_
        rotate_left 1
        · (intro w hSw; have hq := hSw; obtain ⟨⟨l0, l1, l2, l3, l4, l5⟩, ⟨q0, q1, q2, q3, q4, q5⟩⟩ := hq; clear hSw; go_simp <;> with_reducible rfl)
        simp only [Act.put, S_]
        refine M_ 7 ?_
        simp only [Act.put, S_]
        refine M_ 8 ?_
        simp only [Act.put, S_]
        refine M_ 9 ?_
        simp only [Act.put, S_]
        refine M_ 10 ?_
        simp only [Act.put, S_]
        refine M_ 11 ?_
        simp only [Act.put, S_]
        refine M_ 12 ?_
        simp only [Act.put, S_]
        refine L_ 13 (v := ?_) ?_ hH ?_
        rotate_left 1
        · (intro w hSw; have hq := hSw; obtain ⟨⟨l0, l1, l2, l3, l4, l5⟩, ⟨q0, q1, q2, q3, q4, q5⟩⟩ := hq; clear hSw; go_simp <;> with_reducible rfl)
        simp only [Act.put, S_]
        refine M_ 14 ?_
        simp only [Act.put, S_]
        refine L_ 15 (v := ?_) ?_ hH ?_
        rotate_left 1
        · (intro w hSw; have hq := hSw; obtain ⟨⟨l0, l1, l2, l3, l4, l5⟩, ⟨q0, q1, q2, q3, q4, q5⟩⟩ := hq; clear hSw; go_simp <;> with_reducible rfl)
        simp only [Act.put, S_]
        refine M_ 16 ?_
        simp only [Act.put, S_]
        refine M_ 17 ?_
        simp only [Act.put, S_]
        refine M_ 18 ?_
        simp only [Act.put, S_]
        refine M_ 19 ?_
        simp only [Act.put, S_]
        refine M_ 20 ?_
        simp only [Act.put, S_]
        refine M_ 21 ?_
        simp only [Act.put, S_]
        refine M_ 22 ?_
        simp only [Act.put, S_]
        refine L_ 23 (v := ?_) ?_ hH ?_
        rotate_left 1
        · (intro w hSw; have hq := hSw; obtain ⟨⟨l0, l1, l2, l3, l4, l5⟩, ⟨q0, q1, q2, q3, q4, q5⟩⟩ := hq; clear hSw; go_simp <;> with_reducible rfl)
        simp only [Act.put, S_]
        refine M_ 24 ?_
        simp only [Act.put, S_]
        refine L_ 25 (v := ?_) ?_ hH ?_
        rotate_left 1
        · (intro w hSw; have hq := hSw; obtain ⟨⟨l0, l1, l2, l3, l4, l5⟩, ⟨q0, q1, q2, q3, q4, q5⟩⟩ := hq; clear hSw; go_simp <;> with_reducible rfl)
        simp only [Act.put, S_]
        refine M_ 26 ?_
        simp only [Act.put, S_]
        refine M_ 27 ?_
        simp only [Act.put, S_]
        refine M_ 28 ?_
        simp only [Act.put, S_]
        refine M_ 29 ?_
        simp only [Act.put, S_]
        refine M_ 30 ?_
        simp only [Act.put, S_]
        refine M_ 31 ?_
        simp only [Act.put, S_]
        refine M_ 32 ?_
        simp only [Act.put, S_]
        refine L_ 33 (v := ?_) ?_ hH ?_
        rotate_left 1
        · (intro w hSw; have hq := hSw; obtain ⟨⟨l0, l1, l2, l3, l4, l5⟩, ⟨q0, q1, q2, q3, q4, q5⟩⟩ := hq; clear hSw; go_simp <;> with_reducible rfl)
        simp only [Act.put, S_]
        refine M_ 34 ?_
        simp only [Act.put, S_]
        refine L_ 35 (v := ?_) ?_ hH ?_
        rotate_left 1
        · (intro w hSw; have hq := hSw; obtain ⟨⟨l0, l1, l2, l3, l4, l5⟩, ⟨q0, q1, q2, q3, q4, q5⟩⟩ := hq; clear hSw; go_simp <;> with_reducible rfl)
        simp only [Act.put, S_]
        have NV : ∀ w, (binOp .neq 64 (.agg #[I_ xv0, I_ xv1, .int .u64 xv2]) (.agg #[I_ xv0, I_ xv1, .int .u64 xv2])).run Tryz.prog w = .ok (.bool false) w := fun w => by rw [neq_vv]; simp
        refine M_ 36 ?_
        simp only [Act.put, S_]
        refine M_ 37 ?_
        simp only [Act.put, S_]
        refine ZW (by kernel_rfl) ?_ _
        go_wp2_with fail
        go_roundw
        case rel => exact ⟨k + 1, by omega, by go_num, HW⟩
        case measure => simp [intOf]; omega
      · obtain rfl : k = ng := by omega
        go_wp2_with fail
        go_ret
        exact ⟨rfl, Zg B7.out HI.out⟩
theorem Ym.e3 {w : World} {p : List Addr} (h : Ym w p) : E3 w p := ⟨h.e2, (h.sents.at 9 (by decide)).1, h.cell 9 (by omega)⟩
structure Py (w wr : World) (k g gm : Nat) (G Gm : Nat -> Prop) (S : List (List Wt)) (r : Rm) : Prop where
 rn : Rn wr G g S r
 rr : Rr wr Gm k gm S r.z
 hs : endR r = r.e
 ez : Ez r
 dj : ∀ x, G x -> ¬ Gm x
 lo : ∀ x, G x ∨ Gm x -> w.heap.size <= x
 bel : Below w.heap.size w wr
 ev : r.ev.length <= 2 * k
section
variable {w wr w' : World} {k g gm : Nat} {G Gm G2 Gm2 : Nat → Prop} {S : List (List Wt)} {r r2 : Rm}
theorem Py.low (h : Py w wr k g gm G Gm S r) (hb : Below wr.heap.size wr w') : Py w w' k g gm G Gm S r :=
 ⟨h.rn.bel hb, h.rr.bel hb, h.hs, h.ez, h.dj, h.lo, h.bel.trans (hb.mono h.bel.size), h.ev⟩
theorem Py.up (h : Py w wr k g gm G Gm S r) : Py w wr (k + 1) g gm G Gm S r :=
 { h with rr := h.rr.up (Nat.le_succ k), ev := by have := h.ev; omega }
end
structure Pa (w wr : World) (k g gm i : Nat) (G Gm : Nat -> Prop) (S : List (List Wt)) (r : Rm) : Prop where
 rn : Rn wr G g S (doR S r i)
 rr : Rr wr Gm k gm S r.z
 dj : ∀ x, G x -> ¬ Gm x
 lo : ∀ x, G x ∨ Gm x -> w.heap.size <= x
 bel : Below w.heap.size w wr
 ev : r.ev.length <= 2 * k
section
variable {w wr w' : World} {k g gm i : Nat} {G Gm G2 Gm2 : Nat → Prop} {S : List (List Wt)} {r r2 : Rm}
theorem Pa.low (h : Pa w wr k g gm i G Gm S r) (hb : Below wr.heap.size wr w') : Pa w w' k g gm i G Gm S r :=
 ⟨h.rn.bel hb, h.rr.bel hb, h.dj, h.lo, h.bel.trans (hb.mono h.bel.size), h.ev⟩
theorem Py.does (h : Py w wr k g gm G Gm S r) (rn : Rn w' G2 g S (doR S r i)) (c : Ch G G2 wr w') : Pa w w' k g gm i G2 Gm S r := by
 obtain ⟨h1, h2⟩ := h.rr.ch c (fun x hx e => h.dj x e hx)
 refine ⟨rn, h1, fun x hx e => h2 x e hx, fun x hx => ?_, h.bel.trans (c.bel (fun x hx => h.lo x (.inl hx)) h.bel.size), h.ev⟩
 rcases hx with hx | hx
 · exact c.lo (fun q hq => h.lo q (.inl hq)) h.bel.size x hx
 · exact h.lo x (.inr hx)
theorem Pa.does (h : Pa w wr k g gm i G Gm S r) (rr : Rr w' Gm2 (k + 1) gm S (doR S r i).z) (c : Ch Gm Gm2 wr w') : Py w w' (k + 1) g gm G Gm2 S (doR S r i) := by
 obtain ⟨h1, h2⟩ := h.rn.ch c (fun x hx e => h.dj x hx e)
 refine ⟨h1, rr, end_settle _, ez_settle _, h2, fun x hx => ?_, h.bel.trans (c.bel (fun x hx => h.lo x (.inr hx)) h.bel.size), ?_⟩
 · rcases hx with hx | hx
   · exact h.lo x (.inl hx)
   · exact c.lo (fun q hq => h.lo q (.inr hq)) h.bel.size x hx
 · have h3 := step_le (S := S) r i
   have h4 := h.ev
   show (Yg S r i).ev.length <= _
   omega
end
theorem rr_ws {W : World} {G : Nat -> Prop} {B g : Nat} {S : List (List Wt)} {r : Rz} (h : Rr W G B g S r) : ∃ aW cW, W.cell? ⟨g, 1, none⟩ = some (.slice aW r.ws.length cW) := by
 obtain ⟨Fs, Rs, Fo, R, gs, gt, vW, vE, vL, vO, vA, vs, os, as_, q, hG⟩ := h
 obtain ⟨aW, cW, eW, _⟩ := Zl q.wa
 subst eW
 exact ⟨aW, cW, q.cells.1.2.1⟩
theorem can_far {r : Rm} {i : Int} (h : i < 0 ∨ (r.gs.length : Int) <= i) : can r i = false := by
 unfold can lk
 split
 · rename_i x hx
   exfalso
   split at hx
   · have := (G_ hx)
     omega
   · cases hx
 · rfl
theorem acts_main {w : World} {aP aC aS : Option Addr} {lP cP lC cC nS cS : Nat} {ps : List Int} {qs : List (Int × Int)} {S : List (List Wt)} {p : List Addr} (h17 : Ym w p) (m a fn : Int) (hP : Sl w (.slice aP lP cP) ps) (hp2 : ps.length <= 140737488351232) (hC : SlC w (.slice aC lC cC) qs) (hq2 : qs.length <= 140737488351232) (hS : SSrcU w (.slice aS nS cS) S) {vK : Value} {ks : List Int} (hK : Sl w vK ks) : Calls Tryz.prog 3 #[.agg #[.slice aP lP cP, I_ m, I_ a, .slice aC lC cC, .slice aS nS cS, I_ fn], vK] w (Vb w (.bool true)) := by
  have AB := Za (Zd w (.cells #[.slice aP lP cP, I_ m, I_ a, .slice aC lC cC, .slice aS nS cS, I_ fn] 26))
  have BX := Za (B_ w (.cells #[.slice aP lP cP, I_ m, I_ a, .slice aC lC cC, .slice aS nS cS, I_ fn] 26))
  have AL := Za (alive12 (h17.e3.below (Nat.le_refl _) AB.out))
  have BG := Za (fun w3 (h3 : Below w.heap.size w w3) => big_any m a fn (hP.below (Nat.le_refl _) h3) hp2 (hC.below h3) hq2 (hS.bel h3))
  have H17 := Za h17
  have HP := Za hP
  have HC := Za hC
  have HK := Za hK
  obtain ⟨aK, lK, cK, rfl, hlK⟩ := hK.slice
  have HLK := Za hlK
  clear h17 hP hp2 hC hq2 hS hK hlK
  obtain ⟨bx, hbx⟩ : ∃ b, b = w.heap.size := ⟨_, rfl⟩
  rw [← hbx] at BX
  go_enter Tryz.func3, Tryz.ntmps3
  go_wp2_with fail
  generalize w.alloc _ = w1 at *
  rw [← hbx]
  clear hbx
  refine AL.out.mono ?_
  rintro e w2 ⟨rfl, hb2⟩
  replace BX := Za ((hb2.block bx (Ze BX.out)).trans BX.out)
  replace AB := Za (Zg AB.out hb2)
  clear hb2 AL
  have x0 := Zb BX.out 0 _ rfl
  have x1 := Zb BX.out 1 _ rfl
  have x2 := Zb BX.out 2 _ rfl
  have x3 := Zb BX.out 3 _ rfl
  have x4 := Zb BX.out 4 _ rfl
  have x5 := Zb BX.out 5 _ rfl
  go_wp2_with fail
  clear x0 x1 x2 x3 x4 x5
  refine (BG.out _ AB.out).mono ?_
  rintro e w3 ⟨b, rfl, hb3, hsr⟩
  replace BX := Za ((hb3.block bx (Ze BX.out)).trans BX.out)
  have A3 := Za (Zg AB.out hb3)
  cases b with
  | true =>
    clear hb3 BG hsr
    go_wp2_with fail
    go_ret
    exact Vb.mk rfl A3.out
  | false =>
    have SS := Za ((hsr rfl).bel hb3)
    clear hb3 BG hsr AB
    have MA := Za (made_any (H17.out.e3.below (Nat.le_refl _) A3.out) m a fn (HP.out.below (Nat.le_refl _) A3.out) (HC.out.below A3.out) SS.out)
    clear HP HC SS
    generalize okN ps m qs a = ok at *
    generalize newS ps m qs a = s0 at *
    have x0 := Zb BX.out 0 _ rfl
    have x1 := Zb BX.out 1 _ rfl
    have x2 := Zb BX.out 2 _ rfl
    have x3 := Zb BX.out 3 _ rfl
    have x4 := Zb BX.out 4 _ rfl
    have x5 := Zb BX.out 5 _ rfl
    go_wp2_with fail
    clear x0 x1 x2 x3 x4 x5
    refine MA.out.mono ?_
    rintro e w4 (⟨rfl, rfl, hb4⟩ | ⟨rfl, g, gm, G0, Gm0, rfl, rn, rr, dj, lo, hb4⟩)
    · have A4 := Za (Zg A3.out hb4)
      clear hb4 MA
      go_wp2_with fail
      go_ret
      exact Vb.mk rfl A4.out
    · rw [start_eq] at rr
      have J0 : Hid (∃ G Gm r, Py w w4 0 g gm G Gm S r) := Za ⟨G0, Gm0, startR S s0 fn, rn, rr, end_settle _, ez_settle _, dj, fun k hk => Nat.le_trans A3.out.size (lo k hk), Zg A3.out hb4, by rw [start_ev]; simp⟩
      clear rn rr dj lo hb4 MA BX A3
      go_wp2_with fail
      go_loopw [8, 9, 10, 25] (fun x8 x9 x10 x25 wr => ∃ k : Nat, k <= lK /\ k <= 201 /\ x25 = I_ k /\ Hid (∃ G Gm r, Py w wr k g gm G Gm S r)) (fun x8 x9 x10 x25 _ => lK - (intOf x25).toNat)
      case atStart => exact ⟨0, Nat.zero_le _, by omega, rfl, J0⟩
      case round =>
        obtain ⟨k, hk, hk2, rfl, JR⟩ := hrel
        obtain ⟨G, Gm, r, py⟩ := JR.out
        have PY := Za py
        clear JR J0 py
        have SH := Za (same_head (H17.out.below (Nat.le_refl _) PY.out.bel).e2 PY.out.rn PY.out.rr PY.out.hs (by have := PY.out.ev; omega) (by omega))
        by_cases hlt : k < lK
        · have hlt' : (k : Int) < (lK : Int) := by omega
          obtain ⟨bK, oK, eK, hbK, cz⟩ := HK.out.at k hlt
          subst eK
          have cz2 := (PY.out.bel.cell (p := ⟨bK, oK + k, none⟩) hbK).trans cz
          obtain ⟨gz, hgz⟩ : ∃ z, z = ks.getD k 0 := ⟨_, rfl⟩
          rw [← hgz] at cz2
          clear cz hbK hgz
          by_cases h200 : 200 < k
          · have h200' : (200 : Int) < (k : Int) := by omega
            go_wp2_with fail
            refine SH.out.mono ?_
            rintro e w5 ⟨rfl, hb5⟩
            have P5 := Za (PY.out.low hb5)
            clear hb5 SH
            go_wp2_with fail
            go_ret
            exact Vb.mk rfl P5.out.bel
          · have h200' : (k : Int) <= 200 := by omega
            go_wp2_with fail
            refine SH.out.mono ?_
            rintro e w5 ⟨rfl, hb5⟩
            have P5 := Za (PY.out.low hb5)
            clear hb5 SH PY cz2
            cases hr : runs r with
            | false =>
              have hbo : (r.e.o == 0) = false := by
                have h1 := hr
                unfold runs at h1
                rw [P5.out.hs] at h1
                exact h1
              have DO := Za (Do_ended P5.out.rn (H17.out.below (Nat.le_refl _) P5.out.bel).e3 gz hr)
              clear hr
              go_wp2_with fail
              refine DO.out.mono ?_
              rintro e w6 ⟨rfl, hb6⟩
              have P6 := Za (P5.out.low hb6)
              clear hb6 DO P5
              obtain ⟨aE, cE, _, hO⟩ := rr_ev P6.out.rr
              rw [show r.z.e.o = r.e.o from rfl] at hO
              have NU : Hid (∀ w3, Ym w3 p -> Calls Tryz.prog 10 #[errV p 9] w3 fun e w' => e = .returned (I_ 10) /\ Below w3.heap.size w3 w') := Za (fun w3 he => (num_err p 9 w3 he (by omega)).mono fun e w' ⟨h1, h2⟩ => ⟨by rw [h1]; rfl, h2⟩)
              have NE := Za (NU.out _ (H17.out.below (Nat.le_refl _) P6.out.bel))
              clear NU
              unfold errV at *
              generalize adr p 9 = ad at *
              go_wp2_with fail
              refine NE.out.mono ?_
              rintro e w7 ⟨rfl, hb7⟩
              have P7 := Za (P6.out.low hb7)
              clear hb7 NE P6
              go_wp2_with fail
              go_roundw
              case rel => exact ⟨k + 1, by omega, by omega, by go_num, Za ⟨G, Gm, r, P7.out.up⟩⟩
              case measure => simp [intOf]; omega
            | true =>
              have HE0 : Hid (r.e.o = 0) := Za (runs_e hr)
              obtain ⟨nw, hnw⟩ : ∃ n, n = r.z.ws.length := ⟨_, rfl⟩
              have HNW := Za hnw
              have HNG : Hid (r.gs.length = nw) := Za (by rw [hnw]; simp [Rm.z])
              clear hnw
              by_cases hz0 : gz < 0
              · have hc : can r gz = false := can_far (.inl hz0)
                have DO := Za (Do_cant P5.out.rn (H17.out.below (Nat.le_refl _) P5.out.bel).e3 gz hr hc)
                clear hr hc
                go_wp2_with fail
                refine DO.out.mono ?_
                rintro e w6 ⟨rfl, hb6⟩
                have P6 := Za (P5.out.low hb6)
                clear hb6 DO P5
                obtain ⟨aE, cE, _, hO⟩ := rr_ev P6.out.rr
                rw [show r.z.e.o = r.e.o from rfl] at hO
                rw [HE0.out] at hO
                obtain ⟨aW, cW, hW⟩ := rr_ws P6.out.rr
                rw [← HNW.out] at hW
                have NU : Hid (∀ w3, Ym w3 p -> Calls Tryz.prog 10 #[errV p 0] w3 fun e w' => e = .returned (I_ 1) /\ Below w3.heap.size w3 w') := Za (fun w3 he => (num_err p 0 w3 he (by omega)).mono fun e w' ⟨h1, h2⟩ => ⟨by rw [h1]; rfl, h2⟩)
                have NE := Za (NU.out _ (H17.out.below (Nat.le_refl _) P6.out.bel))
                clear NU
                unfold errV at *
                generalize adr p 0 = ad at *
                go_wp2_with fail
                refine NE.out.mono ?_
                rintro e w7 ⟨rfl, hb7⟩
                have P7 := Za (P6.out.low hb7)
                clear hb7 NE P6
                go_wp2_with fail
                go_roundw
                case rel => exact ⟨k + 1, by omega, by omega, by go_num, Za ⟨G, Gm, r, P7.out.up⟩⟩
                case measure => simp [intOf]; omega
              · by_cases hz1 : (nw : Int) <= gz
                · have hc : can r gz = false := can_far (.inr (by rw [HNG.out]; exact hz1))
                  have DO := Za (Do_cant P5.out.rn (H17.out.below (Nat.le_refl _) P5.out.bel).e3 gz hr hc)
                  clear hr hc
                  go_wp2_with fail
                  refine DO.out.mono ?_
                  rintro e w6 ⟨rfl, hb6⟩
                  have P6 := Za (P5.out.low hb6)
                  clear hb6 DO P5
                  obtain ⟨aE, cE, _, hO⟩ := rr_ev P6.out.rr
                  rw [show r.z.e.o = r.e.o from rfl] at hO
                  rw [HE0.out] at hO
                  obtain ⟨aW, cW, hW⟩ := rr_ws P6.out.rr
                  rw [← HNW.out] at hW
                  have NU : Hid (∀ w3, Ym w3 p -> Calls Tryz.prog 10 #[errV p 0] w3 fun e w' => e = .returned (I_ 1) /\ Below w3.heap.size w3 w') := Za (fun w3 he => (num_err p 0 w3 he (by omega)).mono fun e w' ⟨h1, h2⟩ => ⟨by rw [h1]; rfl, h2⟩)
                  have NE := Za (NU.out _ (H17.out.below (Nat.le_refl _) P6.out.bel))
                  clear NU
                  unfold errV at *
                  generalize adr p 0 = ad at *
                  go_wp2_with fail
                  refine NE.out.mono ?_
                  rintro e w7 ⟨rfl, hb7⟩
                  have P7 := Za (P6.out.low hb7)
                  clear hb7 NE P6
                  go_wp2_with fail
                  go_roundw
                  case rel => exact ⟨k + 1, by omega, by omega, by go_num, Za ⟨G, Gm, r, P7.out.up⟩⟩
                  case measure => simp [intOf]; omega
                · obtain ⟨i, rfl⟩ : ∃ i : Nat, gz = i := ⟨gz.toNat, by omega⟩
                  have hin : (i : Int) < (nw : Int) := by omega
                  have hi0 : ¬ (i : Int) < 0 := hz0
                  obtain ⟨x, hx⟩ : ∃ x, r.gs[i]? = some x := ⟨_, List.getElem?_eq_getElem (by have := HNG.out; omega)⟩
                  have hzx : r.z.ws[i]? = some x.w := by rw [z_ws, hx]; rfl
                  have CZ : Hid (∀ wz G B, Rr wz G B gm S r.z -> B <= 1000 -> Calls Tryz.prog 11 #[P_ gm, I_ (i : Nat)] wz (Vb wz (.bool (can r i)))) := Za (fun wz G B h1 h2 => by
                    have h3 := rCan_any h1 (by omega) i x.w hzx
                    rw [show Yl r.z.s r.z.ws x.w = can r i from (canZ_eq r x.w).trans (can_at hx).symm] at h3
                    exact h3)
                  cases hc : can r i with
                  | false =>
                    rw [hc] at CZ
                    have DO := Za (Do_cant P5.out.rn (H17.out.below (Nat.le_refl _) P5.out.bel).e3 (i : Int) hr hc)
                    clear hr hc hx hzx hz0 hz1
                    go_wp2_with fail
                    refine DO.out.mono ?_
                    rintro e w6 ⟨rfl, hb6⟩
                    have P6 := Za (P5.out.low hb6)
                    clear hb6 DO P5
                    obtain ⟨aE, cE, _, hO⟩ := rr_ev P6.out.rr
                    rw [show r.z.e.o = r.e.o from rfl] at hO
                    rw [HE0.out] at hO
                    obtain ⟨aW, cW, hW⟩ := rr_ws P6.out.rr
                    rw [← HNW.out] at hW
                    have CN := Za (CZ.out _ _ _ P6.out.rr (by omega))
                    go_wp2_with fail
                    refine CN.out.mono ?_
                    rintro e w8 ⟨rfl, hb8⟩
                    have P8 := Za (P6.out.low hb8)
                    clear hb8 CN CZ P6
                    have NU : Hid (∀ w3, Ym w3 p -> Calls Tryz.prog 10 #[errV p 0] w3 fun e w' => e = .returned (I_ 1) /\ Below w3.heap.size w3 w') := Za (fun w3 he => (num_err p 0 w3 he (by omega)).mono fun e w' ⟨h1, h2⟩ => ⟨by rw [h1]; rfl, h2⟩)
                    have NE := Za (NU.out _ (H17.out.below (Nat.le_refl _) P8.out.bel))
                    clear NU
                    unfold errV at *
                    generalize adr p 0 = ad at *
                    go_wp2_with fail
                    refine NE.out.mono ?_
                    rintro e w7 ⟨rfl, hb7⟩
                    have P7 := Za (P8.out.low hb7)
                    clear hb7 NE P8
                    go_wp2_with fail
                    go_roundw
                    case rel => exact ⟨k + 1, by omega, by omega, by go_num, Za ⟨G, Gm, r, P7.out.up⟩⟩
                    case measure => simp [intOf]; omega
                  | true =>
                    rw [hc] at CZ
                    have DO := Za (Do_ok P5.out.rn (H17.out.below (Nat.le_refl _) P5.out.bel).e3 (Off.mk (fun q hq => P5.out.lo q (.inl hq)) H17.out.e3 (Nat.le_refl _)) i hr hc (by have := P5.out.ev; omega))
                    have DZ : Hid (doZ S r.z i = (doR S r i).z) := Za (do_eq (P5.out.ez HE0.out) hx (by rw [← can_at hx]; exact hc))
                    have HX := Za (And.intro hzx ((canZ_eq r x.w).trans ((can_at hx).symm.trans hc)))
                    clear hr hc hx hzx hz0 hz1
                    go_wp2_with fail
                    refine DO.out.mono ?_
                    rintro e w6 ⟨rfl, G6, rn6, c6⟩
                    have P6 := Za (P5.out.does rn6 c6)
                    clear rn6 c6 DO P5
                    obtain ⟨aE, cE, _, hO⟩ := rr_ev P6.out.rr
                    rw [show r.z.e.o = r.e.o from rfl, HE0.out] at hO
                    obtain ⟨aW, cW, hW⟩ := rr_ws P6.out.rr
                    rw [← HNW.out] at hW
                    have CN := Za (CZ.out _ _ _ P6.out.rr (by omega))
                    go_wp2_with fail
                    refine CN.out.mono ?_
                    rintro e w8 ⟨rfl, hb8⟩
                    have P8 := Za (P6.out.low hb8)
                    clear hb8 CN CZ P6 hO hW
                    have RD := Za (rdo_any P8.out.rr (by omega) i x.w HX.out.1 HX.out.2 (by simp [Rm.z]) (by show r.ev.length <= 90000; have := P8.out.ev; omega))
                    rw [DZ.out] at RD
                    go_wp2_with fail
                    refine RD.out.mono ?_
                    rintro e w9 ⟨rfl, G9, rr9, c9⟩
                    have P9 := Za (P8.out.does rr9 c9)
                    clear rr9 c9 RD P8
                    go_wp2_with fail
                    go_roundw
                    case rel => exact ⟨k + 1, by omega, by omega, by go_num, Za ⟨_, _, _, P9.out⟩⟩
                    case measure => simp [intOf]; omega
        · have hge : k = lK := by omega
          subst hge
          go_wp2_with fail
          refine SH.out.mono ?_
          rintro e w5 ⟨rfl, hb5⟩
          have P5 := Za (PY.out.low hb5)
          clear hb5 SH
          go_wp2_with fail
          go_ret
          exact Vb.mk rfl P5.out.bel
theorem acts_all {w : World} {vP vC vS vK : Value} {ps ks : List Int} {qs : List (Int × Int)} {S : List (List Wt)} {p : List Addr} (h17 : Ym w p) (m a fn : Int) (hP : Sl w vP ps) (hp2 : ps.length <= 140737488351232) (hC : SlC w vC qs) (hq2 : qs.length <= 140737488351232) (hS : SSrcU w vS S) (hK : Sl w vK ks) : Calls Tryz.prog 3 #[.agg #[vP, I_ m, I_ a, vC, vS, I_ fn], vK] w (Vb w (.bool true)) := by
 obtain ⟨aP, lP, cP, rfl, _⟩ := hP.slice
 obtain ⟨aC, cC, rfl, _⟩ := id hC
 obtain ⟨aS, cS, rfl, _⟩ := id hS
 exact acts_main h17 m a fn hP hp2 hC hq2 hS hK
end Go.Proofs.YtfojninaginnoaaGreatDoor.Ck
