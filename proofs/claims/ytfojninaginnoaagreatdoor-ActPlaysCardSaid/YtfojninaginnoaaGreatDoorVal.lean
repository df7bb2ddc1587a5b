/- Texts of this proof, packed: contracts of the program's functions, and the plain model that they are held against. -/
import Derived.Test.YtfojninaginnoaaGreatDoorVak
import Derived.Deep.CutRange
set_option maxRecDepth 20000
set_option maxHeartbeats 4000000
namespace Go.Proofs.YtfojninaginnoaaGreatDoor.Ck
open Go.RowKit
theorem methodNext (v : Value) (w : World) : (Go.method 340 126 v "Next").run Tryz.prog w = .ok (127, v) w := by kernel_rfl
theorem ask_halt {w : World} {G : Nat -> Prop} {g : Nat} {S : List (List Wt)} {r : Rm} (h : Rn w G g S r) (i : Nat) (x : Gr) (hx : r.gs[i]? = some x) (j0 j1 j2 yk yo ya y0 y1 y2 f hn_ hc_ : Int) (r' : Rm) (NX : ∀ (W : World) (Fs Fo R : Nat -> Prop) (gs : Nat) (vC vB vG vE : Value) (ps ts : List Nat) (t : Nat), Ru W Fs Fo R g gs S r vC vB vG vE ps ts -> (∀ k, G k ↔ Fs k ∨ Fo k ∨ R k) -> ts[i]? = some t -> Calls Tryz.prog 127 #[P_ t, .agg #[I_ j0, I_ j1, .int .u64 j2]] W (NextP W G g t S r' ⟨yk, yo, ya, (y0, y1, y2)⟩ f hn_ hc_)) (hf : f ≠ 0) : Calls Tryz.prog 56 #[P_ g, I_ (i : Nat), .agg #[I_ j0, I_ j1, .int .u64 j2]] w (RnP w G g S { r' with e := ⟨3, f, i, hn_, hc_⟩ } (.bool false)) := by
  have GL := Za h.fb
  obtain ⟨Fs, Fo, R, gs, vC, vB, vG, vE, ps, ts, h, hG⟩ := h
  obtain ⟨bG, cG, b, t, va, eG, e1, e2, e3, e4, gor, hA, ⟨s1, s2, s3⟩, s4⟩ := h.see hx
  subst eG
  have z3_ : ∃ vw, w.heap[t]? = some (.cells #[vw] 128 (0, 0)) := by
    obtain ⟨_, vw, _, _, z3, _⟩ := gor
    exact ⟨vw, z3⟩
  obtain ⟨vw, z3_⟩ := z3_
  have hi : i < r.gs.length := (G_ hx)
  have hn8 := h.n8
  obtain ⟨n, hn⟩ : ∃ n, n = r.gs.length := ⟨_, rfl⟩
  have c3 := h.cells.1.2.2.2.1
  rw [← hn] at hi hn8 c3
  have hi1 : (i : Int) < (n : Int) := by omega
  have hi0 : (0 : Int) <= (i : Int) := by omega
  have hgl := h.fb g h.fg
  have d2 : w.cell? ⟨b, 0, none⟩ = some (.iface 126 (P_ t)) := Zb s4 0 _ rfl
  have TN : Hid (t ∉ [g, bG, b, w.heap.size]) := Za (fun hm => by
    have h1 := Zm z3_ h.at_ (by decide)
    have h2 := Zm z3_ s4 (by decide)
    have h3 : t ≠ bG := fun e => Zu h.go z3_ (by decide) (by rw [e]; rfl)
    have h4 := Ze z3_
    simp at hm
    omega)
  have TL := Za (Ze z3_)
  have KL : Hid (g < w.heap.size /\ bG < w.heap.size /\ b < w.heap.size) := Za ⟨hgl, s2, s3⟩
  have B0 := Zd w (.cells #[I_ j0, I_ j1, .int .u64 j2] 64)
  have HU := Za (h.bel B0)
  have HB := Za B0
  have NX := Za (fun (W : World) (hU : Ru W Fs Fo R g gs S r vC vB (.slice (some ⟨bG, 0, none⟩) r.gs.length cG) vE ps ts) => NX W Fs Fo R gs vC vB _ vE ps ts t hU hG e2)
  have V1 := Za (Val.new w j0 j1 j2)
  have C3 := Za ((B0.cell (p := ⟨g, 3, none⟩) hgl).trans c3)
  have D1 := Za ((B0.cell (p := ⟨bG, i, none⟩) s2).trans s1)
  have D2 := Za ((B0.cell (p := ⟨b, 0, none⟩) s3).trans d2)
  have KL0 : Hid (∀ k ∈ [g, bG, b, w.heap.size], k < (w.alloc (.cells #[I_ j0, I_ j1, .int .u64 j2] 64)).drew.heap.size) := Za (fun k hk => by
    have h1 := V1.out.lt
    have h2 := B0.size
    show k < (w.alloc (.cells #[I_ j0, I_ j1, .int .u64 j2] 64)).heap.size
    simp only [List.mem_cons, List.mem_nil_iff, or_false] at hk
    rcases hk with rfl | rfl | rfl | rfl <;> omega)
  have hmet := methodNext
  clear h hG c3 d2 s1 s4 z3_ gor hA e1 e2 e3 e4 hx B0 hn
  go_enter Tryz.func56, Tryz.ntmps56
  go_upto_region 1 with fail
  generalize w.alloc _ = W1 at *
  go_cut [7, 8] from 9 to 23 (fun x7 x8 wc => AskP w G g S r' ⟨yk, yo, ya, (y0, y1, y2)⟩ f hn_ hc_ x7 x8 wc)
  case first =>
    refine wp_region_held_drew (S := fun w' => Yp [g, bG, b, w.heap.size] W1.drew w') ZJ (Yp.refl KL0.out) (fun hH => ?_)
    have HU' := Za (HU.out.bel (w' := W1.drew) (below_drewN (Below.refl _ _) 1))
    clear HU
    have HU := HU'
    clear HU'
    have HB' := Za (Zp HB.out)
    clear HB
    have HB := HB'
    clear HB'
    have C3 : Hid (W1.drew.cell? ⟨g, 3, none⟩ = some (.slice (some ⟨bG, 0, none⟩) n cG)) := C3
    have D1 : Hid (W1.drew.cell? ⟨bG, i, none⟩ = some (P_ b)) := D1
    have D2 : Hid (W1.drew.cell? ⟨b, 0, none⟩ = some (.iface 126 (P_ t))) := D2
    have V1 : Hid (Val W1.drew w.heap.size j0 j1 j2) := V1
    generalize W1.drew = W0 at *
    refine H2_ 0 hH ?_
    simp only [Act.put, S_]
    refine H2_ 1 hH ?_
    simp only [Act.put, S_]
    refine H2_ 2 hH ?_
    simp only [Act.put, S_]
    refine H_ 3 (v := ?_) ?_ hH ?_
    rotate_left 1
    · (intro w hSw; have q := hSw.cell (by simp) C3.out; clear hSw; go_simp <;> with_reducible rfl)
    simp only [Act.put, S_]
    refine H2_ 4 hH ?_
    simp only [Act.put, S_]
    refine H2_ 5 hH ?_
    simp only [Act.put, S_]
    refine H_ 6 (v := ?_) ?_ hH ?_
    rotate_left 1
    · (intro w hSw; have q := hSw.cell (by simp) D1.out; clear hSw; go_simp <;> with_reducible rfl)
    simp only [Act.put, S_]
    refine H2_ 7 hH ?_
    simp only [Act.put, S_]
    refine H2_ 8 hH ?_
    simp only [Act.put, S_]
    refine H_ 9 (v := ?_) ?_ hH ?_
    rotate_left 1
    · (intro w hSw; have q := hSw.cell (by simp) D2.out; clear hSw; go_simp <;> with_reducible rfl)
    simp only [Act.put, S_]
    refine H_ 10 (v := ?_) ?_ hH ?_
    rotate_left 1
    · (intro w hSw; obtain ⟨_, z0, z1, z2⟩ := V1.out.all; have q0 := hSw.cell (by simp) z0; have q1 := hSw.cell (by simp) z1; have q2 := hSw.cell (by simp) z2; clear hSw; go_simp <;> with_reducible rfl)
    simp only [Act.put, S_]
    refine wpAnyH_ready (rs := [11, 15, 16]) (by kernel_rfl) (by decide) ?_
    refine AllReadyH.cons rfl (fun K1 hK1 => ?_) (AllReadyH.cons rfl (fun K1 hK1 => ?_) (AllReadyH.cons rfl (fun K1 hK1 => ?_) AllReadyH.nil))
    · go_simp
      refine (NX.out W0 HU.out).mono ?_
      rintro e V1 ⟨va, rfl, ar, kp, G', rn, ch⟩
      obtain ⟨aa, na, ca, xs, rfl, _⟩ := id ar
      refine hK1.out _ _ (hH.turn ch.size kp TN.out) (fun hH => ?_)
      clear hK1 K1
      have HQ := Za (AskQ.mk rn ((Ch.of_bel HB.out).trans ch) ar)
      have HB' := Za (show w.heap.size <= V1.heap.size from Nat.le_trans HB.out.size ch.size)
      clear rn ch ar kp HB HU
      have HB : Hid (Below w.heap.size w w /\ w.heap.size <= V1.heap.size) := Za ⟨Below.refl _ _, HB'.out⟩
      clear HB'
      refine H2_ 12 hH ?_
      simp only [Act.put, S_]
      refine H2_ 13 hH ?_
      simp only [Act.put, S_]
      refine H2_ 14 hH ?_
      simp only [Act.put, S_]
      refine wpAnyH_ready (rs := [15, 16]) (by kernel_rfl) (by decide) ?_
      refine AllReadyH.cons rfl (fun K1 hK1 => ?_) (AllReadyH.cons rfl (fun K1 hK1 => ?_) AllReadyH.nil)
      · have L0 : w.heap.size < V1.heap.size := by have h1 := hH.1; have h2 := hH.2.1 w.heap.size (by simp); omega
        go_simp
        have A2 := Zd V1 (.cells #[I_ 0, I_ 0, I_ 0, I_ 0, I_ 0, .int .u64 0, .slice none 0 0] 67)
        have N2 := B_ V1 (.cells #[I_ 0, I_ 0, I_ 0, I_ 0, I_ 0, .int .u64 0, .slice none 0 0] 67)
        refine hK1.out _ _ (hH.al A2) (fun hH => ?_)
        clear hK1 K1
        obtain ⟨bw, hbw⟩ : ∃ bw, V1.heap.size = bw := ⟨_, rfl⟩
        rw [hbw] at N2 ⊢
        have Lbw := Za (show w.heap.size < bw by rw [← hbw]; exact L0)
        clear L0
        have Gbw : Hid (¬ G' bw) := Za (fun hG => absurd (HQ.out.rn.fb bw hG) (by omega))
        have HQ' := Za (HQ.out.al A2)
        clear HQ
        have HQ := HQ'
        clear HQ'
        have HB' : Hid (Below w.heap.size w w /\ w.heap.size <= (V1.alloc (.cells #[I_ 0, I_ 0, I_ 0, I_ 0, I_ 0, .int .u64 0, .slice none 0 0] 67)).heap.size) := Za ⟨Below.refl _ _, Nat.le_trans HB.out.2 A2.size⟩
        clear HB
        have HB := HB'
        clear HB'
        have Zbw := Za N2
        clear A2 N2 hbw
        generalize V1.alloc _ = V2 at *
        refine RH_ 16 (fun K1 hK1 => ?_)
        have L0 : w.heap.size < V2.heap.size := by have h1 := hH.1; have h2 := hH.2.1 w.heap.size (by simp); omega
        go_simp
        have A3 := Zd V2 (.cells #[I_ 0, I_ 0, I_ 0] 122)
        have N3 := B_ V2 (.cells #[I_ 0, I_ 0, I_ 0] 122)
        refine hK1.out _ _ (hH.al A3) (fun hH => ?_)
        clear hK1 K1
        obtain ⟨bh, hbh⟩ : ∃ bh, V2.heap.size = bh := ⟨_, rfl⟩
        rw [hbh] at N3 ⊢
        have Lbh := Za (show w.heap.size < bh by rw [← hbh]; exact L0)
        clear L0
        have Gbh : Hid (¬ G' bh) := Za (fun hG => absurd (HQ.out.rn.fb bh hG) (by omega))
        have HQ' := Za (HQ.out.al A3)
        clear HQ
        have HQ := HQ'
        clear HQ'
        have HB' : Hid (Below w.heap.size w w /\ w.heap.size <= (V2.alloc (.cells #[I_ 0, I_ 0, I_ 0] 122)).heap.size) := Za ⟨Below.refl _ _, Nat.le_trans HB.out.2 A3.size⟩
        clear HB
        have HB := HB'
        clear HB'
        have Zbw' := Za ((A3.block bw (Ze Zbw.out)).trans Zbw.out)
        clear Zbw
        have Zbw := Zbw'
        clear Zbw'
        have Zbh := Za N3
        clear A3 N3 hbh
        generalize V2.alloc _ = V3 at *
        refine RH_ 17 (fun K1 hK1 => ?_)
        have p0 := Zb Zbw.out 0 _ rfl
        have p1 := Zb Zbw.out 1 _ rfl
        have p2 := Zb Zbw.out 2 _ rfl
        have p3 := Zb Zbw.out 3 _ rfl
        have p4 := Zb Zbw.out 4 _ rfl
        have p5 := Zb Zbw.out 5 _ rfl
        have p6 := Zb Zbw.out 6 _ rfl
        have f0 := Zc Zbw.out 0
        have f1 := Zc Zbw.out 1
        have f2 := Zc Zbw.out 2
        have f3 := Zc Zbw.out 3
        have f4 := Zc Zbw.out 4
        have f5 := Zc Zbw.out 5
        have f6 := Zc Zbw.out 6
        have B4 : Below w.heap.size V3 (((((((V3.setCell ⟨bw, 0, none⟩ (I_ yk)).setCell ⟨bw, 1, none⟩ (I_ yo)).setCell ⟨bw, 2, none⟩ (I_ ya)).setCell ⟨bw, 3, none⟩ (I_ y0)).setCell ⟨bw, 4, none⟩ (I_ y1)).setCell ⟨bw, 5, none⟩ (.int .u64 y2)).setCell ⟨bw, 6, none⟩ (.slice aa na ca)) := ZL (o := 0) (Below.refl _ _) (Nat.le_of_lt Lbw.out)
        have O4 : ∀ k, k ≠ bw -> (((((((V3.setCell ⟨bw, 0, none⟩ (I_ yk)).setCell ⟨bw, 1, none⟩ (I_ yo)).setCell ⟨bw, 2, none⟩ (I_ ya)).setCell ⟨bw, 3, none⟩ (I_ y0)).setCell ⟨bw, 4, none⟩ (I_ y1)).setCell ⟨bw, 5, none⟩ (.int .u64 y2)).setCell ⟨bw, 6, none⟩ (.slice aa na ca)).heap[k]? = V3.heap[k]? := fun k hk => Zy (o := 0) hk
        have S4 : V3.heap.size = (((((((V3.setCell ⟨bw, 0, none⟩ (I_ yk)).setCell ⟨bw, 1, none⟩ (I_ yo)).setCell ⟨bw, 2, none⟩ (I_ ya)).setCell ⟨bw, 3, none⟩ (I_ y0)).setCell ⟨bw, 4, none⟩ (I_ y1)).setCell ⟨bw, 5, none⟩ (.int .u64 y2)).setCell ⟨bw, 6, none⟩ (.slice aa na ca)).heap.size := (ZY (o := 0)).symm
        have E4 : (((((((V3.setCell ⟨bw, 0, none⟩ (I_ yk)).setCell ⟨bw, 1, none⟩ (I_ yo)).setCell ⟨bw, 2, none⟩ (I_ ya)).setCell ⟨bw, 3, none⟩ (I_ y0)).setCell ⟨bw, 4, none⟩ (I_ y1)).setCell ⟨bw, 5, none⟩ (.int .u64 y2)).setCell ⟨bw, 6, none⟩ (.slice aa na ca)).heap[bw]? = some (.cells #[I_ yk, I_ yo, I_ ya, I_ y0, I_ y1, .int .u64 y2, .slice aa na ca] 67 (0, 0)) := ZR Zbw.out (I_ yk) (I_ yo) (I_ ya) (I_ y0) (I_ y1) (.int .u64 y2) (.slice aa na ca)
        go_simp
        refine hK1.out _ _ (hH.turn (Nat.le_of_eq S4) (fun k _ hk => O4 k hk) (fun hm => by have := Lbw.out; have := KL.out; simp at hm; omega)) (fun hH => ?_)
        clear hK1 K1 p0 p1 p2 p3 p4 p5 p6 f0 f1 f2 f3 f4 f5 f6
        have HQ' := Za (HQ.out.set Zbw.out (by decide) Gbw.out S4 B4 O4)
        clear HQ
        have HQ := HQ'
        clear HQ'
        have Zbh' := Za ((O4 bh (Zm Zbh.out Zbw.out (by decide))).trans Zbh.out)
        clear Zbh
        have Zbh := Zbh'
        clear Zbh'
        clear Zbw
        have Zbw := Za E4
        have HB' : Hid (Below w.heap.size w w /\ w.heap.size <= (((((((V3.setCell ⟨bw, 0, none⟩ (I_ yk)).setCell ⟨bw, 1, none⟩ (I_ yo)).setCell ⟨bw, 2, none⟩ (I_ ya)).setCell ⟨bw, 3, none⟩ (I_ y0)).setCell ⟨bw, 4, none⟩ (I_ y1)).setCell ⟨bw, 5, none⟩ (.int .u64 y2)).setCell ⟨bw, 6, none⟩ (.slice aa na ca)).heap.size) := Za ⟨Below.refl _ _, by rw [← S4]; exact HB.out.2⟩
        clear HB
        have HB := HB'
        clear HB'
        clear B4 O4 S4 E4
        generalize (((((((V3.setCell ⟨bw, 0, none⟩ (I_ yk)).setCell ⟨bw, 1, none⟩ (I_ yo)).setCell ⟨bw, 2, none⟩ (I_ ya)).setCell ⟨bw, 3, none⟩ (I_ y0)).setCell ⟨bw, 4, none⟩ (I_ y1)).setCell ⟨bw, 5, none⟩ (.int .u64 y2)).setCell ⟨bw, 6, none⟩ (.slice aa na ca)) = V4 at *
        refine RH_ 18 (fun K1 hK1 => ?_)
        have p0 := Zb Zbh.out 0 _ rfl
        have p1 := Zb Zbh.out 1 _ rfl
        have p2 := Zb Zbh.out 2 _ rfl
        have f0 := Zc Zbh.out 0
        have f1 := Zc Zbh.out 1
        have f2 := Zc Zbh.out 2
        have B5 : Below w.heap.size V4 (((V4.setCell ⟨bh, 0, none⟩ (I_ f)).setCell ⟨bh, 1, none⟩ (I_ hn_)).setCell ⟨bh, 2, none⟩ (I_ hc_)) := Zt (Below.refl _ _) (Nat.le_of_lt Lbh.out) _ _ _
        have O5 : ∀ k, k ≠ bh -> (((V4.setCell ⟨bh, 0, none⟩ (I_ f)).setCell ⟨bh, 1, none⟩ (I_ hn_)).setCell ⟨bh, 2, none⟩ (I_ hc_)).heap[k]? = V4.heap[k]? := fun k hk => ne3 hk
        have S5 : V4.heap.size = (((V4.setCell ⟨bh, 0, none⟩ (I_ f)).setCell ⟨bh, 1, none⟩ (I_ hn_)).setCell ⟨bh, 2, none⟩ (I_ hc_)).heap.size := by simp only [Zi]
        have E5 : (((V4.setCell ⟨bh, 0, none⟩ (I_ f)).setCell ⟨bh, 1, none⟩ (I_ hn_)).setCell ⟨bh, 2, none⟩ (I_ hc_)).heap[bh]? = some (.cells #[I_ f, I_ hn_, I_ hc_] 122 (0, 0)) := Yx Zbh.out (I_ f) (I_ hn_) (I_ hc_)
        go_simp
        refine hK1.out _ _ (hH.turn (Nat.le_of_eq S5) (fun k _ hk => O5 k hk) (fun hm => by have := Lbh.out; have := KL.out; simp at hm; omega)) (fun hH => ?_)
        clear hK1 K1 p0 p1 p2 f0 f1 f2
        have HQ' := Za (HQ.out.set Zbh.out (by decide) Gbh.out S5 B5 O5)
        clear HQ
        have HQ := HQ'
        clear HQ'
        have Zbw' := Za ((O5 bw (Zm Zbw.out Zbh.out (by decide))).trans Zbw.out)
        clear Zbw
        have Zbw := Zbw'
        clear Zbw'
        clear Zbh
        have Zbh := Za E5
        have HB' : Hid (Below w.heap.size w w /\ w.heap.size <= (((V4.setCell ⟨bh, 0, none⟩ (I_ f)).setCell ⟨bh, 1, none⟩ (I_ hn_)).setCell ⟨bh, 2, none⟩ (I_ hc_)).heap.size) := Za ⟨Below.refl _ _, by rw [← S5]; exact HB.out.2⟩
        clear HB
        have HB := HB'
        clear HB'
        clear B5 O5 S5 E5
        generalize (((V4.setCell ⟨bh, 0, none⟩ (I_ f)).setCell ⟨bh, 1, none⟩ (I_ hn_)).setCell ⟨bh, 2, none⟩ (I_ hc_)) = V5 at *
        refine wpAnyH_done (by kernel_rfl) ?_ _
        clear hH
        go_wp2_with fail
        go_meet
        case rel => exact ⟨bw, bh, aa, na, ca, G', rfl, rfl, Za ⟨HQ.out, Zbw.out, Zbh.out, Gbw.out⟩⟩
      · have L0 : w.heap.size < V1.heap.size := by have h1 := hH.1; have h2 := hH.2.1 w.heap.size (by simp); omega
        go_simp
        have A2 := Zd V1 (.cells #[I_ 0, I_ 0, I_ 0] 122)
        have N2 := B_ V1 (.cells #[I_ 0, I_ 0, I_ 0] 122)
        refine hK1.out _ _ (hH.al A2) (fun hH => ?_)
        clear hK1 K1
        obtain ⟨bh, hbh⟩ : ∃ bh, V1.heap.size = bh := ⟨_, rfl⟩
        rw [hbh] at N2 ⊢
        have Lbh := Za (show w.heap.size < bh by rw [← hbh]; exact L0)
        clear L0
        have Gbh : Hid (¬ G' bh) := Za (fun hG => absurd (HQ.out.rn.fb bh hG) (by omega))
        have HQ' := Za (HQ.out.al A2)
        clear HQ
        have HQ := HQ'
        clear HQ'
        have HB' : Hid (Below w.heap.size w w /\ w.heap.size <= (V1.alloc (.cells #[I_ 0, I_ 0, I_ 0] 122)).heap.size) := Za ⟨Below.refl _ _, Nat.le_trans HB.out.2 A2.size⟩
        clear HB
        have HB := HB'
        clear HB'
        have Zbh := Za N2
        clear A2 N2 hbh
        generalize V1.alloc _ = V2 at *
        refine RH_ 15 (fun K1 hK1 => ?_)
        have L0 : w.heap.size < V2.heap.size := by have h1 := hH.1; have h2 := hH.2.1 w.heap.size (by simp); omega
        go_simp
        have A3 := Zd V2 (.cells #[I_ 0, I_ 0, I_ 0, I_ 0, I_ 0, .int .u64 0, .slice none 0 0] 67)
        have N3 := B_ V2 (.cells #[I_ 0, I_ 0, I_ 0, I_ 0, I_ 0, .int .u64 0, .slice none 0 0] 67)
        refine hK1.out _ _ (hH.al A3) (fun hH => ?_)
        clear hK1 K1
        obtain ⟨bw, hbw⟩ : ∃ bw, V2.heap.size = bw := ⟨_, rfl⟩
        rw [hbw] at N3 ⊢
        have Lbw := Za (show w.heap.size < bw by rw [← hbw]; exact L0)
        clear L0
        have Gbw : Hid (¬ G' bw) := Za (fun hG => absurd (HQ.out.rn.fb bw hG) (by omega))
        have HQ' := Za (HQ.out.al A3)
        clear HQ
        have HQ := HQ'
        clear HQ'
        have HB' : Hid (Below w.heap.size w w /\ w.heap.size <= (V2.alloc (.cells #[I_ 0, I_ 0, I_ 0, I_ 0, I_ 0, .int .u64 0, .slice none 0 0] 67)).heap.size) := Za ⟨Below.refl _ _, Nat.le_trans HB.out.2 A3.size⟩
        clear HB
        have HB := HB'
        clear HB'
        have Zbh' := Za ((A3.block bh (Ze Zbh.out)).trans Zbh.out)
        clear Zbh
        have Zbh := Zbh'
        clear Zbh'
        have Zbw := Za N3
        clear A3 N3 hbw
        generalize V2.alloc _ = V3 at *
        refine RH_ 17 (fun K1 hK1 => ?_)
        have p0 := Zb Zbw.out 0 _ rfl
        have p1 := Zb Zbw.out 1 _ rfl
        have p2 := Zb Zbw.out 2 _ rfl
        have p3 := Zb Zbw.out 3 _ rfl
        have p4 := Zb Zbw.out 4 _ rfl
        have p5 := Zb Zbw.out 5 _ rfl
        have p6 := Zb Zbw.out 6 _ rfl
        have f0 := Zc Zbw.out 0
        have f1 := Zc Zbw.out 1
        have f2 := Zc Zbw.out 2
        have f3 := Zc Zbw.out 3
        have f4 := Zc Zbw.out 4
        have f5 := Zc Zbw.out 5
        have f6 := Zc Zbw.out 6
        have B4 : Below w.heap.size V3 (((((((V3.setCell ⟨bw, 0, none⟩ (I_ yk)).setCell ⟨bw, 1, none⟩ (I_ yo)).setCell ⟨bw, 2, none⟩ (I_ ya)).setCell ⟨bw, 3, none⟩ (I_ y0)).setCell ⟨bw, 4, none⟩ (I_ y1)).setCell ⟨bw, 5, none⟩ (.int .u64 y2)).setCell ⟨bw, 6, none⟩ (.slice aa na ca)) := ZL (o := 0) (Below.refl _ _) (Nat.le_of_lt Lbw.out)
        have O4 : ∀ k, k ≠ bw -> (((((((V3.setCell ⟨bw, 0, none⟩ (I_ yk)).setCell ⟨bw, 1, none⟩ (I_ yo)).setCell ⟨bw, 2, none⟩ (I_ ya)).setCell ⟨bw, 3, none⟩ (I_ y0)).setCell ⟨bw, 4, none⟩ (I_ y1)).setCell ⟨bw, 5, none⟩ (.int .u64 y2)).setCell ⟨bw, 6, none⟩ (.slice aa na ca)).heap[k]? = V3.heap[k]? := fun k hk => Zy (o := 0) hk
        have S4 : V3.heap.size = (((((((V3.setCell ⟨bw, 0, none⟩ (I_ yk)).setCell ⟨bw, 1, none⟩ (I_ yo)).setCell ⟨bw, 2, none⟩ (I_ ya)).setCell ⟨bw, 3, none⟩ (I_ y0)).setCell ⟨bw, 4, none⟩ (I_ y1)).setCell ⟨bw, 5, none⟩ (.int .u64 y2)).setCell ⟨bw, 6, none⟩ (.slice aa na ca)).heap.size := (ZY (o := 0)).symm
        have E4 : (((((((V3.setCell ⟨bw, 0, none⟩ (I_ yk)).setCell ⟨bw, 1, none⟩ (I_ yo)).setCell ⟨bw, 2, none⟩ (I_ ya)).setCell ⟨bw, 3, none⟩ (I_ y0)).setCell ⟨bw, 4, none⟩ (I_ y1)).setCell ⟨bw, 5, none⟩ (.int .u64 y2)).setCell ⟨bw, 6, none⟩ (.slice aa na ca)).heap[bw]? = some (.cells #[I_ yk, I_ yo, I_ ya, I_ y0, I_ y1, .int .u64 y2, .slice aa na ca] 67 (0, 0)) := ZR Zbw.out (I_ yk) (I_ yo) (I_ ya) (I_ y0) (I_ y1) (.int .u64 y2) (.slice aa na ca)
        go_simp
        refine hK1.out _ _ (hH.turn (Nat.le_of_eq S4) (fun k _ hk => O4 k hk) (fun hm => by have := Lbw.out; have := KL.out; simp at hm; omega)) (fun hH => ?_)
        clear hK1 K1 p0 p1 p2 p3 p4 p5 p6 f0 f1 f2 f3 f4 f5 f6
        have HQ' := Za (HQ.out.set Zbw.out (by decide) Gbw.out S4 B4 O4)
        clear HQ
        have HQ := HQ'
        clear HQ'
        have Zbh' := Za ((O4 bh (Zm Zbh.out Zbw.out (by decide))).trans Zbh.out)
        clear Zbh
        have Zbh := Zbh'
        clear Zbh'
        clear Zbw
        have Zbw := Za E4
        have HB' : Hid (Below w.heap.size w w /\ w.heap.size <= (((((((V3.setCell ⟨bw, 0, none⟩ (I_ yk)).setCell ⟨bw, 1, none⟩ (I_ yo)).setCell ⟨bw, 2, none⟩ (I_ ya)).setCell ⟨bw, 3, none⟩ (I_ y0)).setCell ⟨bw, 4, none⟩ (I_ y1)).setCell ⟨bw, 5, none⟩ (.int .u64 y2)).setCell ⟨bw, 6, none⟩ (.slice aa na ca)).heap.size) := Za ⟨Below.refl _ _, by rw [← S4]; exact HB.out.2⟩
        clear HB
        have HB := HB'
        clear HB'
        clear B4 O4 S4 E4
        generalize (((((((V3.setCell ⟨bw, 0, none⟩ (I_ yk)).setCell ⟨bw, 1, none⟩ (I_ yo)).setCell ⟨bw, 2, none⟩ (I_ ya)).setCell ⟨bw, 3, none⟩ (I_ y0)).setCell ⟨bw, 4, none⟩ (I_ y1)).setCell ⟨bw, 5, none⟩ (.int .u64 y2)).setCell ⟨bw, 6, none⟩ (.slice aa na ca)) = V4 at *
        refine RH_ 18 (fun K1 hK1 => ?_)
        have p0 := Zb Zbh.out 0 _ rfl
        have p1 := Zb Zbh.out 1 _ rfl
        have p2 := Zb Zbh.out 2 _ rfl
        have f0 := Zc Zbh.out 0
        have f1 := Zc Zbh.out 1
        have f2 := Zc Zbh.out 2
        have B5 : Below w.heap.size V4 (((V4.setCell ⟨bh, 0, none⟩ (I_ f)).setCell ⟨bh, 1, none⟩ (I_ hn_)).setCell ⟨bh, 2, none⟩ (I_ hc_)) := Zt (Below.refl _ _) (Nat.le_of_lt Lbh.out) _ _ _
        have O5 : ∀ k, k ≠ bh -> (((V4.setCell ⟨bh, 0, none⟩ (I_ f)).setCell ⟨bh, 1, none⟩ (I_ hn_)).setCell ⟨bh, 2, none⟩ (I_ hc_)).heap[k]? = V4.heap[k]? := fun k hk => ne3 hk
        have S5 : V4.heap.size = (((V4.setCell ⟨bh, 0, none⟩ (I_ f)).setCell ⟨bh, 1, none⟩ (I_ hn_)).setCell ⟨bh, 2, none⟩ (I_ hc_)).heap.size := by simp only [Zi]
        have E5 : (((V4.setCell ⟨bh, 0, none⟩ (I_ f)).setCell ⟨bh, 1, none⟩ (I_ hn_)).setCell ⟨bh, 2, none⟩ (I_ hc_)).heap[bh]? = some (.cells #[I_ f, I_ hn_, I_ hc_] 122 (0, 0)) := Yx Zbh.out (I_ f) (I_ hn_) (I_ hc_)
        go_simp
        refine hK1.out _ _ (hH.turn (Nat.le_of_eq S5) (fun k _ hk => O5 k hk) (fun hm => by have := Lbh.out; have := KL.out; simp at hm; omega)) (fun hH => ?_)
        clear hK1 K1 p0 p1 p2 f0 f1 f2
        have HQ' := Za (HQ.out.set Zbh.out (by decide) Gbh.out S5 B5 O5)
        clear HQ
        have HQ := HQ'
        clear HQ'
        have Zbw' := Za ((O5 bw (Zm Zbw.out Zbh.out (by decide))).trans Zbw.out)
        clear Zbw
        have Zbw := Zbw'
        clear Zbw'
        clear Zbh
        have Zbh := Za E5
        have HB' : Hid (Below w.heap.size w w /\ w.heap.size <= (((V4.setCell ⟨bh, 0, none⟩ (I_ f)).setCell ⟨bh, 1, none⟩ (I_ hn_)).setCell ⟨bh, 2, none⟩ (I_ hc_)).heap.size) := Za ⟨Below.refl _ _, by rw [← S5]; exact HB.out.2⟩
        clear HB
        have HB := HB'
        clear HB'
        clear B5 O5 S5 E5
        generalize (((V4.setCell ⟨bh, 0, none⟩ (I_ f)).setCell ⟨bh, 1, none⟩ (I_ hn_)).setCell ⟨bh, 2, none⟩ (I_ hc_)) = V5 at *
        refine wpAnyH_done (by kernel_rfl) ?_ _
        clear hH
        go_wp2_with fail
        go_meet
        case rel => exact ⟨bw, bh, aa, na, ca, G', rfl, rfl, Za ⟨HQ.out, Zbw.out, Zbh.out, Gbw.out⟩⟩
    · have L0 : w.heap.size < W0.heap.size := by have h1 := hH.1; have h2 := hH.2.1 w.heap.size (by simp); omega
      go_simp
      have A1 := Zd W0 (.cells #[I_ 0, I_ 0, I_ 0, I_ 0, I_ 0, .int .u64 0, .slice none 0 0] 67)
      have N1 := B_ W0 (.cells #[I_ 0, I_ 0, I_ 0, I_ 0, I_ 0, .int .u64 0, .slice none 0 0] 67)
      refine hK1.out _ _ (hH.al A1) (fun hH => ?_)
      clear hK1 K1
      obtain ⟨bw, hbw⟩ : ∃ bw, W0.heap.size = bw := ⟨_, rfl⟩
      rw [hbw] at N1 ⊢
      have Lbw := Za (show w.heap.size < bw by rw [← hbw]; exact L0)
      clear L0
      have HU' := Za (HU.out.bel A1)
      clear HU
      have HU := HU'
      clear HU'
      have HB' := Za (Zg HB.out A1)
      clear HB
      have HB := HB'
      clear HB'
      have Zbw := Za N1
      clear A1 N1 hbw
      generalize W0.alloc _ = V1 at *
      refine wpAnyH_ready (rs := [11, 16]) (by kernel_rfl) (by decide) ?_
      refine AllReadyH.cons rfl (fun K1 hK1 => ?_) (AllReadyH.cons rfl (fun K1 hK1 => ?_) AllReadyH.nil)
      · go_simp
        refine (NX.out V1 HU.out).mono ?_
        rintro e V2 ⟨va, rfl, ar, kp, G', rn, ch⟩
        obtain ⟨aa, na, ca, xs, rfl, _⟩ := id ar
        refine hK1.out _ _ (hH.turn ch.size kp TN.out) (fun hH => ?_)
        clear hK1 K1
        have HQ := Za (AskQ.mk rn ((Ch.of_bel HB.out).trans ch) ar)
        have HB' := Za (show w.heap.size <= V2.heap.size from Nat.le_trans HB.out.size ch.size)
        have Gbw : Hid (¬ G' bw) := Za (fun hG => by
          rcases ch.grow bw hG with h1 | h1
          · exact absurd (GL.out bw h1) (by have := Lbw.out; omega)
          · exact absurd (Ze Zbw.out) (by omega))
        have Zbw' := Za ((kp bw (Ze Zbw.out) (by have := Lbw.out; have := TL.out; omega)).trans Zbw.out)
        clear Zbw
        have Zbw := Zbw'
        clear Zbw'
        clear rn ch ar kp HB HU
        have HB : Hid (Below w.heap.size w w /\ w.heap.size <= V2.heap.size) := Za ⟨Below.refl _ _, HB'.out⟩
        clear HB'
        refine H2_ 12 hH ?_
        simp only [Act.put, S_]
        refine H2_ 13 hH ?_
        simp only [Act.put, S_]
        refine H2_ 14 hH ?_
        simp only [Act.put, S_]
        refine RH_ 16 (fun K1 hK1 => ?_)
        have L0 : w.heap.size < V2.heap.size := by have h1 := hH.1; have h2 := hH.2.1 w.heap.size (by simp); omega
        go_simp
        have A3 := Zd V2 (.cells #[I_ 0, I_ 0, I_ 0] 122)
        have N3 := B_ V2 (.cells #[I_ 0, I_ 0, I_ 0] 122)
        refine hK1.out _ _ (hH.al A3) (fun hH => ?_)
        clear hK1 K1
        obtain ⟨bh, hbh⟩ : ∃ bh, V2.heap.size = bh := ⟨_, rfl⟩
        rw [hbh] at N3 ⊢
        have Lbh := Za (show w.heap.size < bh by rw [← hbh]; exact L0)
        clear L0
        have Gbh : Hid (¬ G' bh) := Za (fun hG => absurd (HQ.out.rn.fb bh hG) (by omega))
        have HQ' := Za (HQ.out.al A3)
        clear HQ
        have HQ := HQ'
        clear HQ'
        have HB' : Hid (Below w.heap.size w w /\ w.heap.size <= (V2.alloc (.cells #[I_ 0, I_ 0, I_ 0] 122)).heap.size) := Za ⟨Below.refl _ _, Nat.le_trans HB.out.2 A3.size⟩
        clear HB
        have HB := HB'
        clear HB'
        have Zbw' := Za ((A3.block bw (Ze Zbw.out)).trans Zbw.out)
        clear Zbw
        have Zbw := Zbw'
        clear Zbw'
        have Zbh := Za N3
        clear A3 N3 hbh
        generalize V2.alloc _ = V3 at *
        refine RH_ 17 (fun K1 hK1 => ?_)
        have p0 := Zb Zbw.out 0 _ rfl
        have p1 := Zb Zbw.out 1 _ rfl
        have p2 := Zb Zbw.out 2 _ rfl
        have p3 := Zb Zbw.out 3 _ rfl
        have p4 := Zb Zbw.out 4 _ rfl
        have p5 := Zb Zbw.out 5 _ rfl
        have p6 := Zb Zbw.out 6 _ rfl
        have f0 := Zc Zbw.out 0
        have f1 := Zc Zbw.out 1
        have f2 := Zc Zbw.out 2
        have f3 := Zc Zbw.out 3
        have f4 := Zc Zbw.out 4
        have f5 := Zc Zbw.out 5
        have f6 := Zc Zbw.out 6
        have B4 : Below w.heap.size V3 (((((((V3.setCell ⟨bw, 0, none⟩ (I_ yk)).setCell ⟨bw, 1, none⟩ (I_ yo)).setCell ⟨bw, 2, none⟩ (I_ ya)).setCell ⟨bw, 3, none⟩ (I_ y0)).setCell ⟨bw, 4, none⟩ (I_ y1)).setCell ⟨bw, 5, none⟩ (.int .u64 y2)).setCell ⟨bw, 6, none⟩ (.slice aa na ca)) := ZL (o := 0) (Below.refl _ _) (Nat.le_of_lt Lbw.out)
        have O4 : ∀ k, k ≠ bw -> (((((((V3.setCell ⟨bw, 0, none⟩ (I_ yk)).setCell ⟨bw, 1, none⟩ (I_ yo)).setCell ⟨bw, 2, none⟩ (I_ ya)).setCell ⟨bw, 3, none⟩ (I_ y0)).setCell ⟨bw, 4, none⟩ (I_ y1)).setCell ⟨bw, 5, none⟩ (.int .u64 y2)).setCell ⟨bw, 6, none⟩ (.slice aa na ca)).heap[k]? = V3.heap[k]? := fun k hk => Zy (o := 0) hk
        have S4 : V3.heap.size = (((((((V3.setCell ⟨bw, 0, none⟩ (I_ yk)).setCell ⟨bw, 1, none⟩ (I_ yo)).setCell ⟨bw, 2, none⟩ (I_ ya)).setCell ⟨bw, 3, none⟩ (I_ y0)).setCell ⟨bw, 4, none⟩ (I_ y1)).setCell ⟨bw, 5, none⟩ (.int .u64 y2)).setCell ⟨bw, 6, none⟩ (.slice aa na ca)).heap.size := (ZY (o := 0)).symm
        have E4 : (((((((V3.setCell ⟨bw, 0, none⟩ (I_ yk)).setCell ⟨bw, 1, none⟩ (I_ yo)).setCell ⟨bw, 2, none⟩ (I_ ya)).setCell ⟨bw, 3, none⟩ (I_ y0)).setCell ⟨bw, 4, none⟩ (I_ y1)).setCell ⟨bw, 5, none⟩ (.int .u64 y2)).setCell ⟨bw, 6, none⟩ (.slice aa na ca)).heap[bw]? = some (.cells #[I_ yk, I_ yo, I_ ya, I_ y0, I_ y1, .int .u64 y2, .slice aa na ca] 67 (0, 0)) := ZR Zbw.out (I_ yk) (I_ yo) (I_ ya) (I_ y0) (I_ y1) (.int .u64 y2) (.slice aa na ca)
        go_simp
        refine hK1.out _ _ (hH.turn (Nat.le_of_eq S4) (fun k _ hk => O4 k hk) (fun hm => by have := Lbw.out; have := KL.out; simp at hm; omega)) (fun hH => ?_)
        clear hK1 K1 p0 p1 p2 p3 p4 p5 p6 f0 f1 f2 f3 f4 f5 f6
        have HQ' := Za (HQ.out.set Zbw.out (by decide) Gbw.out S4 B4 O4)
        clear HQ
        have HQ := HQ'
        clear HQ'
        have Zbh' := Za ((O4 bh (Zm Zbh.out Zbw.out (by decide))).trans Zbh.out)
        clear Zbh
        have Zbh := Zbh'
        clear Zbh'
        clear Zbw
        have Zbw := Za E4
        have HB' : Hid (Below w.heap.size w w /\ w.heap.size <= (((((((V3.setCell ⟨bw, 0, none⟩ (I_ yk)).setCell ⟨bw, 1, none⟩ (I_ yo)).setCell ⟨bw, 2, none⟩ (I_ ya)).setCell ⟨bw, 3, none⟩ (I_ y0)).setCell ⟨bw, 4, none⟩ (I_ y1)).setCell ⟨bw, 5, none⟩ (.int .u64 y2)).setCell ⟨bw, 6, none⟩ (.slice aa na ca)).heap.size) := Za ⟨Below.refl _ _, by rw [← S4]; exact HB.out.2⟩
        clear HB
        have HB := HB'
        clear HB'
        clear B4 O4 S4 E4
        generalize (((((((V3.setCell ⟨bw, 0, none⟩ (I_ yk)).setCell ⟨bw, 1, none⟩ (I_ yo)).setCell ⟨bw, 2, none⟩ (I_ ya)).setCell ⟨bw, 3, none⟩ (I_ y0)).setCell ⟨bw, 4, none⟩ (I_ y1)).setCell ⟨bw, 5, none⟩ (.int .u64 y2)).setCell ⟨bw, 6, none⟩ (.slice aa na ca)) = V4 at *
        refine RH_ 18 (fun K1 hK1 => ?_)
        have p0 := Zb Zbh.out 0 _ rfl
        have p1 := Zb Zbh.out 1 _ rfl
        have p2 := Zb Zbh.out 2 _ rfl
        have f0 := Zc Zbh.out 0
        have f1 := Zc Zbh.out 1
        have f2 := Zc Zbh.out 2
        have B5 : Below w.heap.size V4 (((V4.setCell ⟨bh, 0, none⟩ (I_ f)).setCell ⟨bh, 1, none⟩ (I_ hn_)).setCell ⟨bh, 2, none⟩ (I_ hc_)) := Zt (Below.refl _ _) (Nat.le_of_lt Lbh.out) _ _ _
        have O5 : ∀ k, k ≠ bh -> (((V4.setCell ⟨bh, 0, none⟩ (I_ f)).setCell ⟨bh, 1, none⟩ (I_ hn_)).setCell ⟨bh, 2, none⟩ (I_ hc_)).heap[k]? = V4.heap[k]? := fun k hk => ne3 hk
        have S5 : V4.heap.size = (((V4.setCell ⟨bh, 0, none⟩ (I_ f)).setCell ⟨bh, 1, none⟩ (I_ hn_)).setCell ⟨bh, 2, none⟩ (I_ hc_)).heap.size := by simp only [Zi]
        have E5 : (((V4.setCell ⟨bh, 0, none⟩ (I_ f)).setCell ⟨bh, 1, none⟩ (I_ hn_)).setCell ⟨bh, 2, none⟩ (I_ hc_)).heap[bh]? = some (.cells #[I_ f, I_ hn_, I_ hc_] 122 (0, 0)) := Yx Zbh.out (I_ f) (I_ hn_) (I_ hc_)
        go_simp
        refine hK1.out _ _ (hH.turn (Nat.le_of_eq S5) (fun k _ hk => O5 k hk) (fun hm => by have := Lbh.out; have := KL.out; simp at hm; omega)) (fun hH => ?_)
        clear hK1 K1 p0 p1 p2 f0 f1 f2
        have HQ' := Za (HQ.out.set Zbh.out (by decide) Gbh.out S5 B5 O5)
        clear HQ
        have HQ := HQ'
        clear HQ'
        have Zbw' := Za ((O5 bw (Zm Zbw.out Zbh.out (by decide))).trans Zbw.out)
        clear Zbw
        have Zbw := Zbw'
        clear Zbw'
        clear Zbh
        have Zbh := Za E5
        have HB' : Hid (Below w.heap.size w w /\ w.heap.size <= (((V4.setCell ⟨bh, 0, none⟩ (I_ f)).setCell ⟨bh, 1, none⟩ (I_ hn_)).setCell ⟨bh, 2, none⟩ (I_ hc_)).heap.size) := Za ⟨Below.refl _ _, by rw [← S5]; exact HB.out.2⟩
        clear HB
        have HB := HB'
        clear HB'
        clear B5 O5 S5 E5
        generalize (((V4.setCell ⟨bh, 0, none⟩ (I_ f)).setCell ⟨bh, 1, none⟩ (I_ hn_)).setCell ⟨bh, 2, none⟩ (I_ hc_)) = V5 at *
        refine wpAnyH_done (by kernel_rfl) ?_ _
        clear hH
        go_wp2_with fail
        go_meet
        case rel => exact ⟨bw, bh, aa, na, ca, G', rfl, rfl, Za ⟨HQ.out, Zbw.out, Zbh.out, Gbw.out⟩⟩
      · have L0 : w.heap.size < V1.heap.size := by have h1 := hH.1; have h2 := hH.2.1 w.heap.size (by simp); omega
        go_simp
        have A2 := Zd V1 (.cells #[I_ 0, I_ 0, I_ 0] 122)
        have N2 := B_ V1 (.cells #[I_ 0, I_ 0, I_ 0] 122)
        refine hK1.out _ _ (hH.al A2) (fun hH => ?_)
        clear hK1 K1
        obtain ⟨bh, hbh⟩ : ∃ bh, V1.heap.size = bh := ⟨_, rfl⟩
        rw [hbh] at N2 ⊢
        have Lbh := Za (show w.heap.size < bh by rw [← hbh]; exact L0)
        clear L0
        have HU' := Za (HU.out.bel A2)
        clear HU
        have HU := HU'
        clear HU'
        have HB' := Za (Zg HB.out A2)
        clear HB
        have HB := HB'
        clear HB'
        have Zbw' := Za ((A2.block bw (Ze Zbw.out)).trans Zbw.out)
        clear Zbw
        have Zbw := Zbw'
        clear Zbw'
        have Zbh := Za N2
        clear A2 N2 hbh
        generalize V1.alloc _ = V2 at *
        refine RH_ 11 (fun K1 hK1 => ?_)
        go_simp
        refine (NX.out V2 HU.out).mono ?_
        rintro e V3 ⟨va, rfl, ar, kp, G', rn, ch⟩
        obtain ⟨aa, na, ca, xs, rfl, _⟩ := id ar
        refine hK1.out _ _ (hH.turn ch.size kp TN.out) (fun hH => ?_)
        clear hK1 K1
        have HQ := Za (AskQ.mk rn ((Ch.of_bel HB.out).trans ch) ar)
        have HB' := Za (show w.heap.size <= V3.heap.size from Nat.le_trans HB.out.size ch.size)
        have Gbw : Hid (¬ G' bw) := Za (fun hG => by
          rcases ch.grow bw hG with h1 | h1
          · exact absurd (GL.out bw h1) (by have := Lbw.out; omega)
          · exact absurd (Ze Zbw.out) (by omega))
        have Zbw' := Za ((kp bw (Ze Zbw.out) (by have := Lbw.out; have := TL.out; omega)).trans Zbw.out)
        clear Zbw
        have Zbw := Zbw'
        clear Zbw'
        have Gbh : Hid (¬ G' bh) := Za (fun hG => by
          rcases ch.grow bh hG with h1 | h1
          · exact absurd (GL.out bh h1) (by have := Lbh.out; omega)
          · exact absurd (Ze Zbh.out) (by omega))
        have Zbh' := Za ((kp bh (Ze Zbh.out) (by have := Lbh.out; have := TL.out; omega)).trans Zbh.out)
        clear Zbh
        have Zbh := Zbh'
        clear Zbh'
        clear rn ch ar kp HB HU
        have HB : Hid (Below w.heap.size w w /\ w.heap.size <= V3.heap.size) := Za ⟨Below.refl _ _, HB'.out⟩
        clear HB'
        refine H2_ 12 hH ?_
        simp only [Act.put, S_]
        refine H2_ 13 hH ?_
        simp only [Act.put, S_]
        refine H2_ 14 hH ?_
        simp only [Act.put, S_]
        refine RH_ 17 (fun K1 hK1 => ?_)
        have p0 := Zb Zbw.out 0 _ rfl
        have p1 := Zb Zbw.out 1 _ rfl
        have p2 := Zb Zbw.out 2 _ rfl
        have p3 := Zb Zbw.out 3 _ rfl
        have p4 := Zb Zbw.out 4 _ rfl
        have p5 := Zb Zbw.out 5 _ rfl
        have p6 := Zb Zbw.out 6 _ rfl
        have f0 := Zc Zbw.out 0
        have f1 := Zc Zbw.out 1
        have f2 := Zc Zbw.out 2
        have f3 := Zc Zbw.out 3
        have f4 := Zc Zbw.out 4
        have f5 := Zc Zbw.out 5
        have f6 := Zc Zbw.out 6
        have B4 : Below w.heap.size V3 (((((((V3.setCell ⟨bw, 0, none⟩ (I_ yk)).setCell ⟨bw, 1, none⟩ (I_ yo)).setCell ⟨bw, 2, none⟩ (I_ ya)).setCell ⟨bw, 3, none⟩ (I_ y0)).setCell ⟨bw, 4, none⟩ (I_ y1)).setCell ⟨bw, 5, none⟩ (.int .u64 y2)).setCell ⟨bw, 6, none⟩ (.slice aa na ca)) := ZL (o := 0) (Below.refl _ _) (Nat.le_of_lt Lbw.out)
        have O4 : ∀ k, k ≠ bw -> (((((((V3.setCell ⟨bw, 0, none⟩ (I_ yk)).setCell ⟨bw, 1, none⟩ (I_ yo)).setCell ⟨bw, 2, none⟩ (I_ ya)).setCell ⟨bw, 3, none⟩ (I_ y0)).setCell ⟨bw, 4, none⟩ (I_ y1)).setCell ⟨bw, 5, none⟩ (.int .u64 y2)).setCell ⟨bw, 6, none⟩ (.slice aa na ca)).heap[k]? = V3.heap[k]? := fun k hk => Zy (o := 0) hk
        have S4 : V3.heap.size = (((((((V3.setCell ⟨bw, 0, none⟩ (I_ yk)).setCell ⟨bw, 1, none⟩ (I_ yo)).setCell ⟨bw, 2, none⟩ (I_ ya)).setCell ⟨bw, 3, none⟩ (I_ y0)).setCell ⟨bw, 4, none⟩ (I_ y1)).setCell ⟨bw, 5, none⟩ (.int .u64 y2)).setCell ⟨bw, 6, none⟩ (.slice aa na ca)).heap.size := (ZY (o := 0)).symm
        have E4 : (((((((V3.setCell ⟨bw, 0, none⟩ (I_ yk)).setCell ⟨bw, 1, none⟩ (I_ yo)).setCell ⟨bw, 2, none⟩ (I_ ya)).setCell ⟨bw, 3, none⟩ (I_ y0)).setCell ⟨bw, 4, none⟩ (I_ y1)).setCell ⟨bw, 5, none⟩ (.int .u64 y2)).setCell ⟨bw, 6, none⟩ (.slice aa na ca)).heap[bw]? = some (.cells #[I_ yk, I_ yo, I_ ya, I_ y0, I_ y1, .int .u64 y2, .slice aa na ca] 67 (0, 0)) := ZR Zbw.out (I_ yk) (I_ yo) (I_ ya) (I_ y0) (I_ y1) (.int .u64 y2) (.slice aa na ca)
        go_simp
        refine hK1.out _ _ (hH.turn (Nat.le_of_eq S4) (fun k _ hk => O4 k hk) (fun hm => by have := Lbw.out; have := KL.out; simp at hm; omega)) (fun hH => ?_)
        clear hK1 K1 p0 p1 p2 p3 p4 p5 p6 f0 f1 f2 f3 f4 f5 f6
        have HQ' := Za (HQ.out.set Zbw.out (by decide) Gbw.out S4 B4 O4)
        clear HQ
        have HQ := HQ'
        clear HQ'
        have Zbh' := Za ((O4 bh (Zm Zbh.out Zbw.out (by decide))).trans Zbh.out)
        clear Zbh
        have Zbh := Zbh'
        clear Zbh'
        clear Zbw
        have Zbw := Za E4
        have HB' : Hid (Below w.heap.size w w /\ w.heap.size <= (((((((V3.setCell ⟨bw, 0, none⟩ (I_ yk)).setCell ⟨bw, 1, none⟩ (I_ yo)).setCell ⟨bw, 2, none⟩ (I_ ya)).setCell ⟨bw, 3, none⟩ (I_ y0)).setCell ⟨bw, 4, none⟩ (I_ y1)).setCell ⟨bw, 5, none⟩ (.int .u64 y2)).setCell ⟨bw, 6, none⟩ (.slice aa na ca)).heap.size) := Za ⟨Below.refl _ _, by rw [← S4]; exact HB.out.2⟩
        clear HB
        have HB := HB'
        clear HB'
        clear B4 O4 S4 E4
        generalize (((((((V3.setCell ⟨bw, 0, none⟩ (I_ yk)).setCell ⟨bw, 1, none⟩ (I_ yo)).setCell ⟨bw, 2, none⟩ (I_ ya)).setCell ⟨bw, 3, none⟩ (I_ y0)).setCell ⟨bw, 4, none⟩ (I_ y1)).setCell ⟨bw, 5, none⟩ (.int .u64 y2)).setCell ⟨bw, 6, none⟩ (.slice aa na ca)) = V4 at *
        refine RH_ 18 (fun K1 hK1 => ?_)
        have p0 := Zb Zbh.out 0 _ rfl
        have p1 := Zb Zbh.out 1 _ rfl
        have p2 := Zb Zbh.out 2 _ rfl
        have f0 := Zc Zbh.out 0
        have f1 := Zc Zbh.out 1
        have f2 := Zc Zbh.out 2
        have B5 : Below w.heap.size V4 (((V4.setCell ⟨bh, 0, none⟩ (I_ f)).setCell ⟨bh, 1, none⟩ (I_ hn_)).setCell ⟨bh, 2, none⟩ (I_ hc_)) := Zt (Below.refl _ _) (Nat.le_of_lt Lbh.out) _ _ _
        have O5 : ∀ k, k ≠ bh -> (((V4.setCell ⟨bh, 0, none⟩ (I_ f)).setCell ⟨bh, 1, none⟩ (I_ hn_)).setCell ⟨bh, 2, none⟩ (I_ hc_)).heap[k]? = V4.heap[k]? := fun k hk => ne3 hk
        have S5 : V4.heap.size = (((V4.setCell ⟨bh, 0, none⟩ (I_ f)).setCell ⟨bh, 1, none⟩ (I_ hn_)).setCell ⟨bh, 2, none⟩ (I_ hc_)).heap.size := by simp only [Zi]
        have E5 : (((V4.setCell ⟨bh, 0, none⟩ (I_ f)).setCell ⟨bh, 1, none⟩ (I_ hn_)).setCell ⟨bh, 2, none⟩ (I_ hc_)).heap[bh]? = some (.cells #[I_ f, I_ hn_, I_ hc_] 122 (0, 0)) := Yx Zbh.out (I_ f) (I_ hn_) (I_ hc_)
        go_simp
        refine hK1.out _ _ (hH.turn (Nat.le_of_eq S5) (fun k _ hk => O5 k hk) (fun hm => by have := Lbh.out; have := KL.out; simp at hm; omega)) (fun hH => ?_)
        clear hK1 K1 p0 p1 p2 f0 f1 f2
        have HQ' := Za (HQ.out.set Zbh.out (by decide) Gbh.out S5 B5 O5)
        clear HQ
        have HQ := HQ'
        clear HQ'
        have Zbw' := Za ((O5 bw (Zm Zbw.out Zbh.out (by decide))).trans Zbw.out)
        clear Zbw
        have Zbw := Zbw'
        clear Zbw'
        clear Zbh
        have Zbh := Za E5
        have HB' : Hid (Below w.heap.size w w /\ w.heap.size <= (((V4.setCell ⟨bh, 0, none⟩ (I_ f)).setCell ⟨bh, 1, none⟩ (I_ hn_)).setCell ⟨bh, 2, none⟩ (I_ hc_)).heap.size) := Za ⟨Below.refl _ _, by rw [← S5]; exact HB.out.2⟩
        clear HB
        have HB := HB'
        clear HB'
        clear B5 O5 S5 E5
        generalize (((V4.setCell ⟨bh, 0, none⟩ (I_ f)).setCell ⟨bh, 1, none⟩ (I_ hn_)).setCell ⟨bh, 2, none⟩ (I_ hc_)) = V5 at *
        refine wpAnyH_done (by kernel_rfl) ?_ _
        clear hH
        go_wp2_with fail
        go_meet
        case rel => exact ⟨bw, bh, aa, na, ca, G', rfl, rfl, Za ⟨HQ.out, Zbw.out, Zbh.out, Gbw.out⟩⟩
    · have L0 : w.heap.size < W0.heap.size := by have h1 := hH.1; have h2 := hH.2.1 w.heap.size (by simp); omega
      go_simp
      have A1 := Zd W0 (.cells #[I_ 0, I_ 0, I_ 0] 122)
      have N1 := B_ W0 (.cells #[I_ 0, I_ 0, I_ 0] 122)
      refine hK1.out _ _ (hH.al A1) (fun hH => ?_)
      clear hK1 K1
      obtain ⟨bh, hbh⟩ : ∃ bh, W0.heap.size = bh := ⟨_, rfl⟩
      rw [hbh] at N1 ⊢
      have Lbh := Za (show w.heap.size < bh by rw [← hbh]; exact L0)
      clear L0
      have HU' := Za (HU.out.bel A1)
      clear HU
      have HU := HU'
      clear HU'
      have HB' := Za (Zg HB.out A1)
      clear HB
      have HB := HB'
      clear HB'
      have Zbh := Za N1
      clear A1 N1 hbh
      generalize W0.alloc _ = V1 at *
      refine wpAnyH_ready (rs := [11, 15]) (by kernel_rfl) (by decide) ?_
      refine AllReadyH.cons rfl (fun K1 hK1 => ?_) (AllReadyH.cons rfl (fun K1 hK1 => ?_) AllReadyH.nil)
      · go_simp
        refine (NX.out V1 HU.out).mono ?_
        rintro e V2 ⟨va, rfl, ar, kp, G', rn, ch⟩
        obtain ⟨aa, na, ca, xs, rfl, _⟩ := id ar
        refine hK1.out _ _ (hH.turn ch.size kp TN.out) (fun hH => ?_)
        clear hK1 K1
        have HQ := Za (AskQ.mk rn ((Ch.of_bel HB.out).trans ch) ar)
        have HB' := Za (show w.heap.size <= V2.heap.size from Nat.le_trans HB.out.size ch.size)
        have Gbh : Hid (¬ G' bh) := Za (fun hG => by
          rcases ch.grow bh hG with h1 | h1
          · exact absurd (GL.out bh h1) (by have := Lbh.out; omega)
          · exact absurd (Ze Zbh.out) (by omega))
        have Zbh' := Za ((kp bh (Ze Zbh.out) (by have := Lbh.out; have := TL.out; omega)).trans Zbh.out)
        clear Zbh
        have Zbh := Zbh'
        clear Zbh'
        clear rn ch ar kp HB HU
        have HB : Hid (Below w.heap.size w w /\ w.heap.size <= V2.heap.size) := Za ⟨Below.refl _ _, HB'.out⟩
        clear HB'
        refine H2_ 12 hH ?_
        simp only [Act.put, S_]
        refine H2_ 13 hH ?_
        simp only [Act.put, S_]
        refine H2_ 14 hH ?_
        simp only [Act.put, S_]
        refine RH_ 15 (fun K1 hK1 => ?_)
        have L0 : w.heap.size < V2.heap.size := by have h1 := hH.1; have h2 := hH.2.1 w.heap.size (by simp); omega
        go_simp
        have A3 := Zd V2 (.cells #[I_ 0, I_ 0, I_ 0, I_ 0, I_ 0, .int .u64 0, .slice none 0 0] 67)
        have N3 := B_ V2 (.cells #[I_ 0, I_ 0, I_ 0, I_ 0, I_ 0, .int .u64 0, .slice none 0 0] 67)
        refine hK1.out _ _ (hH.al A3) (fun hH => ?_)
        clear hK1 K1
        obtain ⟨bw, hbw⟩ : ∃ bw, V2.heap.size = bw := ⟨_, rfl⟩
        rw [hbw] at N3 ⊢
        have Lbw := Za (show w.heap.size < bw by rw [← hbw]; exact L0)
        clear L0
        have Gbw : Hid (¬ G' bw) := Za (fun hG => absurd (HQ.out.rn.fb bw hG) (by omega))
        have HQ' := Za (HQ.out.al A3)
        clear HQ
        have HQ := HQ'
        clear HQ'
        have HB' : Hid (Below w.heap.size w w /\ w.heap.size <= (V2.alloc (.cells #[I_ 0, I_ 0, I_ 0, I_ 0, I_ 0, .int .u64 0, .slice none 0 0] 67)).heap.size) := Za ⟨Below.refl _ _, Nat.le_trans HB.out.2 A3.size⟩
        clear HB
        have HB := HB'
        clear HB'
        have Zbh' := Za ((A3.block bh (Ze Zbh.out)).trans Zbh.out)
        clear Zbh
        have Zbh := Zbh'
        clear Zbh'
        have Zbw := Za N3
        clear A3 N3 hbw
        generalize V2.alloc _ = V3 at *
        refine RH_ 17 (fun K1 hK1 => ?_)
        have p0 := Zb Zbw.out 0 _ rfl
        have p1 := Zb Zbw.out 1 _ rfl
        have p2 := Zb Zbw.out 2 _ rfl
        have p3 := Zb Zbw.out 3 _ rfl
        have p4 := Zb Zbw.out 4 _ rfl
        have p5 := Zb Zbw.out 5 _ rfl
        have p6 := Zb Zbw.out 6 _ rfl
        have f0 := Zc Zbw.out 0
        have f1 := Zc Zbw.out 1
        have f2 := Zc Zbw.out 2
        have f3 := Zc Zbw.out 3
        have f4 := Zc Zbw.out 4
        have f5 := Zc Zbw.out 5
        have f6 := Zc Zbw.out 6
        have B4 : Below w.heap.size V3 (((((((V3.setCell ⟨bw, 0, none⟩ (I_ yk)).setCell ⟨bw, 1, none⟩ (I_ yo)).setCell ⟨bw, 2, none⟩ (I_ ya)).setCell ⟨bw, 3, none⟩ (I_ y0)).setCell ⟨bw, 4, none⟩ (I_ y1)).setCell ⟨bw, 5, none⟩ (.int .u64 y2)).setCell ⟨bw, 6, none⟩ (.slice aa na ca)) := ZL (o := 0) (Below.refl _ _) (Nat.le_of_lt Lbw.out)
        have O4 : ∀ k, k ≠ bw -> (((((((V3.setCell ⟨bw, 0, none⟩ (I_ yk)).setCell ⟨bw, 1, none⟩ (I_ yo)).setCell ⟨bw, 2, none⟩ (I_ ya)).setCell ⟨bw, 3, none⟩ (I_ y0)).setCell ⟨bw, 4, none⟩ (I_ y1)).setCell ⟨bw, 5, none⟩ (.int .u64 y2)).setCell ⟨bw, 6, none⟩ (.slice aa na ca)).heap[k]? = V3.heap[k]? := fun k hk => Zy (o := 0) hk
        have S4 : V3.heap.size = (((((((V3.setCell ⟨bw, 0, none⟩ (I_ yk)).setCell ⟨bw, 1, none⟩ (I_ yo)).setCell ⟨bw, 2, none⟩ (I_ ya)).setCell ⟨bw, 3, none⟩ (I_ y0)).setCell ⟨bw, 4, none⟩ (I_ y1)).setCell ⟨bw, 5, none⟩ (.int .u64 y2)).setCell ⟨bw, 6, none⟩ (.slice aa na ca)).heap.size := (ZY (o := 0)).symm
        have E4 : (((((((V3.setCell ⟨bw, 0, none⟩ (I_ yk)).setCell ⟨bw, 1, none⟩ (I_ yo)).setCell ⟨bw, 2, none⟩ (I_ ya)).setCell ⟨bw, 3, none⟩ (I_ y0)).setCell ⟨bw, 4, none⟩ (I_ y1)).setCell ⟨bw, 5, none⟩ (.int .u64 y2)).setCell ⟨bw, 6, none⟩ (.slice aa na ca)).heap[bw]? = some (.cells #[I_ yk, I_ yo, I_ ya, I_ y0, I_ y1, .int .u64 y2, .slice aa na ca] 67 (0, 0)) := ZR Zbw.out (I_ yk) (I_ yo) (I_ ya) (I_ y0) (I_ y1) (.int .u64 y2) (.slice aa na ca)
        go_simp
        refine hK1.out _ _ (hH.turn (Nat.le_of_eq S4) (fun k _ hk => O4 k hk) (fun hm => by have := Lbw.out; have := KL.out; simp at hm; omega)) (fun hH => ?_)
        clear hK1 K1 p0 p1 p2 p3 p4 p5 p6 f0 f1 f2 f3 f4 f5 f6
        have HQ' := Za (HQ.out.set Zbw.out (by decide) Gbw.out S4 B4 O4)
        clear HQ
        have HQ := HQ'
        clear HQ'
        have Zbh' := Za ((O4 bh (Zm Zbh.out Zbw.out (by decide))).trans Zbh.out)
        clear Zbh
        have Zbh := Zbh'
        clear Zbh'
        clear Zbw
        have Zbw := Za E4
        have HB' : Hid (Below w.heap.size w w /\ w.heap.size <= (((((((V3.setCell ⟨bw, 0, none⟩ (I_ yk)).setCell ⟨bw, 1, none⟩ (I_ yo)).setCell ⟨bw, 2, none⟩ (I_ ya)).setCell ⟨bw, 3, none⟩ (I_ y0)).setCell ⟨bw, 4, none⟩ (I_ y1)).setCell ⟨bw, 5, none⟩ (.int .u64 y2)).setCell ⟨bw, 6, none⟩ (.slice aa na ca)).heap.size) := Za ⟨Below.refl _ _, by rw [← S4]; exact HB.out.2⟩
        clear HB
        have HB := HB'
        clear HB'
        clear B4 O4 S4 E4
        generalize (((((((V3.setCell ⟨bw, 0, none⟩ (I_ yk)).setCell ⟨bw, 1, none⟩ (I_ yo)).setCell ⟨bw, 2, none⟩ (I_ ya)).setCell ⟨bw, 3, none⟩ (I_ y0)).setCell ⟨bw, 4, none⟩ (I_ y1)).setCell ⟨bw, 5, none⟩ (.int .u64 y2)).setCell ⟨bw, 6, none⟩ (.slice aa na ca)) = V4 at *
        refine RH_ 18 (fun K1 hK1 => ?_)
        have p0 := Zb Zbh.out 0 _ rfl
        have p1 := Zb Zbh.out 1 _ rfl
        have p2 := Zb Zbh.out 2 _ rfl
        have f0 := Zc Zbh.out 0
        have f1 := Zc Zbh.out 1
        have f2 := Zc Zbh.out 2
        have B5 : Below w.heap.size V4 (((V4.setCell ⟨bh, 0, none⟩ (I_ f)).setCell ⟨bh, 1, none⟩ (I_ hn_)).setCell ⟨bh, 2, none⟩ (I_ hc_)) := Zt (Below.refl _ _) (Nat.le_of_lt Lbh.out) _ _ _
        have O5 : ∀ k, k ≠ bh -> (((V4.setCell ⟨bh, 0, none⟩ (I_ f)).setCell ⟨bh, 1, none⟩ (I_ hn_)).setCell ⟨bh, 2, none⟩ (I_ hc_)).heap[k]? = V4.heap[k]? := fun k hk => ne3 hk
        have S5 : V4.heap.size = (((V4.setCell ⟨bh, 0, none⟩ (I_ f)).setCell ⟨bh, 1, none⟩ (I_ hn_)).setCell ⟨bh, 2, none⟩ (I_ hc_)).heap.size := by simp only [Zi]
        have E5 : (((V4.setCell ⟨bh, 0, none⟩ (I_ f)).setCell ⟨bh, 1, none⟩ (I_ hn_)).setCell ⟨bh, 2, none⟩ (I_ hc_)).heap[bh]? = some (.cells #[I_ f, I_ hn_, I_ hc_] 122 (0, 0)) := Yx Zbh.out (I_ f) (I_ hn_) (I_ hc_)
        go_simp
        refine hK1.out _ _ (hH.turn (Nat.le_of_eq S5) (fun k _ hk => O5 k hk) (fun hm => by have := Lbh.out; have := KL.out; simp at hm; omega)) (fun hH => ?_)
        clear hK1 K1 p0 p1 p2 f0 f1 f2
        have HQ' := Za (HQ.out.set Zbh.out (by decide) Gbh.out S5 B5 O5)
        clear HQ
        have HQ := HQ'
        clear HQ'
        have Zbw' := Za ((O5 bw (Zm Zbw.out Zbh.out (by decide))).trans Zbw.out)
        clear Zbw
        have Zbw := Zbw'
        clear Zbw'
        clear Zbh
        have Zbh := Za E5
        have HB' : Hid (Below w.heap.size w w /\ w.heap.size <= (((V4.setCell ⟨bh, 0, none⟩ (I_ f)).setCell ⟨bh, 1, none⟩ (I_ hn_)).setCell ⟨bh, 2, none⟩ (I_ hc_)).heap.size) := Za ⟨Below.refl _ _, by rw [← S5]; exact HB.out.2⟩
        clear HB
        have HB := HB'
        clear HB'
        clear B5 O5 S5 E5
        generalize (((V4.setCell ⟨bh, 0, none⟩ (I_ f)).setCell ⟨bh, 1, none⟩ (I_ hn_)).setCell ⟨bh, 2, none⟩ (I_ hc_)) = V5 at *
        refine wpAnyH_done (by kernel_rfl) ?_ _
        clear hH
        go_wp2_with fail
        go_meet
        case rel => exact ⟨bw, bh, aa, na, ca, G', rfl, rfl, Za ⟨HQ.out, Zbw.out, Zbh.out, Gbw.out⟩⟩
      · have L0 : w.heap.size < V1.heap.size := by have h1 := hH.1; have h2 := hH.2.1 w.heap.size (by simp); omega
        go_simp
        have A2 := Zd V1 (.cells #[I_ 0, I_ 0, I_ 0, I_ 0, I_ 0, .int .u64 0, .slice none 0 0] 67)
        have N2 := B_ V1 (.cells #[I_ 0, I_ 0, I_ 0, I_ 0, I_ 0, .int .u64 0, .slice none 0 0] 67)
        refine hK1.out _ _ (hH.al A2) (fun hH => ?_)
        clear hK1 K1
        obtain ⟨bw, hbw⟩ : ∃ bw, V1.heap.size = bw := ⟨_, rfl⟩
        rw [hbw] at N2 ⊢
        have Lbw := Za (show w.heap.size < bw by rw [← hbw]; exact L0)
        clear L0
        have HU' := Za (HU.out.bel A2)
        clear HU
        have HU := HU'
        clear HU'
        have HB' := Za (Zg HB.out A2)
        clear HB
        have HB := HB'
        clear HB'
        have Zbh' := Za ((A2.block bh (Ze Zbh.out)).trans Zbh.out)
        clear Zbh
        have Zbh := Zbh'
        clear Zbh'
        have Zbw := Za N2
        clear A2 N2 hbw
        generalize V1.alloc _ = V2 at *
        refine RH_ 11 (fun K1 hK1 => ?_)
        go_simp
        refine (NX.out V2 HU.out).mono ?_
        rintro e V3 ⟨va, rfl, ar, kp, G', rn, ch⟩
        obtain ⟨aa, na, ca, xs, rfl, _⟩ := id ar
        refine hK1.out _ _ (hH.turn ch.size kp TN.out) (fun hH => ?_)
        clear hK1 K1
        have HQ := Za (AskQ.mk rn ((Ch.of_bel HB.out).trans ch) ar)
        have HB' := Za (show w.heap.size <= V3.heap.size from Nat.le_trans HB.out.size ch.size)
        have Gbw : Hid (¬ G' bw) := Za (fun hG => by
          rcases ch.grow bw hG with h1 | h1
          · exact absurd (GL.out bw h1) (by have := Lbw.out; omega)
          · exact absurd (Ze Zbw.out) (by omega))
        have Zbw' := Za ((kp bw (Ze Zbw.out) (by have := Lbw.out; have := TL.out; omega)).trans Zbw.out)
        clear Zbw
        have Zbw := Zbw'
        clear Zbw'
        have Gbh : Hid (¬ G' bh) := Za (fun hG => by
          rcases ch.grow bh hG with h1 | h1
          · exact absurd (GL.out bh h1) (by have := Lbh.out; omega)
          · exact absurd (Ze Zbh.out) (by omega))
        have Zbh' := Za ((kp bh (Ze Zbh.out) (by have := Lbh.out; have := TL.out; omega)).trans Zbh.out)
        clear Zbh
        have Zbh := Zbh'
        clear Zbh'
        clear rn ch ar kp HB HU
        have HB : Hid (Below w.heap.size w w /\ w.heap.size <= V3.heap.size) := Za ⟨Below.refl _ _, HB'.out⟩
        clear HB'
        refine H2_ 12 hH ?_
        simp only [Act.put, S_]
        refine H2_ 13 hH ?_
        simp only [Act.put, S_]
        refine H2_ 14 hH ?_
        simp only [Act.put, S_]
        refine RH_ 17 (fun K1 hK1 => ?_)
        have p0 := Zb Zbw.out 0 _ rfl
        have p1 := Zb Zbw.out 1 _ rfl
        have p2 := Zb Zbw.out 2 _ rfl
        have p3 := Zb Zbw.out 3 _ rfl
        have p4 := Zb Zbw.out 4 _ rfl
        have p5 := Zb Zbw.out 5 _ rfl
        have p6 := Zb Zbw.out 6 _ rfl
        have f0 := Zc Zbw.out 0
        have f1 := Zc Zbw.out 1
        have f2 := Zc Zbw.out 2
        have f3 := Zc Zbw.out 3
        have f4 := Zc Zbw.out 4
        have f5 := Zc Zbw.out 5
        have f6 := Zc Zbw.out 6
        have B4 : Below w.heap.size V3 (((((((V3.setCell ⟨bw, 0, none⟩ (I_ yk)).setCell ⟨bw, 1, none⟩ (I_ yo)).setCell ⟨bw, 2, none⟩ (I_ ya)).setCell ⟨bw, 3, none⟩ (I_ y0)).setCell ⟨bw, 4, none⟩ (I_ y1)).setCell ⟨bw, 5, none⟩ (.int .u64 y2)).setCell ⟨bw, 6, none⟩ (.slice aa na ca)) := ZL (o := 0) (Below.refl _ _) (Nat.le_of_lt Lbw.out)
        have O4 : ∀ k, k ≠ bw -> (((((((V3.setCell ⟨bw, 0, none⟩ (I_ yk)).setCell ⟨bw, 1, none⟩ (I_ yo)).setCell ⟨bw, 2, none⟩ (I_ ya)).setCell ⟨bw, 3, none⟩ (I_ y0)).setCell ⟨bw, 4, none⟩ (I_ y1)).setCell ⟨bw, 5, none⟩ (.int .u64 y2)).setCell ⟨bw, 6, none⟩ (.slice aa na ca)).heap[k]? = V3.heap[k]? := fun k hk => Zy (o := 0) hk
        have S4 : V3.heap.size = (((((((V3.setCell ⟨bw, 0, none⟩ (I_ yk)).setCell ⟨bw, 1, none⟩ (I_ yo)).setCell ⟨bw, 2, none⟩ (I_ ya)).setCell ⟨bw, 3, none⟩ (I_ y0)).setCell ⟨bw, 4, none⟩ (I_ y1)).setCell ⟨bw, 5, none⟩ (.int .u64 y2)).setCell ⟨bw, 6, none⟩ (.slice aa na ca)).heap.size := (ZY (o := 0)).symm
        have E4 : (((((((V3.setCell ⟨bw, 0, none⟩ (I_ yk)).setCell ⟨bw, 1, none⟩ (I_ yo)).setCell ⟨bw, 2, none⟩ (I_ ya)).setCell ⟨bw, 3, none⟩ (I_ y0)).setCell ⟨bw, 4, none⟩ (I_ y1)).setCell ⟨bw, 5, none⟩ (.int .u64 y2)).setCell ⟨bw, 6, none⟩ (.slice aa na ca)).heap[bw]? = some (.cells #[I_ yk, I_ yo, I_ ya, I_ y0, I_ y1, .int .u64 y2, .slice aa na ca] 67 (0, 0)) := ZR Zbw.out (I_ yk) (I_ yo) (I_ ya) (I_ y0) (I_ y1) (.int .u64 y2) (.slice aa na ca)
        go_simp
        refine hK1.out _ _ (hH.turn (Nat.le_of_eq S4) (fun k _ hk => O4 k hk) (fun hm => by have := Lbw.out; have := KL.out; simp at hm; omega)) (fun hH => ?_)
        clear hK1 K1 p0 p1 p2 p3 p4 p5 p6 f0 f1 f2 f3 f4 f5 f6
        have HQ' := Za (HQ.out.set Zbw.out (by decide) Gbw.out S4 B4 O4)
        clear HQ
        have HQ := HQ'
        clear HQ'
        have Zbh' := Za ((O4 bh (Zm Zbh.out Zbw.out (by decide))).trans Zbh.out)
        clear Zbh
        have Zbh := Zbh'
        clear Zbh'
        clear Zbw
        have Zbw := Za E4
        have HB' : Hid (Below w.heap.size w w /\ w.heap.size <= (((((((V3.setCell ⟨bw, 0, none⟩ (I_ yk)).setCell ⟨bw, 1, none⟩ (I_ yo)).setCell ⟨bw, 2, none⟩ (I_ ya)).setCell ⟨bw, 3, none⟩ (I_ y0)).setCell ⟨bw, 4, none⟩ (I_ y1)).setCell ⟨bw, 5, none⟩ (.int .u64 y2)).setCell ⟨bw, 6, none⟩ (.slice aa na ca)).heap.size) := Za ⟨Below.refl _ _, by rw [← S4]; exact HB.out.2⟩
        clear HB
        have HB := HB'
        clear HB'
        clear B4 O4 S4 E4
        generalize (((((((V3.setCell ⟨bw, 0, none⟩ (I_ yk)).setCell ⟨bw, 1, none⟩ (I_ yo)).setCell ⟨bw, 2, none⟩ (I_ ya)).setCell ⟨bw, 3, none⟩ (I_ y0)).setCell ⟨bw, 4, none⟩ (I_ y1)).setCell ⟨bw, 5, none⟩ (.int .u64 y2)).setCell ⟨bw, 6, none⟩ (.slice aa na ca)) = V4 at *
        refine RH_ 18 (fun K1 hK1 => ?_)
        have p0 := Zb Zbh.out 0 _ rfl
        have p1 := Zb Zbh.out 1 _ rfl
        have p2 := Zb Zbh.out 2 _ rfl
        have f0 := Zc Zbh.out 0
        have f1 := Zc Zbh.out 1
        have f2 := Zc Zbh.out 2
        have B5 : Below w.heap.size V4 (((V4.setCell ⟨bh, 0, none⟩ (I_ f)).setCell ⟨bh, 1, none⟩ (I_ hn_)).setCell ⟨bh, 2, none⟩ (I_ hc_)) := Zt (Below.refl _ _) (Nat.le_of_lt Lbh.out) _ _ _
        have O5 : ∀ k, k ≠ bh -> (((V4.setCell ⟨bh, 0, none⟩ (I_ f)).setCell ⟨bh, 1, none⟩ (I_ hn_)).setCell ⟨bh, 2, none⟩ (I_ hc_)).heap[k]? = V4.heap[k]? := fun k hk => ne3 hk
        have S5 : V4.heap.size = (((V4.setCell ⟨bh, 0, none⟩ (I_ f)).setCell ⟨bh, 1, none⟩ (I_ hn_)).setCell ⟨bh, 2, none⟩ (I_ hc_)).heap.size := by simp only [Zi]
        have E5 : (((V4.setCell ⟨bh, 0, none⟩ (I_ f)).setCell ⟨bh, 1, none⟩ (I_ hn_)).setCell ⟨bh, 2, none⟩ (I_ hc_)).heap[bh]? = some (.cells #[I_ f, I_ hn_, I_ hc_] 122 (0, 0)) := Yx Zbh.out (I_ f) (I_ hn_) (I_ hc_)
        go_simp
        refine hK1.out _ _ (hH.turn (Nat.le_of_eq S5) (fun k _ hk => O5 k hk) (fun hm => by have := Lbh.out; have := KL.out; simp at hm; omega)) (fun hH => ?_)
        clear hK1 K1 p0 p1 p2 f0 f1 f2
        have HQ' := Za (HQ.out.set Zbh.out (by decide) Gbh.out S5 B5 O5)
        clear HQ
        have HQ := HQ'
        clear HQ'
        have Zbw' := Za ((O5 bw (Zm Zbw.out Zbh.out (by decide))).trans Zbw.out)
        clear Zbw
        have Zbw := Zbw'
        clear Zbw'
        clear Zbh
        have Zbh := Za E5
        have HB' : Hid (Below w.heap.size w w /\ w.heap.size <= (((V4.setCell ⟨bh, 0, none⟩ (I_ f)).setCell ⟨bh, 1, none⟩ (I_ hn_)).setCell ⟨bh, 2, none⟩ (I_ hc_)).heap.size) := Za ⟨Below.refl _ _, by rw [← S5]; exact HB.out.2⟩
        clear HB
        have HB := HB'
        clear HB'
        clear B5 O5 S5 E5
        generalize (((V4.setCell ⟨bh, 0, none⟩ (I_ f)).setCell ⟨bh, 1, none⟩ (I_ hn_)).setCell ⟨bh, 2, none⟩ (I_ hc_)) = V5 at *
        refine wpAnyH_done (by kernel_rfl) ?_ _
        clear hH
        go_wp2_with fail
        go_meet
        case rel => exact ⟨bw, bh, aa, na, ca, G', rfl, rfl, Za ⟨HQ.out, Zbw.out, Zbh.out, Gbw.out⟩⟩
  case rest =>
    clear HU HB NX V1 C3 D1 D2 KL0 GL TN TL KL
    obtain ⟨bw, bh, aa, na, ca, G', rfl, rfl, CU⟩ := hcut
    have hfb : (f == 0) = false := by simp [hf]
    have k0 := Zb CU.out.2.2.1 0 _ rfl
    have k1 := Zb CU.out.2.2.1 1 _ rfl
    have k2 := Zb CU.out.2.2.1 2 _ rfl
    go_wp2_with fail
    refine (fault_any CU.out.1.rn i f hn_ hc_).mono ?_
    rintro e w9 ⟨rfl, G9, rn9, ch9⟩
    have F9 := Za (And.intro rn9 (CU.out.1.ch.trans ch9))
    clear rn9 ch9 k0 k1 k2 CU
    go_wp2_with fail
    go_ret
    exact RnP.mk rfl F9.out.1 F9.out.2
end Go.Proofs.YtfojninaginnoaaGreatDoor.Ck
