/- Texts of this proof, packed: contracts of the program's functions, and the plain model that they are held against. -/
import Derived.Test.YtfojninaginnoaaGreatDoorVal
set_option maxRecDepth 20000
set_option maxHeartbeats 4000000
namespace Go.Proofs.YtfojninaginnoaaGreatDoor.Ck
open Go.RowKit
theorem ask_fin {w w' : World} {G Fs Fo R : Nat -> Prop} {g gs : Nat} {S : List (List Wt)} {r : Rm} {vC vB vG vE : Value} {ps ts : List Nat} (h : Ru w Fs Fo R g gs S r vC vB vG vE ps ts) (hG : ∀ k, G k ↔ Fs k ∨ Fo k ∨ R k) {i b : Nat} {x : Gr} (hx : r.gs[i]? = some x) (hb : ps[i]? = some b) {va : Value} (hbel : Below w.heap.size w w') (a : YA w.heap.size w' va) (k o a_ v0 v1 v2 : Int) :
 ∃ G', Rn (set7 w' b 1 (I_ k) (I_ o) (I_ a_) (I_ v0) (I_ v1) (.int .u64 v2) va) G' g S { r with gs := r.gs.set i ⟨x.rest, ⟨k, o, a_, (v0, v1, v2)⟩⟩ } /\ Ch G G' w (set7 w' b 1 (I_ k) (I_ o) (I_ a_) (I_ v0) (I_ v1) (.int .u64 v2) va) := by
 have h1 := h.fresh hbel (fun k => va.ownBlock = some k) (fun k hk => a.at hk)
 obtain ⟨h2, c2⟩ := h1.setW hx hb k o a_ v0 v1 v2 va (a.args (fun k hk => .inr hk))
 refine ⟨_, h2.rn, ((Ch.of_bel hbel).trans c2).wide (fun k hk => (hG k).2 (.inr (.inl hk))) (fun k hk => ?_)⟩
 rcases hk with h3 | h3 | h3 | h3
 · exact .inl ((hG k).2 (.inl h3))
 · exact .inl ((hG k).2 (.inr (.inl h3)))
 · exact .inl ((hG k).2 (.inr (.inr h3)))
 · exact .inr (a.at h3).1
theorem ask_ok {w : World} {G : Nat -> Prop} {g : Nat} {S : List (List Wt)} {r : Rm} (h : Rn w G g S r) (i : Nat) (x : Gr) (hx : r.gs[i]? = some x) (j0 j1 j2 yk yo ya y0 y1 y2 f hn_ hc_ : Int) (r' : Rm) (NX : ∀ (W : World) (Fs Fo R : Nat -> Prop) (gs : Nat) (vC vB vG vE : Value) (ps ts : List Nat) (t : Nat), Ru W Fs Fo R g gs S r vC vB vG vE ps ts -> (∀ k, G k ↔ Fs k ∨ Fo k ∨ R k) -> ts[i]? = some t -> Calls Tryz.prog 127 #[P_ t, .agg #[I_ j0, I_ j1, .int .u64 j2]] W (NextP W G g t S r' ⟨yk, yo, ya, (y0, y1, y2)⟩ f hn_ hc_)) (hf : f = 0) (x' : Gr) (hx' : r'.gs[i]? = some x') : Calls Tryz.prog 56 #[P_ g, I_ (i : Nat), .agg #[I_ j0, I_ j1, .int .u64 j2]] w (RnP w G g S { r' with gs := r'.gs.set i ⟨x'.rest, ⟨yk, yo, ya, (y0, y1, y2)⟩⟩ } (.bool true)) := by
  have GL := Za h.fb
  obtain ⟨Fs, Fo, R, gs, vC, vB, vG, vE, ps, ts, h, hG⟩ := h
  obtain ⟨bG, cG, b, t, va, eG, e1, e2, e3, e4, gor, hA, ⟨s1, s2, s3⟩, s4⟩ := h.see hx
  subst eG
  have z3_ : ∃ vw, w.heap[t]? = some (.cells #[vw] 128 (0, 0)) := by
    obtain ⟨_, vw, _, _, z3, _⟩ := gor
    exact ⟨vw, z3⟩
  obtain ⟨vw, z3_⟩ := z3_
  have hi : i < r.gs.length := (G_ hx)
  have hn8 := h.n8
  obtain ⟨n, hn⟩ : ∃ n, n = r.gs.length := ⟨_, rfl⟩
  have c3 := h.cells.1.2.2.2.1
  rw [← hn] at hi hn8 c3
  have hi1 : (i : Int) < (n : Int) := by omega
  have hi0 : (0 : Int) <= (i : Int) := by omega
  have hgl := h.fb g h.fg
  have d2 : w.cell? ⟨b, 0, none⟩ = some (.iface 126 (P_ t)) := Zb s4 0 _ rfl
  have TN : Hid (t ∉ [g, bG, b, w.heap.size]) := Za (fun hm => by
    have h1 := Zm z3_ h.at_ (by decide)
    have h2 := Zm z3_ s4 (by decide)
    have h3 : t ≠ bG := fun e => Zu h.go z3_ (by decide) (by rw [e]; rfl)
    have h4 := Ze z3_
    simp at hm
    omega)
  have TL := Za (Ze z3_)
  have KL : Hid (g < w.heap.size /\ bG < w.heap.size /\ b < w.heap.size) := Za ⟨hgl, s2, s3⟩
  have B0 := Zd w (.cells #[I_ j0, I_ j1, .int .u64 j2] 64)
  have HU := Za (h.bel B0)
  have HB := Za B0
  have NX := Za (fun (W : World) (hU : Ru W Fs Fo R g gs S r vC vB (.slice (some ⟨bG, 0, none⟩) r.gs.length cG) vE ps ts) => NX W Fs Fo R gs vC vB _ vE ps ts t hU hG e2)
  have V1 := Za (Val.new w j0 j1 j2)
  have C3 := Za ((B0.cell (p := ⟨g, 3, none⟩) hgl).trans c3)
  have D1 := Za ((B0.cell (p := ⟨bG, i, none⟩) s2).trans s1)
  have D2 := Za ((B0.cell (p := ⟨b, 0, none⟩) s3).trans d2)
  have KL0 : Hid (∀ k ∈ [g, bG, b, w.heap.size], k < (w.alloc (.cells #[I_ j0, I_ j1, .int .u64 j2] 64)).drew.heap.size) := Za (fun k hk => by
    have h1 := V1.out.lt
    have h2 := B0.size
    show k < (w.alloc (.cells #[I_ j0, I_ j1, .int .u64 j2] 64)).heap.size
    simp only [List.mem_cons, List.mem_nil_iff, or_false] at hk
    rcases hk with rfl | rfl | rfl | rfl <;> omega)
  have hmet := methodNext
  clear h hG c3 d2 s1 s4 z3_ gor hA e1 e2 e3 e4 hx B0 hn
  subst hf
  go_enter Tryz.func56, Tryz.ntmps56
  go_upto_region 1 with fail
  generalize w.alloc _ = W1 at *
  go_cut [7, 8] from 9 to 23 (fun x7 x8 wc => AskP w G g S r' ⟨yk, yo, ya, (y0, y1, y2)⟩ 0 hn_ hc_ x7 x8 wc)
  case first =>
    refine wp_region_held_drew (S := fun w' => Yp [g, bG, b, w.heap.size] W1.drew w') ZJ (Yp.refl KL0.out) (fun hH => ?_)
    have HU' := Za (HU.out.bel (w' := W1.drew) (below_drewN (Below.refl _ _) 1))
    clear HU
    have HU := HU'
    clear HU'
    have HB' := Za (Zp HB.out)
    clear HB
    have HB := HB'
    clear HB'
    have C3 : Hid (W1.drew.cell? ⟨g, 3, none⟩ = some (.slice (some ⟨bG, 0, none⟩) n cG)) := C3
    have D1 : Hid (W1.drew.cell? ⟨bG, i, none⟩ = some (P_ b)) := D1
    have D2 : Hid (W1.drew.cell? ⟨b, 0, none⟩ = some (.iface 126 (P_ t))) := D2
    have V1 : Hid (Val W1.drew w.heap.size j0 j1 j2) := V1
    generalize W1.drew = W0 at *
    refine H2_ 0 hH ?_
    simp only [Act.put, S_]
    refine H2_ 1 hH ?_
    simp only [Act.put, S_]
    refine H2_ 2 hH ?_
    simp only [Act.put, S_]
    refine H_ 3 (v := ?_) ?_ hH ?_
    rotate_left 1
    · (intro w hSw; have q := hSw.cell (by simp) C3.out; clear hSw; go_simp <;> with_reducible rfl)
    simp only [Act.put, S_]
    refine H2_ 4 hH ?_
    simp only [Act.put, S_]
    refine H2_ 5 hH ?_
    simp only [Act.put, S_]
    refine H_ 6 (v := ?_) ?_ hH ?_
    rotate_left 1
    · (intro w hSw; have q := hSw.cell (by simp) D1.out; clear hSw; go_simp <;> with_reducible rfl)
    simp only [Act.put, S_]
    refine H2_ 7 hH ?_
    simp only [Act.put, S_]
    refine H2_ 8 hH ?_
    simp only [Act.put, S_]
    refine H_ 9 (v := ?_) ?_ hH ?_
    rotate_left 1
    · (intro w hSw; have q := hSw.cell (by simp) D2.out; clear hSw; go_simp <;> with_reducible rfl)
    simp only [Act.put, S_]
    refine H_ 10 (v := ?_) ?_ hH ?_
    rotate_left 1
    · (intro w hSw; obtain ⟨_, z0, z1, z2⟩ := V1.out.all; have q0 := hSw.cell (by simp) z0; have q1 := hSw.cell (by simp) z1; have q2 := hSw.cell (by simp) z2; clear hSw; go_simp <;> with_reducible rfl)
    simp only [Act.put, S_]
    refine wpAnyH_ready (rs := [11, 15, 16]) (by kernel_rfl) (by decide) ?_
    refine AllReadyH.cons rfl (fun K1 hK1 => ?_) (AllReadyH.cons rfl (fun K1 hK1 => ?_) (AllReadyH.cons rfl (fun K1 hK1 => ?_) AllReadyH.nil))
    · go_simp
      refine (NX.out W0 HU.out).mono ?_
      rintro e V1 ⟨va, rfl, ar, kp, G', rn, ch⟩
      obtain ⟨aa, na, ca, xs, rfl, _⟩ := id ar
      refine hK1.out _ _ (hH.turn ch.size kp TN.out) (fun hH => ?_)
      clear hK1 K1
      have HQ := Za (AskQ.mk rn ((Ch.of_bel HB.out).trans ch) ar)
      have HB' := Za (show w.heap.size <= V1.heap.size from Nat.le_trans HB.out.size ch.size)
      clear rn ch ar kp HB HU
      have HB : Hid (Below w.heap.size w w /\ w.heap.size <= V1.heap.size) := Za ⟨Below.refl _ _, HB'.out⟩
      clear HB'
      refine H2_ 12 hH ?_
      simp only [Act.put, S_]
      refine H2_ 13 hH ?_
      simp only [Act.put, S_]
      refine H2_ 14 hH ?_
      simp only [Act.put, S_]
      refine wpAnyH_ready (rs := [15, 16]) (by kernel_rfl) (by decide) ?_
      refine AllReadyH.cons rfl (fun K1 hK1 => ?_) (AllReadyH.cons rfl (fun K1 hK1 => ?_) AllReadyH.nil)
      · have L0 : w.heap.size < V1.heap.size := by have h1 := hH.1; have h2 := hH.2.1 w.heap.size (by simp); omega
        go_simp
        have A2 := Zd V1 (.cells #[I_ 0, I_ 0, I_ 0, I_ 0, I_ 0, .int .u64 0, .slice none 0 0] 67)
        have N2 := B_ V1 (.cells #[I_ 0, I_ 0, I_ 0, I_ 0, I_ 0, .int .u64 0, .slice none 0 0] 67)
        refine hK1.out _ _ (hH.al A2) (fun hH => ?_)
        clear hK1 K1
        obtain ⟨bw, hbw⟩ : ∃ bw, V1.heap.size = bw := ⟨_, rfl⟩
        rw [hbw] at N2 ⊢
        have Lbw := Za (show w.heap.size < bw by rw [← hbw]; exact L0)
        clear L0
        have Gbw : Hid (¬ G' bw) := Za (fun hG => absurd (HQ.out.rn.fb bw hG) (by omega))
        have HQ' := Za (HQ.out.al A2)
        clear HQ
        have HQ := HQ'
        clear HQ'
        have HB' : Hid (Below w.heap.size w w /\ w.heap.size <= (V1.alloc (.cells #[I_ 0, I_ 0, I_ 0, I_ 0, I_ 0, .int .u64 0, .slice none 0 0] 67)).heap.size) := Za ⟨Below.refl _ _, Nat.le_trans HB.out.2 A2.size⟩
        clear HB
        have HB := HB'
        clear HB'
        have Zbw := Za N2
        clear A2 N2 hbw
        generalize V1.alloc _ = V2 at *
        refine RH_ 16 (fun K1 hK1 => ?_)
        have L0 : w.heap.size < V2.heap.size := by have h1 := hH.1; have h2 := hH.2.1 w.heap.size (by simp); omega
        go_simp
        have A3 := Zd V2 (.cells #[I_ 0, I_ 0, I_ 0] 122)
        have N3 := B_ V2 (.cells #[I_ 0, I_ 0, I_ 0] 122)
        refine hK1.out _ _ (hH.al A3) (fun hH => ?_)
        clear hK1 K1
        obtain ⟨bh, hbh⟩ : ∃ bh, V2.heap.size = bh := ⟨_, rfl⟩
        rw [hbh] at N3 ⊢
        have Lbh := Za (show w.heap.size < bh by rw [← hbh]; exact L0)
        clear L0
        have Gbh : Hid (¬ G' bh) := Za (fun hG => absurd (HQ.out.rn.fb bh hG) (by omega))
        have HQ' := Za (HQ.out.al A3)
        clear HQ
        have HQ := HQ'
        clear HQ'
        have HB' : Hid (Below w.heap.size w w /\ w.heap.size <= (V2.alloc (.cells #[I_ 0, I_ 0, I_ 0] 122)).heap.size) := Za ⟨Below.refl _ _, Nat.le_trans HB.out.2 A3.size⟩
        clear HB
        have HB := HB'
        clear HB'
        have Zbw' := Za ((A3.block bw (Ze Zbw.out)).trans Zbw.out)
        clear Zbw
        have Zbw := Zbw'
        clear Zbw'
        have Zbh := Za N3
        clear A3 N3 hbh
        generalize V2.alloc _ = V3 at *
        refine RH_ 17 (fun K1 hK1 => ?_)
        have p0 := Zb Zbw.out 0 _ rfl
        have p1 := Zb Zbw.out 1 _ rfl
        have p2 := Zb Zbw.out 2 _ rfl
        have p3 := Zb Zbw.out 3 _ rfl
        have p4 := Zb Zbw.out 4 _ rfl
        have p5 := Zb Zbw.out 5 _ rfl
        have p6 := Zb Zbw.out 6 _ rfl
        have f0 := Zc Zbw.out 0
        have f1 := Zc Zbw.out 1
        have f2 := Zc Zbw.out 2
        have f3 := Zc Zbw.out 3
        have f4 := Zc Zbw.out 4
        have f5 := Zc Zbw.out 5
        have f6 := Zc Zbw.out 6
        have B4 : Below w.heap.size V3 (((((((V3.setCell ⟨bw, 0, none⟩ (I_ yk)).setCell ⟨bw, 1, none⟩ (I_ yo)).setCell ⟨bw, 2, none⟩ (I_ ya)).setCell ⟨bw, 3, none⟩ (I_ y0)).setCell ⟨bw, 4, none⟩ (I_ y1)).setCell ⟨bw, 5, none⟩ (.int .u64 y2)).setCell ⟨bw, 6, none⟩ (.slice aa na ca)) := ZL (o := 0) (Below.refl _ _) (Nat.le_of_lt Lbw.out)
        have O4 : ∀ k, k ≠ bw -> (((((((V3.setCell ⟨bw, 0, none⟩ (I_ yk)).setCell ⟨bw, 1, none⟩ (I_ yo)).setCell ⟨bw, 2, none⟩ (I_ ya)).setCell ⟨bw, 3, none⟩ (I_ y0)).setCell ⟨bw, 4, none⟩ (I_ y1)).setCell ⟨bw, 5, none⟩ (.int .u64 y2)).setCell ⟨bw, 6, none⟩ (.slice aa na ca)).heap[k]? = V3.heap[k]? := fun k hk => Zy (o := 0) hk
        have S4 : V3.heap.size = (((((((V3.setCell ⟨bw, 0, none⟩ (I_ yk)).setCell ⟨bw, 1, none⟩ (I_ yo)).setCell ⟨bw, 2, none⟩ (I_ ya)).setCell ⟨bw, 3, none⟩ (I_ y0)).setCell ⟨bw, 4, none⟩ (I_ y1)).setCell ⟨bw, 5, none⟩ (.int .u64 y2)).setCell ⟨bw, 6, none⟩ (.slice aa na ca)).heap.size := (ZY (o := 0)).symm
        have E4 : (((((((V3.setCell ⟨bw, 0, none⟩ (I_ yk)).setCell ⟨bw, 1, none⟩ (I_ yo)).setCell ⟨bw, 2, none⟩ (I_ ya)).setCell ⟨bw, 3, none⟩ (I_ y0)).setCell ⟨bw, 4, none⟩ (I_ y1)).setCell ⟨bw, 5, none⟩ (.int .u64 y2)).setCell ⟨bw, 6, none⟩ (.slice aa na ca)).heap[bw]? = some (.cells #[I_ yk, I_ yo, I_ ya, I_ y0, I_ y1, .int .u64 y2, .slice aa na ca] 67 (0, 0)) := ZR Zbw.out (I_ yk) (I_ yo) (I_ ya) (I_ y0) (I_ y1) (.int .u64 y2) (.slice aa na ca)
        go_simp
        refine hK1.out _ _ (hH.turn (Nat.le_of_eq S4) (fun k _ hk => O4 k hk) (fun hm => by have := Lbw.out; have := KL.out; simp at hm; omega)) (fun hH => ?_)
        clear hK1 K1 p0 p1 p2 p3 p4 p5 p6 f0 f1 f2 f3 f4 f5 f6
        have HQ' := Za (HQ.out.set Zbw.out (by decide) Gbw.out S4 B4 O4)
        clear HQ
        have HQ := HQ'
        clear HQ'
        have Zbh' := Za ((O4 bh (Zm Zbh.out Zbw.out (by decide))).trans Zbh.out)
        clear Zbh
        have Zbh := Zbh'
        clear Zbh'
        clear Zbw
        have Zbw := Za E4
        have HB' : Hid (Below w.heap.size w w /\ w.heap.size <= (((((((V3.setCell ⟨bw, 0, none⟩ (I_ yk)).setCell ⟨bw, 1, none⟩ (I_ yo)).setCell ⟨bw, 2, none⟩ (I_ ya)).setCell ⟨bw, 3, none⟩ (I_ y0)).setCell ⟨bw, 4, none⟩ (I_ y1)).setCell ⟨bw, 5, none⟩ (.int .u64 y2)).setCell ⟨bw, 6, none⟩ (.slice aa na ca)).heap.size) := Za ⟨Below.refl _ _, by rw [← S4]; exact HB.out.2⟩
        clear HB
        have HB := HB'
        clear HB'
        clear B4 O4 S4 E4
        generalize (((((((V3.setCell ⟨bw, 0, none⟩ (I_ yk)).setCell ⟨bw, 1, none⟩ (I_ yo)).setCell ⟨bw, 2, none⟩ (I_ ya)).setCell ⟨bw, 3, none⟩ (I_ y0)).setCell ⟨bw, 4, none⟩ (I_ y1)).setCell ⟨bw, 5, none⟩ (.int .u64 y2)).setCell ⟨bw, 6, none⟩ (.slice aa na ca)) = V4 at *
        refine RH_ 18 (fun K1 hK1 => ?_)
        have p0 := Zb Zbh.out 0 _ rfl
        have p1 := Zb Zbh.out 1 _ rfl
        have p2 := Zb Zbh.out 2 _ rfl
        have f0 := Zc Zbh.out 0
        have f1 := Zc Zbh.out 1
        have f2 := Zc Zbh.out 2
        have B5 : Below w.heap.size V4 (((V4.setCell ⟨bh, 0, none⟩ (I_ 0)).setCell ⟨bh, 1, none⟩ (I_ hn_)).setCell ⟨bh, 2, none⟩ (I_ hc_)) := Zt (Below.refl _ _) (Nat.le_of_lt Lbh.out) _ _ _
        have O5 : ∀ k, k ≠ bh -> (((V4.setCell ⟨bh, 0, none⟩ (I_ 0)).setCell ⟨bh, 1, none⟩ (I_ hn_)).setCell ⟨bh, 2, none⟩ (I_ hc_)).heap[k]? = V4.heap[k]? := fun k hk => ne3 hk
        have S5 : V4.heap.size = (((V4.setCell ⟨bh, 0, none⟩ (I_ 0)).setCell ⟨bh, 1, none⟩ (I_ hn_)).setCell ⟨bh, 2, none⟩ (I_ hc_)).heap.size := by simp only [Zi]
        have E5 : (((V4.setCell ⟨bh, 0, none⟩ (I_ 0)).setCell ⟨bh, 1, none⟩ (I_ hn_)).setCell ⟨bh, 2, none⟩ (I_ hc_)).heap[bh]? = some (.cells #[I_ 0, I_ hn_, I_ hc_] 122 (0, 0)) := Yx Zbh.out (I_ 0) (I_ hn_) (I_ hc_)
        go_simp
        refine hK1.out _ _ (hH.turn (Nat.le_of_eq S5) (fun k _ hk => O5 k hk) (fun hm => by have := Lbh.out; have := KL.out; simp at hm; omega)) (fun hH => ?_)
        clear hK1 K1 p0 p1 p2 f0 f1 f2
        have HQ' := Za (HQ.out.set Zbh.out (by decide) Gbh.out S5 B5 O5)
        clear HQ
        have HQ := HQ'
        clear HQ'
        have Zbw' := Za ((O5 bw (Zm Zbw.out Zbh.out (by decide))).trans Zbw.out)
        clear Zbw
        have Zbw := Zbw'
        clear Zbw'
        clear Zbh
        have Zbh := Za E5
        have HB' : Hid (Below w.heap.size w w /\ w.heap.size <= (((V4.setCell ⟨bh, 0, none⟩ (I_ 0)).setCell ⟨bh, 1, none⟩ (I_ hn_)).setCell ⟨bh, 2, none⟩ (I_ hc_)).heap.size) := Za ⟨Below.refl _ _, by rw [← S5]; exact HB.out.2⟩
        clear HB
        have HB := HB'
        clear HB'
        clear B5 O5 S5 E5
        generalize (((V4.setCell ⟨bh, 0, none⟩ (I_ 0)).setCell ⟨bh, 1, none⟩ (I_ hn_)).setCell ⟨bh, 2, none⟩ (I_ hc_)) = V5 at *
        refine wpAnyH_done (by kernel_rfl) ?_ _
        clear hH
        go_wp2_with fail
        go_meet
        case rel => exact ⟨bw, bh, aa, na, ca, G', rfl, rfl, Za ⟨HQ.out, Zbw.out, Zbh.out, Gbw.out⟩⟩
      · have L0 : w.heap.size < V1.heap.size := by have h1 := hH.1; have h2 := hH.2.1 w.heap.size (by simp); omega
        go_simp
        have A2 := Zd V1 (.cells #[I_ 0, I_ 0, I_ 0] 122)
        have N2 := B_ V1 (.cells #[I_ 0, I_ 0, I_ 0] 122)
        refine hK1.out _ _ (hH.al A2) (fun hH => ?_)
        clear hK1 K1
        obtain ⟨bh, hbh⟩ : ∃ bh, V1.heap.size = bh := ⟨_, rfl⟩
        rw [hbh] at N2 ⊢
        have Lbh := Za (show w.heap.size < bh by rw [← hbh]; exact L0)
        clear L0
        have Gbh : Hid (¬ G' bh) := Za (fun hG => absurd (HQ.out.rn.fb bh hG) (by omega))
        have HQ' := Za (HQ.out.al A2)
        clear HQ
        have HQ := HQ'
        clear HQ'
        have HB' : Hid (Below w.heap.size w w /\ w.heap.size <= (V1.alloc (.cells #[I_ 0, I_ 0, I_ 0] 122)).heap.size) := Za ⟨Below.refl _ _, Nat.le_trans HB.out.2 A2.size⟩
        clear HB
        have HB := HB'
        clear HB'
        have Zbh := Za N2
        clear A2 N2 hbh
        generalize V1.alloc _ = V2 at *
        refine RH_ 15 (fun K1 hK1 => ?_)
        have L0 : w.heap.size < V2.heap.size := by have h1 := hH.1; have h2 := hH.2.1 w.heap.size (by simp); omega
        go_simp
        have A3 := Zd V2 (.cells #[I_ 0, I_ 0, I_ 0, I_ 0, I_ 0, .int .u64 0, .slice none 0 0] 67)
        have N3 := B_ V2 (.cells #[I_ 0, I_ 0, I_ 0, I_ 0, I_ 0, .int .u64 0, .slice none 0 0] 67)
        refine hK1.out _ _ (hH.al A3) (fun hH => ?_)
        clear hK1 K1
        obtain ⟨bw, hbw⟩ : ∃ bw, V2.heap.size = bw := ⟨_, rfl⟩
        rw [hbw] at N3 ⊢
        have Lbw := Za (show w.heap.size < bw by rw [← hbw]; exact L0)
        clear L0
        have Gbw : Hid (¬ G' bw) := Za (fun hG => absurd (HQ.out.rn.fb bw hG) (by omega))
        have HQ' := Za (HQ.out.al A3)
        clear HQ
        have HQ := HQ'
        clear HQ'
        have HB' : Hid (Below w.heap.size w w /\ w.heap.size <= (V2.alloc (.cells #[I_ 0, I_ 0, I_ 0, I_ 0, I_ 0, .int .u64 0, .slice none 0 0] 67)).heap.size) := Za ⟨Below.refl _ _, Nat.le_trans HB.out.2 A3.size⟩
        clear HB
        have HB := HB'
        clear HB'
        have Zbh' := Za ((A3.block bh (Ze Zbh.out)).trans Zbh.out)
        clear Zbh
        have Zbh := Zbh'
        clear Zbh'
        have Zbw := Za N3
        clear A3 N3 hbw
        generalize V2.alloc _ = V3 at *
        refine RH_ 17 (fun K1 hK1 => ?_)
        have p0 := Zb Zbw.out 0 _ rfl
        have p1 := Zb Zbw.out 1 _ rfl
        have p2 := Zb Zbw.out 2 _ rfl
        have p3 := Zb Zbw.out 3 _ rfl
        have p4 := Zb Zbw.out 4 _ rfl
        have p5 := Zb Zbw.out 5 _ rfl
        have p6 := Zb Zbw.out 6 _ rfl
        have f0 := Zc Zbw.out 0
        have f1 := Zc Zbw.out 1
        have f2 := Zc Zbw.out 2
        have f3 := Zc Zbw.out 3
        have f4 := Zc Zbw.out 4
        have f5 := Zc Zbw.out 5
        have f6 := Zc Zbw.out 6
        have B4 : Below w.heap.size V3 (((((((V3.setCell ⟨bw, 0, none⟩ (I_ yk)).setCell ⟨bw, 1, none⟩ (I_ yo)).setCell ⟨bw, 2, none⟩ (I_ ya)).setCell ⟨bw, 3, none⟩ (I_ y0)).setCell ⟨bw, 4, none⟩ (I_ y1)).setCell ⟨bw, 5, none⟩ (.int .u64 y2)).setCell ⟨bw, 6, none⟩ (.slice aa na ca)) := ZL (o := 0) (Below.refl _ _) (Nat.le_of_lt Lbw.out)
        have O4 : ∀ k, k ≠ bw -> (((((((V3.setCell ⟨bw, 0, none⟩ (I_ yk)).setCell ⟨bw, 1, none⟩ (I_ yo)).setCell ⟨bw, 2, none⟩ (I_ ya)).setCell ⟨bw, 3, none⟩ (I_ y0)).setCell ⟨bw, 4, none⟩ (I_ y1)).setCell ⟨bw, 5, none⟩ (.int .u64 y2)).setCell ⟨bw, 6, none⟩ (.slice aa na ca)).heap[k]? = V3.heap[k]? := fun k hk => Zy (o := 0) hk
        have S4 : V3.heap.size = (((((((V3.setCell ⟨bw, 0, none⟩ (I_ yk)).setCell ⟨bw, 1, none⟩ (I_ yo)).setCell ⟨bw, 2, none⟩ (I_ ya)).setCell ⟨bw, 3, none⟩ (I_ y0)).setCell ⟨bw, 4, none⟩ (I_ y1)).setCell ⟨bw, 5, none⟩ (.int .u64 y2)).setCell ⟨bw, 6, none⟩ (.slice aa na ca)).heap.size := (ZY (o := 0)).symm
        have E4 : (((((((V3.setCell ⟨bw, 0, none⟩ (I_ yk)).setCell ⟨bw, 1, none⟩ (I_ yo)).setCell ⟨bw, 2, none⟩ (I_ ya)).setCell ⟨bw, 3, none⟩ (I_ y0)).setCell ⟨bw, 4, none⟩ (I_ y1)).setCell ⟨bw, 5, none⟩ (.int .u64 y2)).setCell ⟨bw, 6, none⟩ (.slice aa na ca)).heap[bw]? = some (.cells #[I_ yk, I_ yo, I_ ya, I_ y0, I_ y1, .int .u64 y2, .slice aa na ca] 67 (0, 0)) := ZR Zbw.out (I_ yk) (I_ yo) (I_ ya) (I_ y0) (I_ y1) (.int .u64 y2) (.slice aa na ca)
        go_simp
        refine hK1.out _ _ (hH.turn (Nat.le_of_eq S4) (fun k _ hk => O4 k hk) (fun hm => by have := Lbw.out; have := KL.out; simp at hm; omega)) (fun hH => ?_)
        clear hK1 K1 p0 p1 p2 p3 p4 p5 p6 f0 f1 f2 f3 f4 f5 f6
        have HQ' := Za (HQ.out.set Zbw.out (by decide) Gbw.out S4 B4 O4)
        clear HQ
        have HQ := HQ'
        clear HQ'
        have Zbh' := Za ((O4 bh (Zm Zbh.out Zbw.out (by decide))).trans Zbh.out)
        clear Zbh
        have Zbh := Zbh'
        clear Zbh'
        clear Zbw
        have Zbw := Za E4
        have HB' : Hid (Below w.heap.size w w /\ w.heap.size <= (((((((V3.setCell ⟨bw, 0, none⟩ (I_ yk)).setCell ⟨bw, 1, none⟩ (I_ yo)).setCell ⟨bw, 2, none⟩ (I_ ya)).setCell ⟨bw, 3, none⟩ (I_ y0)).setCell ⟨bw, 4, none⟩ (I_ y1)).setCell ⟨bw, 5, none⟩ (.int .u64 y2)).setCell ⟨bw, 6, none⟩ (.slice aa na ca)).heap.size) := Za ⟨Below.refl _ _, by rw [← S4]; exact HB.out.2⟩
        clear HB
        have HB := HB'
        clear HB'
        clear B4 O4 S4 E4
        generalize (((((((V3.setCell ⟨bw, 0, none⟩ (I_ yk)).setCell ⟨bw, 1, none⟩ (I_ yo)).setCell ⟨bw, 2, none⟩ (I_ ya)).setCell ⟨bw, 3, none⟩ (I_ y0)).setCell ⟨bw, 4, none⟩ (I_ y1)).setCell ⟨bw, 5, none⟩ (.int .u64 y2)).setCell ⟨bw, 6, none⟩ (.slice aa na ca)) = V4 at *
        refine RH_ 18 (fun K1 hK1 => ?_)
        have p0 := Zb Zbh.out 0 _ rfl
        have p1 := Zb Zbh.out 1 _ rfl
        have p2 := Zb Zbh.out 2 _ rfl
        have f0 := Zc Zbh.out 0
        have f1 := Zc Zbh.out 1
        have f2 := Zc Zbh.out 2
        have B5 : Below w.heap.size V4 (((V4.setCell ⟨bh, 0, none⟩ (I_ 0)).setCell ⟨bh, 1, none⟩ (I_ hn_)).setCell ⟨bh, 2, none⟩ (I_ hc_)) := Zt (Below.refl _ _) (Nat.le_of_lt Lbh.out) _ _ _
        have O5 : ∀ k, k ≠ bh -> (((V4.setCell ⟨bh, 0, none⟩ (I_ 0)).setCell ⟨bh, 1, none⟩ (I_ hn_)).setCell ⟨bh, 2, none⟩ (I_ hc_)).heap[k]? = V4.heap[k]? := fun k hk => ne3 hk
        have S5 : V4.heap.size = (((V4.setCell ⟨bh, 0, none⟩ (I_ 0)).setCell ⟨bh, 1, none⟩ (I_ hn_)).setCell ⟨bh, 2, none⟩ (I_ hc_)).heap.size := by simp only [Zi]
        have E5 : (((V4.setCell ⟨bh, 0, none⟩ (I_ 0)).setCell ⟨bh, 1, none⟩ (I_ hn_)).setCell ⟨bh, 2, none⟩ (I_ hc_)).heap[bh]? = some (.cells #[I_ 0, I_ hn_, I_ hc_] 122 (0, 0)) := Yx Zbh.out (I_ 0) (I_ hn_) (I_ hc_)
        go_simp
        refine hK1.out _ _ (hH.turn (Nat.le_of_eq S5) (fun k _ hk => O5 k hk) (fun hm => by have := Lbh.out; have := KL.out; simp at hm; omega)) (fun hH => ?_)
        clear hK1 K1 p0 p1 p2 f0 f1 f2
        have HQ' := Za (HQ.out.set Zbh.out (by decide) Gbh.out S5 B5 O5)
        clear HQ
        have HQ := HQ'
        clear HQ'
        have Zbw' := Za ((O5 bw (Zm Zbw.out Zbh.out (by decide))).trans Zbw.out)
        clear Zbw
        have Zbw := Zbw'
        clear Zbw'
        clear Zbh
        have Zbh := Za E5
        have HB' : Hid (Below w.heap.size w w /\ w.heap.size <= (((V4.setCell ⟨bh, 0, none⟩ (I_ 0)).setCell ⟨bh, 1, none⟩ (I_ hn_)).setCell ⟨bh, 2, none⟩ (I_ hc_)).heap.size) := Za ⟨Below.refl _ _, by rw [← S5]; exact HB.out.2⟩
        clear HB
        have HB := HB'
        clear HB'
        clear B5 O5 S5 E5
        generalize (((V4.setCell ⟨bh, 0, none⟩ (I_ 0)).setCell ⟨bh, 1, none⟩ (I_ hn_)).setCell ⟨bh, 2, none⟩ (I_ hc_)) = V5 at *
        refine wpAnyH_done (by kernel_rfl) ?_ _
        clear hH
        go_wp2_with fail
        go_meet
        case rel => exact ⟨bw, bh, aa, na, ca, G', rfl, rfl, Za ⟨HQ.out, Zbw.out, Zbh.out, Gbw.out⟩⟩
    · have L0 : w.heap.size < W0.heap.size := by have h1 := hH.1; have h2 := hH.2.1 w.heap.size (by simp); omega
      go_simp
      have A1 := Zd W0 (.cells #[I_ 0, I_ 0, I_ 0, I_ 0, I_ 0, .int .u64 0, .slice none 0 0] 67)
      have N1 := B_ W0 (.cells #[I_ 0, I_ 0, I_ 0, I_ 0, I_ 0, .int .u64 0, .slice none 0 0] 67)
      refine hK1.out _ _ (hH.al A1) (fun hH => ?_)
      clear hK1 K1
      obtain ⟨bw, hbw⟩ : ∃ bw, W0.heap.size = bw := ⟨_, rfl⟩
      rw [hbw] at N1 ⊢
      have Lbw := Za (show w.heap.size < bw by rw [← hbw]; exact L0)
      clear L0
      have HU' := Za (HU.out.bel A1)
      clear HU
      have HU := HU'
      clear HU'
      have HB' := Za (Zg HB.out A1)
      clear HB
      have HB := HB'
      clear HB'
      have Zbw := Za N1
      clear A1 N1 hbw
      generalize W0.alloc _ = V1 at *
      refine wpAnyH_ready (rs := [11, 16]) (by kernel_rfl) (by decide) ?_
      refine AllReadyH.cons rfl (fun K1 hK1 => ?_) (AllReadyH.cons rfl (fun K1 hK1 => ?_) AllReadyH.nil)
      · go_simp
        refine (NX.out V1 HU.out).mono ?_
        rintro e V2 ⟨va, rfl, ar, kp, G', rn, ch⟩
        obtain ⟨aa, na, ca, xs, rfl, _⟩ := id ar
        refine hK1.out _ _ (hH.turn ch.size kp TN.out) (fun hH => ?_)
        clear hK1 K1
        have HQ := Za (AskQ.mk rn ((Ch.of_bel HB.out).trans ch) ar)
        have HB' := Za (show w.heap.size <= V2.heap.size from Nat.le_trans HB.out.size ch.size)
        have Gbw : Hid (¬ G' bw) := Za (fun hG => by
          rcases ch.grow bw hG with h1 | h1
          · exact absurd (GL.out bw h1) (by have := Lbw.out; omega)
          · exact absurd (Ze Zbw.out) (by omega))
        have Zbw' := Za ((kp bw (Ze Zbw.out) (by have := Lbw.out; have := TL.out; omega)).trans Zbw.out)
        clear Zbw
        have Zbw := Zbw'
        clear Zbw'
        clear rn ch ar kp HB HU
        have HB : Hid (Below w.heap.size w w /\ w.heap.size <= V2.heap.size) := Za ⟨Below.refl _ _, HB'.out⟩
        clear HB'
        refine H2_ 12 hH ?_
        simp only [Act.put, S_]
        refine H2_ 13 hH ?_
        simp only [Act.put, S_]
        refine H2_ 14 hH ?_
        simp only [Act.put, S_]
        refine RH_ 16 (fun K1 hK1 => ?_)
        have L0 : w.heap.size < V2.heap.size := by have h1 := hH.1; have h2 := hH.2.1 w.heap.size (by simp); omega
        go_simp
        have A3 := Zd V2 (.cells #[I_ 0, I_ 0, I_ 0] 122)
        have N3 := B_ V2 (.cells #[I_ 0, I_ 0, I_ 0] 122)
        refine hK1.out _ _ (hH.al A3) (fun hH => ?_)
        clear hK1 K1
        obtain ⟨bh, hbh⟩ : ∃ bh, V2.heap.size = bh := ⟨_, rfl⟩
        rw [hbh] at N3 ⊢
        have Lbh := Za (show w.heap.size < bh by rw [← hbh]; exact L0)
        clear L0
        have Gbh : Hid (¬ G' bh) := Za (fun hG => absurd (HQ.out.rn.fb bh hG) (by omega))
        have HQ' := Za (HQ.out.al A3)
        clear HQ
        have HQ := HQ'
        clear HQ'
        have HB' : Hid (Below w.heap.size w w /\ w.heap.size <= (V2.alloc (.cells #[I_ 0, I_ 0, I_ 0] 122)).heap.size) := Za ⟨Below.refl _ _, Nat.le_trans HB.out.2 A3.size⟩
        clear HB
        have HB := HB'
        clear HB'
        have Zbw' := Za ((A3.block bw (Ze Zbw.out)).trans Zbw.out)
        clear Zbw
        have Zbw := Zbw'
        clear Zbw'
        have Zbh := Za N3
        clear A3 N3 hbh
        generalize V2.alloc _ = V3 at *
        refine RH_ 17 (fun K1 hK1 => ?_)
        have p0 := Zb Zbw.out 0 _ rfl
        have p1 := Zb Zbw.out 1 _ rfl
        have p2 := Zb Zbw.out 2 _ rfl
        have p3 := Zb Zbw.out 3 _ rfl
        have p4 := Zb Zbw.out 4 _ rfl
        have p5 := Zb Zbw.out 5 _ rfl
        have p6 := Zb Zbw.out 6 _ rfl
        have f0 := Zc Zbw.out 0
        have f1 := Zc Zbw.out 1
        have f2 := Zc Zbw.out 2
        have f3 := Zc Zbw.out 3
        have f4 := Zc Zbw.out 4
        have f5 := Zc Zbw.out 5
        have f6 := Zc Zbw.out 6
        have B4 : Below w.heap.size V3 (((((((V3.setCell ⟨bw, 0, none⟩ (I_ yk)).setCell ⟨bw, 1, none⟩ (I_ yo)).setCell ⟨bw, 2, none⟩ (I_ ya)).setCell ⟨bw, 3, none⟩ (I_ y0)).setCell ⟨bw, 4, none⟩ (I_ y1)).setCell ⟨bw, 5, none⟩ (.int .u64 y2)).setCell ⟨bw, 6, none⟩ (.slice aa na ca)) := ZL (o := 0) (Below.refl _ _) (Nat.le_of_lt Lbw.out)
        have O4 : ∀ k, k ≠ bw -> (((((((V3.setCell ⟨bw, 0, none⟩ (I_ yk)).setCell ⟨bw, 1, none⟩ (I_ yo)).setCell ⟨bw, 2, none⟩ (I_ ya)).setCell ⟨bw, 3, none⟩ (I_ y0)).setCell ⟨bw, 4, none⟩ (I_ y1)).setCell ⟨bw, 5, none⟩ (.int .u64 y2)).setCell ⟨bw, 6, none⟩ (.slice aa na ca)).heap[k]? = V3.heap[k]? := fun k hk => Zy (o := 0) hk
        have S4 : V3.heap.size = (((((((V3.setCell ⟨bw, 0, none⟩ (I_ yk)).setCell ⟨bw, 1, none⟩ (I_ yo)).setCell ⟨bw, 2, none⟩ (I_ ya)).setCell ⟨bw, 3, none⟩ (I_ y0)).setCell ⟨bw, 4, none⟩ (I_ y1)).setCell ⟨bw, 5, none⟩ (.int .u64 y2)).setCell ⟨bw, 6, none⟩ (.slice aa na ca)).heap.size := (ZY (o := 0)).symm
        have E4 : (((((((V3.setCell ⟨bw, 0, none⟩ (I_ yk)).setCell ⟨bw, 1, none⟩ (I_ yo)).setCell ⟨bw, 2, none⟩ (I_ ya)).setCell ⟨bw, 3, none⟩ (I_ y0)).setCell ⟨bw, 4, none⟩ (I_ y1)).setCell ⟨bw, 5, none⟩ (.int .u64 y2)).setCell ⟨bw, 6, none⟩ (.slice aa na ca)).heap[bw]? = some (.cells #[I_ yk, I_ yo, I_ ya, I_ y0, I_ y1, .int .u64 y2, .slice aa na ca] 67 (0, 0)) := ZR Zbw.out (I_ yk) (I_ yo) (I_ ya) (I_ y0) (I_ y1) (.int .u64 y2) (.slice aa na ca)
        go_simp
        refine hK1.out _ _ (hH.turn (Nat.le_of_eq S4) (fun k _ hk => O4 k hk) (fun hm => by have := Lbw.out; have := KL.out; simp at hm; omega)) (fun hH => ?_)
        clear hK1 K1 p0 p1 p2 p3 p4 p5 p6 f0 f1 f2 f3 f4 f5 f6
        have HQ' := Za (HQ.out.set Zbw.out (by decide) Gbw.out S4 B4 O4)
        clear HQ
        have HQ := HQ'
        clear HQ'
        have Zbh' := Za ((O4 bh (Zm Zbh.out Zbw.out (by decide))).trans Zbh.out)
        clear Zbh
        have Zbh := Zbh'
        clear Zbh'
        clear Zbw
        have Zbw := Za E4
        have HB' : Hid (Below w.heap.size w w /\ w.heap.size <= (((((((V3.setCell ⟨bw, 0, none⟩ (I_ yk)).setCell ⟨bw, 1, none⟩ (I_ yo)).setCell ⟨bw, 2, none⟩ (I_ ya)).setCell ⟨bw, 3, none⟩ (I_ y0)).setCell ⟨bw, 4, none⟩ (I_ y1)).setCell ⟨bw, 5, none⟩ (.int .u64 y2)).setCell ⟨bw, 6, none⟩ (.slice aa na ca)).heap.size) := Za ⟨Below.refl _ _, by rw [← S4]; exact HB.out.2⟩
        clear HB
        have HB := HB'
        clear HB'
        clear B4 O4 S4 E4
        generalize (((((((V3.setCell ⟨bw, 0, none⟩ (I_ yk)).setCell ⟨bw, 1, none⟩ (I_ yo)).setCell ⟨bw, 2, none⟩ (I_ ya)).setCell ⟨bw, 3, none⟩ (I_ y0)).setCell ⟨bw, 4, none⟩ (I_ y1)).setCell ⟨bw, 5, none⟩ (.int .u64 y2)).setCell ⟨bw, 6, none⟩ (.slice aa na ca)) = V4 at *
        refine RH_ 18 (fun K1 hK1 => ?_)
        have p0 := Zb Zbh.out 0 _ rfl
        have p1 := Zb Zbh.out 1 _ rfl
        have p2 := Zb Zbh.out 2 _ rfl
        have f0 := Zc Zbh.out 0
        have f1 := Zc Zbh.out 1
        have f2 := Zc Zbh.out 2
        have B5 : Below w.heap.size V4 (((V4.setCell ⟨bh, 0, none⟩ (I_ 0)).setCell ⟨bh, 1, none⟩ (I_ hn_)).setCell ⟨bh, 2, none⟩ (I_ hc_)) := Zt (Below.refl _ _) (Nat.le_of_lt Lbh.out) _ _ _
        have O5 : ∀ k, k ≠ bh -> (((V4.setCell ⟨bh, 0, none⟩ (I_ 0)).setCell ⟨bh, 1, none⟩ (I_ hn_)).setCell ⟨bh, 2, none⟩ (I_ hc_)).heap[k]? = V4.heap[k]? := fun k hk => ne3 hk
        have S5 : V4.heap.size = (((V4.setCell ⟨bh, 0, none⟩ (I_ 0)).setCell ⟨bh, 1, none⟩ (I_ hn_)).setCell ⟨bh, 2, none⟩ (I_ hc_)).heap.size := by simp only [Zi]
        have E5 : (((V4.setCell ⟨bh, 0, none⟩ (I_ 0)).setCell ⟨bh, 1, none⟩ (I_ hn_)).setCell ⟨bh, 2, none⟩ (I_ hc_)).heap[bh]? = some (.cells #[I_ 0, I_ hn_, I_ hc_] 122 (0, 0)) := Yx Zbh.out (I_ 0) (I_ hn_) (I_ hc_)
        go_simp
        refine hK1.out _ _ (hH.turn (Nat.le_of_eq S5) (fun k _ hk => O5 k hk) (fun hm => by have := Lbh.out; have := KL.out; simp at hm; omega)) (fun hH => ?_)
        clear hK1 K1 p0 p1 p2 f0 f1 f2
        have HQ' := Za (HQ.out.set Zbh.out (by decide) Gbh.out S5 B5 O5)
        clear HQ
        have HQ := HQ'
        clear HQ'
        have Zbw' := Za ((O5 bw (Zm Zbw.out Zbh.out (by decide))).trans Zbw.out)
        clear Zbw
        have Zbw := Zbw'
        clear Zbw'
        clear Zbh
        have Zbh := Za E5
        have HB' : Hid (Below w.heap.size w w /\ w.heap.size <= (((V4.setCell ⟨bh, 0, none⟩ (I_ 0)).setCell ⟨bh, 1, none⟩ (I_ hn_)).setCell ⟨bh, 2, none⟩ (I_ hc_)).heap.size) := Za ⟨Below.refl _ _, by rw [← S5]; exact HB.out.2⟩
        clear HB
        have HB := HB'
        clear HB'
        clear B5 O5 S5 E5
        generalize (((V4.setCell ⟨bh, 0, none⟩ (I_ 0)).setCell ⟨bh, 1, none⟩ (I_ hn_)).setCell ⟨bh, 2, none⟩ (I_ hc_)) = V5 at *
        refine wpAnyH_done (by kernel_rfl) ?_ _
        clear hH
        go_wp2_with fail
        go_meet
        case rel => exact ⟨bw, bh, aa, na, ca, G', rfl, rfl, Za ⟨HQ.out, Zbw.out, Zbh.out, Gbw.out⟩⟩
      · have L0 : w.heap.size < V1.heap.size := by have h1 := hH.1; have h2 := hH.2.1 w.heap.size (by simp); omega
        go_simp
        have A2 := Zd V1 (.cells #[I_ 0, I_ 0, I_ 0] 122)
        have N2 := B_ V1 (.cells #[I_ 0, I_ 0, I_ 0] 122)
        refine hK1.out _ _ (hH.al A2) (fun hH => ?_)
        clear hK1 K1
        obtain ⟨bh, hbh⟩ : ∃ bh, V1.heap.size = bh := ⟨_, rfl⟩
        rw [hbh] at N2 ⊢
        have Lbh := Za (show w.heap.size < bh by rw [← hbh]; exact L0)
        clear L0
        have HU' := Za (HU.out.bel A2)
        clear HU
        have HU := HU'
        clear HU'
        have HB' := Za (Zg HB.out A2)
        clear HB
        have HB := HB'
        clear HB'
        have Zbw' := Za ((A2.block bw (Ze Zbw.out)).trans Zbw.out)
        clear Zbw
        have Zbw := Zbw'
        clear Zbw'
        have Zbh := Za N2
        clear A2 N2 hbh
        generalize V1.alloc _ = V2 at *
        refine RH_ 11 (fun K1 hK1 => ?_)
        go_simp
        refine (NX.out V2 HU.out).mono ?_
        rintro e V3 ⟨va, rfl, ar, kp, G', rn, ch⟩
        obtain ⟨aa, na, ca, xs, rfl, _⟩ := id ar
        refine hK1.out _ _ (hH.turn ch.size kp TN.out) (fun hH => ?_)
        clear hK1 K1
        have HQ := Za (AskQ.mk rn ((Ch.of_bel HB.out).trans ch) ar)
        have HB' := Za (show w.heap.size <= V3.heap.size from Nat.le_trans HB.out.size ch.size)
        have Gbw : Hid (¬ G' bw) := Za (fun hG => by
          rcases ch.grow bw hG with h1 | h1
          · exact absurd (GL.out bw h1) (by have := Lbw.out; omega)
          · exact absurd (Ze Zbw.out) (by omega))
        have Zbw' := Za ((kp bw (Ze Zbw.out) (by have := Lbw.out; have := TL.out; omega)).trans Zbw.out)
        clear Zbw
        have Zbw := Zbw'
        clear Zbw'
        have Gbh : Hid (¬ G' bh) := Za (fun hG => by
          rcases ch.grow bh hG with h1 | h1
          · exact absurd (GL.out bh h1) (by have := Lbh.out; omega)
          · exact absurd (Ze Zbh.out) (by omega))
        have Zbh' := Za ((kp bh (Ze Zbh.out) (by have := Lbh.out; have := TL.out; omega)).trans Zbh.out)
        clear Zbh
        have Zbh := Zbh'
        clear Zbh'
        clear rn ch ar kp HB HU
        have HB : Hid (Below w.heap.size w w /\ w.heap.size <= V3.heap.size) := Za ⟨Below.refl _ _, HB'.out⟩
        clear HB'
        refine H2_ 12 hH ?_
        simp only [Act.put, S_]
        refine H2_ 13 hH ?_
        simp only [Act.put, S_]
        refine H2_ 14 hH ?_
        simp only [Act.put, S_]
        refine RH_ 17 (fun K1 hK1 => ?_)
        have p0 := Zb Zbw.out 0 _ rfl
        have p1 := Zb Zbw.out 1 _ rfl
        have p2 := Zb Zbw.out 2 _ rfl
        have p3 := Zb Zbw.out 3 _ rfl
        have p4 := Zb Zbw.out 4 _ rfl
        have p5 := Zb Zbw.out 5 _ rfl
        have p6 := Zb Zbw.out 6 _ rfl
        have f0 := Zc Zbw.out 0
        have f1 := Zc Zbw.out 1
        have f2 := Zc Zbw.out 2
        have f3 := Zc Zbw.out 3
        have f4 := Zc Zbw.out 4
        have f5 := Zc Zbw.out 5
        have f6 := Zc Zbw.out 6
        have B4 : Below w.heap.size V3 (((((((V3.setCell ⟨bw, 0, none⟩ (I_ yk)).setCell ⟨bw, 1, none⟩ (I_ yo)).setCell ⟨bw, 2, none⟩ (I_ ya)).setCell ⟨bw, 3, none⟩ (I_ y0)).setCell ⟨bw, 4, none⟩ (I_ y1)).setCell ⟨bw, 5, none⟩ (.int .u64 y2)).setCell ⟨bw, 6, none⟩ (.slice aa na ca)) := ZL (o := 0) (Below.refl _ _) (Nat.le_of_lt Lbw.out)
        have O4 : ∀ k, k ≠ bw -> (((((((V3.setCell ⟨bw, 0, none⟩ (I_ yk)).setCell ⟨bw, 1, none⟩ (I_ yo)).setCell ⟨bw, 2, none⟩ (I_ ya)).setCell ⟨bw, 3, none⟩ (I_ y0)).setCell ⟨bw, 4, none⟩ (I_ y1)).setCell ⟨bw, 5, none⟩ (.int .u64 y2)).setCell ⟨bw, 6, none⟩ (.slice aa na ca)).heap[k]? = V3.heap[k]? := fun k hk => Zy (o := 0) hk
        have S4 : V3.heap.size = (((((((V3.setCell ⟨bw, 0, none⟩ (I_ yk)).setCell ⟨bw, 1, none⟩ (I_ yo)).setCell ⟨bw, 2, none⟩ (I_ ya)).setCell ⟨bw, 3, none⟩ (I_ y0)).setCell ⟨bw, 4, none⟩ (I_ y1)).setCell ⟨bw, 5, none⟩ (.int .u64 y2)).setCell ⟨bw, 6, none⟩ (.slice aa na ca)).heap.size := (ZY (o := 0)).symm
        have E4 : (((((((V3.setCell ⟨bw, 0, none⟩ (I_ yk)).setCell ⟨bw, 1, none⟩ (I_ yo)).setCell ⟨bw, 2, none⟩ (I_ ya)).setCell ⟨bw, 3, none⟩ (I_ y0)).setCell ⟨bw, 4, none⟩ (I_ y1)).setCell ⟨bw, 5, none⟩ (.int .u64 y2)).setCell ⟨bw, 6, none⟩ (.slice aa na ca)).heap[bw]? = some (.cells #[I_ yk, I_ yo, I_ ya, I_ y0, I_ y1, .int .u64 y2, .slice aa na ca] 67 (0, 0)) := ZR Zbw.out (I_ yk) (I_ yo) (I_ ya) (I_ y0) (I_ y1) (.int .u64 y2) (.slice aa na ca)
        go_simp
        refine hK1.out _ _ (hH.turn (Nat.le_of_eq S4) (fun k _ hk => O4 k hk) (fun hm => by have := Lbw.out; have := KL.out; simp at hm; omega)) (fun hH => ?_)
        clear hK1 K1 p0 p1 p2 p3 p4 p5 p6 f0 f1 f2 f3 f4 f5 f6
        have HQ' := Za (HQ.out.set Zbw.out (by decide) Gbw.out S4 B4 O4)
        clear HQ
        have HQ := HQ'
        clear HQ'
        have Zbh' := Za ((O4 bh (Zm Zbh.out Zbw.out (by decide))).trans Zbh.out)
        clear Zbh
        have Zbh := Zbh'
        clear Zbh'
        clear Zbw
        have Zbw := Za E4
        have HB' : Hid (Below w.heap.size w w /\ w.heap.size <= (((((((V3.setCell ⟨bw, 0, none⟩ (I_ yk)).setCell ⟨bw, 1, none⟩ (I_ yo)).setCell ⟨bw, 2, none⟩ (I_ ya)).setCell ⟨bw, 3, none⟩ (I_ y0)).setCell ⟨bw, 4, none⟩ (I_ y1)).setCell ⟨bw, 5, none⟩ (.int .u64 y2)).setCell ⟨bw, 6, none⟩ (.slice aa na ca)).heap.size) := Za ⟨Below.refl _ _, by rw [← S4]; exact HB.out.2⟩
        clear HB
        have HB := HB'
        clear HB'
        clear B4 O4 S4 E4
        generalize (((((((V3.setCell ⟨bw, 0, none⟩ (I_ yk)).setCell ⟨bw, 1, none⟩ (I_ yo)).setCell ⟨bw, 2, none⟩ (I_ ya)).setCell ⟨bw, 3, none⟩ (I_ y0)).setCell ⟨bw, 4, none⟩ (I_ y1)).setCell ⟨bw, 5, none⟩ (.int .u64 y2)).setCell ⟨bw, 6, none⟩ (.slice aa na ca)) = V4 at *
        refine RH_ 18 (fun K1 hK1 => ?_)
        have p0 := Zb Zbh.out 0 _ rfl
        have p1 := Zb Zbh.out 1 _ rfl
        have p2 := Zb Zbh.out 2 _ rfl
        have f0 := Zc Zbh.out 0
        have f1 := Zc Zbh.out 1
        have f2 := Zc Zbh.out 2
        have B5 : Below w.heap.size V4 (((V4.setCell ⟨bh, 0, none⟩ (I_ 0)).setCell ⟨bh, 1, none⟩ (I_ hn_)).setCell ⟨bh, 2, none⟩ (I_ hc_)) := Zt (Below.refl _ _) (Nat.le_of_lt Lbh.out) _ _ _
        have O5 : ∀ k, k ≠ bh -> (((V4.setCell ⟨bh, 0, none⟩ (I_ 0)).setCell ⟨bh, 1, none⟩ (I_ hn_)).setCell ⟨bh, 2, none⟩ (I_ hc_)).heap[k]? = V4.heap[k]? := fun k hk => ne3 hk
        have S5 : V4.heap.size = (((V4.setCell ⟨bh, 0, none⟩ (I_ 0)).setCell ⟨bh, 1, none⟩ (I_ hn_)).setCell ⟨bh, 2, none⟩ (I_ hc_)).heap.size := by simp only [Zi]
        have E5 : (((V4.setCell ⟨bh, 0, none⟩ (I_ 0)).setCell ⟨bh, 1, none⟩ (I_ hn_)).setCell ⟨bh, 2, none⟩ (I_ hc_)).heap[bh]? = some (.cells #[I_ 0, I_ hn_, I_ hc_] 122 (0, 0)) := Yx Zbh.out (I_ 0) (I_ hn_) (I_ hc_)
        go_simp
        refine hK1.out _ _ (hH.turn (Nat.le_of_eq S5) (fun k _ hk => O5 k hk) (fun hm => by have := Lbh.out; have := KL.out; simp at hm; omega)) (fun hH => ?_)
        clear hK1 K1 p0 p1 p2 f0 f1 f2
        have HQ' := Za (HQ.out.set Zbh.out (by decide) Gbh.out S5 B5 O5)
        clear HQ
        have HQ := HQ'
        clear HQ'
        have Zbw' := Za ((O5 bw (Zm Zbw.out Zbh.out (by decide))).trans Zbw.out)
        clear Zbw
        have Zbw := Zbw'
        clear Zbw'
        clear Zbh
        have Zbh := Za E5
        have HB' : Hid (Below w.heap.size w w /\ w.heap.size <= (((V4.setCell ⟨bh, 0, none⟩ (I_ 0)).setCell ⟨bh, 1, none⟩ (I_ hn_)).setCell ⟨bh, 2, none⟩ (I_ hc_)).heap.size) := Za ⟨Below.refl _ _, by rw [← S5]; exact HB.out.2⟩
        clear HB
        have HB := HB'
        clear HB'
        clear B5 O5 S5 E5
        generalize (((V4.setCell ⟨bh, 0, none⟩ (I_ 0)).setCell ⟨bh, 1, none⟩ (I_ hn_)).setCell ⟨bh, 2, none⟩ (I_ hc_)) = V5 at *
        refine wpAnyH_done (by kernel_rfl) ?_ _
        clear hH
        go_wp2_with fail
        go_meet
        case rel => exact ⟨bw, bh, aa, na, ca, G', rfl, rfl, Za ⟨HQ.out, Zbw.out, Zbh.out, Gbw.out⟩⟩
    · have L0 : w.heap.size < W0.heap.size := by have h1 := hH.1; have h2 := hH.2.1 w.heap.size (by simp); omega
      go_simp
      have A1 := Zd W0 (.cells #[I_ 0, I_ 0, I_ 0] 122)
      have N1 := B_ W0 (.cells #[I_ 0, I_ 0, I_ 0] 122)
      refine hK1.out _ _ (hH.al A1) (fun hH => ?_)
      clear hK1 K1
      obtain ⟨bh, hbh⟩ : ∃ bh, W0.heap.size = bh := ⟨_, rfl⟩
      rw [hbh] at N1 ⊢
      have Lbh := Za (show w.heap.size < bh by rw [← hbh]; exact L0)
      clear L0
      have HU' := Za (HU.out.bel A1)
      clear HU
      have HU := HU'
      clear HU'
      have HB' := Za (Zg HB.out A1)
      clear HB
      have HB := HB'
      clear HB'
      have Zbh := Za N1
      clear A1 N1 hbh
      generalize W0.alloc _ = V1 at *
      refine wpAnyH_ready (rs := [11, 15]) (by kernel_rfl) (by decide) ?_
      refine AllReadyH.cons rfl (fun K1 hK1 => ?_) (AllReadyH.cons rfl (fun K1 hK1 => ?_) AllReadyH.nil)
      · go_simp
        refine (NX.out V1 HU.out).mono ?_
        rintro e V2 ⟨va, rfl, ar, kp, G', rn, ch⟩
        obtain ⟨aa, na, ca, xs, rfl, _⟩ := id ar
        refine hK1.out _ _ (hH.turn ch.size kp TN.out) (fun hH => ?_)
        clear hK1 K1
        have HQ := Za (AskQ.mk rn ((Ch.of_bel HB.out).trans ch) ar)
        have HB' := Za (show w.heap.size <= V2.heap.size from Nat.le_trans HB.out.size ch.size)
        have Gbh : Hid (¬ G' bh) := Za (fun hG => by
          rcases ch.grow bh hG with h1 | h1
          · exact absurd (GL.out bh h1) (by have := Lbh.out; omega)
          · exact absurd (Ze Zbh.out) (by omega))
        have Zbh' := Za ((kp bh (Ze Zbh.out) (by have := Lbh.out; have := TL.out; omega)).trans Zbh.out)
        clear Zbh
        have Zbh := Zbh'
        clear Zbh'
        clear rn ch ar kp HB HU
        have HB : Hid (Below w.heap.size w w /\ w.heap.size <= V2.heap.size) := Za ⟨Below.refl _ _, HB'.out⟩
        clear HB'
        refine H2_ 12 hH ?_
        simp only [Act.put, S_]
        refine H2_ 13 hH ?_
        simp only [Act.put, S_]
        refine H2_ 14 hH ?_
        simp only [Act.put, S_]
        refine RH_ 15 (fun K1 hK1 => ?_)
        have L0 : w.heap.size < V2.heap.size := by have h1 := hH.1; have h2 := hH.2.1 w.heap.size (by simp); omega
        go_simp
        have A3 := Zd V2 (.cells #[I_ 0, I_ 0, I_ 0, I_ 0, I_ 0, .int .u64 0, .slice none 0 0] 67)
        have N3 := B_ V2 (.cells #[I_ 0, I_ 0, I_ 0, I_ 0, I_ 0, .int .u64 0, .slice none 0 0] 67)
        refine hK1.out _ _ (hH.al A3) (fun hH => ?_)
        clear hK1 K1
        obtain ⟨bw, hbw⟩ : ∃ bw, V2.heap.size = bw := ⟨_, rfl⟩
        rw [hbw] at N3 ⊢
        have Lbw := Za (show w.heap.size < bw by rw [← hbw]; exact L0)
        clear L0
        have Gbw : Hid (¬ G' bw) := Za (fun hG => absurd (HQ.out.rn.fb bw hG) (by omega))
        have HQ' := Za (HQ.out.al A3)
        clear HQ
        have HQ := HQ'
        clear HQ'
        have HB' : Hid (Below w.heap.size w w /\ w.heap.size <= (V2.alloc (.cells #[I_ 0, I_ 0, I_ 0, I_ 0, I_ 0, .int .u64 0, .slice none 0 0] 67)).heap.size) := Za ⟨Below.refl _ _, Nat.le_trans HB.out.2 A3.size⟩
        clear HB
        have HB := HB'
        clear HB'
        have Zbh' := Za ((A3.block bh (Ze Zbh.out)).trans Zbh.out)
        clear Zbh
        have Zbh := Zbh'
        clear Zbh'
        have Zbw := Za N3
        clear A3 N3 hbw
        generalize V2.alloc _ = V3 at *
        refine RH_ 17 (fun K1 hK1 => ?_)
        have p0 := Zb Zbw.out 0 _ rfl
        have p1 := Zb Zbw.out 1 _ rfl
        have p2 := Zb Zbw.out 2 _ rfl
        have p3 := Zb Zbw.out 3 _ rfl
        have p4 := Zb Zbw.out 4 _ rfl
        have p5 := Zb Zbw.out 5 _ rfl
        have p6 := Zb Zbw.out 6 _ rfl
        have f0 := Zc Zbw.out 0
        have f1 := Zc Zbw.out 1
        have f2 := Zc Zbw.out 2
        have f3 := Zc Zbw.out 3
        have f4 := Zc Zbw.out 4
        have f5 := Zc Zbw.out 5
        have f6 := Zc Zbw.out 6
        have B4 : Below w.heap.size V3 (((((((V3.setCell ⟨bw, 0, none⟩ (I_ yk)).setCell ⟨bw, 1, none⟩ (I_ yo)).setCell ⟨bw, 2, none⟩ (I_ ya)).setCell ⟨bw, 3, none⟩ (I_ y0)).setCell ⟨bw, 4, none⟩ (I_ y1)).setCell ⟨bw, 5, none⟩ (.int .u64 y2)).setCell ⟨bw, 6, none⟩ (.slice aa na ca)) := ZL (o := 0) (Below.refl _ _) (Nat.le_of_lt Lbw.out)
        have O4 : ∀ k, k ≠ bw -> (((((((V3.setCell ⟨bw, 0, none⟩ (I_ yk)).setCell ⟨bw, 1, none⟩ (I_ yo)).setCell ⟨bw, 2, none⟩ (I_ ya)).setCell ⟨bw, 3, none⟩ (I_ y0)).setCell ⟨bw, 4, none⟩ (I_ y1)).setCell ⟨bw, 5, none⟩ (.int .u64 y2)).setCell ⟨bw, 6, none⟩ (.slice aa na ca)).heap[k]? = V3.heap[k]? := fun k hk => Zy (o := 0) hk
        have S4 : V3.heap.size = (((((((V3.setCell ⟨bw, 0, none⟩ (I_ yk)).setCell ⟨bw, 1, none⟩ (I_ yo)).setCell ⟨bw, 2, none⟩ (I_ ya)).setCell ⟨bw, 3, none⟩ (I_ y0)).setCell ⟨bw, 4, none⟩ (I_ y1)).setCell ⟨bw, 5, none⟩ (.int .u64 y2)).setCell ⟨bw, 6, none⟩ (.slice aa na ca)).heap.size := (ZY (o := 0)).symm
        have E4 : (((((((V3.setCell ⟨bw, 0, none⟩ (I_ yk)).setCell ⟨bw, 1, none⟩ (I_ yo)).setCell ⟨bw, 2, none⟩ (I_ ya)).setCell ⟨bw, 3, none⟩ (I_ y0)).setCell ⟨bw, 4, none⟩ (I_ y1)).setCell ⟨bw, 5, none⟩ (.int .u64 y2)).setCell ⟨bw, 6, none⟩ (.slice aa na ca)).heap[bw]? = some (.cells #[I_ yk, I_ yo, I_ ya, I_ y0, I_ y1, .int .u64 y2, .slice aa na ca] 67 (0, 0)) := ZR Zbw.out (I_ yk) (I_ yo) (I_ ya) (I_ y0) (I_ y1) (.int .u64 y2) (.slice aa na ca)
        go_simp
        refine hK1.out _ _ (hH.turn (Nat.le_of_eq S4) (fun k _ hk => O4 k hk) (fun hm => by have := Lbw.out; have := KL.out; simp at hm; omega)) (fun hH => ?_)
        clear hK1 K1 p0 p1 p2 p3 p4 p5 p6 f0 f1 f2 f3 f4 f5 f6
        have HQ' := Za (HQ.out.set Zbw.out (by decide) Gbw.out S4 B4 O4)
        clear HQ
        have HQ := HQ'
        clear HQ'
        have Zbh' := Za ((O4 bh (Zm Zbh.out Zbw.out (by decide))).trans Zbh.out)
        clear Zbh
        have Zbh := Zbh'
        clear Zbh'
        clear Zbw
        have Zbw := Za E4
        have HB' : Hid (Below w.heap.size w w /\ w.heap.size <= (((((((V3.setCell ⟨bw, 0, none⟩ (I_ yk)).setCell ⟨bw, 1, none⟩ (I_ yo)).setCell ⟨bw, 2, none⟩ (I_ ya)).setCell ⟨bw, 3, none⟩ (I_ y0)).setCell ⟨bw, 4, none⟩ (I_ y1)).setCell ⟨bw, 5, none⟩ (.int .u64 y2)).setCell ⟨bw, 6, none⟩ (.slice aa na ca)).heap.size) := Za ⟨Below.refl _ _, by rw [← S4]; exact HB.out.2⟩
        clear HB
        have HB := HB'
        clear HB'
        clear B4 O4 S4 E4
        generalize (((((((V3.setCell ⟨bw, 0, none⟩ (I_ yk)).setCell ⟨bw, 1, none⟩ (I_ yo)).setCell ⟨bw, 2, none⟩ (I_ ya)).setCell ⟨bw, 3, none⟩ (I_ y0)).setCell ⟨bw, 4, none⟩ (I_ y1)).setCell ⟨bw, 5, none⟩ (.int .u64 y2)).setCell ⟨bw, 6, none⟩ (.slice aa na ca)) = V4 at *
        refine RH_ 18 (fun K1 hK1 => ?_)
        have p0 := Zb Zbh.out 0 _ rfl
        have p1 := Zb Zbh.out 1 _ rfl
        have p2 := Zb Zbh.out 2 _ rfl
        have f0 := Zc Zbh.out 0
        have f1 := Zc Zbh.out 1
        have f2 := Zc Zbh.out 2
        have B5 : Below w.heap.size V4 (((V4.setCell ⟨bh, 0, none⟩ (I_ 0)).setCell ⟨bh, 1, none⟩ (I_ hn_)).setCell ⟨bh, 2, none⟩ (I_ hc_)) := Zt (Below.refl _ _) (Nat.le_of_lt Lbh.out) _ _ _
        have O5 : ∀ k, k ≠ bh -> (((V4.setCell ⟨bh, 0, none⟩ (I_ 0)).setCell ⟨bh, 1, none⟩ (I_ hn_)).setCell ⟨bh, 2, none⟩ (I_ hc_)).heap[k]? = V4.heap[k]? := fun k hk => ne3 hk
        have S5 : V4.heap.size = (((V4.setCell ⟨bh, 0, none⟩ (I_ 0)).setCell ⟨bh, 1, none⟩ (I_ hn_)).setCell ⟨bh, 2, none⟩ (I_ hc_)).heap.size := by simp only [Zi]
        have E5 : (((V4.setCell ⟨bh, 0, none⟩ (I_ 0)).setCell ⟨bh, 1, none⟩ (I_ hn_)).setCell ⟨bh, 2, none⟩ (I_ hc_)).heap[bh]? = some (.cells #[I_ 0, I_ hn_, I_ hc_] 122 (0, 0)) := Yx Zbh.out (I_ 0) (I_ hn_) (I_ hc_)
        go_simp
        refine hK1.out _ _ (hH.turn (Nat.le_of_eq S5) (fun k _ hk => O5 k hk) (fun hm => by have := Lbh.out; have := KL.out; simp at hm; omega)) (fun hH => ?_)
        clear hK1 K1 p0 p1 p2 f0 f1 f2
        have HQ' := Za (HQ.out.set Zbh.out (by decide) Gbh.out S5 B5 O5)
        clear HQ
        have HQ := HQ'
        clear HQ'
        have Zbw' := Za ((O5 bw (Zm Zbw.out Zbh.out (by decide))).trans Zbw.out)
        clear Zbw
        have Zbw := Zbw'
        clear Zbw'
        clear Zbh
        have Zbh := Za E5
        have HB' : Hid (Below w.heap.size w w /\ w.heap.size <= (((V4.setCell ⟨bh, 0, none⟩ (I_ 0)).setCell ⟨bh, 1, none⟩ (I_ hn_)).setCell ⟨bh, 2, none⟩ (I_ hc_)).heap.size) := Za ⟨Below.refl _ _, by rw [← S5]; exact HB.out.2⟩
        clear HB
        have HB := HB'
        clear HB'
        clear B5 O5 S5 E5
        generalize (((V4.setCell ⟨bh, 0, none⟩ (I_ 0)).setCell ⟨bh, 1, none⟩ (I_ hn_)).setCell ⟨bh, 2, none⟩ (I_ hc_)) = V5 at *
        refine wpAnyH_done (by kernel_rfl) ?_ _
        clear hH
        go_wp2_with fail
        go_meet
        case rel => exact ⟨bw, bh, aa, na, ca, G', rfl, rfl, Za ⟨HQ.out, Zbw.out, Zbh.out, Gbw.out⟩⟩
      · have L0 : w.heap.size < V1.heap.size := by have h1 := hH.1; have h2 := hH.2.1 w.heap.size (by simp); omega
        go_simp
        have A2 := Zd V1 (.cells #[I_ 0, I_ 0, I_ 0, I_ 0, I_ 0, .int .u64 0, .slice none 0 0] 67)
        have N2 := B_ V1 (.cells #[I_ 0, I_ 0, I_ 0, I_ 0, I_ 0, .int .u64 0, .slice none 0 0] 67)
        refine hK1.out _ _ (hH.al A2) (fun hH => ?_)
        clear hK1 K1
        obtain ⟨bw, hbw⟩ : ∃ bw, V1.heap.size = bw := ⟨_, rfl⟩
        rw [hbw] at N2 ⊢
        have Lbw := Za (show w.heap.size < bw by rw [← hbw]; exact L0)
        clear L0
        have HU' := Za (HU.out.bel A2)
        clear HU
        have HU := HU'
        clear HU'
        have HB' := Za (Zg HB.out A2)
        clear HB
        have HB := HB'
        clear HB'
        have Zbh' := Za ((A2.block bh (Ze Zbh.out)).trans Zbh.out)
        clear Zbh
        have Zbh := Zbh'
        clear Zbh'
        have Zbw := Za N2
        clear A2 N2 hbw
        generalize V1.alloc _ = V2 at *
        refine RH_ 11 (fun K1 hK1 => ?_)
        go_simp
        refine (NX.out V2 HU.out).mono ?_
        rintro e V3 ⟨va, rfl, ar, kp, G', rn, ch⟩
        obtain ⟨aa, na, ca, xs, rfl, _⟩ := id ar
        refine hK1.out _ _ (hH.turn ch.size kp TN.out) (fun hH => ?_)
        clear hK1 K1
        have HQ := Za (AskQ.mk rn ((Ch.of_bel HB.out).trans ch) ar)
        have HB' := Za (show w.heap.size <= V3.heap.size from Nat.le_trans HB.out.size ch.size)
        have Gbw : Hid (¬ G' bw) := Za (fun hG => by
          rcases ch.grow bw hG with h1 | h1
          · exact absurd (GL.out bw h1) (by have := Lbw.out; omega)
          · exact absurd (Ze Zbw.out) (by omega))
        have Zbw' := Za ((kp bw (Ze Zbw.out) (by have := Lbw.out; have := TL.out; omega)).trans Zbw.out)
        clear Zbw
        have Zbw := Zbw'
        clear Zbw'
        have Gbh : Hid (¬ G' bh) := Za (fun hG => by
          rcases ch.grow bh hG with h1 | h1
          · exact absurd (GL.out bh h1) (by have := Lbh.out; omega)
          · exact absurd (Ze Zbh.out) (by omega))
        have Zbh' := Za ((kp bh (Ze Zbh.out) (by have := Lbh.out; have := TL.out; omega)).trans Zbh.out)
        clear Zbh
        have Zbh := Zbh'
        clear Zbh'
        clear rn ch ar kp HB HU
        have HB : Hid (Below w.heap.size w w /\ w.heap.size <= V3.heap.size) := Za ⟨Below.refl _ _, HB'.out⟩
        clear HB'
        refine H2_ 12 hH ?_
        simp only [Act.put, S_]
        refine H2_ 13 hH ?_
        simp only [Act.put, S_]
        refine H2_ 14 hH ?_
        simp only [Act.put, S_]
        refine RH_ 17 (fun K1 hK1 => ?_)
        have p0 := Zb Zbw.out 0 _ rfl
        have p1 := Zb Zbw.out 1 _ rfl
        have p2 := Zb Zbw.out 2 _ rfl
        have p3 := Zb Zbw.out 3 _ rfl
        have p4 := Zb Zbw.out 4 _ rfl
        have p5 := Zb Zbw.out 5 _ rfl
        have p6 := Zb Zbw.out 6 _ rfl
        have f0 := Zc Zbw.out 0
        have f1 := Zc Zbw.out 1
        have f2 := Zc Zbw.out 2
        have f3 := Zc Zbw.out 3
        have f4 := Zc Zbw.out 4
        have f5 := Zc Zbw.out 5
        have f6 := Zc Zbw.out 6
        have B4 : Below w.heap.size V3 (((((((V3.setCell ⟨bw, 0, none⟩ (I_ yk)).setCell ⟨bw, 1, none⟩ (I_ yo)).setCell ⟨bw, 2, none⟩ (I_ ya)).setCell ⟨bw, 3, none⟩ (I_ y0)).setCell ⟨bw, 4, none⟩ (I_ y1)).setCell ⟨bw, 5, none⟩ (.int .u64 y2)).setCell ⟨bw, 6, none⟩ (.slice aa na ca)) := ZL (o := 0) (Below.refl _ _) (Nat.le_of_lt Lbw.out)
        have O4 : ∀ k, k ≠ bw -> (((((((V3.setCell ⟨bw, 0, none⟩ (I_ yk)).setCell ⟨bw, 1, none⟩ (I_ yo)).setCell ⟨bw, 2, none⟩ (I_ ya)).setCell ⟨bw, 3, none⟩ (I_ y0)).setCell ⟨bw, 4, none⟩ (I_ y1)).setCell ⟨bw, 5, none⟩ (.int .u64 y2)).setCell ⟨bw, 6, none⟩ (.slice aa na ca)).heap[k]? = V3.heap[k]? := fun k hk => Zy (o := 0) hk
        have S4 : V3.heap.size = (((((((V3.setCell ⟨bw, 0, none⟩ (I_ yk)).setCell ⟨bw, 1, none⟩ (I_ yo)).setCell ⟨bw, 2, none⟩ (I_ ya)).setCell ⟨bw, 3, none⟩ (I_ y0)).setCell ⟨bw, 4, none⟩ (I_ y1)).setCell ⟨bw, 5, none⟩ (.int .u64 y2)).setCell ⟨bw, 6, none⟩ (.slice aa na ca)).heap.size := (ZY (o := 0)).symm
        have E4 : (((((((V3.setCell ⟨bw, 0, none⟩ (I_ yk)).setCell ⟨bw, 1, none⟩ (I_ yo)).setCell ⟨bw, 2, none⟩ (I_ ya)).setCell ⟨bw, 3, none⟩ (I_ y0)).setCell ⟨bw, 4, none⟩ (I_ y1)).setCell ⟨bw, 5, none⟩ (.int .u64 y2)).setCell ⟨bw, 6, none⟩ (.slice aa na ca)).heap[bw]? = some (.cells #[I_ yk, I_ yo, I_ ya, I_ y0, I_ y1, .int .u64 y2, .slice aa na ca] 67 (0, 0)) := ZR Zbw.out (I_ yk) (I_ yo) (I_ ya) (I_ y0) (I_ y1) (.int .u64 y2) (.slice aa na ca)
        go_simp
        refine hK1.out _ _ (hH.turn (Nat.le_of_eq S4) (fun k _ hk => O4 k hk) (fun hm => by have := Lbw.out; have := KL.out; simp at hm; omega)) (fun hH => ?_)
        clear hK1 K1 p0 p1 p2 p3 p4 p5 p6 f0 f1 f2 f3 f4 f5 f6
        have HQ' := Za (HQ.out.set Zbw.out (by decide) Gbw.out S4 B4 O4)
        clear HQ
        have HQ := HQ'
        clear HQ'
        have Zbh' := Za ((O4 bh (Zm Zbh.out Zbw.out (by decide))).trans Zbh.out)
        clear Zbh
        have Zbh := Zbh'
        clear Zbh'
        clear Zbw
        have Zbw := Za E4
        have HB' : Hid (Below w.heap.size w w /\ w.heap.size <= (((((((V3.setCell ⟨bw, 0, none⟩ (I_ yk)).setCell ⟨bw, 1, none⟩ (I_ yo)).setCell ⟨bw, 2, none⟩ (I_ ya)).setCell ⟨bw, 3, none⟩ (I_ y0)).setCell ⟨bw, 4, none⟩ (I_ y1)).setCell ⟨bw, 5, none⟩ (.int .u64 y2)).setCell ⟨bw, 6, none⟩ (.slice aa na ca)).heap.size) := Za ⟨Below.refl _ _, by rw [← S4]; exact HB.out.2⟩
        clear HB
        have HB := HB'
        clear HB'
        clear B4 O4 S4 E4
        generalize (((((((V3.setCell ⟨bw, 0, none⟩ (I_ yk)).setCell ⟨bw, 1, none⟩ (I_ yo)).setCell ⟨bw, 2, none⟩ (I_ ya)).setCell ⟨bw, 3, none⟩ (I_ y0)).setCell ⟨bw, 4, none⟩ (I_ y1)).setCell ⟨bw, 5, none⟩ (.int .u64 y2)).setCell ⟨bw, 6, none⟩ (.slice aa na ca)) = V4 at *
        refine RH_ 18 (fun K1 hK1 => ?_)
        have p0 := Zb Zbh.out 0 _ rfl
        have p1 := Zb Zbh.out 1 _ rfl
        have p2 := Zb Zbh.out 2 _ rfl
        have f0 := Zc Zbh.out 0
        have f1 := Zc Zbh.out 1
        have f2 := Zc Zbh.out 2
        have B5 : Below w.heap.size V4 (((V4.setCell ⟨bh, 0, none⟩ (I_ 0)).setCell ⟨bh, 1, none⟩ (I_ hn_)).setCell ⟨bh, 2, none⟩ (I_ hc_)) := Zt (Below.refl _ _) (Nat.le_of_lt Lbh.out) _ _ _
        have O5 : ∀ k, k ≠ bh -> (((V4.setCell ⟨bh, 0, none⟩ (I_ 0)).setCell ⟨bh, 1, none⟩ (I_ hn_)).setCell ⟨bh, 2, none⟩ (I_ hc_)).heap[k]? = V4.heap[k]? := fun k hk => ne3 hk
        have S5 : V4.heap.size = (((V4.setCell ⟨bh, 0, none⟩ (I_ 0)).setCell ⟨bh, 1, none⟩ (I_ hn_)).setCell ⟨bh, 2, none⟩ (I_ hc_)).heap.size := by simp only [Zi]
        have E5 : (((V4.setCell ⟨bh, 0, none⟩ (I_ 0)).setCell ⟨bh, 1, none⟩ (I_ hn_)).setCell ⟨bh, 2, none⟩ (I_ hc_)).heap[bh]? = some (.cells #[I_ 0, I_ hn_, I_ hc_] 122 (0, 0)) := Yx Zbh.out (I_ 0) (I_ hn_) (I_ hc_)
        go_simp
        refine hK1.out _ _ (hH.turn (Nat.le_of_eq S5) (fun k _ hk => O5 k hk) (fun hm => by have := Lbh.out; have := KL.out; simp at hm; omega)) (fun hH => ?_)
        clear hK1 K1 p0 p1 p2 f0 f1 f2
        have HQ' := Za (HQ.out.set Zbh.out (by decide) Gbh.out S5 B5 O5)
        clear HQ
        have HQ := HQ'
        clear HQ'
        have Zbw' := Za ((O5 bw (Zm Zbw.out Zbh.out (by decide))).trans Zbw.out)
        clear Zbw
        have Zbw := Zbw'
        clear Zbw'
        clear Zbh
        have Zbh := Za E5
        have HB' : Hid (Below w.heap.size w w /\ w.heap.size <= (((V4.setCell ⟨bh, 0, none⟩ (I_ 0)).setCell ⟨bh, 1, none⟩ (I_ hn_)).setCell ⟨bh, 2, none⟩ (I_ hc_)).heap.size) := Za ⟨Below.refl _ _, by rw [← S5]; exact HB.out.2⟩
        clear HB
        have HB := HB'
        clear HB'
        clear B5 O5 S5 E5
        generalize (((V4.setCell ⟨bh, 0, none⟩ (I_ 0)).setCell ⟨bh, 1, none⟩ (I_ hn_)).setCell ⟨bh, 2, none⟩ (I_ hc_)) = V5 at *
        refine wpAnyH_done (by kernel_rfl) ?_ _
        clear hH
        go_wp2_with fail
        go_meet
        case rel => exact ⟨bw, bh, aa, na, ca, G', rfl, rfl, Za ⟨HQ.out, Zbw.out, Zbh.out, Gbw.out⟩⟩
  case rest =>
    clear HU HB NX V1 C3 D1 D2 KL0 GL TN TL KL
    obtain ⟨bw, bh, aa, na, ca, G', rfl, rfl, CU⟩ := hcut
    have k0 := Zb CU.out.2.2.1 0 _ rfl
    go_upto_region 5 with fail
    obtain ⟨Fs, Fo, R, gs, vC, vB, vG, vE, ps, ts, h, hG⟩ := CU.out.1.rn
    obtain ⟨bG, cG, b, t, va, eG, e1, e2, e3, e4, gor, hA, ⟨s1, s2, s3⟩, s4⟩ := h.see hx'
    subst eG
    have hi : i < r'.gs.length := (List.getElem?_eq_some_iff.1 hx').1
    have hn8 := h.n8
    obtain ⟨n, hn⟩ : ∃ n, n = r'.gs.length := ⟨_, rfl⟩
    have c3 := h.cells.1.2.2.2.1
    rw [← hn] at hi hn8 c3
    have hi1 : (i : Int) < (n : Int) := by omega
    have hi0 : (0 : Int) <= (i : Int) := by omega
    have hgl := h.fb g h.fg
    have FI := Za (fun (w3 : World) (va' : Value) (hb : Below wc.drew.heap.size wc.drew w3) (a : YA wc.drew.heap.size w3 va') => ask_fin (h.bel (w' := wc.drew) (below_drewN (Below.refl _ _) 1)) hG hx' e1 hb a yk yo ya y0 y1 y2)
    have BN : Hid (b ∉ [g, bG, bw]) := Za (fun hm => by
      have h1 := Zm s4 h.at_ (by decide)
      have h2 := Zm s4 CU.out.2.1 (by decide)
      have h3 : b ≠ bG := fun e => Zu h.go s4 (by decide) (by rw [e]; rfl)
      simp at hm
      omega)
    have S4 := Za s4
    have KL0 : Hid (∀ k ∈ [g, bG, bw], k < wc.drew.heap.size) := Za (fun k hk => by
      show k < wc.heap.size
      have := Ze CU.out.2.1
      simp only [List.mem_cons, List.mem_nil_iff, or_false] at hk
      rcases hk with rfl | rfl | rfl <;> omega)
    have C3 : Hid (wc.drew.cell? ⟨g, 3, none⟩ = some (.slice (some ⟨bG, 0, none⟩) n cG)) := Za c3
    have D1 : Hid (wc.drew.cell? ⟨bG, i, none⟩ = some (P_ b)) := Za s1
    have CL := Za (wclone_any (w := wc.drew) yk yo ya y0 y1 y2 (.slice aa na ca) (R := fun _ => True) ((CU.out.1.ar.al (w' := wc.drew) (below_drewN (Below.refl _ _) 1)).args (fun _ _ => trivial)))
    have V7 : Hid (Wv wc.drew bw yk yo ya (y0, y1, y2) (.slice aa na ca)) := Za CU.out.2.1
    have HC := Za CU.out.1.ch
    have S4 : Hid (wc.drew.heap[b]? = _) := S4
    clear h hG c3 s1 s2 s3 s4 gor hA e1 e2 e3 e4 hn k0 CU
    refine wp_region_held_drew (S := fun w' => Yp [g, bG, bw] wc.drew w') ZJ (Yp.refl KL0.out) (fun hH => ?_)
    have HC' := Za HC.out.drew
    clear HC
    generalize wc.drew = W0 at *
    refine H2_ 0 hH ?_
    simp only [Act.put, S_]
    refine H2_ 1 hH ?_
    simp only [Act.put, S_]
    refine H2_ 2 hH ?_
    simp only [Act.put, S_]
    refine H_ 3 (v := ?_) ?_ hH ?_
    rotate_left 1
    · (intro w hSw; have q := hSw.cell (by simp) C3.out; clear hSw; go_simp <;> with_reducible rfl)
    simp only [Act.put, S_]
    refine H2_ 4 hH ?_
    simp only [Act.put, S_]
    refine H2_ 5 hH ?_
    simp only [Act.put, S_]
    refine H_ 6 (v := ?_) ?_ hH ?_
    rotate_left 1
    · (intro w hSw; have q := hSw.cell (by simp) D1.out; clear hSw; go_simp <;> with_reducible rfl)
    simp only [Act.put, S_]
    refine H_ 7 (v := ?_) ?_ hH ?_
    rotate_left 1
    · (intro w hSw; obtain ⟨z0, z1, z2, z3, z4, z5, z6⟩ := V7.out.all; have q0 := hSw.cell (by simp) z0; have q1 := hSw.cell (by simp) z1; have q2 := hSw.cell (by simp) z2; have q3 := hSw.cell (by simp) z3; have q4 := hSw.cell (by simp) z4; have q5 := hSw.cell (by simp) z5; have q6 := hSw.cell (by simp) z6; clear hSw; go_simp <;> with_reducible rfl)
    simp only [Act.put, S_]
    refine RH_ 8 (fun K1 hK1 => ?_)
    go_simp
    refine CL.out.mono ?_
    rintro e w3 ⟨v3, rfl, a3, b3⟩
    obtain ⟨a5, n5, c5, x5, rfl, _⟩ := id a3
    refine hK1.out _ _ (hH.al b3) (fun hH => ?_)
    clear hK1 K1
    have F3 := Za (FI.out w3 _ b3 a3)
    have S5 := Za ((b3.block b (Ze S4.out)).trans S4.out)
    clear a3 b3 CL FI
    refine H2_ 9 hH ?_
    simp only [Act.put, S_]
    refine H2_ 10 hH ?_
    simp only [Act.put, S_]
    refine RH_ 11 (fun K1 hK1 => ?_)
    have p1 := Zb S5.out 1 _ rfl
    have p2 := Zb S5.out 2 _ rfl
    have p3 := Zb S5.out 3 _ rfl
    have p4 := Zb S5.out 4 _ rfl
    have p5 := Zb S5.out 5 _ rfl
    have p6 := Zb S5.out 6 _ rfl
    have p7 := Zb S5.out 7 _ rfl
    have f1 := Zc S5.out 1
    have f2 := Zc S5.out 2
    have f3 := Zc S5.out 3
    have f4 := Zc S5.out 4
    have f5 := Zc S5.out 5
    have f6 := Zc S5.out 6
    have f7 := Zc S5.out 7
    go_simp
    refine hK1.out _ _ (hH.turn (t := b) (Nat.le_of_eq (ZY (o := 1)).symm) (fun k _ hk => Zy (o := 1) hk) BN.out) (fun hH => ?_)
    clear hK1 K1
    refine wpAnyH_done (by kernel_rfl) ?_ _
    clear hH
    go_wp2_with fail
    go_ret
    obtain ⟨G9, r9, c9⟩ := F3.out
    exact RnP.mk rfl r9 (HC'.out.trans c9)
theorem ask_any {w : World} {G : Nat -> Prop} {g : Nat} {S : List (List Wt)} {r : Rm} (h : Rn w G g S r) (i : Nat) (x : Gr) (hx : r.gs[i]? = some x) (j0 j1 j2 : Int) : Calls Tryz.prog 56 #[P_ g, I_ (i : Nat), .agg #[I_ j0, I_ j1, .int .u64 j2]] w (RnP w G g S (Ye r i).1 (.bool (Ye r i).2)) := by
 have hi : i < r.gs.length := (G_ hx)
 cases hr : x.rest with
 | nil =>
  have e : Ye r i = ({ r with gs := r.gs.set i ⟨x.rest, ⟨12, 0, 0, (0, 0, 0)⟩⟩ }, true) := by
   unfold Ye
   rw [hx]
   simp only [hr, Yt]
   rfl
  rw [e]
  exact ask_ok h i x hx j0 j1 j2 12 0 0 0 0 0 0 0 0 r (fun W Fs Fo R gs vC vB vG vE ps ts t hU hG ht => next_nil hU hG i t x hx ht hr j0 j1 j2) rfl x hx
 | cons y l =>
  obtain ⟨yk, yo, ya, y0, y1, y2⟩ := y
  have hx' : (r.gs.set i (⟨l, x.w⟩ : Gr))[i]? = some ⟨l, x.w⟩ := List.getElem?_set_self hi
  by_cases hk : yk = 0
  · subst hk
    have e : Ye r i = ({ { r with gs := r.gs.set i ⟨l, x.w⟩ } with e := ⟨3, 7, i, y1, ya⟩ }, false) := by
     unfold Ye
     rw [hx]
     simp only [hr, Yt]
     rfl
    rw [e]
    exact ask_halt h i x hx j0 j1 j2 0 0 0 0 0 0 7 y1 ya { r with gs := r.gs.set i ⟨l, x.w⟩ } (fun W Fs Fo R gs vC vB vG vE ps ts t hU hG ht => next_halt hU hG i t x hx ht ⟨0, yo, ya, (y0, y1, y2)⟩ l hr rfl j0 j1 j2) (by decide)
  · have e : Ye r i = ({ r with gs := (r.gs.set i ⟨l, x.w⟩).set i ⟨l, ⟨yk, yo, ya, (y0, y1, y2)⟩⟩ }, true) := by
     unfold Ye
     rw [hx]
     simp only [hr, Yt, if_neg hk, List.set_set]
     rfl
    rw [e]
    exact ask_ok h i x hx j0 j1 j2 yk yo ya y0 y1 y2 0 0 0 { r with gs := r.gs.set i ⟨l, x.w⟩ } (fun W Fs Fo R gs vC vB vG vE ps ts t hU hG ht => next_wait hU hG i t x hx ht ⟨yk, yo, ya, (y0, y1, y2)⟩ l hr hk j0 j1 j2) rfl ⟨l, x.w⟩ hx'
theorem Ch.keepB {G G' : Nat -> Prop} {w w' : World} {b : Nat} (c : Ch G G' w w') (hn : ¬ G b) (hl : b < w.heap.size) : w'.heap[b]? = w.heap[b]? /\ ¬ G' b /\ b < w'.heap.size :=
 ⟨c.blk b hl hn, fun h => by
  rcases c.grow b h with h1 | h1
  · exact hn h1
  · omega, Nat.lt_of_lt_of_le hl c.size⟩
theorem ask_gs (r : Rm) (i : Nat) : (Ye r i).1.gs.length = r.gs.length := by
 unfold Ye
 split
 · split <;> simp [faultR]
 · rfl
theorem note_gs (r : Rm) (i : Nat) (o : Int) : (ZI r i o).gs = r.gs := by
 unfold ZI
 split <;> rfl
theorem note_len (r : Rm) (i : Nat) (o : Int) : (ZI r i o).ev.length <= r.ev.length + 1 := by
 unfold ZI
 split <;> simp
theorem split_any {w : World} {G : Nat -> Prop} {g : Nat} {S : List (List Wt)} {r : Rm} (h : Rn w G g S r) (i : Nat) (x : Gr) (hx : r.gs[i]? = some x) (hl : r.ev.length <= 90000) (k o a v0 v1 v2 : Int) (aa : Option Addr) (na ca : Nat) (R0 : Nat -> Prop) (hA : YK w R0 (.slice aa na ca)) :
    Calls Tryz.prog 68 #[P_ g, I_ (i : Nat), .agg #[I_ k, I_ o, I_ a, I_ v0, I_ v1, .int .u64 v2, .slice aa na ca]] w (RnP w G g S (splitR S r i ⟨k, o, a, (v0, v1, v2)⟩) (.tuple #[])) := by
  have B0 := Za (Zd w (.cells #[I_ k, I_ o, I_ a, I_ v0, I_ v1, .int .u64 v2, .slice aa na ca] 67))
  have V0 := Za (Wv.new w k o a v0 v1 v2 (.slice aa na ca))
  have HR := Za (h.bel B0.out)
  have NG : Hid (¬ G w.heap.size) := Za (fun hG => absurd (h.fb _ hG) (by omega))
  have HA : Hid (YK (w.alloc (.cells #[I_ k, I_ o, I_ a, I_ v0, I_ v1, .int .u64 v2, .slice aa na ca] 67)) (fun _ => True) (.slice aa na ca)) := Za (by
    obtain ⟨n, xs, q1, q2, q3, q4⟩ := hA
    exact ⟨n, xs, q1, Zj q2 (fun k hk => B0.out.block k (Zf q2 hk).2.1), q3, fun _ _ => trivial⟩)
  have hn8 : r.gs.length <= 8 := by
    obtain ⟨_, _, _, _, _, _, _, _, _, _, h', _⟩ := h
    exact h'.n8
  obtain ⟨n, hn⟩ : ∃ n, n = r.gs.length := ⟨_, rfl⟩
  have c3 : ∃ aG cG, (w.alloc (.cells #[I_ k, I_ o, I_ a, I_ v0, I_ v1, .int .u64 v2, .slice aa na ca] 67)).cell? ⟨g, 3, none⟩ = some (.slice aG n cG) := by
    obtain ⟨_, _, _, _, _, _, _, _, _, _, h', _⟩ := HR.out
    obtain ⟨aG, cG, e, _⟩ := Zl h'.go
    have := h'.cells.1.2.2.2.1
    rw [e, ← hn] at this
    exact ⟨aG, cG, this⟩
  obtain ⟨aG, cG, c3⟩ := c3
  have HC3 := Za c3
  rw [← hn] at hn8
  unfold splitR
  have HX := Za hx
  have HL := Za hl
  have HN := Za hn
  simp only
  clear h hA c3 hx hl
  by_cases h8 : n = 8
  · subst h8
    have e8 : (8 <= r.gs.length) = True := by simp; omega
    rw [if_pos (by omega)]
    clear e8 hn
    go_enter Tryz.func68, Tryz.ntmps68
    go_upto_region 1 with fail
    generalize w.alloc _ = w1 at *
    have c3 := HC3.out
    obtain ⟨q0, q1, q2, q3, q4, q5, q6⟩ := V0.out.all
    go_wp2_with fail
    refine (fault_any HR.out i 5 0 a).mono ?_
    rintro e w2 ⟨rfl, G2, r2, c2⟩
    have Z := Za (And.intro r2 ((Ch.of_bel B0.out).trans c2))
    clear r2 c2
    go_wp2_with fail
    go_end0
    exact RnP.mk rfl Z.out.1 Z.out.2
  · rw [if_neg (by omega)]
    have h8' : decide ((8 : Int) <= (n : Int)) = false := by simp; omega
    have h8'' : decide (8 <= n) = false := by simp; omega
    have h8i : (n : Int) < 8 := by omega
    unfold enterR
    cases hl : lk S o with
    | none =>
      have EN := Za (enter_none HR.out o HA.out hl)
      simp only
      clear hl hn h8
      go_enter Tryz.func68, Tryz.ntmps68
      go_upto_region 1 with fail
      generalize w.alloc _ = w1 at *
      have c3 := HC3.out
      obtain ⟨q0, q1, q2, q3, q4, q5, q6⟩ := V0.out.all
      go_wp2_with fail
      refine EN.out.mono ?_
      rintro e w2 ⟨rfl, G2, r2, c2⟩
      obtain ⟨k2, n2, l2⟩ := c2.keepB NG.out V0.out.lt
      have V2 : Wv w2 w.heap.size k o a (v0, v1, v2) (.slice aa na ca) := k2.trans V0.out
      have FA := Za (fault_any r2 i 5 0 a)
      have C2 := Za ((Ch.of_bel B0.out).trans c2)
      clear r2 c2 k2 n2 q0 q1 q2 q3 q4 q5 q6 EN
      obtain ⟨q0, q1, q2, q3, q4, q5, q6⟩ := V2.all
      go_wp2_with fail
      refine FA.out.mono ?_
      rintro e w3 ⟨rfl, G3, r3, c3'⟩
      have Z := Za (And.intro r3 (C2.out.trans c3'))
      clear r3 c3' FA
      go_wp2_with fail
      go_end0
      exact RnP.mk rfl Z.out.1 Z.out.2
    | some l =>
      have EN := Za (enter_some HR.out o HA.out l hl (by omega))
      simp only
      have hxa : Hid ((r.gs ++ [(⟨l, zW⟩ : Gr)])[i]? = some x) := Za (by rw [List.getElem?_append_left (G_ HX.out)]; exact HX.out)
      have hxn : Hid ((r.gs ++ [(⟨l, zW⟩ : Gr)])[n]? = some ⟨l, zW⟩) := Za (by rw [hn]; simp)
      have hne : Hid (i ≠ n) := Za (by have := (G_ HX.out); omega)
      rw [← hn]
      obtain ⟨r1, hr1⟩ : ∃ r1, r1 = ({ r with gs := r.gs ++ [⟨l, zW⟩] } : Rm) := ⟨_, rfl⟩
      rw [← hr1] at EN ⊢
      have hg1 : Hid (r1.gs = r.gs ++ [⟨l, zW⟩] /\ r1.ev = r.ev) := Za (by rw [hr1]; exact ⟨rfl, rfl⟩)
      obtain ⟨r2, hr2⟩ : ∃ r2, r2 = ZI r1 i (n : Nat) := ⟨_, rfl⟩
      rw [← hr2]
      have hg2 : Hid (r2.gs = r1.gs) := Za (by rw [hr2]; exact note_gs _ _ _)
      obtain ⟨q, hq⟩ : ∃ q, Ye r2 i = q := ⟨_, rfl⟩
      have hq3 : Hid (∃ y, q.1.gs[n]? = some y) := Za ⟨_, List.getElem?_eq_getElem (by rw [← hq, ask_gs, hg2.out, hg1.out.1]; simp; omega)⟩
      rw [hq]
      have HQ := Za hq
      have HR2 := Za hr2
      clear hl hn h8 hr1 hr2 hq
      obtain ⟨r3, bq⟩ := q
      go_enter Tryz.func68, Tryz.ntmps68
      go_upto_region 1 with fail
      generalize w.alloc _ = w1 at *
      have c3 := HC3.out
      obtain ⟨q0, q1, q2, q3, q4, q5, q6⟩ := V0.out.all
      go_wp2_with fail
      refine EN.out.mono ?_
      rintro e w2 ⟨rfl, G2, rn2, c2⟩
      have NO := Za (note_any rn2 i x (by rw [hg1.out.1]; exact hxa.out) (n : Nat) (by rw [hg1.out.2]; have := HL.out; omega))
      rw [← HR2.out] at NO
      have C2 := Za ((Ch.of_bel B0.out).trans c2)
      clear rn2 c2 EN q0 q1 q2 q3 q4 q5 q6 c3
      go_wp2_with fail
      refine NO.out.mono ?_
      rintro e w3 ⟨rfl, G3, rn3, c3⟩
      have AK := Za (ask_any rn3 i x (by rw [hg2.out, hg1.out.1]; exact hxa.out) 0 0 0)
      rw [HQ.out] at AK
      have C3 := Za (C2.out.trans c3)
      clear rn3 c3 NO C2
      go_wp2_with fail
      refine AK.out.mono ?_
      rintro e w4 ⟨rfl, G4, rn4, c4⟩
      have C4 := Za (And.intro rn4 (C3.out.trans c4))
      clear rn4 c4 AK C3
      cases bq with
      | true =>
        obtain ⟨y, hy⟩ := hq3.out
        have AK := Za (ask_any C4.out.1 n y hy 0 0 0)
        clear hy
        go_wp2_with fail
        refine AK.out.mono ?_
        rintro e w5 ⟨rfl, G5, rn5, c5⟩
        have C5 := Za (And.intro rn5 (C4.out.2.trans c5))
        clear rn5 c5 AK C4
        go_wp2_with fail
        go_end0
        exact RnP.mk rfl C5.out.1 C5.out.2
      | false =>
        go_wp2_with fail
        go_end0
        exact RnP.mk rfl C4.out.1 C4.out.2
theorem share_1 {w : World} {F : Nat -> Prop} {g : Nat} {s : St} {p : List Addr} (h : Stt w F g s) (h17 : E2 w p) (a v0 v1 v2 : Int) (aa : Option Addr) (na ca : Nat) (i : Nat) (x : V3) (hx : s.P[i]? = some x) : Calls Tryz.prog 72 #[P_ g, .agg #[I_ 1, I_ (i : Nat), I_ a, I_ v0, I_ v1, .int .u64 v2, .slice aa na ca]] w (Sp w F g (s) (.agg #[I_ x.1, I_ x.2.1, .int .u64 x.2.2])) := by
  have B1 : Hid (Below w.heap.size w (((w.alloc (.cells #[I_ 1, I_ (i : Nat), I_ a, I_ v0, I_ v1, .int .u64 v2, .slice aa na ca] 67)).alloc (.cells #[I_ 0, I_ 0, .int .u64 0] 64)).alloc (.cells #[I_ 0, I_ 0, .int .u64 0] 64))) := Za (Zv (Zv (Zd w _) _) _)
  have hs1 : (w.alloc (.cells #[I_ 1, I_ (i : Nat), I_ a, I_ v0, I_ v1, .int .u64 v2, .slice aa na ca] 67)).heap.size = w.heap.size + 1 := by simp
  have hs2 : ((w.alloc (.cells #[I_ 1, I_ (i : Nat), I_ a, I_ v0, I_ v1, .int .u64 v2, .slice aa na ca] 67)).alloc (.cells #[I_ 0, I_ 0, .int .u64 0] 64)).heap.size = w.heap.size + 1 + 1 := by simp
  have Y1 : Hid (Val (((w.alloc (.cells #[I_ 1, I_ (i : Nat), I_ a, I_ v0, I_ v1, .int .u64 v2, .slice aa na ca] 67)).alloc (.cells #[I_ 0, I_ 0, .int .u64 0] 64)).alloc (.cells #[I_ 0, I_ 0, .int .u64 0] 64)) (w.heap.size + 1) 0 0 0) := Za (by
    have e1 := Val.new (w.alloc (.cells #[I_ 1, I_ (i : Nat), I_ a, I_ v0, I_ v1, .int .u64 v2, .slice aa na ca] 67)) 0 0 0
    rw [hs1] at e1
    exact e1.al (Zd _ _))
  have Y2 : Hid (Val (((w.alloc (.cells #[I_ 1, I_ (i : Nat), I_ a, I_ v0, I_ v1, .int .u64 v2, .slice aa na ca] 67)).alloc (.cells #[I_ 0, I_ 0, .int .u64 0] 64)).alloc (.cells #[I_ 0, I_ 0, .int .u64 0] 64)) (w.heap.size + 1 + 1) 0 0 0) := Za (by
    have e1 := Val.new ((w.alloc (.cells #[I_ 1, I_ (i : Nat), I_ a, I_ v0, I_ v1, .int .u64 v2, .slice aa na ca] 67)).alloc (.cells #[I_ 0, I_ 0, .int .u64 0] 64)) 0 0 0
    rw [hs2] at e1
    exact e1)
  have Y0 : Hid (Wv (((w.alloc (.cells #[I_ 1, I_ (i : Nat), I_ a, I_ v0, I_ v1, .int .u64 v2, .slice aa na ca] 67)).alloc (.cells #[I_ 0, I_ 0, .int .u64 0] 64)).alloc (.cells #[I_ 0, I_ 0, .int .u64 0] 64)) w.heap.size 1 (i : Nat) a (v0, v1, v2) (.slice aa na ca)) := Za (((Wv.new w 1 (i : Nat) a v0 v1 v2 (.slice aa na ca)).al (Zd _ _)).al (Zd _ _))
  have FL : Hid (∀ k, F k -> k < w.heap.size) := Za h.fb
  have H1 := Za (h.bel B1.out)
  have H7 := Za (h17.below (Nat.le_refl _) B1.out)
  obtain ⟨x0, x1, x2⟩ := x
  clear h h17 hs1 hs2
  go_enter Tryz.func72, Tryz.ntmps72
  go_upto_region 2 with fail
  generalize ((w.alloc _).alloc _).alloc _ = W1 at *
  obtain ⟨q0, q1, q2, q3, q4, q5, q6⟩ := Y0.out.all
  have hl0 := Y0.out.lt
  obtain ⟨⟨a0, a1, a2⟩, e0, e1, e2⟩ := Y1.out.all
  obtain ⟨⟨b0, b1, b2⟩, d0, d1, d2⟩ := Y2.out.all
  go_wp2_with fail
  refine (Read_in H1.out i (x0, x1, x2) hx).mono ?_
  rintro e w2 ⟨rfl, hb⟩
  have V1 := Y1.out.al hb
  have V2 := Y2.out.al hb
  obtain ⟨⟨f0, f1, f2⟩, g0, g1, g2⟩ := V1.all
  obtain ⟨⟨k0, k1, k2⟩, j0, j1, j2⟩ := V2.all
  have HB := Za hb
  clear hb q0 q1 q2 q3 q4 q5 q6 a0 a1 a2 e0 e1 e2 b0 b1 b2 d0 d1 d2 H7
  go_wp2_with fail
  have U1 : Val (((w2.setCell ⟨w.heap.size + 1 + 1, 0, none⟩ (I_ (x0))).setCell ⟨w.heap.size + 1 + 1, 1, none⟩ (I_ (x1))).setCell ⟨w.heap.size + 1 + 1, 2, none⟩ (.int .u64 (x2))) (w.heap.size + 1) 0 0 0 := (ne3 (by omega)).trans V1
  have BB : Below w.heap.size w2 ((((((w2.setCell ⟨w.heap.size + 1 + 1, 0, none⟩ (I_ (x0))).setCell ⟨w.heap.size + 1 + 1, 1, none⟩ (I_ (x1))).setCell ⟨w.heap.size + 1 + 1, 2, none⟩ (.int .u64 (x2))).setCell ⟨w.heap.size + 1, 0, none⟩ (I_ (x0))).setCell ⟨w.heap.size + 1, 1, none⟩ (I_ (x1))).setCell ⟨w.heap.size + 1, 2, none⟩ (.int .u64 (x2))) := Zt (Zt (Below.refl _ _) (by omega) _ _ _) (by omega) _ _ _
  exact ret_v (w.heap.size + 1) rfl rfl (U1.set _ _ _) rfl (Sp.mk rfl (((H1.out.bel HB.out).keep (fun k hk => BB.block k (FL.out k hk)) BB.size)) (((Ch.of_bel B1.out).trans (Ch.of_bel HB.out)).below BB))
theorem share_2 {w : World} {F : Nat -> Prop} {g : Nat} {s : St} {p : List Addr} (h : Stt w F g s) (h17 : E2 w p) (a v0 v1 v2 : Int) (aa : Option Addr) (na ca : Nat) (i : Nat) (x : V3) (hx : s.P[i]? = some x) (hB : isB v0 v1 v2 x.1 = true) : Calls Tryz.prog 72 #[P_ g, .agg #[I_ 2, I_ (i : Nat), I_ a, I_ v0, I_ v1, .int .u64 v2, .slice aa na ca]] w (Sp w F g ({ s with P := s.P.set i (v0, v1, v2) }) (.agg #[I_ 0, I_ 0, .int .u64 0])) := by
  have B1 : Hid (Below w.heap.size w (((w.alloc (.cells #[I_ 2, I_ (i : Nat), I_ a, I_ v0, I_ v1, .int .u64 v2, .slice aa na ca] 67)).alloc (.cells #[I_ 0, I_ 0, .int .u64 0] 64)).alloc (.cells #[I_ 0, I_ 0, .int .u64 0] 64))) := Za (Zv (Zv (Zd w _) _) _)
  have hs1 : (w.alloc (.cells #[I_ 2, I_ (i : Nat), I_ a, I_ v0, I_ v1, .int .u64 v2, .slice aa na ca] 67)).heap.size = w.heap.size + 1 := by simp
  have hs2 : ((w.alloc (.cells #[I_ 2, I_ (i : Nat), I_ a, I_ v0, I_ v1, .int .u64 v2, .slice aa na ca] 67)).alloc (.cells #[I_ 0, I_ 0, .int .u64 0] 64)).heap.size = w.heap.size + 1 + 1 := by simp
  have Y1 : Hid (Val (((w.alloc (.cells #[I_ 2, I_ (i : Nat), I_ a, I_ v0, I_ v1, .int .u64 v2, .slice aa na ca] 67)).alloc (.cells #[I_ 0, I_ 0, .int .u64 0] 64)).alloc (.cells #[I_ 0, I_ 0, .int .u64 0] 64)) (w.heap.size + 1) 0 0 0) := Za (by
    have e1 := Val.new (w.alloc (.cells #[I_ 2, I_ (i : Nat), I_ a, I_ v0, I_ v1, .int .u64 v2, .slice aa na ca] 67)) 0 0 0
    rw [hs1] at e1
    exact e1.al (Zd _ _))
  have Y2 : Hid (Val (((w.alloc (.cells #[I_ 2, I_ (i : Nat), I_ a, I_ v0, I_ v1, .int .u64 v2, .slice aa na ca] 67)).alloc (.cells #[I_ 0, I_ 0, .int .u64 0] 64)).alloc (.cells #[I_ 0, I_ 0, .int .u64 0] 64)) (w.heap.size + 1 + 1) 0 0 0) := Za (by
    have e1 := Val.new ((w.alloc (.cells #[I_ 2, I_ (i : Nat), I_ a, I_ v0, I_ v1, .int .u64 v2, .slice aa na ca] 67)).alloc (.cells #[I_ 0, I_ 0, .int .u64 0] 64)) 0 0 0
    rw [hs2] at e1
    exact e1)
  have Y0 : Hid (Wv (((w.alloc (.cells #[I_ 2, I_ (i : Nat), I_ a, I_ v0, I_ v1, .int .u64 v2, .slice aa na ca] 67)).alloc (.cells #[I_ 0, I_ 0, .int .u64 0] 64)).alloc (.cells #[I_ 0, I_ 0, .int .u64 0] 64)) w.heap.size 2 (i : Nat) a (v0, v1, v2) (.slice aa na ca)) := Za (((Wv.new w 2 (i : Nat) a v0 v1 v2 (.slice aa na ca)).al (Zd _ _)).al (Zd _ _))
  have FL : Hid (∀ k, F k -> k < w.heap.size) := Za h.fb
  have H1 := Za (h.bel B1.out)
  have H7 := Za (h17.below (Nat.le_refl _) B1.out)
  clear h h17 hs1 hs2
  go_enter Tryz.func72, Tryz.ntmps72
  go_upto_region 2 with fail
  generalize ((w.alloc _).alloc _).alloc _ = W1 at *
  obtain ⟨q0, q1, q2, q3, q4, q5, q6⟩ := Y0.out.all
  have hl0 := Y0.out.lt
  obtain ⟨⟨a0, a1, a2⟩, e0, e1, e2⟩ := Y1.out.all
  obtain ⟨⟨b0, b1, b2⟩, d0, d1, d2⟩ := Y2.out.all
  go_wp2_with fail
  refine (Write_in H1.out H7.out i x hx v0 v1 v2 hB).mono ?_
  rintro e w2 ⟨rfl, F', st, ch⟩
  have V1 := (ch.blk (w.heap.size + 1) Y1.out.lt (fun e => by have := FL.out _ e; omega)).trans Y1.out
  have V2 := (ch.blk (w.heap.size + 1 + 1) Y2.out.lt (fun e => by have := FL.out _ e; omega)).trans Y2.out
  obtain ⟨⟨f0, f1, f2⟩, g0, g1, g2⟩ := (show Val w2 (w.heap.size + 1) 0 0 0 from V1).all
  obtain ⟨⟨k0, k1, k2⟩, j0, j1, j2⟩ := (show Val w2 (w.heap.size + 1 + 1) 0 0 0 from V2).all
  have ST := Za (And.intro st ch)
  have NF : Hid (¬ F' (w.heap.size + 1)) := Za (fun hF => by
    rcases ch.grow _ hF with h1 | h1
    · exact absurd (FL.out _ h1) (by omega)
    · exact absurd Y1.out.lt (by omega))
  clear st ch q0 q1 q2 q3 q4 q5 q6 a0 a1 a2 e0 e1 e2 b0 b1 b2 d0 d1 d2 H1 H7
  go_wp2_with fail
  exact ret_v (w.heap.size + 1) rfl rfl (Val.set V1 0 0 0) rfl (Sp.mk rfl (ST.out.1.keep (fun k hk => ne3 (fun e => NF.out (e ▸ hk))) (by rw [Zi, Zi, Zi]; exact Nat.le_refl _)) (((Ch.of_bel B1.out).trans ST.out.2).below (Zt (Below.refl _ _) (by omega) _ _ _)))
theorem share_3 {w : World} {F : Nat -> Prop} {g : Nat} {s : St} {p : List Addr} (h : Stt w F g s) (h17 : E2 w p) (a v0 v1 v2 : Int) (aa : Option Addr) (na ca : Nat) (i : Nat) (x : Bool) (hx : s.M[i]? = some x) : Calls Tryz.prog 72 #[P_ g, .agg #[I_ 3, I_ (i : Nat), I_ a, I_ v0, I_ v1, .int .u64 v2, .slice aa na ca]] w (Sp w F g ({ s with M := s.M.set i true }) (.agg #[I_ 0, I_ 0, .int .u64 0])) := by
  have B1 : Hid (Below w.heap.size w (((w.alloc (.cells #[I_ 3, I_ (i : Nat), I_ a, I_ v0, I_ v1, .int .u64 v2, .slice aa na ca] 67)).alloc (.cells #[I_ 0, I_ 0, .int .u64 0] 64)).alloc (.cells #[I_ 0, I_ 0, .int .u64 0] 64))) := Za (Zv (Zv (Zd w _) _) _)
  have hs1 : (w.alloc (.cells #[I_ 3, I_ (i : Nat), I_ a, I_ v0, I_ v1, .int .u64 v2, .slice aa na ca] 67)).heap.size = w.heap.size + 1 := by simp
  have hs2 : ((w.alloc (.cells #[I_ 3, I_ (i : Nat), I_ a, I_ v0, I_ v1, .int .u64 v2, .slice aa na ca] 67)).alloc (.cells #[I_ 0, I_ 0, .int .u64 0] 64)).heap.size = w.heap.size + 1 + 1 := by simp
  have Y1 : Hid (Val (((w.alloc (.cells #[I_ 3, I_ (i : Nat), I_ a, I_ v0, I_ v1, .int .u64 v2, .slice aa na ca] 67)).alloc (.cells #[I_ 0, I_ 0, .int .u64 0] 64)).alloc (.cells #[I_ 0, I_ 0, .int .u64 0] 64)) (w.heap.size + 1) 0 0 0) := Za (by
    have e1 := Val.new (w.alloc (.cells #[I_ 3, I_ (i : Nat), I_ a, I_ v0, I_ v1, .int .u64 v2, .slice aa na ca] 67)) 0 0 0
    rw [hs1] at e1
    exact e1.al (Zd _ _))
  have Y2 : Hid (Val (((w.alloc (.cells #[I_ 3, I_ (i : Nat), I_ a, I_ v0, I_ v1, .int .u64 v2, .slice aa na ca] 67)).alloc (.cells #[I_ 0, I_ 0, .int .u64 0] 64)).alloc (.cells #[I_ 0, I_ 0, .int .u64 0] 64)) (w.heap.size + 1 + 1) 0 0 0) := Za (by
    have e1 := Val.new ((w.alloc (.cells #[I_ 3, I_ (i : Nat), I_ a, I_ v0, I_ v1, .int .u64 v2, .slice aa na ca] 67)).alloc (.cells #[I_ 0, I_ 0, .int .u64 0] 64)) 0 0 0
    rw [hs2] at e1
    exact e1)
  have Y0 : Hid (Wv (((w.alloc (.cells #[I_ 3, I_ (i : Nat), I_ a, I_ v0, I_ v1, .int .u64 v2, .slice aa na ca] 67)).alloc (.cells #[I_ 0, I_ 0, .int .u64 0] 64)).alloc (.cells #[I_ 0, I_ 0, .int .u64 0] 64)) w.heap.size 3 (i : Nat) a (v0, v1, v2) (.slice aa na ca)) := Za (((Wv.new w 3 (i : Nat) a v0 v1 v2 (.slice aa na ca)).al (Zd _ _)).al (Zd _ _))
  have FL : Hid (∀ k, F k -> k < w.heap.size) := Za h.fb
  have H1 := Za (h.bel B1.out)
  have H7 := Za (h17.below (Nat.le_refl _) B1.out)
  clear h h17 hs1 hs2
  go_enter Tryz.func72, Tryz.ntmps72
  go_upto_region 2 with fail
  generalize ((w.alloc _).alloc _).alloc _ = W1 at *
  obtain ⟨q0, q1, q2, q3, q4, q5, q6⟩ := Y0.out.all
  have hl0 := Y0.out.lt
  obtain ⟨⟨a0, a1, a2⟩, e0, e1, e2⟩ := Y1.out.all
  obtain ⟨⟨b0, b1, b2⟩, d0, d1, d2⟩ := Y2.out.all
  go_wp2_with fail
  refine (Lock_in H1.out i x hx).mono ?_
  rintro e w2 ⟨rfl, F', st, ch⟩
  have V1 := (ch.blk (w.heap.size + 1) Y1.out.lt (fun e => by have := FL.out _ e; omega)).trans Y1.out
  have V2 := (ch.blk (w.heap.size + 1 + 1) Y2.out.lt (fun e => by have := FL.out _ e; omega)).trans Y2.out
  obtain ⟨⟨f0, f1, f2⟩, g0, g1, g2⟩ := (show Val w2 (w.heap.size + 1) 0 0 0 from V1).all
  obtain ⟨⟨k0, k1, k2⟩, j0, j1, j2⟩ := (show Val w2 (w.heap.size + 1 + 1) 0 0 0 from V2).all
  have ST := Za (And.intro st ch)
  have NF : Hid (¬ F' (w.heap.size + 1)) := Za (fun hF => by
    rcases ch.grow _ hF with h1 | h1
    · exact absurd (FL.out _ h1) (by omega)
    · exact absurd Y1.out.lt (by omega))
  clear st ch q0 q1 q2 q3 q4 q5 q6 a0 a1 a2 e0 e1 e2 b0 b1 b2 d0 d1 d2 H1 H7
  go_wp2_with fail
  exact ret_v (w.heap.size + 1) rfl rfl (Val.set V1 0 0 0) rfl (Sp.mk rfl (ST.out.1.keep (fun k hk => ne3 (fun e => NF.out (e ▸ hk))) (by rw [Zi, Zi, Zi]; exact Nat.le_refl _)) (((Ch.of_bel B1.out).trans ST.out.2).below (Zt (Below.refl _ _) (by omega) _ _ _)))
theorem share_4 {w : World} {F : Nat -> Prop} {g : Nat} {s : St} {p : List Addr} (h : Stt w F g s) (h17 : E2 w p) (a v0 v1 v2 : Int) (aa : Option Addr) (na ca : Nat) (i : Nat) (x : Bool) (hx : s.M[i]? = some x) : Calls Tryz.prog 72 #[P_ g, .agg #[I_ 4, I_ (i : Nat), I_ a, I_ v0, I_ v1, .int .u64 v2, .slice aa na ca]] w (Sp w F g ({ s with M := s.M.set i false }) (.agg #[I_ 0, I_ 0, .int .u64 0])) := by
  have B1 : Hid (Below w.heap.size w (((w.alloc (.cells #[I_ 4, I_ (i : Nat), I_ a, I_ v0, I_ v1, .int .u64 v2, .slice aa na ca] 67)).alloc (.cells #[I_ 0, I_ 0, .int .u64 0] 64)).alloc (.cells #[I_ 0, I_ 0, .int .u64 0] 64))) := Za (Zv (Zv (Zd w _) _) _)
  have hs1 : (w.alloc (.cells #[I_ 4, I_ (i : Nat), I_ a, I_ v0, I_ v1, .int .u64 v2, .slice aa na ca] 67)).heap.size = w.heap.size + 1 := by simp
  have hs2 : ((w.alloc (.cells #[I_ 4, I_ (i : Nat), I_ a, I_ v0, I_ v1, .int .u64 v2, .slice aa na ca] 67)).alloc (.cells #[I_ 0, I_ 0, .int .u64 0] 64)).heap.size = w.heap.size + 1 + 1 := by simp
  have Y1 : Hid (Val (((w.alloc (.cells #[I_ 4, I_ (i : Nat), I_ a, I_ v0, I_ v1, .int .u64 v2, .slice aa na ca] 67)).alloc (.cells #[I_ 0, I_ 0, .int .u64 0] 64)).alloc (.cells #[I_ 0, I_ 0, .int .u64 0] 64)) (w.heap.size + 1) 0 0 0) := Za (by
    have e1 := Val.new (w.alloc (.cells #[I_ 4, I_ (i : Nat), I_ a, I_ v0, I_ v1, .int .u64 v2, .slice aa na ca] 67)) 0 0 0
    rw [hs1] at e1
    exact e1.al (Zd _ _))
  have Y2 : Hid (Val (((w.alloc (.cells #[I_ 4, I_ (i : Nat), I_ a, I_ v0, I_ v1, .int .u64 v2, .slice aa na ca] 67)).alloc (.cells #[I_ 0, I_ 0, .int .u64 0] 64)).alloc (.cells #[I_ 0, I_ 0, .int .u64 0] 64)) (w.heap.size + 1 + 1) 0 0 0) := Za (by
    have e1 := Val.new ((w.alloc (.cells #[I_ 4, I_ (i : Nat), I_ a, I_ v0, I_ v1, .int .u64 v2, .slice aa na ca] 67)).alloc (.cells #[I_ 0, I_ 0, .int .u64 0] 64)) 0 0 0
    rw [hs2] at e1
    exact e1)
  have Y0 : Hid (Wv (((w.alloc (.cells #[I_ 4, I_ (i : Nat), I_ a, I_ v0, I_ v1, .int .u64 v2, .slice aa na ca] 67)).alloc (.cells #[I_ 0, I_ 0, .int .u64 0] 64)).alloc (.cells #[I_ 0, I_ 0, .int .u64 0] 64)) w.heap.size 4 (i : Nat) a (v0, v1, v2) (.slice aa na ca)) := Za (((Wv.new w 4 (i : Nat) a v0 v1 v2 (.slice aa na ca)).al (Zd _ _)).al (Zd _ _))
  have FL : Hid (∀ k, F k -> k < w.heap.size) := Za h.fb
  have H1 := Za (h.bel B1.out)
  have H7 := Za (h17.below (Nat.le_refl _) B1.out)
  clear h h17 hs1 hs2
  go_enter Tryz.func72, Tryz.ntmps72
  go_upto_region 2 with fail
  generalize ((w.alloc _).alloc _).alloc _ = W1 at *
  obtain ⟨q0, q1, q2, q3, q4, q5, q6⟩ := Y0.out.all
  have hl0 := Y0.out.lt
  obtain ⟨⟨a0, a1, a2⟩, e0, e1, e2⟩ := Y1.out.all
  obtain ⟨⟨b0, b1, b2⟩, d0, d1, d2⟩ := Y2.out.all
  go_wp2_with fail
  refine (Unlock_in H1.out i x hx).mono ?_
  rintro e w2 ⟨rfl, F', st, ch⟩
  have V1 := (ch.blk (w.heap.size + 1) Y1.out.lt (fun e => by have := FL.out _ e; omega)).trans Y1.out
  have V2 := (ch.blk (w.heap.size + 1 + 1) Y2.out.lt (fun e => by have := FL.out _ e; omega)).trans Y2.out
  obtain ⟨⟨f0, f1, f2⟩, g0, g1, g2⟩ := (show Val w2 (w.heap.size + 1) 0 0 0 from V1).all
  obtain ⟨⟨k0, k1, k2⟩, j0, j1, j2⟩ := (show Val w2 (w.heap.size + 1 + 1) 0 0 0 from V2).all
  have ST := Za (And.intro st ch)
  have NF : Hid (¬ F' (w.heap.size + 1)) := Za (fun hF => by
    rcases ch.grow _ hF with h1 | h1
    · exact absurd (FL.out _ h1) (by omega)
    · exact absurd Y1.out.lt (by omega))
  clear st ch q0 q1 q2 q3 q4 q5 q6 a0 a1 a2 e0 e1 e2 b0 b1 b2 d0 d1 d2 H1 H7
  go_wp2_with fail
  exact ret_v (w.heap.size + 1) rfl rfl (Val.set V1 0 0 0) rfl (Sp.mk rfl (ST.out.1.keep (fun k hk => ne3 (fun e => NF.out (e ▸ hk))) (by rw [Zi, Zi, Zi]; exact Nat.le_refl _)) (((Ch.of_bel B1.out).trans ST.out.2).below (Zt (Below.refl _ _) (by omega) _ _ _)))
end Go.Proofs.YtfojninaginnoaaGreatDoor.Ck
