/- Texts of this proof, packed: contracts of the program's functions, and the plain model that they are held against. -/
import Derived.Test.YtfojninaginnoaaGreatDoorVah
set_option maxRecDepth 20000
set_option maxHeartbeats 4000000
namespace Go.Proofs.YtfojninaginnoaaGreatDoor.Ck
open Go.RowKit
def AskC (W : World) (g gt bx i : Nat) : Prop := W.cell? ⟨g, 8, none⟩ = some (P_ gt) /\ W.cell? ⟨bx, 0, none⟩ = some (I_ (i : Nat)) /\ g < W.heap.size /\ bx < W.heap.size
theorem AskC.al {W W' : World} {g gt bx i : Nat} (h : AskC W g gt bx i) (hb : Below W.heap.size W W') : AskC W' g gt bx i := ⟨(hb.cell (p := ⟨g, 8, none⟩) h.2.2.1).trans h.1, (hb.cell (p := ⟨bx, 0, none⟩) h.2.2.2).trans h.2.1, Nat.lt_of_lt_of_le h.2.2.1 hb.size, Nat.lt_of_lt_of_le h.2.2.2 hb.size⟩
theorem rNext_r {W : World} {G : Nat -> Prop} {B g gt : Nat} {S : List (List Wt)} {r : Rz} (h : Rr W G B g S r) (hc : W.cell? ⟨g, 8, none⟩ = some (P_ gt)) (i : Nat) (x : List Wt) (hx : r.pe[i]? = some x) : Calls Tryz.prog 75 #[P_ gt, I_ (i : Nat)] W (RrP W G B g S { r with pe := r.pe.set i (Yt x).2 } (.tuple #[w6V (Yt x).1.1, h3V (Yt x).1.2])) := by
 obtain ⟨Fs, Rs, Fo, R, gs, gt', vW, vE, vL, vO, vA, vs, os, as_, h, hG⟩ := h
 have e := h.cells.1.2.2.2.symm.trans hc
 cases e
 exact rNext_any h hG i x hx
theorem Rr.c8 {W : World} {G : Nat -> Prop} {B g : Nat} {S : List (List Wt)} {r : Rz} (h : Rr W G B g S r) : (∃ gt, W.cell? ⟨g, 8, none⟩ = some (P_ gt)) /\ W.cell? ⟨g, 3, none⟩ = some (I_ r.e.o) := by
 obtain ⟨Fs, Rs, Fo, R, gs, gt, vW, vE, vL, vO, vA, vs, os, as_, h, hG⟩ := h
 exact ⟨⟨gt, h.cells.1.2.2.2⟩, h.cells.2.1.1⟩
theorem rask_any {w : World} {G : Nat -> Prop} {B g : Nat} {S : List (List Wt)} {r : Rz} {v : Value} {lx : List (Nat × V3)} (h : Rr w G B g S r) (hB : B <= 1000000) (hv : AskS w G v lx) (hl : ∀ x ∈ lx, x.1 < r.ws.length /\ x.1 < r.pe.length) : Calls Tryz.prog 38 #[P_ g, v] w (RrP w G B g S (Yw (Yn r (lx.map Prod.fst) lx.length)) (.tuple #[])) := by
  have HA := Za hv
  have I0 : Hid (∃ Gk, Rr w Gk B g S (Yn r (lx.map Prod.fst) 0) /\ AskS w Gk v lx /\ Ch G Gk w w) := Za ⟨G, h, hv, Ch.refl _ _⟩
  obtain ⟨aV, cV, rfl, hlen, _⟩ := hv
  obtain ⟨n, hn⟩ : ∃ n, n = lx.length := ⟨_, rfl⟩
  rw [← hn] at hlen I0 ⊢
  have HN := Za hn
  have HLN := Za hl
  clear h hn hl HA
  go_enter Tryz.func38, Tryz.ntmps38
  go_wp2_with fail
  go_loopw [5, 6, 7, 10] (fun x5 x6 x7 q wr => ∃ k : Nat, k <= n /\ q = I_ k /\ Hid (∃ Gk, Rr wr Gk B g S (Yn r (lx.map Prod.fst) k) /\ AskS wr Gk (.slice aV n cV) lx /\ Ch G Gk w wr)) (fun _ _ _ q _ => n - (intOf q).toNat)
  case atStart => exact ⟨0, Nat.zero_le _, rfl, I0⟩
  case round =>
    obtain ⟨k, hkn, rfl, HI⟩ := hrel
    clear I0
    by_cases hlt : k < n
    · have hlt' : (k : Int) < (n : Int) := by omega
      obtain ⟨⟨i, j0, j1, j2⟩, hx⟩ : ∃ x, lx[k]? = some x := ⟨_, List.getElem?_eq_getElem (by rw [← HN.out]; exact hlt)⟩
      obtain ⟨Gk, rk, ak, ck⟩ := HI.out
      obtain ⟨aV', cV', eV, _, hcs⟩ := id ak
      cases eV
      obtain ⟨b, ob, rfl, kb, p0, p1, p2, p3⟩ := hcs k _ hx
      simp only at p0 p1 p2 p3
      have hst := Za (asksZ_step (r := r) (l := lx.map Prod.fst) (k := k) (i := i) (by rw [List.getElem?_map, hx]; rfl))
      have hln := asksZ_len r (lx.map Prod.fst) k
      have hmem := HLN.out _ (List.mem_of_getElem? hx)
      generalize Yn r (lx.map Prod.fst) k = rc at *
      obtain ⟨wo, rfl⟩ : ∃ z, z = wr := ⟨_, rfl⟩
      have Zx := Za (Kb.new rk #[I_ (i : Nat), I_ j0, I_ j1, .int .u64 j2] 130)
      have AB := Za (Zd wo (.cells #[I_ (i : Nat), I_ j0, I_ j1, .int .u64 j2] 130))
      have HR := Za (rk.bel AB.out)
      have HC : Hid (Ch Gk Gk wo (wo.alloc (.cells #[I_ (i : Nat), I_ j0, I_ j1, .int .u64 j2] 130))) := Za (Ch.of_bel AB.out)
      have CK := Za ck
      have AK := Za ak
      have HI2 : Hid (i < rc.ws.length /\ i < rc.pe.length) := Za (by simp only at hmem; omega)
      clear hcs hx kb ak ck rk HI hln hmem
      go_upto_region 3 with fail
      obtain ⟨bx, hbx⟩ : ∃ b, b = wo.heap.size := ⟨_, rfl⟩
      generalize wo.alloc _ = w1 at *
      rw [← hbx] at Zx ⊢
      have LX : Hid (wo.heap.size <= bx) := Za (by omega)
      clear p0 p1 p2 p3 hbx AB
      obtain ⟨⟨gt, c8⟩, c3⟩ := HR.out.c8
      have hgl := HR.out.lt
      by_cases he : rc.e.o = 0
      · rw [he] at c3
        obtain ⟨x, hx⟩ : ∃ x, rc.pe[i]? = some x := ⟨_, List.getElem?_eq_getElem HI2.out.2⟩
        have HE := Za he
        have HX := Za hx
        clear he
        go_upto_region 4 with fail
        obtain ⟨y, hy⟩ : ∃ y, Yt x = y := ⟨_, rfl⟩
        obtain ⟨⟨⟨yk, yo, ya, y0, y1, y2⟩, hf, hn, hc⟩, x2⟩ := y
        obtain ⟨r1, hr1⟩ : ∃ r1 : Rz, r1 = { rc with pe := rc.pe.set i x2 } := ⟨_, rfl⟩
        have NX : Hid (∀ W, Rr W Gk B g S rc -> W.cell? ⟨g, 8, none⟩ = some (P_ gt) -> Calls Tryz.prog 75 #[P_ gt, I_ (i : Nat)] W (RrP W Gk B g S r1 (.tuple #[w6V ⟨yk, yo, ya, (y0, y1, y2)⟩, h3V (hf, hn, hc)]))) := Za (fun W h1 h2 => by
          have := rNext_r h1 h2 i x hx
          rw [hy, ← hr1] at this
          exact this)
        have HA1 : Hid (Yn r (lx.map Prod.fst) (k + 1) = if hf = 0 then { r1 with ws := r1.ws.set i ⟨yk, yo, ya, (y0, y1, y2)⟩ } else { r1 with e := ⟨3, hf, (i : Nat), hn, hc⟩ }) := Za (by
          rw [hst.out]
          unfold ask1Z
          rw [if_pos HE.out, hx]
          simp only [hy, hr1])
        have HL1 : Hid (i < r1.ws.length) := Za (by rw [hr1]; exact HI2.out.1)
        have SS : Hid (AskC w1 g gt bx i) := Za ⟨c8, Zb Zx.out.1 0 _ rfl, hgl, Ze Zx.out.1⟩
        clear hx hy hr1 c8 c3 hgl hst HE HX HI2
        go_cut [6, 7] from 11 to 30 (fun x6 x7 wc => ∃ bw bh G', x6 = P_ bw /\ x7 = P_ bh /\ Hid (Rr wc G' B g S r1 /\ Ch Gk G' wo wc /\ Kb wc G' bw (.cells #[I_ yk, I_ yo, I_ ya, I_ y0, I_ y1, .int .u64 y2] 76 (0, 0)) /\ Kb wc G' bh (.cells #[I_ hf, I_ hn, I_ hc] 100 (0, 0)) /\ Kb wc G' bx (.cells #[I_ (i : Nat), I_ j0, I_ j1, .int .u64 j2] 130 (0, 0))))
        case first =>
          refine ZD (S := fun w' => AskC w' g gt bx i) (fun j => decide (j ≠ 6 /\ j < 12)) ZJ (SS.out.al (Zp (Below.refl _ _))) (fun hH => ?_)
          replace SS := Za (SS.out.al (W' := w1.drew) (Zp (Below.refl _ _)))
          replace HR := Za (HR.out.bel (w' := w1.drew) (Zp (Below.refl _ _)))
          replace HC := Za (HC.out.drew)
          replace Zx := Za (Zx.out.bel (W' := w1.drew) (Zp (Below.refl _ _)))
          generalize w1.drew = wd at *
          refine M_ 0 ?_
          simp only [Act.put, S_]
          refine M_ 1 ?_
          simp only [Act.put, S_]
          refine M_ 2 ?_
          simp only [Act.put, S_]
          refine L_ 3 (v := ?_) ?_ hH ?_
          rotate_left 1
          · (intro w hSw; have q := hSw.1; clear hSw; go_simp <;> with_reducible rfl)
          simp only [Act.put, S_]
          refine M_ 4 ?_
          simp only [Act.put, S_]
          refine L_ 5 (v := ?_) ?_ hH ?_
          rotate_left 1
          · (intro w hSw; have q := hSw.2.1; clear hSw; go_simp <;> with_reducible rfl)
          simp only [Act.put, S_]
          clear hH
          refine ZS (rs := [6, 10, 11]) (by kernel_rfl) (by decide) ?_
          refine Zn.keep rfl (fun K1 hK1 => ?_) (Zn.keep rfl (fun K1 hK1 => ?_) (Zn.keep rfl (fun K1 hK1 => ?_) Zn.nil))
          · go_simp
            refine (NX.out wd HR.out SS.out.1).mono ?_
            rintro e V1 ⟨rfl, G', rn, ch⟩
            unfold w6V h3V
            refine hK1.out _ _ (fun h => absurd h (by decide)) ?_
            clear hK1 K1
            have CH := Za ch
            clear SS
            replace Zx := Za (Zx.out.ch CH.out)
            clear HR
            have HR := Za rn
            replace HC := Za (HC.out.trans CH.out)
            clear rn ch CH
            refine M_ 7 ?_
            simp only [Act.put, S_]
            refine M_ 8 ?_
            simp only [Act.put, S_]
            refine M_ 9 ?_
            simp only [Act.put, S_]
            refine ZS (rs := [10, 11]) (by kernel_rfl) (by decide) ?_
            refine Zn.keep rfl (fun K1 hK1 => ?_) (Zn.keep rfl (fun K1 hK1 => ?_) Zn.nil)
            · go_simp
              refine hK1.out _ _ (fun _ hs => hs.al (Zd V1 (.cells #[I_ 0, I_ 0, I_ 0, I_ 0, I_ 0, .int .u64 0] 76))) ?_
              clear hK1 K1
              have Zw := Za (Kb.new HR.out #[I_ 0, I_ 0, I_ 0, I_ 0, I_ 0, .int .u64 0] 76)
              have AB := Za (Zd V1 (.cells #[I_ 0, I_ 0, I_ 0, I_ 0, I_ 0, .int .u64 0] 76))
              have Lw := Za HC.out.size
              replace Zx := Za (Zx.out.bel AB.out)
              replace HR := Za (HR.out.bel AB.out)
              replace HC := Za (HC.out.trans (Ch.of_bel AB.out))
              obtain ⟨bw, hbw⟩ : ∃ b, V1.heap.size = b := ⟨_, rfl⟩
              rw [hbw] at Zw Lw ⊢
              clear AB hbw
              generalize V1.alloc _ = V2 at *
              refine ZS (rs := [11]) (by kernel_rfl) (by decide) ?_
              refine Zn.keep rfl (fun K1 hK1 => ?_) Zn.nil
              go_simp
              refine hK1.out _ _ (fun _ hs => hs.al (Zd V2 (.cells #[I_ 0, I_ 0, I_ 0] 100))) ?_
              clear hK1 K1
              have Zh := Za (Kb.new HR.out #[I_ 0, I_ 0, I_ 0] 100)
              have AB := Za (Zd V2 (.cells #[I_ 0, I_ 0, I_ 0] 100))
              have Lh := Za HC.out.size
              replace Zw := Za (Zw.out.bel AB.out)
              replace Zx := Za (Zx.out.bel AB.out)
              replace HR := Za (HR.out.bel AB.out)
              replace HC := Za (HC.out.trans (Ch.of_bel AB.out))
              obtain ⟨bh, hbh⟩ : ∃ b, V2.heap.size = b := ⟨_, rfl⟩
              rw [hbh] at Zh Lh ⊢
              clear AB hbh
              generalize V2.alloc _ = V3 at *
              refine ZS (rs := [12]) (by kernel_rfl) (by decide) ?_
              refine Zn.keep rfl (fun K1 hK1 => ?_) Zn.nil
              have p0 := Zb Zw.out.1 0 _ rfl
              have p1 := Zb Zw.out.1 1 _ rfl
              have p2 := Zb Zw.out.1 2 _ rfl
              have p3 := Zb Zw.out.1 3 _ rfl
              have p4 := Zb Zw.out.1 4 _ rfl
              have p5 := Zb Zw.out.1 5 _ rfl
              have f0 := Zc Zw.out.1 0
              have f1 := Zc Zw.out.1 1
              have f2 := Zc Zw.out.1 2
              have f3 := Zc Zw.out.1 3
              have f4 := Zc Zw.out.1 4
              have f5 := Zc Zw.out.1 5
              have OO : Hid (∀ k, k ≠ bw -> ((((((V3.setCell ⟨bw, 0, none⟩ (I_ yk)).setCell ⟨bw, 1, none⟩ (I_ yo)).setCell ⟨bw, 2, none⟩ (I_ ya)).setCell ⟨bw, 3, none⟩ (I_ y0)).setCell ⟨bw, 4, none⟩ (I_ y1)).setCell ⟨bw, 5, none⟩ (.int .u64 y2)).heap[k]? = V3.heap[k]?) := Za (fun k hk => ne6 hk)
              have SZ : Hid (((((((V3.setCell ⟨bw, 0, none⟩ (I_ yk)).setCell ⟨bw, 1, none⟩ (I_ yo)).setCell ⟨bw, 2, none⟩ (I_ ya)).setCell ⟨bw, 3, none⟩ (I_ y0)).setCell ⟨bw, 4, none⟩ (I_ y1)).setCell ⟨bw, 5, none⟩ (.int .u64 y2)).heap.size = V3.heap.size) := Za (by simp only [Zi])
              have ZN := Za (show Kb ((((((V3.setCell ⟨bw, 0, none⟩ (I_ yk)).setCell ⟨bw, 1, none⟩ (I_ yo)).setCell ⟨bw, 2, none⟩ (I_ ya)).setCell ⟨bw, 3, none⟩ (I_ y0)).setCell ⟨bw, 4, none⟩ (I_ y1)).setCell ⟨bw, 5, none⟩ (.int .u64 y2)) G' bw (.cells #[I_ yk, I_ yo, I_ ya, I_ y0, I_ y1, .int .u64 y2] 76 (0, 0)) from ⟨set6 Zw.out.1 (I_ yk) (I_ yo) (I_ ya) (I_ y0) (I_ y1) (.int .u64 y2), Zw.out.2⟩)
              have BL : Hid (Below wo.heap.size V3 ((((((V3.setCell ⟨bw, 0, none⟩ (I_ yk)).setCell ⟨bw, 1, none⟩ (I_ yo)).setCell ⟨bw, 2, none⟩ (I_ ya)).setCell ⟨bw, 3, none⟩ (I_ y0)).setCell ⟨bw, 4, none⟩ (I_ y1)).setCell ⟨bw, 5, none⟩ (.int .u64 y2))) := Za (bel6 (Below.refl _ _) Lw.out (I_ yk) (I_ yo) (I_ ya) (I_ y0) (I_ y1) (.int .u64 y2))
              go_simp
              refine hK1.out _ _ (fun h => absurd h (by decide)) ?_
              clear hK1 K1 p0 f0 p1 f1 p2 f2 p3 f3 p4 f4 p5 f5
              replace HR := Za (HR.out.keep (fun k hk => OO.out k (fun e => Zw.out.2 (by rw [← e]; exact hk))) (Nat.le_of_eq SZ.out.symm))
              replace HC := Za (HC.out.below BL.out)
              replace Zh := Za (Zh.out.set (Zm Zh.out.1 Zw.out.1 (by decide)) OO.out)
              replace Zx := Za (Zx.out.set (Zm Zx.out.1 Zw.out.1 (by decide)) OO.out)
              clear Zw
              have Zw := ZN
              clear OO SZ ZN BL
              generalize ((((((V3.setCell ⟨bw, 0, none⟩ (I_ yk)).setCell ⟨bw, 1, none⟩ (I_ yo)).setCell ⟨bw, 2, none⟩ (I_ ya)).setCell ⟨bw, 3, none⟩ (I_ y0)).setCell ⟨bw, 4, none⟩ (I_ y1)).setCell ⟨bw, 5, none⟩ (.int .u64 y2)) = V4 at *
              refine ZS (rs := [13]) (by kernel_rfl) (by decide) ?_
              refine Zn.keep rfl (fun K1 hK1 => ?_) Zn.nil
              have p0 := Zb Zh.out.1 0 _ rfl
              have p1 := Zb Zh.out.1 1 _ rfl
              have p2 := Zb Zh.out.1 2 _ rfl
              have f0 := Zc Zh.out.1 0
              have f1 := Zc Zh.out.1 1
              have f2 := Zc Zh.out.1 2
              have OO : Hid (∀ k, k ≠ bh -> (((V4.setCell ⟨bh, 0, none⟩ (I_ hf)).setCell ⟨bh, 1, none⟩ (I_ hn)).setCell ⟨bh, 2, none⟩ (I_ hc)).heap[k]? = V4.heap[k]?) := Za (fun k hk => ne3 hk)
              have SZ : Hid ((((V4.setCell ⟨bh, 0, none⟩ (I_ hf)).setCell ⟨bh, 1, none⟩ (I_ hn)).setCell ⟨bh, 2, none⟩ (I_ hc)).heap.size = V4.heap.size) := Za (by simp only [Zi])
              have ZN := Za (show Kb (((V4.setCell ⟨bh, 0, none⟩ (I_ hf)).setCell ⟨bh, 1, none⟩ (I_ hn)).setCell ⟨bh, 2, none⟩ (I_ hc)) G' bh (.cells #[I_ hf, I_ hn, I_ hc] 100 (0, 0)) from ⟨Yx Zh.out.1 (I_ hf) (I_ hn) (I_ hc), Zh.out.2⟩)
              have BL : Hid (Below wo.heap.size V4 (((V4.setCell ⟨bh, 0, none⟩ (I_ hf)).setCell ⟨bh, 1, none⟩ (I_ hn)).setCell ⟨bh, 2, none⟩ (I_ hc))) := Za (Zt (Below.refl _ _) Lh.out (I_ hf) (I_ hn) (I_ hc))
              go_simp
              refine hK1.out _ _ (fun h => absurd h (by decide)) ?_
              clear hK1 K1 p0 f0 p1 f1 p2 f2
              replace HR := Za (HR.out.keep (fun k hk => OO.out k (fun e => Zh.out.2 (by rw [← e]; exact hk))) (Nat.le_of_eq SZ.out.symm))
              replace HC := Za (HC.out.below BL.out)
              replace Zw := Za (Zw.out.set (Zm Zw.out.1 Zh.out.1 (by decide)) OO.out)
              replace Zx := Za (Zx.out.set (Zm Zx.out.1 Zh.out.1 (by decide)) OO.out)
              clear Zh
              have Zh := ZN
              clear OO SZ ZN BL
              generalize (((V4.setCell ⟨bh, 0, none⟩ (I_ hf)).setCell ⟨bh, 1, none⟩ (I_ hn)).setCell ⟨bh, 2, none⟩ (I_ hc)) = V5 at *
              refine ZW (by kernel_rfl) ?_ _
              go_wp2_with fail
              go_meet
              case rel => exact ⟨bw, bh, G', rfl, rfl, Za ⟨HR.out, HC.out, Zw.out, Zh.out, Zx.out⟩⟩
            · go_simp
              refine hK1.out _ _ (fun _ hs => hs.al (Zd V1 (.cells #[I_ 0, I_ 0, I_ 0] 100))) ?_
              clear hK1 K1
              have Zh := Za (Kb.new HR.out #[I_ 0, I_ 0, I_ 0] 100)
              have AB := Za (Zd V1 (.cells #[I_ 0, I_ 0, I_ 0] 100))
              have Lh := Za HC.out.size
              replace Zx := Za (Zx.out.bel AB.out)
              replace HR := Za (HR.out.bel AB.out)
              replace HC := Za (HC.out.trans (Ch.of_bel AB.out))
              obtain ⟨bh, hbh⟩ : ∃ b, V1.heap.size = b := ⟨_, rfl⟩
              rw [hbh] at Zh Lh ⊢
              clear AB hbh
              generalize V1.alloc _ = V2 at *
              refine ZS (rs := [10]) (by kernel_rfl) (by decide) ?_
              refine Zn.keep rfl (fun K1 hK1 => ?_) Zn.nil
              go_simp
              refine hK1.out _ _ (fun _ hs => hs.al (Zd V2 (.cells #[I_ 0, I_ 0, I_ 0, I_ 0, I_ 0, .int .u64 0] 76))) ?_
              clear hK1 K1
              have Zw := Za (Kb.new HR.out #[I_ 0, I_ 0, I_ 0, I_ 0, I_ 0, .int .u64 0] 76)
              have AB := Za (Zd V2 (.cells #[I_ 0, I_ 0, I_ 0, I_ 0, I_ 0, .int .u64 0] 76))
              have Lw := Za HC.out.size
              replace Zh := Za (Zh.out.bel AB.out)
              replace Zx := Za (Zx.out.bel AB.out)
              replace HR := Za (HR.out.bel AB.out)
              replace HC := Za (HC.out.trans (Ch.of_bel AB.out))
              obtain ⟨bw, hbw⟩ : ∃ b, V2.heap.size = b := ⟨_, rfl⟩
              rw [hbw] at Zw Lw ⊢
              clear AB hbw
              generalize V2.alloc _ = V3 at *
              refine ZS (rs := [12]) (by kernel_rfl) (by decide) ?_
              refine Zn.keep rfl (fun K1 hK1 => ?_) Zn.nil
              have p0 := Zb Zw.out.1 0 _ rfl
              have p1 := Zb Zw.out.1 1 _ rfl
              have p2 := Zb Zw.out.1 2 _ rfl
              have p3 := Zb Zw.out.1 3 _ rfl
              have p4 := Zb Zw.out.1 4 _ rfl
              have p5 := Zb Zw.out.1 5 _ rfl
              have f0 := Zc Zw.out.1 0
              have f1 := Zc Zw.out.1 1
              have f2 := Zc Zw.out.1 2
              have f3 := Zc Zw.out.1 3
              have f4 := Zc Zw.out.1 4
              have f5 := Zc Zw.out.1 5
              have OO : Hid (∀ k, k ≠ bw -> ((((((V3.setCell ⟨bw, 0, none⟩ (I_ yk)).setCell ⟨bw, 1, none⟩ (I_ yo)).setCell ⟨bw, 2, none⟩ (I_ ya)).setCell ⟨bw, 3, none⟩ (I_ y0)).setCell ⟨bw, 4, none⟩ (I_ y1)).setCell ⟨bw, 5, none⟩ (.int .u64 y2)).heap[k]? = V3.heap[k]?) := Za (fun k hk => ne6 hk)
              have SZ : Hid (((((((V3.setCell ⟨bw, 0, none⟩ (I_ yk)).setCell ⟨bw, 1, none⟩ (I_ yo)).setCell ⟨bw, 2, none⟩ (I_ ya)).setCell ⟨bw, 3, none⟩ (I_ y0)).setCell ⟨bw, 4, none⟩ (I_ y1)).setCell ⟨bw, 5, none⟩ (.int .u64 y2)).heap.size = V3.heap.size) := Za (by simp only [Zi])
              have ZN := Za (show Kb ((((((V3.setCell ⟨bw, 0, none⟩ (I_ yk)).setCell ⟨bw, 1, none⟩ (I_ yo)).setCell ⟨bw, 2, none⟩ (I_ ya)).setCell ⟨bw, 3, none⟩ (I_ y0)).setCell ⟨bw, 4, none⟩ (I_ y1)).setCell ⟨bw, 5, none⟩ (.int .u64 y2)) G' bw (.cells #[I_ yk, I_ yo, I_ ya, I_ y0, I_ y1, .int .u64 y2] 76 (0, 0)) from ⟨set6 Zw.out.1 (I_ yk) (I_ yo) (I_ ya) (I_ y0) (I_ y1) (.int .u64 y2), Zw.out.2⟩)
              have BL : Hid (Below wo.heap.size V3 ((((((V3.setCell ⟨bw, 0, none⟩ (I_ yk)).setCell ⟨bw, 1, none⟩ (I_ yo)).setCell ⟨bw, 2, none⟩ (I_ ya)).setCell ⟨bw, 3, none⟩ (I_ y0)).setCell ⟨bw, 4, none⟩ (I_ y1)).setCell ⟨bw, 5, none⟩ (.int .u64 y2))) := Za (bel6 (Below.refl _ _) Lw.out (I_ yk) (I_ yo) (I_ ya) (I_ y0) (I_ y1) (.int .u64 y2))
              go_simp
              refine hK1.out _ _ (fun h => absurd h (by decide)) ?_
              clear hK1 K1 p0 f0 p1 f1 p2 f2 p3 f3 p4 f4 p5 f5
              replace HR := Za (HR.out.keep (fun k hk => OO.out k (fun e => Zw.out.2 (by rw [← e]; exact hk))) (Nat.le_of_eq SZ.out.symm))
              replace HC := Za (HC.out.below BL.out)
              replace Zh := Za (Zh.out.set (Zm Zh.out.1 Zw.out.1 (by decide)) OO.out)
              replace Zx := Za (Zx.out.set (Zm Zx.out.1 Zw.out.1 (by decide)) OO.out)
              clear Zw
              have Zw := ZN
              clear OO SZ ZN BL
              generalize ((((((V3.setCell ⟨bw, 0, none⟩ (I_ yk)).setCell ⟨bw, 1, none⟩ (I_ yo)).setCell ⟨bw, 2, none⟩ (I_ ya)).setCell ⟨bw, 3, none⟩ (I_ y0)).setCell ⟨bw, 4, none⟩ (I_ y1)).setCell ⟨bw, 5, none⟩ (.int .u64 y2)) = V4 at *
              refine ZS (rs := [13]) (by kernel_rfl) (by decide) ?_
              refine Zn.keep rfl (fun K1 hK1 => ?_) Zn.nil
              have p0 := Zb Zh.out.1 0 _ rfl
              have p1 := Zb Zh.out.1 1 _ rfl
              have p2 := Zb Zh.out.1 2 _ rfl
              have f0 := Zc Zh.out.1 0
              have f1 := Zc Zh.out.1 1
              have f2 := Zc Zh.out.1 2
              have OO : Hid (∀ k, k ≠ bh -> (((V4.setCell ⟨bh, 0, none⟩ (I_ hf)).setCell ⟨bh, 1, none⟩ (I_ hn)).setCell ⟨bh, 2, none⟩ (I_ hc)).heap[k]? = V4.heap[k]?) := Za (fun k hk => ne3 hk)
              have SZ : Hid ((((V4.setCell ⟨bh, 0, none⟩ (I_ hf)).setCell ⟨bh, 1, none⟩ (I_ hn)).setCell ⟨bh, 2, none⟩ (I_ hc)).heap.size = V4.heap.size) := Za (by simp only [Zi])
              have ZN := Za (show Kb (((V4.setCell ⟨bh, 0, none⟩ (I_ hf)).setCell ⟨bh, 1, none⟩ (I_ hn)).setCell ⟨bh, 2, none⟩ (I_ hc)) G' bh (.cells #[I_ hf, I_ hn, I_ hc] 100 (0, 0)) from ⟨Yx Zh.out.1 (I_ hf) (I_ hn) (I_ hc), Zh.out.2⟩)
              have BL : Hid (Below wo.heap.size V4 (((V4.setCell ⟨bh, 0, none⟩ (I_ hf)).setCell ⟨bh, 1, none⟩ (I_ hn)).setCell ⟨bh, 2, none⟩ (I_ hc))) := Za (Zt (Below.refl _ _) Lh.out (I_ hf) (I_ hn) (I_ hc))
              go_simp
              refine hK1.out _ _ (fun h => absurd h (by decide)) ?_
              clear hK1 K1 p0 f0 p1 f1 p2 f2
              replace HR := Za (HR.out.keep (fun k hk => OO.out k (fun e => Zh.out.2 (by rw [← e]; exact hk))) (Nat.le_of_eq SZ.out.symm))
              replace HC := Za (HC.out.below BL.out)
              replace Zw := Za (Zw.out.set (Zm Zw.out.1 Zh.out.1 (by decide)) OO.out)
              replace Zx := Za (Zx.out.set (Zm Zx.out.1 Zh.out.1 (by decide)) OO.out)
              clear Zh
              have Zh := ZN
              clear OO SZ ZN BL
              generalize (((V4.setCell ⟨bh, 0, none⟩ (I_ hf)).setCell ⟨bh, 1, none⟩ (I_ hn)).setCell ⟨bh, 2, none⟩ (I_ hc)) = V5 at *
              refine ZW (by kernel_rfl) ?_ _
              go_wp2_with fail
              go_meet
              case rel => exact ⟨bw, bh, G', rfl, rfl, Za ⟨HR.out, HC.out, Zw.out, Zh.out, Zx.out⟩⟩
          · go_simp
            refine hK1.out _ _ (fun _ hs => hs.al (Zd wd (.cells #[I_ 0, I_ 0, I_ 0, I_ 0, I_ 0, .int .u64 0] 76))) ?_
            clear hK1 K1
            have Zw := Za (Kb.new HR.out #[I_ 0, I_ 0, I_ 0, I_ 0, I_ 0, .int .u64 0] 76)
            have AB := Za (Zd wd (.cells #[I_ 0, I_ 0, I_ 0, I_ 0, I_ 0, .int .u64 0] 76))
            have Lw := Za HC.out.size
            replace SS := Za (SS.out.al AB.out)
            replace Zx := Za (Zx.out.bel AB.out)
            replace HR := Za (HR.out.bel AB.out)
            replace HC := Za (HC.out.trans (Ch.of_bel AB.out))
            obtain ⟨bw, hbw⟩ : ∃ b, wd.heap.size = b := ⟨_, rfl⟩
            rw [hbw] at Zw Lw ⊢
            clear AB hbw
            generalize wd.alloc _ = V1 at *
            refine ZS (rs := [6, 11]) (by kernel_rfl) (by decide) ?_
            refine Zn.keep rfl (fun K1 hK1 => ?_) (Zn.keep rfl (fun K1 hK1 => ?_) Zn.nil)
            · go_simp
              refine (NX.out V1 HR.out SS.out.1).mono ?_
              rintro e V2 ⟨rfl, G', rn, ch⟩
              unfold w6V h3V
              refine hK1.out _ _ (fun h => absurd h (by decide)) ?_
              clear hK1 K1
              have CH := Za ch
              clear SS
              replace Zw := Za (Zw.out.ch CH.out)
              replace Zx := Za (Zx.out.ch CH.out)
              clear HR
              have HR := Za rn
              replace HC := Za (HC.out.trans CH.out)
              clear rn ch CH
              refine M_ 7 ?_
              simp only [Act.put, S_]
              refine M_ 8 ?_
              simp only [Act.put, S_]
              refine M_ 9 ?_
              simp only [Act.put, S_]
              refine ZS (rs := [11]) (by kernel_rfl) (by decide) ?_
              refine Zn.keep rfl (fun K1 hK1 => ?_) Zn.nil
              go_simp
              refine hK1.out _ _ (fun _ hs => hs.al (Zd V2 (.cells #[I_ 0, I_ 0, I_ 0] 100))) ?_
              clear hK1 K1
              have Zh := Za (Kb.new HR.out #[I_ 0, I_ 0, I_ 0] 100)
              have AB := Za (Zd V2 (.cells #[I_ 0, I_ 0, I_ 0] 100))
              have Lh := Za HC.out.size
              replace Zw := Za (Zw.out.bel AB.out)
              replace Zx := Za (Zx.out.bel AB.out)
              replace HR := Za (HR.out.bel AB.out)
              replace HC := Za (HC.out.trans (Ch.of_bel AB.out))
              obtain ⟨bh, hbh⟩ : ∃ b, V2.heap.size = b := ⟨_, rfl⟩
              rw [hbh] at Zh Lh ⊢
              clear AB hbh
              generalize V2.alloc _ = V3 at *
              refine ZS (rs := [12]) (by kernel_rfl) (by decide) ?_
              refine Zn.keep rfl (fun K1 hK1 => ?_) Zn.nil
              have p0 := Zb Zw.out.1 0 _ rfl
              have p1 := Zb Zw.out.1 1 _ rfl
              have p2 := Zb Zw.out.1 2 _ rfl
              have p3 := Zb Zw.out.1 3 _ rfl
              have p4 := Zb Zw.out.1 4 _ rfl
              have p5 := Zb Zw.out.1 5 _ rfl
              have f0 := Zc Zw.out.1 0
              have f1 := Zc Zw.out.1 1
              have f2 := Zc Zw.out.1 2
              have f3 := Zc Zw.out.1 3
              have f4 := Zc Zw.out.1 4
              have f5 := Zc Zw.out.1 5
              have OO : Hid (∀ k, k ≠ bw -> ((((((V3.setCell ⟨bw, 0, none⟩ (I_ yk)).setCell ⟨bw, 1, none⟩ (I_ yo)).setCell ⟨bw, 2, none⟩ (I_ ya)).setCell ⟨bw, 3, none⟩ (I_ y0)).setCell ⟨bw, 4, none⟩ (I_ y1)).setCell ⟨bw, 5, none⟩ (.int .u64 y2)).heap[k]? = V3.heap[k]?) := Za (fun k hk => ne6 hk)
              have SZ : Hid (((((((V3.setCell ⟨bw, 0, none⟩ (I_ yk)).setCell ⟨bw, 1, none⟩ (I_ yo)).setCell ⟨bw, 2, none⟩ (I_ ya)).setCell ⟨bw, 3, none⟩ (I_ y0)).setCell ⟨bw, 4, none⟩ (I_ y1)).setCell ⟨bw, 5, none⟩ (.int .u64 y2)).heap.size = V3.heap.size) := Za (by simp only [Zi])
              have ZN := Za (show Kb ((((((V3.setCell ⟨bw, 0, none⟩ (I_ yk)).setCell ⟨bw, 1, none⟩ (I_ yo)).setCell ⟨bw, 2, none⟩ (I_ ya)).setCell ⟨bw, 3, none⟩ (I_ y0)).setCell ⟨bw, 4, none⟩ (I_ y1)).setCell ⟨bw, 5, none⟩ (.int .u64 y2)) G' bw (.cells #[I_ yk, I_ yo, I_ ya, I_ y0, I_ y1, .int .u64 y2] 76 (0, 0)) from ⟨set6 Zw.out.1 (I_ yk) (I_ yo) (I_ ya) (I_ y0) (I_ y1) (.int .u64 y2), Zw.out.2⟩)
              have BL : Hid (Below wo.heap.size V3 ((((((V3.setCell ⟨bw, 0, none⟩ (I_ yk)).setCell ⟨bw, 1, none⟩ (I_ yo)).setCell ⟨bw, 2, none⟩ (I_ ya)).setCell ⟨bw, 3, none⟩ (I_ y0)).setCell ⟨bw, 4, none⟩ (I_ y1)).setCell ⟨bw, 5, none⟩ (.int .u64 y2))) := Za (bel6 (Below.refl _ _) Lw.out (I_ yk) (I_ yo) (I_ ya) (I_ y0) (I_ y1) (.int .u64 y2))
              go_simp
              refine hK1.out _ _ (fun h => absurd h (by decide)) ?_
              clear hK1 K1 p0 f0 p1 f1 p2 f2 p3 f3 p4 f4 p5 f5
              replace HR := Za (HR.out.keep (fun k hk => OO.out k (fun e => Zw.out.2 (by rw [← e]; exact hk))) (Nat.le_of_eq SZ.out.symm))
              replace HC := Za (HC.out.below BL.out)
              replace Zh := Za (Zh.out.set (Zm Zh.out.1 Zw.out.1 (by decide)) OO.out)
              replace Zx := Za (Zx.out.set (Zm Zx.out.1 Zw.out.1 (by decide)) OO.out)
              clear Zw
              have Zw := ZN
              clear OO SZ ZN BL
              generalize ((((((V3.setCell ⟨bw, 0, none⟩ (I_ yk)).setCell ⟨bw, 1, none⟩ (I_ yo)).setCell ⟨bw, 2, none⟩ (I_ ya)).setCell ⟨bw, 3, none⟩ (I_ y0)).setCell ⟨bw, 4, none⟩ (I_ y1)).setCell ⟨bw, 5, none⟩ (.int .u64 y2)) = V4 at *
              refine ZS (rs := [13]) (by kernel_rfl) (by decide) ?_
              refine Zn.keep rfl (fun K1 hK1 => ?_) Zn.nil
              have p0 := Zb Zh.out.1 0 _ rfl
              have p1 := Zb Zh.out.1 1 _ rfl
              have p2 := Zb Zh.out.1 2 _ rfl
              have f0 := Zc Zh.out.1 0
              have f1 := Zc Zh.out.1 1
              have f2 := Zc Zh.out.1 2
              have OO : Hid (∀ k, k ≠ bh -> (((V4.setCell ⟨bh, 0, none⟩ (I_ hf)).setCell ⟨bh, 1, none⟩ (I_ hn)).setCell ⟨bh, 2, none⟩ (I_ hc)).heap[k]? = V4.heap[k]?) := Za (fun k hk => ne3 hk)
              have SZ : Hid ((((V4.setCell ⟨bh, 0, none⟩ (I_ hf)).setCell ⟨bh, 1, none⟩ (I_ hn)).setCell ⟨bh, 2, none⟩ (I_ hc)).heap.size = V4.heap.size) := Za (by simp only [Zi])
              have ZN := Za (show Kb (((V4.setCell ⟨bh, 0, none⟩ (I_ hf)).setCell ⟨bh, 1, none⟩ (I_ hn)).setCell ⟨bh, 2, none⟩ (I_ hc)) G' bh (.cells #[I_ hf, I_ hn, I_ hc] 100 (0, 0)) from ⟨Yx Zh.out.1 (I_ hf) (I_ hn) (I_ hc), Zh.out.2⟩)
              have BL : Hid (Below wo.heap.size V4 (((V4.setCell ⟨bh, 0, none⟩ (I_ hf)).setCell ⟨bh, 1, none⟩ (I_ hn)).setCell ⟨bh, 2, none⟩ (I_ hc))) := Za (Zt (Below.refl _ _) Lh.out (I_ hf) (I_ hn) (I_ hc))
              go_simp
              refine hK1.out _ _ (fun h => absurd h (by decide)) ?_
              clear hK1 K1 p0 f0 p1 f1 p2 f2
              replace HR := Za (HR.out.keep (fun k hk => OO.out k (fun e => Zh.out.2 (by rw [← e]; exact hk))) (Nat.le_of_eq SZ.out.symm))
              replace HC := Za (HC.out.below BL.out)
              replace Zw := Za (Zw.out.set (Zm Zw.out.1 Zh.out.1 (by decide)) OO.out)
              replace Zx := Za (Zx.out.set (Zm Zx.out.1 Zh.out.1 (by decide)) OO.out)
              clear Zh
              have Zh := ZN
              clear OO SZ ZN BL
              generalize (((V4.setCell ⟨bh, 0, none⟩ (I_ hf)).setCell ⟨bh, 1, none⟩ (I_ hn)).setCell ⟨bh, 2, none⟩ (I_ hc)) = V5 at *
              refine ZW (by kernel_rfl) ?_ _
              go_wp2_with fail
              go_meet
              case rel => exact ⟨bw, bh, G', rfl, rfl, Za ⟨HR.out, HC.out, Zw.out, Zh.out, Zx.out⟩⟩
            · go_simp
              refine hK1.out _ _ (fun _ hs => hs.al (Zd V1 (.cells #[I_ 0, I_ 0, I_ 0] 100))) ?_
              clear hK1 K1
              have Zh := Za (Kb.new HR.out #[I_ 0, I_ 0, I_ 0] 100)
              have AB := Za (Zd V1 (.cells #[I_ 0, I_ 0, I_ 0] 100))
              have Lh := Za HC.out.size
              replace SS := Za (SS.out.al AB.out)
              replace Zw := Za (Zw.out.bel AB.out)
              replace Zx := Za (Zx.out.bel AB.out)
              replace HR := Za (HR.out.bel AB.out)
              replace HC := Za (HC.out.trans (Ch.of_bel AB.out))
              obtain ⟨bh, hbh⟩ : ∃ b, V1.heap.size = b := ⟨_, rfl⟩
              rw [hbh] at Zh Lh ⊢
              clear AB hbh
              generalize V1.alloc _ = V2 at *
              refine ZS (rs := [6]) (by kernel_rfl) (by decide) ?_
              refine Zn.keep rfl (fun K1 hK1 => ?_) Zn.nil
              go_simp
              refine (NX.out V2 HR.out SS.out.1).mono ?_
              rintro e V3 ⟨rfl, G', rn, ch⟩
              unfold w6V h3V
              refine hK1.out _ _ (fun h => absurd h (by decide)) ?_
              clear hK1 K1
              have CH := Za ch
              clear SS
              replace Zw := Za (Zw.out.ch CH.out)
              replace Zh := Za (Zh.out.ch CH.out)
              replace Zx := Za (Zx.out.ch CH.out)
              clear HR
              have HR := Za rn
              replace HC := Za (HC.out.trans CH.out)
              clear rn ch CH
              refine M_ 7 ?_
              simp only [Act.put, S_]
              refine M_ 8 ?_
              simp only [Act.put, S_]
              refine M_ 9 ?_
              simp only [Act.put, S_]
              refine ZS (rs := [12]) (by kernel_rfl) (by decide) ?_
              refine Zn.keep rfl (fun K1 hK1 => ?_) Zn.nil
              have p0 := Zb Zw.out.1 0 _ rfl
              have p1 := Zb Zw.out.1 1 _ rfl
              have p2 := Zb Zw.out.1 2 _ rfl
              have p3 := Zb Zw.out.1 3 _ rfl
              have p4 := Zb Zw.out.1 4 _ rfl
              have p5 := Zb Zw.out.1 5 _ rfl
              have f0 := Zc Zw.out.1 0
              have f1 := Zc Zw.out.1 1
              have f2 := Zc Zw.out.1 2
              have f3 := Zc Zw.out.1 3
              have f4 := Zc Zw.out.1 4
              have f5 := Zc Zw.out.1 5
              have OO : Hid (∀ k, k ≠ bw -> ((((((V3.setCell ⟨bw, 0, none⟩ (I_ yk)).setCell ⟨bw, 1, none⟩ (I_ yo)).setCell ⟨bw, 2, none⟩ (I_ ya)).setCell ⟨bw, 3, none⟩ (I_ y0)).setCell ⟨bw, 4, none⟩ (I_ y1)).setCell ⟨bw, 5, none⟩ (.int .u64 y2)).heap[k]? = V3.heap[k]?) := Za (fun k hk => ne6 hk)
              have SZ : Hid (((((((V3.setCell ⟨bw, 0, none⟩ (I_ yk)).setCell ⟨bw, 1, none⟩ (I_ yo)).setCell ⟨bw, 2, none⟩ (I_ ya)).setCell ⟨bw, 3, none⟩ (I_ y0)).setCell ⟨bw, 4, none⟩ (I_ y1)).setCell ⟨bw, 5, none⟩ (.int .u64 y2)).heap.size = V3.heap.size) := Za (by simp only [Zi])
              have ZN := Za (show Kb ((((((V3.setCell ⟨bw, 0, none⟩ (I_ yk)).setCell ⟨bw, 1, none⟩ (I_ yo)).setCell ⟨bw, 2, none⟩ (I_ ya)).setCell ⟨bw, 3, none⟩ (I_ y0)).setCell ⟨bw, 4, none⟩ (I_ y1)).setCell ⟨bw, 5, none⟩ (.int .u64 y2)) G' bw (.cells #[I_ yk, I_ yo, I_ ya, I_ y0, I_ y1, .int .u64 y2] 76 (0, 0)) from ⟨set6 Zw.out.1 (I_ yk) (I_ yo) (I_ ya) (I_ y0) (I_ y1) (.int .u64 y2), Zw.out.2⟩)
              have BL : Hid (Below wo.heap.size V3 ((((((V3.setCell ⟨bw, 0, none⟩ (I_ yk)).setCell ⟨bw, 1, none⟩ (I_ yo)).setCell ⟨bw, 2, none⟩ (I_ ya)).setCell ⟨bw, 3, none⟩ (I_ y0)).setCell ⟨bw, 4, none⟩ (I_ y1)).setCell ⟨bw, 5, none⟩ (.int .u64 y2))) := Za (bel6 (Below.refl _ _) Lw.out (I_ yk) (I_ yo) (I_ ya) (I_ y0) (I_ y1) (.int .u64 y2))
              go_simp
              refine hK1.out _ _ (fun h => absurd h (by decide)) ?_
              clear hK1 K1 p0 f0 p1 f1 p2 f2 p3 f3 p4 f4 p5 f5
              replace HR := Za (HR.out.keep (fun k hk => OO.out k (fun e => Zw.out.2 (by rw [← e]; exact hk))) (Nat.le_of_eq SZ.out.symm))
              replace HC := Za (HC.out.below BL.out)
              replace Zh := Za (Zh.out.set (Zm Zh.out.1 Zw.out.1 (by decide)) OO.out)
              replace Zx := Za (Zx.out.set (Zm Zx.out.1 Zw.out.1 (by decide)) OO.out)
              clear Zw
              have Zw := ZN
              clear OO SZ ZN BL
              generalize ((((((V3.setCell ⟨bw, 0, none⟩ (I_ yk)).setCell ⟨bw, 1, none⟩ (I_ yo)).setCell ⟨bw, 2, none⟩ (I_ ya)).setCell ⟨bw, 3, none⟩ (I_ y0)).setCell ⟨bw, 4, none⟩ (I_ y1)).setCell ⟨bw, 5, none⟩ (.int .u64 y2)) = V4 at *
              refine ZS (rs := [13]) (by kernel_rfl) (by decide) ?_
              refine Zn.keep rfl (fun K1 hK1 => ?_) Zn.nil
              have p0 := Zb Zh.out.1 0 _ rfl
              have p1 := Zb Zh.out.1 1 _ rfl
              have p2 := Zb Zh.out.1 2 _ rfl
              have f0 := Zc Zh.out.1 0
              have f1 := Zc Zh.out.1 1
              have f2 := Zc Zh.out.1 2
              have OO : Hid (∀ k, k ≠ bh -> (((V4.setCell ⟨bh, 0, none⟩ (I_ hf)).setCell ⟨bh, 1, none⟩ (I_ hn)).setCell ⟨bh, 2, none⟩ (I_ hc)).heap[k]? = V4.heap[k]?) := Za (fun k hk => ne3 hk)
              have SZ : Hid ((((V4.setCell ⟨bh, 0, none⟩ (I_ hf)).setCell ⟨bh, 1, none⟩ (I_ hn)).setCell ⟨bh, 2, none⟩ (I_ hc)).heap.size = V4.heap.size) := Za (by simp only [Zi])
              have ZN := Za (show Kb (((V4.setCell ⟨bh, 0, none⟩ (I_ hf)).setCell ⟨bh, 1, none⟩ (I_ hn)).setCell ⟨bh, 2, none⟩ (I_ hc)) G' bh (.cells #[I_ hf, I_ hn, I_ hc] 100 (0, 0)) from ⟨Yx Zh.out.1 (I_ hf) (I_ hn) (I_ hc), Zh.out.2⟩)
              have BL : Hid (Below wo.heap.size V4 (((V4.setCell ⟨bh, 0, none⟩ (I_ hf)).setCell ⟨bh, 1, none⟩ (I_ hn)).setCell ⟨bh, 2, none⟩ (I_ hc))) := Za (Zt (Below.refl _ _) Lh.out (I_ hf) (I_ hn) (I_ hc))
              go_simp
              refine hK1.out _ _ (fun h => absurd h (by decide)) ?_
              clear hK1 K1 p0 f0 p1 f1 p2 f2
              replace HR := Za (HR.out.keep (fun k hk => OO.out k (fun e => Zh.out.2 (by rw [← e]; exact hk))) (Nat.le_of_eq SZ.out.symm))
              replace HC := Za (HC.out.below BL.out)
              replace Zw := Za (Zw.out.set (Zm Zw.out.1 Zh.out.1 (by decide)) OO.out)
              replace Zx := Za (Zx.out.set (Zm Zx.out.1 Zh.out.1 (by decide)) OO.out)
              clear Zh
              have Zh := ZN
              clear OO SZ ZN BL
              generalize (((V4.setCell ⟨bh, 0, none⟩ (I_ hf)).setCell ⟨bh, 1, none⟩ (I_ hn)).setCell ⟨bh, 2, none⟩ (I_ hc)) = V5 at *
              refine ZW (by kernel_rfl) ?_ _
              go_wp2_with fail
              go_meet
              case rel => exact ⟨bw, bh, G', rfl, rfl, Za ⟨HR.out, HC.out, Zw.out, Zh.out, Zx.out⟩⟩
          · go_simp
            refine hK1.out _ _ (fun _ hs => hs.al (Zd wd (.cells #[I_ 0, I_ 0, I_ 0] 100))) ?_
            clear hK1 K1
            have Zh := Za (Kb.new HR.out #[I_ 0, I_ 0, I_ 0] 100)
            have AB := Za (Zd wd (.cells #[I_ 0, I_ 0, I_ 0] 100))
            have Lh := Za HC.out.size
            replace SS := Za (SS.out.al AB.out)
            replace Zx := Za (Zx.out.bel AB.out)
            replace HR := Za (HR.out.bel AB.out)
            replace HC := Za (HC.out.trans (Ch.of_bel AB.out))
            obtain ⟨bh, hbh⟩ : ∃ b, wd.heap.size = b := ⟨_, rfl⟩
            rw [hbh] at Zh Lh ⊢
            clear AB hbh
            generalize wd.alloc _ = V1 at *
            refine ZS (rs := [6, 10]) (by kernel_rfl) (by decide) ?_
            refine Zn.keep rfl (fun K1 hK1 => ?_) (Zn.keep rfl (fun K1 hK1 => ?_) Zn.nil)
            · go_simp
              refine (NX.out V1 HR.out SS.out.1).mono ?_
              rintro e V2 ⟨rfl, G', rn, ch⟩
              unfold w6V h3V
              refine hK1.out _ _ (fun h => absurd h (by decide)) ?_
              clear hK1 K1
              have CH := Za ch
              clear SS
              replace Zh := Za (Zh.out.ch CH.out)
              replace Zx := Za (Zx.out.ch CH.out)
              clear HR
              have HR := Za rn
              replace HC := Za (HC.out.trans CH.out)
              clear rn ch CH
              refine M_ 7 ?_
              simp only [Act.put, S_]
              refine M_ 8 ?_
              simp only [Act.put, S_]
              refine M_ 9 ?_
              simp only [Act.put, S_]
              refine ZS (rs := [10]) (by kernel_rfl) (by decide) ?_
              refine Zn.keep rfl (fun K1 hK1 => ?_) Zn.nil
              go_simp
              refine hK1.out _ _ (fun _ hs => hs.al (Zd V2 (.cells #[I_ 0, I_ 0, I_ 0, I_ 0, I_ 0, .int .u64 0] 76))) ?_
              clear hK1 K1
              have Zw := Za (Kb.new HR.out #[I_ 0, I_ 0, I_ 0, I_ 0, I_ 0, .int .u64 0] 76)
              have AB := Za (Zd V2 (.cells #[I_ 0, I_ 0, I_ 0, I_ 0, I_ 0, .int .u64 0] 76))
              have Lw := Za HC.out.size
              replace Zh := Za (Zh.out.bel AB.out)
              replace Zx := Za (Zx.out.bel AB.out)
              replace HR := Za (HR.out.bel AB.out)
              replace HC := Za (HC.out.trans (Ch.of_bel AB.out))
              obtain ⟨bw, hbw⟩ : ∃ b, V2.heap.size = b := ⟨_, rfl⟩
              rw [hbw] at Zw Lw ⊢
              clear AB hbw
              generalize V2.alloc _ = V3 at *
              refine ZS (rs := [12]) (by kernel_rfl) (by decide) ?_
              refine Zn.keep rfl (fun K1 hK1 => ?_) Zn.nil
              have p0 := Zb Zw.out.1 0 _ rfl
              have p1 := Zb Zw.out.1 1 _ rfl
              have p2 := Zb Zw.out.1 2 _ rfl
              have p3 := Zb Zw.out.1 3 _ rfl
              have p4 := Zb Zw.out.1 4 _ rfl
              have p5 := Zb Zw.out.1 5 _ rfl
              have f0 := Zc Zw.out.1 0
              have f1 := Zc Zw.out.1 1
              have f2 := Zc Zw.out.1 2
              have f3 := Zc Zw.out.1 3
              have f4 := Zc Zw.out.1 4
              have f5 := Zc Zw.out.1 5
              have OO : Hid (∀ k, k ≠ bw -> ((((((V3.setCell ⟨bw, 0, none⟩ (I_ yk)).setCell ⟨bw, 1, none⟩ (I_ yo)).setCell ⟨bw, 2, none⟩ (I_ ya)).setCell ⟨bw, 3, none⟩ (I_ y0)).setCell ⟨bw, 4, none⟩ (I_ y1)).setCell ⟨bw, 5, none⟩ (.int .u64 y2)).heap[k]? = V3.heap[k]?) := Za (fun k hk => ne6 hk)
              have SZ : Hid (((((((V3.setCell ⟨bw, 0, none⟩ (I_ yk)).setCell ⟨bw, 1, none⟩ (I_ yo)).setCell ⟨bw, 2, none⟩ (I_ ya)).setCell ⟨bw, 3, none⟩ (I_ y0)).setCell ⟨bw, 4, none⟩ (I_ y1)).setCell ⟨bw, 5, none⟩ (.int .u64 y2)).heap.size = V3.heap.size) := Za (by simp only [Zi])
              have ZN := Za (show Kb ((((((V3.setCell ⟨bw, 0, none⟩ (I_ yk)).setCell ⟨bw, 1, none⟩ (I_ yo)).setCell ⟨bw, 2, none⟩ (I_ ya)).setCell ⟨bw, 3, none⟩ (I_ y0)).setCell ⟨bw, 4, none⟩ (I_ y1)).setCell ⟨bw, 5, none⟩ (.int .u64 y2)) G' bw (.cells #[I_ yk, I_ yo, I_ ya, I_ y0, I_ y1, .int .u64 y2] 76 (0, 0)) from ⟨set6 Zw.out.1 (I_ yk) (I_ yo) (I_ ya) (I_ y0) (I_ y1) (.int .u64 y2), Zw.out.2⟩)
              have BL : Hid (Below wo.heap.size V3 ((((((V3.setCell ⟨bw, 0, none⟩ (I_ yk)).setCell ⟨bw, 1, none⟩ (I_ yo)).setCell ⟨bw, 2, none⟩ (I_ ya)).setCell ⟨bw, 3, none⟩ (I_ y0)).setCell ⟨bw, 4, none⟩ (I_ y1)).setCell ⟨bw, 5, none⟩ (.int .u64 y2))) := Za (bel6 (Below.refl _ _) Lw.out (I_ yk) (I_ yo) (I_ ya) (I_ y0) (I_ y1) (.int .u64 y2))
              go_simp
              refine hK1.out _ _ (fun h => absurd h (by decide)) ?_
              clear hK1 K1 p0 f0 p1 f1 p2 f2 p3 f3 p4 f4 p5 f5
              replace HR := Za (HR.out.keep (fun k hk => OO.out k (fun e => Zw.out.2 (by rw [← e]; exact hk))) (Nat.le_of_eq SZ.out.symm))
              replace HC := Za (HC.out.below BL.out)
              replace Zh := Za (Zh.out.set (Zm Zh.out.1 Zw.out.1 (by decide)) OO.out)
              replace Zx := Za (Zx.out.set (Zm Zx.out.1 Zw.out.1 (by decide)) OO.out)
              clear Zw
              have Zw := ZN
              clear OO SZ ZN BL
              generalize ((((((V3.setCell ⟨bw, 0, none⟩ (I_ yk)).setCell ⟨bw, 1, none⟩ (I_ yo)).setCell ⟨bw, 2, none⟩ (I_ ya)).setCell ⟨bw, 3, none⟩ (I_ y0)).setCell ⟨bw, 4, none⟩ (I_ y1)).setCell ⟨bw, 5, none⟩ (.int .u64 y2)) = V4 at *
              refine ZS (rs := [13]) (by kernel_rfl) (by decide) ?_
              refine Zn.keep rfl (fun K1 hK1 => ?_) Zn.nil
              have p0 := Zb Zh.out.1 0 _ rfl
              have p1 := Zb Zh.out.1 1 _ rfl
              have p2 := Zb Zh.out.1 2 _ rfl
              have f0 := Zc Zh.out.1 0
              have f1 := Zc Zh.out.1 1
              have f2 := Zc Zh.out.1 2
              have OO : Hid (∀ k, k ≠ bh -> (((V4.setCell ⟨bh, 0, none⟩ (I_ hf)).setCell ⟨bh, 1, none⟩ (I_ hn)).setCell ⟨bh, 2, none⟩ (I_ hc)).heap[k]? = V4.heap[k]?) := Za (fun k hk => ne3 hk)
              have SZ : Hid ((((V4.setCell ⟨bh, 0, none⟩ (I_ hf)).setCell ⟨bh, 1, none⟩ (I_ hn)).setCell ⟨bh, 2, none⟩ (I_ hc)).heap.size = V4.heap.size) := Za (by simp only [Zi])
              have ZN := Za (show Kb (((V4.setCell ⟨bh, 0, none⟩ (I_ hf)).setCell ⟨bh, 1, none⟩ (I_ hn)).setCell ⟨bh, 2, none⟩ (I_ hc)) G' bh (.cells #[I_ hf, I_ hn, I_ hc] 100 (0, 0)) from ⟨Yx Zh.out.1 (I_ hf) (I_ hn) (I_ hc), Zh.out.2⟩)
              have BL : Hid (Below wo.heap.size V4 (((V4.setCell ⟨bh, 0, none⟩ (I_ hf)).setCell ⟨bh, 1, none⟩ (I_ hn)).setCell ⟨bh, 2, none⟩ (I_ hc))) := Za (Zt (Below.refl _ _) Lh.out (I_ hf) (I_ hn) (I_ hc))
              go_simp
              refine hK1.out _ _ (fun h => absurd h (by decide)) ?_
              clear hK1 K1 p0 f0 p1 f1 p2 f2
              replace HR := Za (HR.out.keep (fun k hk => OO.out k (fun e => Zh.out.2 (by rw [← e]; exact hk))) (Nat.le_of_eq SZ.out.symm))
              replace HC := Za (HC.out.below BL.out)
              replace Zw := Za (Zw.out.set (Zm Zw.out.1 Zh.out.1 (by decide)) OO.out)
              replace Zx := Za (Zx.out.set (Zm Zx.out.1 Zh.out.1 (by decide)) OO.out)
              clear Zh
              have Zh := ZN
              clear OO SZ ZN BL
              generalize (((V4.setCell ⟨bh, 0, none⟩ (I_ hf)).setCell ⟨bh, 1, none⟩ (I_ hn)).setCell ⟨bh, 2, none⟩ (I_ hc)) = V5 at *
              refine ZW (by kernel_rfl) ?_ _
              go_wp2_with fail
              go_meet
              case rel => exact ⟨bw, bh, G', rfl, rfl, Za ⟨HR.out, HC.out, Zw.out, Zh.out, Zx.out⟩⟩
            · go_simp
              refine hK1.out _ _ (fun _ hs => hs.al (Zd V1 (.cells #[I_ 0, I_ 0, I_ 0, I_ 0, I_ 0, .int .u64 0] 76))) ?_
              clear hK1 K1
              have Zw := Za (Kb.new HR.out #[I_ 0, I_ 0, I_ 0, I_ 0, I_ 0, .int .u64 0] 76)
              have AB := Za (Zd V1 (.cells #[I_ 0, I_ 0, I_ 0, I_ 0, I_ 0, .int .u64 0] 76))
              have Lw := Za HC.out.size
              replace SS := Za (SS.out.al AB.out)
              replace Zh := Za (Zh.out.bel AB.out)
              replace Zx := Za (Zx.out.bel AB.out)
              replace HR := Za (HR.out.bel AB.out)
              replace HC := Za (HC.out.trans (Ch.of_bel AB.out))
              obtain ⟨bw, hbw⟩ : ∃ b, V1.heap.size = b := ⟨_, rfl⟩
              rw [hbw] at Zw Lw ⊢
              clear AB hbw
              generalize V1.alloc _ = V2 at *
              refine ZS (rs := [6]) (by kernel_rfl) (by decide) ?_
              refine Zn.keep rfl (fun K1 hK1 => ?_) Zn.nil
              go_simp
              refine (NX.out V2 HR.out SS.out.1).mono ?_
              rintro e V3 ⟨rfl, G', rn, ch⟩
              unfold w6V h3V
              refine hK1.out _ _ (fun h => absurd h (by decide)) ?_
              clear hK1 K1
              have CH := Za ch
              clear SS
              replace Zw := Za (Zw.out.ch CH.out)
              replace Zh := Za (Zh.out.ch CH.out)
              replace Zx := Za (Zx.out.ch CH.out)
              clear HR
              have HR := Za rn
              replace HC := Za (HC.out.trans CH.out)
              clear rn ch CH
              refine M_ 7 ?_
              simp only [Act.put, S_]
              refine M_ 8 ?_
              simp only [Act.put, S_]
              refine M_ 9 ?_
              simp only [Act.put, S_]
              refine ZS (rs := [12]) (by kernel_rfl) (by decide) ?_
              refine Zn.keep rfl (fun K1 hK1 => ?_) Zn.nil
              have p0 := Zb Zw.out.1 0 _ rfl
              have p1 := Zb Zw.out.1 1 _ rfl
              have p2 := Zb Zw.out.1 2 _ rfl
              have p3 := Zb Zw.out.1 3 _ rfl
              have p4 := Zb Zw.out.1 4 _ rfl
              have p5 := Zb Zw.out.1 5 _ rfl
              have f0 := Zc Zw.out.1 0
              have f1 := Zc Zw.out.1 1
              have f2 := Zc Zw.out.1 2
              have f3 := Zc Zw.out.1 3
              have f4 := Zc Zw.out.1 4
              have f5 := Zc Zw.out.1 5
              have OO : Hid (∀ k, k ≠ bw -> ((((((V3.setCell ⟨bw, 0, none⟩ (I_ yk)).setCell ⟨bw, 1, none⟩ (I_ yo)).setCell ⟨bw, 2, none⟩ (I_ ya)).setCell ⟨bw, 3, none⟩ (I_ y0)).setCell ⟨bw, 4, none⟩ (I_ y1)).setCell ⟨bw, 5, none⟩ (.int .u64 y2)).heap[k]? = V3.heap[k]?) := Za (fun k hk => ne6 hk)
              have SZ : Hid (((((((V3.setCell ⟨bw, 0, none⟩ (I_ yk)).setCell ⟨bw, 1, none⟩ (I_ yo)).setCell ⟨bw, 2, none⟩ (I_ ya)).setCell ⟨bw, 3, none⟩ (I_ y0)).setCell ⟨bw, 4, none⟩ (I_ y1)).setCell ⟨bw, 5, none⟩ (.int .u64 y2)).heap.size = V3.heap.size) := Za (by simp only [Zi])
              have ZN := Za (show Kb ((((((V3.setCell ⟨bw, 0, none⟩ (I_ yk)).setCell ⟨bw, 1, none⟩ (I_ yo)).setCell ⟨bw, 2, none⟩ (I_ ya)).setCell ⟨bw, 3, none⟩ (I_ y0)).setCell ⟨bw, 4, none⟩ (I_ y1)).setCell ⟨bw, 5, none⟩ (.int .u64 y2)) G' bw (.cells #[I_ yk, I_ yo, I_ ya, I_ y0, I_ y1, .int .u64 y2] 76 (0, 0)) from ⟨set6 Zw.out.1 (I_ yk) (I_ yo) (I_ ya) (I_ y0) (I_ y1) (.int .u64 y2), Zw.out.2⟩)
              have BL : Hid (Below wo.heap.size V3 ((((((V3.setCell ⟨bw, 0, none⟩ (I_ yk)).setCell ⟨bw, 1, none⟩ (I_ yo)).setCell ⟨bw, 2, none⟩ (I_ ya)).setCell ⟨bw, 3, none⟩ (I_ y0)).setCell ⟨bw, 4, none⟩ (I_ y1)).setCell ⟨bw, 5, none⟩ (.int .u64 y2))) := Za (bel6 (Below.refl _ _) Lw.out (I_ yk) (I_ yo) (I_ ya) (I_ y0) (I_ y1) (.int .u64 y2))
              go_simp
              refine hK1.out _ _ (fun h => absurd h (by decide)) ?_
              clear hK1 K1 p0 f0 p1 f1 p2 f2 p3 f3 p4 f4 p5 f5
              replace HR := Za (HR.out.keep (fun k hk => OO.out k (fun e => Zw.out.2 (by rw [← e]; exact hk))) (Nat.le_of_eq SZ.out.symm))
              replace HC := Za (HC.out.below BL.out)
              replace Zh := Za (Zh.out.set (Zm Zh.out.1 Zw.out.1 (by decide)) OO.out)
              replace Zx := Za (Zx.out.set (Zm Zx.out.1 Zw.out.1 (by decide)) OO.out)
              clear Zw
              have Zw := ZN
              clear OO SZ ZN BL
              generalize ((((((V3.setCell ⟨bw, 0, none⟩ (I_ yk)).setCell ⟨bw, 1, none⟩ (I_ yo)).setCell ⟨bw, 2, none⟩ (I_ ya)).setCell ⟨bw, 3, none⟩ (I_ y0)).setCell ⟨bw, 4, none⟩ (I_ y1)).setCell ⟨bw, 5, none⟩ (.int .u64 y2)) = V4 at *
              refine ZS (rs := [13]) (by kernel_rfl) (by decide) ?_
              refine Zn.keep rfl (fun K1 hK1 => ?_) Zn.nil
              have p0 := Zb Zh.out.1 0 _ rfl
              have p1 := Zb Zh.out.1 1 _ rfl
              have p2 := Zb Zh.out.1 2 _ rfl
              have f0 := Zc Zh.out.1 0
              have f1 := Zc Zh.out.1 1
              have f2 := Zc Zh.out.1 2
              have OO : Hid (∀ k, k ≠ bh -> (((V4.setCell ⟨bh, 0, none⟩ (I_ hf)).setCell ⟨bh, 1, none⟩ (I_ hn)).setCell ⟨bh, 2, none⟩ (I_ hc)).heap[k]? = V4.heap[k]?) := Za (fun k hk => ne3 hk)
              have SZ : Hid ((((V4.setCell ⟨bh, 0, none⟩ (I_ hf)).setCell ⟨bh, 1, none⟩ (I_ hn)).setCell ⟨bh, 2, none⟩ (I_ hc)).heap.size = V4.heap.size) := Za (by simp only [Zi])
              have ZN := Za (show Kb (((V4.setCell ⟨bh, 0, none⟩ (I_ hf)).setCell ⟨bh, 1, none⟩ (I_ hn)).setCell ⟨bh, 2, none⟩ (I_ hc)) G' bh (.cells #[I_ hf, I_ hn, I_ hc] 100 (0, 0)) from ⟨Yx Zh.out.1 (I_ hf) (I_ hn) (I_ hc), Zh.out.2⟩)
              have BL : Hid (Below wo.heap.size V4 (((V4.setCell ⟨bh, 0, none⟩ (I_ hf)).setCell ⟨bh, 1, none⟩ (I_ hn)).setCell ⟨bh, 2, none⟩ (I_ hc))) := Za (Zt (Below.refl _ _) Lh.out (I_ hf) (I_ hn) (I_ hc))
              go_simp
              refine hK1.out _ _ (fun h => absurd h (by decide)) ?_
              clear hK1 K1 p0 f0 p1 f1 p2 f2
              replace HR := Za (HR.out.keep (fun k hk => OO.out k (fun e => Zh.out.2 (by rw [← e]; exact hk))) (Nat.le_of_eq SZ.out.symm))
              replace HC := Za (HC.out.below BL.out)
              replace Zw := Za (Zw.out.set (Zm Zw.out.1 Zh.out.1 (by decide)) OO.out)
              replace Zx := Za (Zx.out.set (Zm Zx.out.1 Zh.out.1 (by decide)) OO.out)
              clear Zh
              have Zh := ZN
              clear OO SZ ZN BL
              generalize (((V4.setCell ⟨bh, 0, none⟩ (I_ hf)).setCell ⟨bh, 1, none⟩ (I_ hn)).setCell ⟨bh, 2, none⟩ (I_ hc)) = V5 at *
              refine ZW (by kernel_rfl) ?_ _
              go_wp2_with fail
              go_meet
              case rel => exact ⟨bw, bh, G', rfl, rfl, Za ⟨HR.out, HC.out, Zw.out, Zh.out, Zx.out⟩⟩
        case rest =>
          obtain ⟨bw, bh, G', rfl, rfl, HK⟩ := hcut
          clear NX SS HR HC Zx
          obtain ⟨hr, hc', zw, zh, zx⟩ := HK.out
          have TD := Za (rTold_any (hr.bel (w' := wc.drew) (Zp (Below.refl _ _))) i HL1.out ⟨yk, yo, ya, (y0, y1, y2)⟩ hf hn hc)
          unfold w6V h3V at TD
          simp only at TD
          have HC := Za hc'.drew
          have q0 := Zb zx.1 0 _ rfl
          have u0 := Zb zw.1 0 _ rfl
          have u1 := Zb zw.1 1 _ rfl
          have u2 := Zb zw.1 2 _ rfl
          have u3 := Zb zw.1 3 _ rfl
          have u4 := Zb zw.1 4 _ rfl
          have u5 := Zb zw.1 5 _ rfl
          have v0 := Zb zh.1 0 _ rfl
          have v1 := Zb zh.1 1 _ rfl
          have v2 := Zb zh.1 2 _ rfl
          clear hr hc' zw zh zx HK
          go_wp2_with fail
          refine ZU 7 ZJ (by kernel_rfl) ?_
          simp only [List.take_succ_cons, List.take_zero, List.drop_succ_cons, List.drop_zero]
          repeat (first | go_big_quiet_skip | (go_big_quiet_want; go_big_quiet_op; go_big_quiet_on))
          refine wpQuiet_nil ?_
          clear q0 u0 u1 u2 u3 u4 u5 v0 v1 v2
          generalize wc.drew = wd at *
          go_wp2_with fail
          refine TD.out.mono ?_
          rintro e w3 ⟨rfl, G3, rn, ch⟩
          have Z3 := Za (And.intro rn ch)
          clear rn ch TD
          go_wp2_with fail
          go_roundw
          case rel => exact ⟨k + 1, by omega, by go_num, Za ⟨G3, by rw [HA1.out]; exact Z3.out.1, AK.out.ch (HC.out.trans Z3.out.2), CK.out.trans (HC.out.trans Z3.out.2)⟩⟩
          case measure => simp [intOf]; omega
      · have hd : (rc.e.o == 0) = false := by simp [he]
        have e1 : Hid (Yn r (lx.map Prod.fst) (k + 1) = rc) := Za (by rw [hst.out]; unfold ask1Z; rw [if_neg he])
        clear he
        go_wp2_with fail
        go_roundw
        case rel => exact ⟨k + 1, by omega, by go_num, Za ⟨Gk, by rw [e1.out]; exact HR.out, AK.out.ch HC.out, CK.out.trans HC.out⟩⟩
        case measure => simp [intOf]; omega
    · have ek : k = n := by omega
      subst ek
      obtain ⟨Gk, rk, ak, ck⟩ := HI.out
      have LK := Za (rLook_any rk hB)
      have CK := Za ck
      clear rk ak ck HI
      go_wp2_with fail
      refine LK.out.mono ?_
      rintro e w3 ⟨rfl, G', rn, ch⟩
      have Z := Za (And.intro rn ch)
      clear rn ch LK
      go_wp2_with fail
      go_end0
      exact ⟨rfl, G', Z.out.1, CK.out.trans Z.out.2⟩
theorem own_len {w : World} {B : Nat} {T : TypeId} {n : Nat} {v : Value} {len len' : Nat} {xs : List Value} (h : w.ownsRow B T n v len xs) (e : len = len') : w.ownsRow B T n v len' xs := by
 subst e
 exact h
theorem bls_one (l : List Bool) : ∀ u ∈ bls l, u.oneCell' = true := fun u hu => by unfold bls at hu; obtain ⟨x, _, rfl⟩ := List.mem_map.1 hu; rfl
theorem nts_one (l : List Int) : ∀ u ∈ nts l, u.oneCell' = true := fun u hu => by unfold nts at hu; obtain ⟨x, _, rfl⟩ := List.mem_map.1 hu; rfl
theorem sv_begin {W w : World} {gs : Nat} {s : St} {vP vM vA : Value} (hsm : s.P.length <= 128 /\ s.M.length <= 32 /\ s.A.length <= 32) (oP : W.ownsRow w.heap.size 64 3 vP s.P.length (vcs s.P)) (oM : W.ownsRow w.heap.size 4 1 vM s.M.length (bls s.M)) (oA : W.ownsRow w.heap.size 3 1 vA s.A.length (nts s.A))
 (hg : W.heap[gs]? = some (.cells #[vP, vM, .slice none 0 0, vA] 110 (0, 0))) (hgs : w.heap.size <= gs) (hB : Below w.heap.size w W) : Mk w W gs { s with C := [] } := by
 refine ⟨fun k => k = gs ∨ vP.ownBlock = some k ∨ vM.ownBlock = some k ∨ vA.ownBlock = some k, ⟨_, _, _, _, [], { at_ := hg, pl := Yd oP, mu := Yd oM, ch := Yi _ _ _, ato := Yd oA, len := rfl, q := fun i q v h _ => (by simp at h), ne := fun i j v v' k _ h _ => (by simp at h), fg := .inl rfl, fP := fun k h => .inr (.inl h), fM := fun k h => .inr (.inr (.inl h)), fC := fun k h => (by cases h), fA := fun k h => .inr (.inr (.inr h)), fb := fun k h => ?_, small := (by simp; omega), rooms := fun q h => (by cases h) }⟩, fun k h => ?_, hB⟩
 · rcases h with rfl | h | h | h
   · exact Ze hg
   · exact (Zf oP h).2.1
   · exact (Zf oM h).2.1
   · exact (Zf oA h).2.1
 · rcases h with rfl | h | h | h
   · exact hgs
   · exact (Zf oP h).1
   · exact (Zf oM h).1
   · exact (Zf oA h).1
def Sy (w : World) (g : Nat) (vP vM vA : Value) : Prop := (w.cell? ⟨g, 0, none⟩ = some vP /\ w.cell? ⟨g, 1, none⟩ = some vM /\ w.cell? ⟨g, 3, none⟩ = some vA) /\ g < w.heap.size
theorem Sy.al {w w' : World} {g : Nat} {vP vM vA : Value} (h : Sy w g vP vM vA) (hb : Below w.heap.size w w') : Sy w' g vP vM vA := ⟨⟨(hb.cell (p := ⟨g, 0, none⟩) h.2).trans h.1.1, (hb.cell (p := ⟨g, 1, none⟩) h.2).trans h.1.2.1, (hb.cell (p := ⟨g, 3, none⟩) h.2).trans h.1.2.2⟩, Nat.lt_of_lt_of_le h.2 hb.size⟩
theorem Copy_any {w : World} {F : Nat -> Prop} {g : Nat} {s : St} (h : Stt w F g s) : Calls Tryz.prog 83 #[P_ g] w fun e w' => ∃ gc, e = .returned (P_ gc) /\ Mk w w' gc s := by
  obtain ⟨vP, vM, vC, vA, vs, h⟩ := h
  have hsm := h.small
  obtain ⟨aP, cP, eP, _⟩ := Zl h.pl
  obtain ⟨aM, cM, eM, _⟩ := Zl h.mu
  obtain ⟨aC, cC, eC, hcC, _⟩ := Zl h.ch
  obtain ⟨aA, cA, eA, _⟩ := Zl h.ato
  obtain ⟨nP, hnP⟩ : ∃ n, n = s.P.length := ⟨_, rfl⟩
  obtain ⟨nM, hnM⟩ : ∃ n, n = s.M.length := ⟨_, rfl⟩
  obtain ⟨nC, hnC⟩ : ∃ n, n = s.C.length := ⟨_, rfl⟩
  obtain ⟨nA, hnA⟩ : ∃ n, n = s.A.length := ⟨_, rfl⟩
  have OP := Za h.pl
  have OM := Za h.mu
  have OA := Za h.ato
  rw [← hnP] at eP OP
  rw [← hnM] at eM OM
  rw [← hnC] at eC hcC
  rw [← hnA] at eA OA
  subst eP eM eC eA
  have hgl := h.fb g h.fg
  have h0 := Za (show Sy w g (.slice aP nP cP) (.slice aM nM cM) (.slice aA nA cA) from ⟨⟨h.cells.1, h.cells.2.1, h.cells.2.2.2⟩, hgl⟩)
  have HC2 := Za h.cells.2.2.1
  have H := Za h
  have HSM : Hid (s.P.length <= 128 /\ s.M.length <= 32 /\ s.A.length <= 32) := Za (by omega)
  have HNS := Za (And.intro hnP (And.intro hnM hnA))
  have hnP1 : nP <= 128 := by omega
  have hnM1 : nM <= 32 := by omega
  have hnA1 : nA <= 32 := by omega
  have hnC1 : nC <= 32 := by omega
  have HNC := Za hnC
  clear h hsm hnP hnM hnC hnA
  go_enter Tryz.func83, Tryz.ntmps83
  go_wp2_with fail
  go_cut [3] from 6 to 22 (fun x wc => ∃ gc, x = P_ gc /\ Hid (Mk w wc gc { s with C := [] }))
  case first =>
    refine wp_region_held_drew (S := fun w' => Sy w' g (.slice aP nP cP) (.slice aM nM cM) (.slice aA nA cA)) ZJ (h0.out.al (Zp (Below.refl _ _))) (fun hH => ?_)
    have BW := Za (Zp (Below.refl w.heap.size w))
    generalize w.drew = w1 at *
    refine H2_ 0 hH ?_
    simp only [Act.put, S_]
    refine H2_ 1 hH ?_
    simp only [Act.put, S_]
    refine H2_ 2 hH ?_
    simp only [Act.put, S_]
    refine H_ 3 (v := ?_) ?_ hH ?_
    rotate_left 1
    · (intro w hSw; have q := hSw.1; clear hSw; go_simp <;> with_reducible rfl)
    simp only [Act.put, S_]
    refine H2_ 5 hH ?_
    simp only [Act.put, S_]
    refine H2_ 6 hH ?_
    simp only [Act.put, S_]
    refine H2_ 7 hH ?_
    simp only [Act.put, S_]
    refine H_ 8 (v := ?_) ?_ hH ?_
    rotate_left 1
    · (intro w hSw; have q := hSw.1; clear hSw; go_simp <;> with_reducible rfl)
    simp only [Act.put, S_]
    refine H2_ 10 hH ?_
    simp only [Act.put, S_]
    refine H2_ 11 hH ?_
    simp only [Act.put, S_]
    refine H2_ 12 hH ?_
    simp only [Act.put, S_]
    refine H_ 13 (v := ?_) ?_ hH ?_
    rotate_left 1
    · (intro w hSw; have q := hSw.1; clear hSw; go_simp <;> with_reducible rfl)
    simp only [Act.put, S_]
    refine RH_ 4 (fun K1 hK1 => ?_)
    go_simp
    refine (cloneV (Zj OP.out (fun k hk => BW.out.block k (Zf OP.out hk).2.1)) (by omega) (Yq _)).mono ?_
    rintro e d4 ⟨a4, c4, rfl, o4, b4⟩
    have N4 := Za (own_low o4 BW.out.size)
    replace BW := Za (Zg BW.out b4)
    refine hK1.out _ _ (hH.al b4) (fun hH => ?_)
    clear hK1 K1 o4 b4
    refine RH_ 9 (fun K1 hK1 => ?_)
    go_simp
    refine (cloneB (Zj OM.out (fun k hk => BW.out.block k (Zf OM.out hk).2.1)) (by omega) (bls_one _)).mono ?_
    rintro e d9 ⟨a9, c9, rfl, o9, b9⟩
    have N9 := Za (own_low o9 BW.out.size)
    replace BW := Za (Zg BW.out b9)
    replace N4 := Za (Zj N4.out (fun k hk => b9.block k (Zf N4.out hk).2.1))
    refine hK1.out _ _ (hH.al b9) (fun hH => ?_)
    clear hK1 K1 o9 b9
    refine RH_ 14 (fun K1 hK1 => ?_)
    go_simp
    refine (cloneI (Zj OA.out (fun k hk => BW.out.block k (Zf OA.out hk).2.1)) (by omega) (nts_one _)).mono ?_
    rintro e d14 ⟨a14, c14, rfl, o14, b14⟩
    have N14 := Za (own_low o14 BW.out.size)
    replace BW := Za (Zg BW.out b14)
    replace N4 := Za (Zj N4.out (fun k hk => b14.block k (Zf N4.out hk).2.1))
    replace N9 := Za (Zj N9.out (fun k hk => b14.block k (Zf N9.out hk).2.1))
    refine hK1.out _ _ (hH.al b14) (fun hH => ?_)
    clear hK1 K1 o14 b14
    refine H2_ 15 hH ?_
    simp only [Act.put, S_]
    refine RH_ 16 (fun K1 hK1 => ?_)
    go_simp
    have M9 := Za (sv_begin (s := s) (gs := d14.heap.size) HSM.out (Zj (own_len N4.out HNS.out.1) (fun k hk => (Zd d14 (.cells #[.slice a4 nP c4, .slice a9 nM c9, .slice none 0 0, .slice a14 nA c14] 110)).block k (Zf (own_len N4.out HNS.out.1) hk).2.1)) (Zj (own_len N9.out HNS.out.2.1) (fun k hk => (Zd d14 (.cells #[.slice a4 nP c4, .slice a9 nM c9, .slice none 0 0, .slice a14 nA c14] 110)).block k (Zf (own_len N9.out HNS.out.2.1) hk).2.1)) (Zj (own_len N14.out HNS.out.2.2) (fun k hk => (Zd d14 (.cells #[.slice a4 nP c4, .slice a9 nM c9, .slice none 0 0, .slice a14 nA c14] 110)).block k (Zf (own_len N14.out HNS.out.2.2) hk).2.1)) (B_ d14 (.cells #[.slice a4 nP c4, .slice a9 nM c9, .slice none 0 0, .slice a14 nA c14] 110)) BW.out.size (Zv BW.out _))
    refine hK1.out _ _ (hH.al (Zd _ _)) (fun hH => ?_)
    clear hK1 K1
    refine H2_ 17 hH ?_
    simp only [Act.put, S_]
    refine wpAnyH_done (by kernel_rfl) ?_ _
    clear hH
    go_wp2_with fail
    go_meet
    case rel => exact ⟨_, rfl, M9⟩
  case rest =>
    obtain ⟨gc, rfl, M0⟩ := hcut
    have q2 := (M0.out.below.cell (p := ⟨g, 2, none⟩) hgl).trans HC2.out
    have M1 : Hid (Mk w wc gc { s with C := s.C.take 0 }) := M0
    clear h0 M0 OP OM OA HC2
    go_wp2_with fail
    go_loopw [5, 28] (fun x i wr => ∃ k : Nat, k <= nC /\ i = I_ k /\ Hid (Mk w wr gc { s with C := s.C.take k })) (fun x i _ => nC - (intOf i).toNat)
    case atStart => exact ⟨0, Nat.zero_le _, rfl, M1⟩
    case round =>
     obtain ⟨k, hk, rfl, M2⟩ := hrel
     clear M1
     by_cases hlt : k < nC
     · have hlt' : (k : Int) < (nC : Int) := by omega
       have hkC : k < s.C.length := by rw [← HNC.out]; exact hlt
       obtain ⟨q, hq⟩ : ∃ q, s.C[k]? = some q := ⟨_, List.getElem?_eq_getElem hkC⟩
       obtain ⟨vq, hv⟩ : ∃ v, vs[k]? = some v := ⟨_, List.getElem?_eq_getElem (by rw [H.out.len]; exact hkC)⟩
       obtain ⟨oq, _⟩ := H.out.q k q vq hq hv
       have hrm := H.out.rooms q (List.mem_of_getElem? hq)
       have HSN : Hid (s.C.take (k + 1) = s.C.take k ++ [q]) := Za (by rw [List.take_add_one, hq]; rfl)
       obtain ⟨qt, qr, ql⟩ := q
       obtain ⟨nl, hnl0⟩ : ∃ n, n = ql.length := ⟨_, rfl⟩
       simp only at oq hrm
       rw [← hnl0] at oq
       obtain ⟨aq, cq, eq, _⟩ := Zl oq
       subst eq
       obtain ⟨bC, cC', eC, _⟩ := Zq H.out.ch (by omega)
       cases eC
       obtain ⟨q0, q1, q2⟩ := qcs_at _ _ _ _ _ hq hv
       rw [Nat.mul_comm] at q0 q1 q2
       have hbC := (Zf H.out.ch (k := bC) rfl).2.1
       have r0 := (M2.out.below.cell (p := ⟨bC, k * 3, none⟩) hbC).trans (Zk H.out.ch _ _ q0).1
       have r1 := (M2.out.below.cell (p := ⟨bC, k * 3 + 1, none⟩) hbC).trans (Zk H.out.ch _ _ q1).1
       have r2 := (M2.out.below.cell (p := ⟨bC, k * 3 + 2, none⟩) hbC).trans (Zk H.out.ch _ _ q2).1
       obtain ⟨Fc, ⟨wP, wM, wC, wA, ws, S⟩, hF, hB⟩ := M2.out
       obtain ⟨aQ, cQ, eQ, _⟩ := Zl S.ch
       obtain ⟨nQ, hnQ⟩ : ∃ n, n = (s.C.take k).length := ⟨_, rfl⟩
       rw [show ({ s with C := s.C.take k } : St).C.length = nQ from hnQ.symm] at eQ
       subst eQ
       have hnl : nl <= 1000 := by omega
       have HNL := Za hnl0
       have HLS : Hid ((s.C.take k).length < 32) := Za (by simp; omega)
       have HRM : Hid (0 <= qr /\ qr <= 8 /\ ((ql.length : Nat) : Int) <= qr) := Za hrm
       have hbX := Zd wr (.cells #[I_ qt, I_ qr, .slice aq nl cq] 113)
       have oqr := Zj oq (fun k hk => hB.block k (Zf oq hk).2.1)
       have X0 : Hid ((wr.alloc (.cells #[I_ qt, I_ qr, .slice aq nl cq] 113)).drew.heap[wr.heap.size]? = some (.cells #[I_ qt, I_ qr, .slice aq nl cq] 113 (0, 0)) /\ (wr.alloc (.cells #[I_ qt, I_ qr, .slice aq nl cq] 113)).drew.ownsRow 0 64 3 (.slice aq nl cq) nl (vcs ql)) := Za ⟨B_ wr _, Zj oqr (fun k hk => hbX.block k (Zf oqr hk).2.1)⟩
       have S0 := Za (S.bel (Zp hbX))
       have B0 := Za (Zp (Zg hB hbX))
       have HF := Za hF
       clear S hB hF M2 hnQ hbX oqr oq hq hv q0 q1 q2 hrm hnl0 hkC H
       go_wp2_with fail
       refine wp_region_any ZJ ?_
       change wpAny _ _ _ _ _ _ _ (World.drew _)
       generalize World.drew _ = W0 at *
       refine T2_ 0 ?_
       simp only [Act.put, S_]
       refine T2_ 1 ?_
       simp only [Act.put, S_]
       refine T2_ 2 ?_
       simp only [Act.put, S_]
       refine T2_ 3 ?_
       simp only [Act.put, S_]
       refine wpAny_ready (rs := [4, 5]) (by kernel_rfl) (by decide) ?_
       refine AllReady.cons rfl (fun K1 hK1 => ?_) (AllReady.cons rfl (fun K1 hK1 => ?_) AllReady.nil)
       · have q := (show W0.cell? ⟨gc, 2, none⟩ = some (.slice aQ nQ cQ) from S0.out.cells.2.2.1)
         go_simp
         refine hK1 _ _ ?_
         clear hK1 K1 q
         refine R_ 5 (fun K1 hK1 => ?_)
         go_simp
         refine (qclone X0.out.1 X0.out.2 hnl).mono ?_
         rintro e W1 ⟨a3, c3, rfl, o3, hb1⟩
         have S1 := Za (S0.out.bel hb1)
         have B1 := Za (Zg B0.out hb1)
         have PU := Za (fun ty => S1.out.pushC ⟨qt, qr, ql⟩ (own_len (Yd o3) HNL.out) (fun k hk hF => by have h1 := (Zf o3 hk).1; have h2 := S0.out.fb k hF; omega) HLS.out HRM.out ty)
         have O3 := Za (fun k hk => Nat.le_trans B0.out.size (Zf o3 (k := k) hk).1)
         clear hb1 o3
         refine hK1 _ _ ?_
         clear hK1 K1
         refine R_ 6 (fun K1 hK1 => ?_)
         go_simp
         refine hK1 _ _ ?_
         clear hK1 K1
         refine R_ 7 (fun K1 hK1 => ?_)
         refine Zr (TS := 108) (.tmp 36) (.tmp 38) _ _ _ (fun ty => PU.out ty) rfl rfl rfl rfl ?_
         rintro v9 w9 ⟨⟨a9, l9, c9, rfl⟩, z1, z2, r9⟩
         have R9 := Za r9
         clear r9
         refine hK1 _ _ ?_
         clear hK1 K1
         refine T2_ 8 ?_
         simp only [Act.put, S_]
         refine T2_ 9 ?_
         simp only [Act.put, S_]
         refine R_ 10 (fun K1 hK1 => ?_)
         go_simp
         refine hK1 _ _ ?_
         clear hK1 K1 z1 z2
         refine wpAny_done (by kernel_rfl) ?_ _
         go_wp2_with fail
         go_roundw
         case rel =>
           refine ⟨k + 1, by omega, by go_num, ?_⟩
           rw [HSN.out]
           refine ⟨_, ⟨_, _, _, _, _, R9.out.2.1⟩, fun k hk => ?_, B1.out.trans (R9.out.2.2.bel HF.out B1.out.size)⟩
           rcases hk with hk | hk | hk
           · exact HF.out k hk
           · rcases R9.out.1 k hk with h1 | h1
             · exact HF.out k (S0.out.fC k h1)
             · exact Nat.le_trans B1.out.size h1
           · exact O3.out k hk
         case measure => simp [intOf]; omega
       · go_simp
         refine (qclone X0.out.1 X0.out.2 hnl).mono ?_
         rintro e W1 ⟨a3, c3, rfl, o3, hb1⟩
         have S1 := Za (S0.out.bel hb1)
         have B1 := Za (Zg B0.out hb1)
         have PU := Za (fun ty => S1.out.pushC ⟨qt, qr, ql⟩ (own_len (Yd o3) HNL.out) (fun k hk hF => by have h1 := (Zf o3 hk).1; have h2 := S0.out.fb k hF; omega) HLS.out HRM.out ty)
         have O3 := Za (fun k hk => Nat.le_trans B0.out.size (Zf o3 (k := k) hk).1)
         clear hb1 o3
         refine hK1 _ _ ?_
         clear hK1 K1
         refine wpAny_ready (rs := [4, 6]) (by kernel_rfl) (by decide) ?_
         refine AllReady.cons rfl (fun K1 hK1 => ?_) (AllReady.cons rfl (fun K1 hK1 => ?_) AllReady.nil)
         · have q := (show W1.cell? ⟨gc, 2, none⟩ = some (.slice aQ nQ cQ) from S1.out.cells.2.2.1)
           go_simp
           refine hK1 _ _ ?_
           clear hK1 K1 q
           refine R_ 6 (fun K1 hK1 => ?_)
           go_simp
           refine hK1 _ _ ?_
           clear hK1 K1
           refine R_ 7 (fun K1 hK1 => ?_)
           refine Zr (TS := 108) (.tmp 36) (.tmp 38) _ _ _ (fun ty => PU.out ty) rfl rfl rfl rfl ?_
           rintro v9 w9 ⟨⟨a9, l9, c9, rfl⟩, z1, z2, r9⟩
           have R9 := Za r9
           clear r9
           refine hK1 _ _ ?_
           clear hK1 K1
           refine T2_ 8 ?_
           simp only [Act.put, S_]
           refine T2_ 9 ?_
           simp only [Act.put, S_]
           refine R_ 10 (fun K1 hK1 => ?_)
           go_simp
           refine hK1 _ _ ?_
           clear hK1 K1 z1 z2
           refine wpAny_done (by kernel_rfl) ?_ _
           go_wp2_with fail
           go_roundw
           case rel =>
             refine ⟨k + 1, by omega, by go_num, ?_⟩
             rw [HSN.out]
             refine ⟨_, ⟨_, _, _, _, _, R9.out.2.1⟩, fun k hk => ?_, B1.out.trans (R9.out.2.2.bel HF.out B1.out.size)⟩
             rcases hk with hk | hk | hk
             · exact HF.out k hk
             · rcases R9.out.1 k hk with h1 | h1
               · exact HF.out k (S0.out.fC k h1)
               · exact Nat.le_trans B1.out.size h1
             · exact O3.out k hk
           case measure => simp [intOf]; omega
         · go_simp
           refine hK1 _ _ ?_
           clear hK1 K1
           refine R_ 4 (fun K1 hK1 => ?_)
           have q := (show (W1.alloc (.cells #[I_ qt, I_ qr, .slice a3 nl c3] 113)).cell? ⟨gc, 2, none⟩ = some (.slice aQ nQ cQ) from ((Zd W1 _).cell (p := ⟨gc, 2, none⟩) (S1.out.fb gc S1.out.fg)).trans S1.out.cells.2.2.1)
           go_simp
           refine hK1 _ _ ?_
           clear hK1 K1 q
           refine R_ 7 (fun K1 hK1 => ?_)
           refine Zr (TS := 108) (.tmp 36) (.tmp 38) _ _ _ (fun ty => PU.out ty) rfl rfl rfl rfl ?_
           rintro v9 w9 ⟨⟨a9, l9, c9, rfl⟩, z1, z2, r9⟩
           have R9 := Za r9
           clear r9
           refine hK1 _ _ ?_
           clear hK1 K1
           refine T2_ 8 ?_
           simp only [Act.put, S_]
           refine T2_ 9 ?_
           simp only [Act.put, S_]
           refine R_ 10 (fun K1 hK1 => ?_)
           go_simp
           refine hK1 _ _ ?_
           clear hK1 K1 z1 z2
           refine wpAny_done (by kernel_rfl) ?_ _
           go_wp2_with fail
           go_roundw
           case rel =>
             refine ⟨k + 1, by omega, by go_num, ?_⟩
             rw [HSN.out]
             refine ⟨_, ⟨_, _, _, _, _, R9.out.2.1⟩, fun k hk => ?_, B1.out.trans (R9.out.2.2.bel HF.out B1.out.size)⟩
             rcases hk with hk | hk | hk
             · exact HF.out k hk
             · rcases R9.out.1 k hk with h1 | h1
               · exact HF.out k (S0.out.fC k h1)
               · exact Nat.le_trans B1.out.size h1
             · exact O3.out k hk
           case measure => simp [intOf]; omega
     · obtain rfl : k = nC := by omega
       have M3 : Hid (Mk w wr gc s) := Za (by
         have := M2.out
         rw [List.take_of_length_le (by rw [← HNC.out]; exact Nat.le_refl _)] at this
         exact this)
       clear M2
       go_wp2_with fail
       go_ret
       exact ⟨gc, rfl, M3.out⟩
theorem wpList_appV {TS : TypeId} {w : World} {ops : Array Oper} {rest : List Oper} {o : Oper} {a : Act} {Q : Exit -> Act -> World -> Prop} (hgd : o.guard = none) (s x : Operand)
 (ho : o.op = .call { callee := .builtin .append, args := #[s, x], argTypes := #[TS, TS] }) (v vx : Value) (hs : a.eval s = v) (hx : a.eval x = vx) (R : Value -> World -> Prop)
 (hrun : ∃ v' w', (Builtin.append_ #[TS, TS] o.type #[v, vx]).run Tryz.prog w = .ok v' w' /\ R v' w')
 (h : ∀ v' w', R v' w' -> wpList Tryz.prog ops Q rest (a.put o.dst v') w') : wpList Tryz.prog ops Q (o :: rest) a w :=
 wpList_plain hgd fun _ hK => by
  obtain ⟨v', w', hr, hR⟩ := hrun
  unfold Oper.wp execOp
  simp only [ho, resolve, invoke, builtin, Sem.run_bind, Sem.run_pure, Result.andThen_ok, List.map_toArray, List.map_cons, List.map_nil, hs, hx, hr]
  exact hK _ _ (h v' w' hR)
theorem push_i2 {w : World} {B : Nat} {v : Value} {l : List Int} {n : Nat} (hn : n = l.length) (hl : l.length <= 100000) (ho : w.ownsRow B 3 1 v n (nts l)) (hB : B <= w.heap.size) (x : Int) (ty : TypeId) :
 ∃ v' w', (Builtin.append_ #[22, 22] ty #[v, .slice (some ⟨w.heap.size, 0, none⟩) 1 1]).run Tryz.prog (w.alloc (.cells #[I_ x] 3)) = .ok v' w' /\ ((∃ a c, v' = .slice a (n + 1) c) /\ w'.ownsRow B 3 1 v' (n + 1) (nts (l ++ [x])) /\ w.grownBy w' v.ownBlock /\ (∀ k, v'.ownBlock = some k -> v.ownBlock = some k ∨ w.heap.size <= k)) := by
 obtain ⟨ie, hi, hz0, hz1, hz2⟩ := info_parts info3
 have hb := Zd w (.cells #[I_ x] 3)
 have o1 := Zj ho (fun k hk => hb.block k (Zf ho hk).2.1)
 have hc : ∀ (j : Nat) (u : Value), (nts [x])[j]? = some u -> (w.alloc (.cells #[I_ x] 3)).cell? ((⟨w.heap.size, 0, none⟩ : Addr).add j) = some u := fun j u hu => by
  rw [show (⟨w.heap.size, 0, none⟩ : Addr).add j = ⟨w.heap.size, j, none⟩ by unfold Addr.add; by_cases h : j = 0 <;> simp [h]]
  exact Zb (B_ w _) j u (by simpa [nts] using hu)
 obtain ⟨v', w', hr, ho', hg, _, hat⟩ := run_append_own_at (P := Tryz.prog) (w.alloc (.cells #[I_ x] 3)) B 22 ty 3 ie _ 1 8 Tryz.underlying22 hi hz0 hz1 hz2 rfl (by decide) v n (nts l) o1 ⟨w.heap.size, 0, none⟩ 1 1 (nts [x]) rfl hc (fun u hu => by simp [nts] at hu; subst hu; rfl) (by unfold maxLen; omega) (by omega) (Nat.le_trans hB hb.size)
 obtain ⟨a9, c9, e9, _⟩ := Zl ho'
 refine ⟨v', w', hr, ⟨_, _, e9⟩, by rw [show nts (l ++ [x]) = nts l ++ nts [x] by simp [nts]]; exact ho', ⟨hg.os, hg.tape, hg.output, Nat.le_trans hb.size hg.size, fun k hk hne => (hg.block k (Nat.lt_of_lt_of_le hk hb.size) hne).trans (hb.block k hk)⟩, fun k hk => ?_⟩
 rcases hat with e | e
 · exact .inl (e.symm.trans hk)
 · rw [e] at hk
   right
   have := Option.some.inj hk
   simp at this
   omega
theorem isB_zero (k t : Int) (hk : 1 <= k /\ k <= 3) : isB (Yf k) 0 0 t = (k == t) := by
 have h : k = 1 ∨ k = 2 ∨ k = 3 := by omega
 rcases h with rfl | rfl | rfl <;> simp [isB, Yk, Yf]
theorem map_set_t {C : List Qu} {i : Nat} {q q' : Qu} (hq : C[i]? = some q) (h : q'.t = q.t) : (C.set i q').map Qu.t = C.map Qu.t := by
 rw [List.map_set]
 exact set_same _ _ _ (by rw [List.getElem?_map, hq, h]; rfl)
def Sq (wc : World) (F : Nat -> Prop) (wr : World) (g : Nat) (s : St) : Prop := ∃ F', Stt wr F' g s /\ Ch F F' wc wr
def Sb (w wc : World) (F : Nat -> Prop) (p : List Addr) : Prop := (∀ k, F k -> w.heap.size <= k) /\ Below w.heap.size w wc /\ E2 w p
section
variable {w wc wr w' : World} {F : Nat → Prop} {g : Nat} {s s' : St} {p : List Addr} {v : Value} {f : FuncId} {args : Array Value}
theorem Sq.errs (h : Sq wc F wr g s) (hb : Sb w wc F p) : E2 wr p := by
 obtain ⟨F', h1, h2⟩ := h
 exact (Mk.of hb.1 hb.2.1 h1 h2).errs hb.2.2
theorem Sq.bel (h : Sq wc F wr g s) (hb : Below wr.heap.size wr w') : Sq wc F w' g s := by
 obtain ⟨F', h1, h2⟩ := h
 exact ⟨F', h1.bel hb, h2.trans (Ch.of_bel hb)⟩
theorem Sq.vb (h : Sq wc F wr g s) (hc : Calls Tryz.prog f args wr (Vb wr v)) : Calls Tryz.prog f args wr fun e w' => e = .returned v /\ Sq wc F w' g s := hc.mono fun _ _ ⟨he, hb⟩ => ⟨he, h.bel hb⟩
theorem Sq.sp (h : Sq wc F wr g s) (hc : ∀ F', Stt wr F' g s -> Calls Tryz.prog f args wr (Sp wr F' g s' v)) : Calls Tryz.prog f args wr fun e w' => e = .returned v /\ Sq wc F w' g s' := by
 obtain ⟨F', h1, h2⟩ := h
 exact (hc F' h1).mono fun _ _ ⟨he, F'', h3, h4⟩ => ⟨he, F'', h3, h2.trans h4⟩
theorem Sq.st (h : Sq wc F wr g s) : ∃ F', Stt wr F' g s := by
 obtain ⟨F', h1, h2⟩ := h
 exact ⟨F', h1⟩
end
theorem chanType_in {w wc : World} {F : Nat -> Prop} {g : Nat} {s : St} {p : List Addr} (h : Stt wc F g s) (hb : Sb w wc F p) (i : Nat) (q : Qu) (hq : s.C[i]? = some q) (ht : 1 <= q.t /\ q.t <= 3) :
 Calls Tryz.prog 84 #[P_ g, I_ (i : Nat)] wc fun e w' => e = .returned (I_ q.t) /\ ∃ s', Sq wc F w' g s' /\ s'.C.map Qu.t = s.C.map Qu.t := by
 have H : Hid (Sq wc F wc g s) := Za ⟨F, h, Ch.refl _ _⟩
 have H7 := Za hb
 have HQ := Za hq
 obtain ⟨t, htt⟩ : ∃ t, q.t = t := ⟨_, rfl⟩
 rw [htt] at ht ⊢
 have HT := Za htt
 clear h hb hq htt
 go_enter Tryz.func84, Tryz.ntmps84
 go_wp2_with fail
 go_loopw [5, 6, 7] (fun x5 x6 x7 wr => ∃ (k : Int), 1 <= k /\ k <= t /\ x5 = I_ k /\ Hid (Sq wc F wr g s)) (fun x5 x6 x7 _ => (4 - intOf x5).toNat)
 case atStart => exact ⟨1, by omega, ht.1, rfl, H⟩
 case round =>
  obtain ⟨k, hk1, hkt, rfl, HM⟩ := hrel
  have hk3 : k <= 3 := by omega
  have ZA := fun w => zero_any k w
  go_wp2_with fail
  refine (ZA _).mono ?_
  rintro e w1 ⟨rfl, hb⟩
  have M1 := Za (HM.out.bel hb)
  clear HM hb
  by_cases he : k = t
  · subst he
    have hB : Hid (isB (Yf k) 0 0 q.t = true) := Za (by rw [isB_zero k _ ⟨hk1, hk3⟩, HT.out]; simp)
    by_cases hr : (q.l.length : Int) < q.room
    · have RM := Za (M1.out.sp fun F' hs => Send_room hs (M1.out.errs H7.out) i q HQ.out (Yf k) 0 0 hB.out hr)
      generalize Yf k = zk at *
      clear hr
      go_wp2_with fail
      refine RM.out.mono ?_
      rintro e w2 ⟨rfl, h2⟩
      have M2 := Za h2
      clear h2
      go_wp2_with fail
      go_ret
      exact ⟨rfl, _, M2.out, map_set_t HQ.out rfl⟩
    · obtain ⟨F', hs⟩ := M1.out.st
      have RM := Za (M1.out.vb (Send_full hs (M1.out.errs H7.out) i q HQ.out (Yf k) 0 0 hB.out (by omega)))
      generalize Yf k = zk at *
      clear hr hs
      go_wp2_with fail
      refine RM.out.mono ?_
      rintro e w2 ⟨rfl, h2⟩
      have M2 := Za h2
      clear h2
      go_wp2_with fail
      go_ret
      exact ⟨rfl, _, M2.out, rfl⟩
  · have hB : Hid (isB (Yf k) 0 0 q.t = false) := Za (by rw [isB_zero k _ ⟨hk1, hk3⟩, HT.out]; simp [he])
    obtain ⟨F', hs⟩ := M1.out.st
    have RM := Za (M1.out.vb (Send_bad hs (M1.out.errs H7.out) i q HQ.out (Yf k) 0 0 hB.out))
    have hlt : k < t := by omega
    clear hs
    unfold errV at *
    generalize adr p 4 = ad at *
    generalize Yf k = zk at *
    go_wp2_with fail
    refine RM.out.mono ?_
    rintro e w2 ⟨rfl, h2⟩
    have M2 := Za h2
    clear h2 RM M1
    go_wp2_with fail
    go_roundw
    case rel => exact ⟨k + 1, by omega, by omega, by go_num, M2⟩
    case measure => simp [intOf]; omega
theorem chanType_out {w wc : World} {F : Nat -> Prop} {g : Nat} {s : St} {p : List Addr} (h : Stt wc F g s) (hb : Sb w wc F p) (i : Int) (hi : i < 0 ∨ (s.C.length : Int) <= i) :
 Calls Tryz.prog 84 #[P_ g, I_ i] wc fun e w' => e = .returned (I_ 0) /\ Sq wc F w' g s := by
 have H : Hid (Sq wc F wc g s) := Za ⟨F, h, Ch.refl _ _⟩
 have H7 := Za hb
 have HI := Za hi
 clear h hb hi
 go_enter Tryz.func84, Tryz.ntmps84
 go_wp2_with fail
 go_loopw [5, 6, 7] (fun x5 x6 x7 wr => ∃ (k : Int), 1 <= k /\ k <= 4 /\ x5 = I_ k /\ Hid (Sq wc F wr g s)) (fun x5 x6 x7 _ => (4 - intOf x5).toNat)
 case atStart => exact ⟨1, by omega, by omega, rfl, H⟩
 case round =>
  obtain ⟨k, hk1, hkt, rfl, HM⟩ := hrel
  by_cases hk3 : k <= 3
  · have ZA := fun w => zero_any k w
    go_wp2_with fail
    refine (ZA _).mono ?_
    rintro e w1 ⟨rfl, hb⟩
    have M1 := Za (HM.out.bel hb)
    clear HM hb
    obtain ⟨F', hs⟩ := M1.out.st
    have RM := Za (M1.out.vb (Send_out hs (M1.out.errs H7.out) i (Yf k) 0 0 HI.out))
    clear hs
    unfold errV at *
    generalize adr p 0 = ad at *
    generalize Yf k = zk at *
    go_wp2_with fail
    refine RM.out.mono ?_
    rintro e w2 ⟨rfl, h2⟩
    have M2 := Za h2
    clear h2 RM M1
    go_wp2_with fail
    go_roundw
    case rel => exact ⟨k + 1, by omega, by omega, by go_num, M2⟩
    case measure => simp [intOf]; omega
  · have e : k = 4 := by omega
    subst e
    go_wp2_with fail
    go_ret
    exact ⟨rfl, HM.out⟩
theorem chanTypes_any {w : World} {F : Nat -> Prop} {g : Nat} {s : St} {p : List Addr} (h : Stt w F g s) (h17 : E2 w p) (ht : ∀ q ∈ s.C, 1 <= q.t /\ q.t <= 3) :
    Calls Tryz.prog 54 #[P_ g] w fun e w' => ∃ a c, e = .returned (.slice a s.C.length c) /\ w'.ownsRow w.heap.size 3 1 (.slice a s.C.length c) s.C.length (nts (s.C.map Qu.t)) /\ Below w.heap.size w w' := by
  have CP := Za (Copy_any h)
  have H7 := Za h17
  have HT := Za ht
  have hn32 : s.C.length <= 32 := by
    obtain ⟨_, _, _, _, _, hS⟩ := h
    have := hS.small
    omega
  obtain ⟨n, hn⟩ : ∃ n, n = s.C.length := ⟨_, rfl⟩
  rw [← hn] at hn32 ⊢
  have HN := Za hn
  have CI : Hid (∀ (k : Nat) (wr : World) (F : Nat -> Prop) (gc : Nat) (s' : St), Stt wr F gc s' -> Sb w wr F p -> s'.C.map Qu.t = s.C.map Qu.t -> Calls Tryz.prog 84 #[P_ gc, I_ (k : Nat)] wr fun e w' => e = .returned (I_ (((s.C.map Qu.t)[k]?).getD 0)) /\ ∃ s'', Sq wr F w' gc s'' /\ s''.C.map Qu.t = s.C.map Qu.t) := Za (fun k wr F gc s' hm hsb he => by
    by_cases hk : k < s'.C.length
    · have hq : s'.C[k]? = some s'.C[k] := List.getElem?_eq_getElem hk
      have e1 : (s.C.map Qu.t)[k]? = some s'.C[k].t := by rw [← he, List.getElem?_map, hq]; rfl
      rw [e1]
      have htq : 1 <= s'.C[k].t /\ s'.C[k].t <= 3 := by
        rw [List.getElem?_map] at e1
        obtain ⟨q', hq', e2⟩ := Option.map_eq_some_iff.1 e1
        have := ht q' (List.mem_of_getElem? hq')
        rw [e2] at this
        exact this
      exact (chanType_in hm hsb k _ hq htq).mono fun e w' ⟨h1, s'', h2, h3⟩ => ⟨h1, s'', h2, h3.trans he⟩
    · have e1 : (s.C.map Qu.t)[k]? = none := by
        rw [← he]
        apply List.getElem?_eq_none
        simp
        omega
      rw [e1]
      exact (chanType_out hm hsb (k : Int) (by omega)).mono fun e w' ⟨h1, h2⟩ => ⟨h1, s', h2, he⟩)
  have TV : Hid (∀ k, k < n -> (((s.C.map Qu.t)[k]?).getD 0) ≠ 0) := Za (fun k hk => by
    have hk' : k < s.C.length := by omega
    have e1 : (s.C.map Qu.t)[k]? = some (s.C[k]).t := by simp [hk']
    rw [e1]
    have := ht s.C[k] (List.getElem_mem hk')
    show s.C[k].t ≠ 0
    omega)
  have TE : Hid ((((s.C.map Qu.t)[n]?).getD 0) = 0) := Za (by
    have : (s.C.map Qu.t)[n]? = none := List.getElem?_eq_none (by simp; omega)
    rw [this]
    rfl)
  clear h h17 ht hn
  go_enter Tryz.func54, Tryz.ntmps54
  go_wp2_with fail
  refine CP.out.mono ?_
  rintro e w1 ⟨gc, rfl, F1, hs1, hF1, hb1⟩
  have C0 := Za (CI.out 0 w1 F1 gc s hs1 ⟨hF1, hb1, H7.out⟩ rfl)
  have M1 := Za (And.intro hF1 hb1)
  clear hs1 hF1 hb1 CP
  go_wp2_with fail
  refine C0.out.mono ?_
  rintro e w2 ⟨rfl, s2, ⟨F2, m2, c2⟩, e2⟩
  have M2 : Hid (Stt w2 F2 gc s2 /\ Sb w w2 F2 p /\ s2.C.map Qu.t = s.C.map Qu.t) := Za ⟨m2, ⟨c2.low M1.out.1 M1.out.2.size, M1.out.2.trans (c2.bel M1.out.1 M1.out.2.size), H7.out⟩, e2⟩
  clear m2 c2 e2 C0 M1
  obtain ⟨x0, hx0⟩ : ∃ x0, (((s.C.map Qu.t)[0]?).getD 0) = x0 := ⟨_, rfl⟩
  rw [hx0]
  have HX0 := Za hx0
  clear hx0
  go_wp2_with fail
  go_loopw [4, 5] (fun x4 x5 wr => ∃ (k : Nat) (a : Option Addr) (c : Nat) (y : Int), k <= n /\ x4 = .slice a k c /\ x5 = I_ y /\ Hid (y = (((s.C.map Qu.t)[k]?).getD 0)) /\ Hid (wr.ownsRow w.heap.size 3 1 (.slice a k c) k (nts ((s.C.map Qu.t).take k)) /\ ∃ F' s', Stt wr F' gc s' /\ Sb w wr F' p /\ s'.C.map Qu.t = s.C.map Qu.t /\ ∀ j, (Value.slice a k c).ownBlock = some j -> ¬ F' j)) (fun x4 x5 _ => n - (match x4 with | .slice _ k _ => k | _ => 0))
  case atStart => exact ⟨0, none, 0, x0, Nat.zero_le _, rfl, rfl, Za HX0.out.symm, Za ⟨World.ownsRow_nil _ _ _ _, F2, s2, M2.out.1, M2.out.2.1, M2.out.2.2, fun j hj => by cases hj⟩⟩
  case round =>
    obtain ⟨k, a, c, y, hk, rfl, rfl, hy, HO⟩ := hrel
    by_cases hlt : k < n
    · have hy0 : y ≠ 0 := by rw [hy.out]; exact TV.out k hlt
      have hyb : (y == 0) = false := by simp [hy0]
      have PU := Za (fun ty => push_i2 (n := k) (l := (s.C.map Qu.t).take k) (by simp; have := HN.out; omega) (by simp; omega) HO.out.1 (by obtain ⟨_, _, _, _, hb, _⟩ := HO.out; exact hb.2.1.size) y ty)
      have TS : Hid ((s.C.map Qu.t).take (k + 1) = (s.C.map Qu.t).take k ++ [y]) := Za (by
        rw [take_snoc _ k 0 (by simp; have := HN.out; omega), hy.out, List.getD_eq_getElem?_getD])
      go_wp2_with (first | (at_builtin; refine wpList_appV (TS := 22) rfl (.tmp 16) (.tmp 18) rfl _ _ rfl rfl _ (PU.out _) ?_; rintro v9 w9 ⟨⟨a9, c9, rfl⟩, r9⟩; have R9 := Za r9; clear r9))
      obtain ⟨o1, F', s', hs, hsb, hm, hd⟩ := HO.out
      obtain ⟨o9, g9, b9⟩ := R9.out
      have hs9 : Stt w9 F' gc s' := hs.keep (fun j hj => g9.block j (hs.fb j hj) (fun e => hd j e.symm hj)) g9.size
      have hsb9 : Sb w w9 F' p := ⟨hsb.1, hsb.2.1.grown g9 hsb.2.1.size (fun j hj => (Zf o1 hj).1), hsb.2.2⟩
      have hd9 : ∀ j, (Value.slice a9 (k + 1) c9).ownBlock = some j -> ¬ F' j := fun j hj hF => by
        rcases b9 j hj with h1 | h1
        · exact hd j h1 hF
        · have := hs.fb j hF
          omega
      have C9 := Za (CI.out (k + 1) w9 F' gc s' hs9 hsb9 hm)
      have K9 : Hid (Sb w w9 F' p /\ (∀ j, (Value.slice a9 (k + 1) c9).ownBlock = some j -> ¬ F' j) /\ w9.ownsRow w.heap.size 3 1 (.slice a9 (k + 1) c9) (k + 1) (nts ((s.C.map Qu.t).take (k + 1)))) := Za ⟨hsb9, hd9, by rw [TS.out]; exact o9⟩
      clear o1 hs hsb hm hd o9 g9 b9 hs9 hsb9 hd9 R9 PU HO
      refine C9.out.mono ?_
      rintro e w10 ⟨rfl, s3, ⟨F3, m3, c3⟩, e3⟩
      have K10 : Hid (Stt w10 F3 gc s3 /\ Ch F' F3 w9 w10 /\ s3.C.map Qu.t = s.C.map Qu.t) := Za ⟨m3, c3, e3⟩
      clear m3 c3 e3 C9
      obtain ⟨y9, hy9⟩ : ∃ y9, (((s.C.map Qu.t)[k + 1]?).getD 0) = y9 := ⟨_, rfl⟩
      rw [hy9]
      have HY9 := Za hy9
      clear hy9
      go_wp2_with fail
      go_roundw
      case rel =>
        obtain ⟨k1, k2, k3⟩ := K9.out
        obtain ⟨m3, c3, e3⟩ := K10.out
        refine ⟨k + 1, a9, c9, y9, by omega, rfl, rfl, Za HY9.out.symm, Za ⟨Zj k3 (fun j hj => c3.blk j (Zf k3 hj).2.1 (k2 j hj)), F3, s3, m3, ⟨c3.low k1.1 k1.2.1.size, k1.2.1.trans (c3.bel k1.1 k1.2.1.size), k1.2.2⟩, e3, fun j hj hF => ?_⟩⟩
        rcases c3.grow j hF with h1 | h1
        · exact k2 j hj h1
        · have := (Zf k3 hj).2.1
          omega
      case measure => simp; omega
    · obtain rfl : k = n := by omega
      have e0 : y = 0 := by rw [hy.out]; exact TE.out
      subst e0
      have TK : Hid ((s.C.map Qu.t).take k = s.C.map Qu.t) := Za (List.take_of_length_le (by simp; have := HN.out; omega))
      go_wp2_with fail
      go_ret
      refine ⟨a, c, rfl, ?_, ?_⟩
      · have := HO.out.1
        rw [TK.out] at this
        exact this
      · obtain ⟨_, _, _, _, hb, _⟩ := HO.out
        exact hb.2.1
end Go.Proofs.YtfojninaginnoaaGreatDoor.Ck
