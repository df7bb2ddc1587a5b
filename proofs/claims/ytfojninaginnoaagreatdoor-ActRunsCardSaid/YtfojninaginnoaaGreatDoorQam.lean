/- Texts of this proof, packed: contracts of the program's functions, and the plain model that they are held against. -/
import Derived.Test.YtfojninaginnoaaGreatDoorQal
set_option maxRecDepth 20000
set_option maxHeartbeats 4000000
namespace Go.Proofs.YtfojninaginnoaaGreatDoor.Ck
open Go.RowKit
def AskC (W : World) (g gt bx i : Nat) : Prop := W.cell? ⟨g, 8, none⟩ = some (P_ gt) /\ W.cell? ⟨bx, 0, none⟩ = some (I_ (i : Nat)) /\ g < W.heap.size /\ bx < W.heap.size
theorem AskC.al {W W' : World} {g gt bx i : Nat} (h : AskC W g gt bx i) (hb : Below W.heap.size W W') : AskC W' g gt bx i := ⟨(hb.cell (p := ⟨g, 8, none⟩) h.2.2.1).trans h.1, (hb.cell (p := ⟨bx, 0, none⟩) h.2.2.2).trans h.2.1, Nat.lt_of_lt_of_le h.2.2.1 hb.size, Nat.lt_of_lt_of_le h.2.2.2 hb.size⟩
theorem rNext_r {W : World} {G : Nat -> Prop} {B g gt : Nat} {S : List (List Wt)} {r : Rz} (h : Rr W G B g S r) (hc : W.cell? ⟨g, 8, none⟩ = some (P_ gt)) (i : Nat) (x : List Wt) (hx : r.pe[i]? = some x) : Calls Tryz.prog 75 #[P_ gt, I_ (i : Nat)] W (RrP W G B g S { r with pe := r.pe.set i (Yw x).2 } (.tuple #[w6V (Yw x).1.1, h3V (Yw x).1.2])) := by
 obtain ⟨Fs, Rs, Fo, R, gs, gt', vW, vE, vL, vO, vA, vs, os, as_, h, hG⟩ := h
 have e := h.cells.1.2.2.2.symm.trans hc
 cases e
 exact rNext_any h hG i x hx
theorem Rr.c8 {W : World} {G : Nat -> Prop} {B g : Nat} {S : List (List Wt)} {r : Rz} (h : Rr W G B g S r) : (∃ gt, W.cell? ⟨g, 8, none⟩ = some (P_ gt)) /\ W.cell? ⟨g, 3, none⟩ = some (I_ r.e.o) := by
 obtain ⟨Fs, Rs, Fo, R, gs, gt, vW, vE, vL, vO, vA, vs, os, as_, h, hG⟩ := h
 exact ⟨⟨gt, h.cells.1.2.2.2⟩, h.cells.2.1.1⟩
theorem rask_any {w : World} {G : Nat -> Prop} {B g : Nat} {S : List (List Wt)} {r : Rz} {v : Value} {lx : List (Nat × V3)} (h : Rr w G B g S r) (hB : B <= 1000000) (hv : AskS w G v lx) (hl : ∀ x ∈ lx, x.1 < r.ws.length /\ x.1 < r.pe.length) : Calls Tryz.prog 38 #[P_ g, v] w (RrP w G B g S (Yz (Yo r (lx.map Prod.fst) lx.length)) (.tuple #[])) := by
  have HA := Za hv
  have I0 : Hid (∃ Gk, Rr w Gk B g S (Yo r (lx.map Prod.fst) 0) /\ AskS w Gk v lx /\ Ch G Gk w w) := Za ⟨G, h, hv, Ch.refl _ _⟩
  obtain ⟨aV, cV, rfl, hlen, _⟩ := hv
  obtain ⟨n, hn⟩ : ∃ n, n = lx.length := ⟨_, rfl⟩
  rw [← hn] at hlen I0 ⊢
  have HN := Za hn
  have HLN := Za hl
  clear h hn hl HA
  go_enter Tryz.func38, Tryz.ntmps38
  go_wp2_with fail
  go_loopw [5, 6, 7, 10] (fun x5 x6 x7 q wr => ∃ k : Nat, k <= n /\ q = I_ k /\ Hid (∃ Gk, Rr wr Gk B g S (Yo r (lx.map Prod.fst) k) /\ AskS wr Gk (.slice aV n cV) lx /\ Ch G Gk w wr)) (fun _ _ _ q _ => n - (intOf q).toNat)
  case atStart => exact ⟨0, Nat.zero_le _, rfl, I0⟩
  case round =>
    obtain ⟨k, hkn, rfl, HI⟩ := hrel
    clear I0
    by_cases hlt : k < n
    · have hlt' : (k : Int) < (n : Int) := by omega
      obtain ⟨⟨i, j0, j1, j2⟩, hx⟩ : ∃ x, lx[k]? = some x := ⟨_, List.getElem?_eq_getElem (by rw [← HN.out]; exact hlt)⟩
      obtain ⟨Gk, rk, ak, ck⟩ := HI.out
      obtain ⟨aV', cV', eV, _, hcs⟩ := id ak
      cases eV
      obtain ⟨b, ob, rfl, kb, p0, p1, p2, p3⟩ := hcs k _ hx
      simp only at p0 p1 p2 p3
      have hst := Za (asksZ_step (r := r) (l := lx.map Prod.fst) (k := k) (i := i) (by rw [List.getElem?_map, hx]; rfl))
      have hln := asksZ_len r (lx.map Prod.fst) k
      have hmem := HLN.out _ (List.mem_of_getElem? hx)
      generalize Yo r (lx.map Prod.fst) k = rc at *
      obtain ⟨wo, rfl⟩ : ∃ z, z = wr := ⟨_, rfl⟩
      have Zx := Za (Kb.new rk #[I_ (i : Nat), I_ j0, I_ j1, .int .u64 j2] 130)
      have AB := Za (Zd wo (.cells #[I_ (i : Nat), I_ j0, I_ j1, .int .u64 j2] 130))
      have HR := Za (rk.bel AB.out)
      have HC : Hid (Ch Gk Gk wo (wo.alloc (.cells #[I_ (i : Nat), I_ j0, I_ j1, .int .u64 j2] 130))) := Za (Ch.of_bel AB.out)
      have CK := Za ck
      have AK := Za ak
      have HI2 : Hid (i < rc.ws.length /\ i < rc.pe.length) := Za (by simp only at hmem; omega)
      clear hcs hx kb ak ck rk HI hln hmem
      go_upto_region 3 with fail
      obtain ⟨bx, hbx⟩ : ∃ b, b = wo.heap.size := ⟨_, rfl⟩
      generalize wo.alloc _ = w1 at *
      rw [← hbx] at Zx ⊢
      have LX : Hid (wo.heap.size <= bx) := Za (by omega)
      clear p0 p1 p2 p3 hbx AB
      obtain ⟨⟨gt, c8⟩, c3⟩ := HR.out.c8
      have hgl := HR.out.lt
      by_cases he : rc.e.o = 0
      · rw [he] at c3
        obtain ⟨x, hx⟩ : ∃ x, rc.pe[i]? = some x := ⟨_, List.getElem?_eq_getElem HI2.out.2⟩
        have HE := Za he
        have HX := Za hx
        clear he
        go_upto_region 4 with fail
        obtain ⟨y, hy⟩ : ∃ y, Yw x = y := ⟨_, rfl⟩
        obtain ⟨⟨⟨yk, yo, ya, y0, y1, y2⟩, hf, hn, hc⟩, x2⟩ := y
        obtain ⟨r1, hr1⟩ : ∃ r1 : Rz, r1 = { rc with pe := rc.pe.set i x2 } := ⟨_, rfl⟩
        have NX : Hid (∀ W, Rr W Gk B g S rc -> W.cell? ⟨g, 8, none⟩ = some (P_ gt) -> Calls Tryz.prog 75 #[P_ gt, I_ (i : Nat)] W (RrP W Gk B g S r1 (.tuple #[w6V ⟨yk, yo, ya, (y0, y1, y2)⟩, h3V (hf, hn, hc)]))) := Za (fun W h1 h2 => by
          have := rNext_r h1 h2 i x hx
          rw [hy, ← hr1] at this
          exact this)
        have HA1 : Hid (Yo r (lx.map Prod.fst) (k + 1) = if hf = 0 then { r1 with ws := r1.ws.set i ⟨yk, yo, ya, (y0, y1, y2)⟩ } else { r1 with e := ⟨3, hf, (i : Nat), hn, hc⟩ }) := Za (by
          rw [hst.out]
          unfold ask1Z
          rw [if_pos HE.out, hx]
          simp only [hy, hr1])
        have HL1 : Hid (i < r1.ws.length) := Za (by rw [hr1]; exact HI2.out.1)
        have SS : Hid (AskC w1 g gt bx i) := Za ⟨c8, Zb Zx.out.1 0 _ rfl, hgl, Ze Zx.out.1⟩
        clear hx hy hr1 c8 c3 hgl hst HE HX HI2
        go_cut [6, 7] from 11 to 30 (fun x6 x7 wc => ∃ bw bh G', x6 = P_ bw /\ x7 = P_ bh /\ Hid (Rr wc G' B g S r1 /\ Ch Gk G' wo wc /\ Kb wc G' bw (.cells #[I_ yk, I_ yo, I_ ya, I_ y0, I_ y1, .int .u64 y2] 76 (0, 0)) /\ Kb wc G' bh (.cells #[I_ hf, I_ hn, I_ hc] 100 (0, 0)) /\ Kb wc G' bx (.cells #[I_ (i : Nat), I_ j0, I_ j1, .int .u64 j2] 130 (0, 0))))
        case first =>
          refine ZE (S := fun w' => AskC w' g gt bx i) (fun j => decide (j ≠ 6 /\ j < 12)) ZK (SS.out.al (Zp (Below.refl _ _))) (fun hH => ?_)
          replace SS := Za (SS.out.al (W' := w1.drew) (Zp (Below.refl _ _)))
          replace HR := Za (HR.out.bel (w' := w1.drew) (Zp (Below.refl _ _)))
          replace HC := Za (HC.out.drew)
          replace Zx := Za (Zx.out.bel (W' := w1.drew) (Zp (Below.refl _ _)))
          generalize w1.drew = wd at *
          refine M_ 0 ?_
          simp only [Act.put, S_]
          refine M_ 1 ?_
          simp only [Act.put, S_]
          refine M_ 2 ?_
          simp only [Act.put, S_]
          refine L_ 3 (v := ?_) ?_ hH ?_
          rotate_left 1
          · (intro w hSw; have q := hSw.1; clear hSw; go_simp <;> with_reducible rfl)
          simp only [Act.put, S_]
          refine M_ 4 ?_
          simp only [Act.put, S_]
          refine L_ 5 (v := ?_) ?_ hH ?_
          rotate_left 1
          · (intro w hSw; have q := hSw.2.1; clear hSw; go_simp <;> with_reducible rfl)
          simp only [Act.put, S_]
          clear hH
          refine ZS (rs := [6, 10, 11]) (by kernel_rfl) (by decide) ?_
          refine Zn.keep rfl (fun K1 hK1 => ?_) (Zn.keep rfl (fun K1 hK1 => ?_) (Zn.keep rfl (fun K1 hK1 => ?_) Zn.nil))
          · go_simp
            refine (NX.out wd HR.out SS.out.1).mono ?_
            rintro e V1 ⟨rfl, G', rn, ch⟩
            unfold w6V h3V
            refine hK1.out _ _ (fun h => absurd h (by decide)) ?_
            clear hK1 K1
            have CH := Za ch
            clear SS
            replace Zx := Za (Zx.out.ch CH.out)
            clear HR
            have HR := Za rn
            replace HC := Za (HC.out.trans CH.out)
            clear rn ch CH
            refine M_ 7 ?_
            simp only [Act.put, S_]
            refine M_ 8 ?_
            simp only [Act.put, S_]
            refine M_ 9 ?_
            simp only [Act.put, S_]
            refine ZS (rs := [10, 11]) (by kernel_rfl) (by decide) ?_
            refine Zn.keep rfl (fun K1 hK1 => ?_) (Zn.keep rfl (fun K1 hK1 => ?_) Zn.nil)
            · go_simp
              refine hK1.out _ _ (fun _ hs => hs.al (Zd V1 (.cells #[I_ 0, I_ 0, I_ 0, I_ 0, I_ 0, .int .u64 0] 76))) ?_
              clear hK1 K1
              have Zw := Za (Kb.new HR.out #[I_ 0, I_ 0, I_ 0, I_ 0, I_ 0, .int .u64 0] 76)
              have AB := Za (Zd V1 (.cells #[I_ 0, I_ 0, I_ 0, I_ 0, I_ 0, .int .u64 0] 76))
              have Lw := Za HC.out.size
              replace Zx := Za (Zx.out.bel AB.out)
              replace HR := Za (HR.out.bel AB.out)
              replace HC := Za (HC.out.trans (Ch.of_bel AB.out))
              obtain ⟨bw, hbw⟩ : ∃ b, V1.heap.size = b := ⟨_, rfl⟩
              rw [hbw] at Zw Lw ⊢
              clear AB hbw
              generalize V1.alloc _ = V2 at *
              refine ZS (rs := [11]) (by kernel_rfl) (by decide) ?_
              refine Zn.keep rfl (fun K1 hK1 => ?_) Zn.nil
              go_simp
              refine hK1.out _ _ (fun _ hs => hs.al (Zd V2 (.cells #[I_ 0, I_ 0, I_ 0] 100))) ?_
              clear hK1 K1
              have Zh := Za (Kb.new HR.out #[I_ 0, I_ 0, I_ 0] 100)
              have AB := Za (Zd V2 (.cells #[I_ 0, I_ 0, I_ 0] 100))
              have Lh := Za HC.out.size
              replace Zw := Za (Zw.out.bel AB.out)
              replace Zx := Za (Zx.out.bel AB.out)
              replace HR := Za (HR.out.bel AB.out)
              replace HC := Za (HC.out.trans (Ch.of_bel AB.out))
              obtain ⟨bh, hbh⟩ : ∃ b, V2.heap.size = b := ⟨_, rfl⟩
              rw [hbh] at Zh Lh ⊢
              clear AB hbh
              generalize V2.alloc _ = V3 at *
              refine ZS (rs := [12]) (by kernel_rfl) (by decide) ?_
              refine Zn.keep rfl (fun K1 hK1 => ?_) Zn.nil
              have p0 := Zb Zw.out.1 0 _ rfl
              have p1 := Zb Zw.out.1 1 _ rfl
              have p2 := Zb Zw.out.1 2 _ rfl
              have p3 := Zb Zw.out.1 3 _ rfl
              have p4 := Zb Zw.out.1 4 _ rfl
              have p5 := Zb Zw.out.1 5 _ rfl
              have f0 := Zc Zw.out.1 0
              have f1 := Zc Zw.out.1 1
              have f2 := Zc Zw.out.1 2
              have f3 := Zc Zw.out.1 3
              have f4 := Zc Zw.out.1 4
              have f5 := Zc Zw.out.1 5
              have OO : Hid (∀ k, k ≠ bw -> ((((((V3.setCell ⟨bw, 0, none⟩ (I_ yk)).setCell ⟨bw, 1, none⟩ (I_ yo)).setCell ⟨bw, 2, none⟩ (I_ ya)).setCell ⟨bw, 3, none⟩ (I_ y0)).setCell ⟨bw, 4, none⟩ (I_ y1)).setCell ⟨bw, 5, none⟩ (.int .u64 y2)).heap[k]? = V3.heap[k]?) := Za (fun k hk => ne6 hk)
              have SZ : Hid (((((((V3.setCell ⟨bw, 0, none⟩ (I_ yk)).setCell ⟨bw, 1, none⟩ (I_ yo)).setCell ⟨bw, 2, none⟩ (I_ ya)).setCell ⟨bw, 3, none⟩ (I_ y0)).setCell ⟨bw, 4, none⟩ (I_ y1)).setCell ⟨bw, 5, none⟩ (.int .u64 y2)).heap.size = V3.heap.size) := Za (by simp only [Zi])
              have ZN := Za (show Kb ((((((V3.setCell ⟨bw, 0, none⟩ (I_ yk)).setCell ⟨bw, 1, none⟩ (I_ yo)).setCell ⟨bw, 2, none⟩ (I_ ya)).setCell ⟨bw, 3, none⟩ (I_ y0)).setCell ⟨bw, 4, none⟩ (I_ y1)).setCell ⟨bw, 5, none⟩ (.int .u64 y2)) G' bw (.cells #[I_ yk, I_ yo, I_ ya, I_ y0, I_ y1, .int .u64 y2] 76 (0, 0)) from ⟨set6 Zw.out.1 (I_ yk) (I_ yo) (I_ ya) (I_ y0) (I_ y1) (.int .u64 y2), Zw.out.2⟩)
              have BL : Hid (Below wo.heap.size V3 ((((((V3.setCell ⟨bw, 0, none⟩ (I_ yk)).setCell ⟨bw, 1, none⟩ (I_ yo)).setCell ⟨bw, 2, none⟩ (I_ ya)).setCell ⟨bw, 3, none⟩ (I_ y0)).setCell ⟨bw, 4, none⟩ (I_ y1)).setCell ⟨bw, 5, none⟩ (.int .u64 y2))) := Za (bel6 (Below.refl _ _) Lw.out (I_ yk) (I_ yo) (I_ ya) (I_ y0) (I_ y1) (.int .u64 y2))
              go_simp
              refine hK1.out _ _ (fun h => absurd h (by decide)) ?_
              clear hK1 K1 p0 f0 p1 f1 p2 f2 p3 f3 p4 f4 p5 f5
              replace HR := Za (HR.out.keep (fun k hk => OO.out k (fun e => Zw.out.2 (by rw [← e]; exact hk))) (Nat.le_of_eq SZ.out.symm))
              replace HC := Za (HC.out.below BL.out)
              replace Zh := Za (Zh.out.set (Zm Zh.out.1 Zw.out.1 (by decide)) OO.out)
              replace Zx := Za (Zx.out.set (Zm Zx.out.1 Zw.out.1 (by decide)) OO.out)
              clear Zw
              have Zw := ZN
              clear OO SZ ZN BL
              generalize ((((((V3.setCell ⟨bw, 0, none⟩ (I_ yk)).setCell ⟨bw, 1, none⟩ (I_ yo)).setCell ⟨bw, 2, none⟩ (I_ ya)).setCell ⟨bw, 3, none⟩ (I_ y0)).setCell ⟨bw, 4, none⟩ (I_ y1)).setCell ⟨bw, 5, none⟩ (.int .u64 y2)) = V4 at *
              refine ZS (rs := [13]) (by kernel_rfl) (by decide) ?_
              refine Zn.keep rfl (fun K1 hK1 => ?_) Zn.nil
              have p0 := Zb Zh.out.1 0 _ rfl
              have p1 := Zb Zh.out.1 1 _ rfl
              have p2 := Zb Zh.out.1 2 _ rfl
              have f0 := Zc Zh.out.1 0
              have f1 := Zc Zh.out.1 1
              have f2 := Zc Zh.out.1 2
              have OO : Hid (∀ k, k ≠ bh -> (((V4.setCell ⟨bh, 0, none⟩ (I_ hf)).setCell ⟨bh, 1, none⟩ (I_ hn)).setCell ⟨bh, 2, none⟩ (I_ hc)).heap[k]? = V4.heap[k]?) := Za (fun k hk => ne3 hk)
              have SZ : Hid ((((V4.setCell ⟨bh, 0, none⟩ (I_ hf)).setCell ⟨bh, 1, none⟩ (I_ hn)).setCell ⟨bh, 2, none⟩ (I_ hc)).heap.size = V4.heap.size) := Za (by simp only [Zi])
              have ZN := Za (show Kb (((V4.setCell ⟨bh, 0, none⟩ (I_ hf)).setCell ⟨bh, 1, none⟩ (I_ hn)).setCell ⟨bh, 2, none⟩ (I_ hc)) G' bh (.cells #[I_ hf, I_ hn, I_ hc] 100 (0, 0)) from ⟨YA Zh.out.1 (I_ hf) (I_ hn) (I_ hc), Zh.out.2⟩)
              have BL : Hid (Below wo.heap.size V4 (((V4.setCell ⟨bh, 0, none⟩ (I_ hf)).setCell ⟨bh, 1, none⟩ (I_ hn)).setCell ⟨bh, 2, none⟩ (I_ hc))) := Za (Zt (Below.refl _ _) Lh.out (I_ hf) (I_ hn) (I_ hc))
              go_simp
              refine hK1.out _ _ (fun h => absurd h (by decide)) ?_
              clear hK1 K1 p0 f0 p1 f1 p2 f2
              replace HR := Za (HR.out.keep (fun k hk => OO.out k (fun e => Zh.out.2 (by rw [← e]; exact hk))) (Nat.le_of_eq SZ.out.symm))
              replace HC := Za (HC.out.below BL.out)
              replace Zw := Za (Zw.out.set (Zm Zw.out.1 Zh.out.1 (by decide)) OO.out)
              replace Zx := Za (Zx.out.set (Zm Zx.out.1 Zh.out.1 (by decide)) OO.out)
              clear Zh
              have Zh := ZN
              clear OO SZ ZN BL
              generalize (((V4.setCell ⟨bh, 0, none⟩ (I_ hf)).setCell ⟨bh, 1, none⟩ (I_ hn)).setCell ⟨bh, 2, none⟩ (I_ hc)) = V5 at *
              refine ZX (by kernel_rfl) ?_ _
              go_wp2_with fail
              go_meet
              case rel => exact ⟨bw, bh, G', rfl, rfl, Za ⟨HR.out, HC.out, Zw.out, Zh.out, Zx.out⟩⟩
            · go_simp
              refine hK1.out _ _ (fun _ hs => hs.al (Zd V1 (.cells #[I_ 0, I_ 0, I_ 0] 100))) ?_
              clear hK1 K1
              have Zh := Za (Kb.new HR.out #[I_ 0, I_ 0, I_ 0] 100)
              have AB := Za (Zd V1 (.cells #[I_ 0, I_ 0, I_ 0] 100))
              have Lh := Za HC.out.size
              replace Zx := Za (Zx.out.bel AB.out)
              replace HR := Za (HR.out.bel AB.out)
              replace HC := Za (HC.out.trans (Ch.of_bel AB.out))
              obtain ⟨bh, hbh⟩ : ∃ b, V1.heap.size = b := ⟨_, rfl⟩
              rw [hbh] at Zh Lh ⊢
              clear AB hbh
              generalize V1.alloc _ = V2 at *
              refine ZS (rs := [10]) (by kernel_rfl) (by decide) ?_
              refine Zn.keep rfl (fun K1 hK1 => ?_) Zn.nil
              go_simp
              refine hK1.out _ _ (fun _ hs => hs.al (Zd V2 (.cells #[I_ 0, I_ 0, I_ 0, I_ 0, I_ 0, .int .u64 0] 76))) ?_
              clear hK1 K1
              have Zw := Za (Kb.new HR.out #[I_ 0, I_ 0, I_ 0, I_ 0, I_ 0, .int .u64 0] 76)
              have AB := Za (Zd V2 (.cells #[I_ 0, I_ 0, I_ 0, I_ 0, I_ 0, .int .u64 0] 76))
              have Lw := Za HC.out.size
              replace Zh := Za (Zh.out.bel AB.out)
              replace Zx := Za (Zx.out.bel AB.out)
              replace HR := Za (HR.out.bel AB.out)
              replace HC := Za (HC.out.trans (Ch.of_bel AB.out))
              obtain ⟨bw, hbw⟩ : ∃ b, V2.heap.size = b := ⟨_, rfl⟩
              rw [hbw] at Zw Lw ⊢
              clear AB hbw
              generalize V2.alloc _ = V3 at *
              refine ZS (rs := [12]) (by kernel_rfl) (by decide) ?_
              refine Zn.keep rfl (fun K1 hK1 => ?_) Zn.nil
              have p0 := Zb Zw.out.1 0 _ rfl
              have p1 := Zb Zw.out.1 1 _ rfl
              have p2 := Zb Zw.out.1 2 _ rfl
              have p3 := Zb Zw.out.1 3 _ rfl
              have p4 := Zb Zw.out.1 4 _ rfl
              have p5 := Zb Zw.out.1 5 _ rfl
              have f0 := Zc Zw.out.1 0
              have f1 := Zc Zw.out.1 1
              have f2 := Zc Zw.out.1 2
              have f3 := Zc Zw.out.1 3
              have f4 := Zc Zw.out.1 4
              have f5 := Zc Zw.out.1 5
              have OO : Hid (∀ k, k ≠ bw -> ((((((V3.setCell ⟨bw, 0, none⟩ (I_ yk)).setCell ⟨bw, 1, none⟩ (I_ yo)).setCell ⟨bw, 2, none⟩ (I_ ya)).setCell ⟨bw, 3, none⟩ (I_ y0)).setCell ⟨bw, 4, none⟩ (I_ y1)).setCell ⟨bw, 5, none⟩ (.int .u64 y2)).heap[k]? = V3.heap[k]?) := Za (fun k hk => ne6 hk)
              have SZ : Hid (((((((V3.setCell ⟨bw, 0, none⟩ (I_ yk)).setCell ⟨bw, 1, none⟩ (I_ yo)).setCell ⟨bw, 2, none⟩ (I_ ya)).setCell ⟨bw, 3, none⟩ (I_ y0)).setCell ⟨bw, 4, none⟩ (I_ y1)).setCell ⟨bw, 5, none⟩ (.int .u64 y2)).heap.size = V3.heap.size) := Za (by simp only [Zi])
              have ZN := Za (show Kb ((((((V3.setCell ⟨bw, 0, none⟩ (I_ yk)).setCell ⟨bw, 1, none⟩ (I_ yo)).setCell ⟨bw, 2, none⟩ (I_ ya)).setCell ⟨bw, 3, none⟩ (I_ y0)).setCell ⟨bw, 4, none⟩ (I_ y1)).setCell ⟨bw, 5, none⟩ (.int .u64 y2)) G' bw (.cells #[I_ yk, I_ yo, I_ ya, I_ y0, I_ y1, .int .u64 y2] 76 (0, 0)) from ⟨set6 Zw.out.1 (I_ yk) (I_ yo) (I_ ya) (I_ y0) (I_ y1) (.int .u64 y2), Zw.out.2⟩)
              have BL : Hid (Below wo.heap.size V3 ((((((V3.setCell ⟨bw, 0, none⟩ (I_ yk)).setCell ⟨bw, 1, none⟩ (I_ yo)).setCell ⟨bw, 2, none⟩ (I_ ya)).setCell ⟨bw, 3, none⟩ (I_ y0)).setCell ⟨bw, 4, none⟩ (I_ y1)).setCell ⟨bw, 5, none⟩ (.int .u64 y2))) := Za (bel6 (Below.refl _ _) Lw.out (I_ yk) (I_ yo) (I_ ya) (I_ y0) (I_ y1) (.int .u64 y2))
              go_simp
              refine hK1.out _ _ (fun h => absurd h (by decide)) ?_
              clear hK1 K1 p0 f0 p1 f1 p2 f2 p3 f3 p4 f4 p5 f5
              replace HR := Za (HR.out.keep (fun k hk => OO.out k (fun e => Zw.out.2 (by rw [← e]; exact hk))) (Nat.le_of_eq SZ.out.symm))
              replace HC := Za (HC.out.below BL.out)
              replace Zh := Za (Zh.out.set (Zm Zh.out.1 Zw.out.1 (by decide)) OO.out)
              replace Zx := Za (Zx.out.set (Zm Zx.out.1 Zw.out.1 (by decide)) OO.out)
              clear Zw
              have Zw := ZN
              clear OO SZ ZN BL
              generalize ((((((V3.setCell ⟨bw, 0, none⟩ (I_ yk)).setCell ⟨bw, 1, none⟩ (I_ yo)).setCell ⟨bw, 2, none⟩ (I_ ya)).setCell ⟨bw, 3, none⟩ (I_ y0)).setCell ⟨bw, 4, none⟩ (I_ y1)).setCell ⟨bw, 5, none⟩ (.int .u64 y2)) = V4 at *
              refine ZS (rs := [13]) (by kernel_rfl) (by decide) ?_
              refine Zn.keep rfl (fun K1 hK1 => ?_) Zn.nil
              have p0 := Zb Zh.out.1 0 _ rfl
              have p1 := Zb Zh.out.1 1 _ rfl
              have p2 := Zb Zh.out.1 2 _ rfl
              have f0 := Zc Zh.out.1 0
              have f1 := Zc Zh.out.1 1
              have f2 := Zc Zh.out.1 2
              have OO : Hid (∀ k, k ≠ bh -> (((V4.setCell ⟨bh, 0, none⟩ (I_ hf)).setCell ⟨bh, 1, none⟩ (I_ hn)).setCell ⟨bh, 2, none⟩ (I_ hc)).heap[k]? = V4.heap[k]?) := Za (fun k hk => ne3 hk)
              have SZ : Hid ((((V4.setCell ⟨bh, 0, none⟩ (I_ hf)).setCell ⟨bh, 1, none⟩ (I_ hn)).setCell ⟨bh, 2, none⟩ (I_ hc)).heap.size = V4.heap.size) := Za (by simp only [Zi])
              have ZN := Za (show Kb (((V4.setCell ⟨bh, 0, none⟩ (I_ hf)).setCell ⟨bh, 1, none⟩ (I_ hn)).setCell ⟨bh, 2, none⟩ (I_ hc)) G' bh (.cells #[I_ hf, I_ hn, I_ hc] 100 (0, 0)) from ⟨YA Zh.out.1 (I_ hf) (I_ hn) (I_ hc), Zh.out.2⟩)
              have BL : Hid (Below wo.heap.size V4 (((V4.setCell ⟨bh, 0, none⟩ (I_ hf)).setCell ⟨bh, 1, none⟩ (I_ hn)).setCell ⟨bh, 2, none⟩ (I_ hc))) := Za (Zt (Below.refl _ _) Lh.out (I_ hf) (I_ hn) (I_ hc))
              go_simp
              refine hK1.out _ _ (fun h => absurd h (by decide)) ?_
              clear hK1 K1 p0 f0 p1 f1 p2 f2
              replace HR := Za (HR.out.keep (fun k hk => OO.out k (fun e => Zh.out.2 (by rw [← e]; exact hk))) (Nat.le_of_eq SZ.out.symm))
              replace HC := Za (HC.out.below BL.out)
              replace Zw := Za (Zw.out.set (Zm Zw.out.1 Zh.out.1 (by decide)) OO.out)
              replace Zx := Za (Zx.out.set (Zm Zx.out.1 Zh.out.1 (by decide)) OO.out)
              clear Zh
              have Zh := ZN
              clear OO SZ ZN BL
              generalize (((V4.setCell ⟨bh, 0, none⟩ (I_ hf)).setCell ⟨bh, 1, none⟩ (I_ hn)).setCell ⟨bh, 2, none⟩ (I_ hc)) = V5 at *
              refine ZX (by kernel_rfl) ?_ _
              go_wp2_with fail
              go_meet
              case rel => exact ⟨bw, bh, G', rfl, rfl, Za ⟨HR.out, HC.out, Zw.out, Zh.out, Zx.out⟩⟩
          · go_simp
            refine hK1.out _ _ (fun _ hs => hs.al (Zd wd (.cells #[I_ 0, I_ 0, I_ 0, I_ 0, I_ 0, .int .u64 0] 76))) ?_
            clear hK1 K1
            have Zw := Za (Kb.new HR.out #[I_ 0, I_ 0, I_ 0, I_ 0, I_ 0, .int .u64 0] 76)
            have AB := Za (Zd wd (.cells #[I_ 0, I_ 0, I_ 0, I_ 0, I_ 0, .int .u64 0] 76))
            have Lw := Za HC.out.size
            replace SS := Za (SS.out.al AB.out)
            replace Zx := Za (Zx.out.bel AB.out)
            replace HR := Za (HR.out.bel AB.out)
            replace HC := Za (HC.out.trans (Ch.of_bel AB.out))
            obtain ⟨bw, hbw⟩ : ∃ b, wd.heap.size = b := ⟨_, rfl⟩
            rw [hbw] at Zw Lw ⊢
            clear AB hbw
            generalize wd.alloc _ = V1 at *
            refine ZS (rs := [6, 11]) (by kernel_rfl) (by decide) ?_
            refine Zn.keep rfl (fun K1 hK1 => ?_) (Zn.keep rfl (fun K1 hK1 => ?_) Zn.nil)
            · go_simp
              refine (NX.out V1 HR.out SS.out.1).mono ?_
              rintro e V2 ⟨rfl, G', rn, ch⟩
              unfold w6V h3V
              refine hK1.out _ _ (fun h => absurd h (by decide)) ?_
              clear hK1 K1
              have CH := Za ch
              clear SS
              replace Zw := Za (Zw.out.ch CH.out)
              replace Zx := Za (Zx.out.ch CH.out)
              clear HR
              have HR := Za rn
              replace HC := Za (HC.out.trans CH.out)
              clear rn ch CH
              refine M_ 7 ?_
              simp only [Act.put, S_]
              refine M_ 8 ?_
              simp only [Act.put, S_]
              refine M_ 9 ?_
              simp only [Act.put, S_]
              refine ZS (rs := [11]) (by kernel_rfl) (by decide) ?_
              refine Zn.keep rfl (fun K1 hK1 => ?_) Zn.nil
              go_simp
              refine hK1.out _ _ (fun _ hs => hs.al (Zd V2 (.cells #[I_ 0, I_ 0, I_ 0] 100))) ?_
              clear hK1 K1
              have Zh := Za (Kb.new HR.out #[I_ 0, I_ 0, I_ 0] 100)
              have AB := Za (Zd V2 (.cells #[I_ 0, I_ 0, I_ 0] 100))
              have Lh := Za HC.out.size
              replace Zw := Za (Zw.out.bel AB.out)
              replace Zx := Za (Zx.out.bel AB.out)
              replace HR := Za (HR.out.bel AB.out)
              replace HC := Za (HC.out.trans (Ch.of_bel AB.out))
              obtain ⟨bh, hbh⟩ : ∃ b, V2.heap.size = b := ⟨_, rfl⟩
              rw [hbh] at Zh Lh ⊢
              clear AB hbh
              generalize V2.alloc _ = V3 at *
              refine ZS (rs := [12]) (by kernel_rfl) (by decide) ?_
              refine Zn.keep rfl (fun K1 hK1 => ?_) Zn.nil
              have p0 := Zb Zw.out.1 0 _ rfl
              have p1 := Zb Zw.out.1 1 _ rfl
              have p2 := Zb Zw.out.1 2 _ rfl
              have p3 := Zb Zw.out.1 3 _ rfl
              have p4 := Zb Zw.out.1 4 _ rfl
              have p5 := Zb Zw.out.1 5 _ rfl
              have f0 := Zc Zw.out.1 0
              have f1 := Zc Zw.out.1 1
              have f2 := Zc Zw.out.1 2
              have f3 := Zc Zw.out.1 3
              have f4 := Zc Zw.out.1 4
              have f5 := Zc Zw.out.1 5
              have OO : Hid (∀ k, k ≠ bw -> ((((((V3.setCell ⟨bw, 0, none⟩ (I_ yk)).setCell ⟨bw, 1, none⟩ (I_ yo)).setCell ⟨bw, 2, none⟩ (I_ ya)).setCell ⟨bw, 3, none⟩ (I_ y0)).setCell ⟨bw, 4, none⟩ (I_ y1)).setCell ⟨bw, 5, none⟩ (.int .u64 y2)).heap[k]? = V3.heap[k]?) := Za (fun k hk => ne6 hk)
              have SZ : Hid (((((((V3.setCell ⟨bw, 0, none⟩ (I_ yk)).setCell ⟨bw, 1, none⟩ (I_ yo)).setCell ⟨bw, 2, none⟩ (I_ ya)).setCell ⟨bw, 3, none⟩ (I_ y0)).setCell ⟨bw, 4, none⟩ (I_ y1)).setCell ⟨bw, 5, none⟩ (.int .u64 y2)).heap.size = V3.heap.size) := Za (by simp only [Zi])
              have ZN := Za (show Kb ((((((V3.setCell ⟨bw, 0, none⟩ (I_ yk)).setCell ⟨bw, 1, none⟩ (I_ yo)).setCell ⟨bw, 2, none⟩ (I_ ya)).setCell ⟨bw, 3, none⟩ (I_ y0)).setCell ⟨bw, 4, none⟩ (I_ y1)).setCell ⟨bw, 5, none⟩ (.int .u64 y2)) G' bw (.cells #[I_ yk, I_ yo, I_ ya, I_ y0, I_ y1, .int .u64 y2] 76 (0, 0)) from ⟨set6 Zw.out.1 (I_ yk) (I_ yo) (I_ ya) (I_ y0) (I_ y1) (.int .u64 y2), Zw.out.2⟩)
              have BL : Hid (Below wo.heap.size V3 ((((((V3.setCell ⟨bw, 0, none⟩ (I_ yk)).setCell ⟨bw, 1, none⟩ (I_ yo)).setCell ⟨bw, 2, none⟩ (I_ ya)).setCell ⟨bw, 3, none⟩ (I_ y0)).setCell ⟨bw, 4, none⟩ (I_ y1)).setCell ⟨bw, 5, none⟩ (.int .u64 y2))) := Za (bel6 (Below.refl _ _) Lw.out (I_ yk) (I_ yo) (I_ ya) (I_ y0) (I_ y1) (.int .u64 y2))
              go_simp
              refine hK1.out _ _ (fun h => absurd h (by decide)) ?_
              clear hK1 K1 p0 f0 p1 f1 p2 f2 p3 f3 p4 f4 p5 f5
              replace HR := Za (HR.out.keep (fun k hk => OO.out k (fun e => Zw.out.2 (by rw [← e]; exact hk))) (Nat.le_of_eq SZ.out.symm))
              replace HC := Za (HC.out.below BL.out)
              replace Zh := Za (Zh.out.set (Zm Zh.out.1 Zw.out.1 (by decide)) OO.out)
              replace Zx := Za (Zx.out.set (Zm Zx.out.1 Zw.out.1 (by decide)) OO.out)
              clear Zw
              have Zw := ZN
              clear OO SZ ZN BL
              generalize ((((((V3.setCell ⟨bw, 0, none⟩ (I_ yk)).setCell ⟨bw, 1, none⟩ (I_ yo)).setCell ⟨bw, 2, none⟩ (I_ ya)).setCell ⟨bw, 3, none⟩ (I_ y0)).setCell ⟨bw, 4, none⟩ (I_ y1)).setCell ⟨bw, 5, none⟩ (.int .u64 y2)) = V4 at *
              refine ZS (rs := [13]) (by kernel_rfl) (by decide) ?_
              refine Zn.keep rfl (fun K1 hK1 => ?_) Zn.nil
              have p0 := Zb Zh.out.1 0 _ rfl
              have p1 := Zb Zh.out.1 1 _ rfl
              have p2 := Zb Zh.out.1 2 _ rfl
              have f0 := Zc Zh.out.1 0
              have f1 := Zc Zh.out.1 1
              have f2 := Zc Zh.out.1 2
              have OO : Hid (∀ k, k ≠ bh -> (((V4.setCell ⟨bh, 0, none⟩ (I_ hf)).setCell ⟨bh, 1, none⟩ (I_ hn)).setCell ⟨bh, 2, none⟩ (I_ hc)).heap[k]? = V4.heap[k]?) := Za (fun k hk => ne3 hk)
              have SZ : Hid ((((V4.setCell ⟨bh, 0, none⟩ (I_ hf)).setCell ⟨bh, 1, none⟩ (I_ hn)).setCell ⟨bh, 2, none⟩ (I_ hc)).heap.size = V4.heap.size) := Za (by simp only [Zi])
              have ZN := Za (show Kb (((V4.setCell ⟨bh, 0, none⟩ (I_ hf)).setCell ⟨bh, 1, none⟩ (I_ hn)).setCell ⟨bh, 2, none⟩ (I_ hc)) G' bh (.cells #[I_ hf, I_ hn, I_ hc] 100 (0, 0)) from ⟨YA Zh.out.1 (I_ hf) (I_ hn) (I_ hc), Zh.out.2⟩)
              have BL : Hid (Below wo.heap.size V4 (((V4.setCell ⟨bh, 0, none⟩ (I_ hf)).setCell ⟨bh, 1, none⟩ (I_ hn)).setCell ⟨bh, 2, none⟩ (I_ hc))) := Za (Zt (Below.refl _ _) Lh.out (I_ hf) (I_ hn) (I_ hc))
              go_simp
              refine hK1.out _ _ (fun h => absurd h (by decide)) ?_
              clear hK1 K1 p0 f0 p1 f1 p2 f2
              replace HR := Za (HR.out.keep (fun k hk => OO.out k (fun e => Zh.out.2 (by rw [← e]; exact hk))) (Nat.le_of_eq SZ.out.symm))
              replace HC := Za (HC.out.below BL.out)
              replace Zw := Za (Zw.out.set (Zm Zw.out.1 Zh.out.1 (by decide)) OO.out)
              replace Zx := Za (Zx.out.set (Zm Zx.out.1 Zh.out.1 (by decide)) OO.out)
              clear Zh
              have Zh := ZN
              clear OO SZ ZN BL
              generalize (((V4.setCell ⟨bh, 0, none⟩ (I_ hf)).setCell ⟨bh, 1, none⟩ (I_ hn)).setCell ⟨bh, 2, none⟩ (I_ hc)) = V5 at *
              refine ZX (by kernel_rfl) ?_ _
              go_wp2_with fail
              go_meet
              case rel => exact ⟨bw, bh, G', rfl, rfl, Za ⟨HR.out, HC.out, Zw.out, Zh.out, Zx.out⟩⟩
            · go_simp
              refine hK1.out _ _ (fun _ hs => hs.al (Zd V1 (.cells #[I_ 0, I_ 0, I_ 0] 100))) ?_
              clear hK1 K1
              have Zh := Za (Kb.new HR.out #[I_ 0, I_ 0, I_ 0] 100)
              have AB := Za (Zd V1 (.cells #[I_ 0, I_ 0, I_ 0] 100))
              have Lh := Za HC.out.size
              replace SS := Za (SS.out.al AB.out)
              replace Zw := Za (Zw.out.bel AB.out)
              replace Zx := Za (Zx.out.bel AB.out)
              replace HR := Za (HR.out.bel AB.out)
              replace HC := Za (HC.out.trans (Ch.of_bel AB.out))
              obtain ⟨bh, hbh⟩ : ∃ b, V1.heap.size = b := ⟨_, rfl⟩
              rw [hbh] at Zh Lh ⊢
              clear AB hbh
              generalize V1.alloc _ = V2 at *
              refine ZS (rs := [6]) (by kernel_rfl) (by decide) ?_
              refine Zn.keep rfl (fun K1 hK1 => ?_) Zn.nil
              go_simp
              refine (NX.out V2 HR.out SS.out.1).mono ?_
              rintro e V3 ⟨rfl, G', rn, ch⟩
              unfold w6V h3V
              refine hK1.out _ _ (fun h => absurd h (by decide)) ?_
              clear hK1 K1
              have CH := Za ch
              clear SS
              replace Zw := Za (Zw.out.ch CH.out)
              replace Zh := Za (Zh.out.ch CH.out)
              replace Zx := Za (Zx.out.ch CH.out)
              clear HR
              have HR := Za rn
              replace HC := Za (HC.out.trans CH.out)
              clear rn ch CH
              refine M_ 7 ?_
              simp only [Act.put, S_]
              refine M_ 8 ?_
              simp only [Act.put, S_]
              refine M_ 9 ?_
              simp only [Act.put, S_]
              refine ZS (rs := [12]) (by kernel_rfl) (by decide) ?_
              refine Zn.keep rfl (fun K1 hK1 => ?_) Zn.nil
              have p0 := Zb Zw.out.1 0 _ rfl
              have p1 := Zb Zw.out.1 1 _ rfl
              have p2 := Zb Zw.out.1 2 _ rfl
              have p3 := Zb Zw.out.1 3 _ rfl
              have p4 := Zb Zw.out.1 4 _ rfl
              have p5 := Zb Zw.out.1 5 _ rfl
              have f0 := Zc Zw.out.1 0
              have f1 := Zc Zw.out.1 1
              have f2 := Zc Zw.out.1 2
              have f3 := Zc Zw.out.1 3
              have f4 := Zc Zw.out.1 4
              have f5 := Zc Zw.out.1 5
              have OO : Hid (∀ k, k ≠ bw -> ((((((V3.setCell ⟨bw, 0, none⟩ (I_ yk)).setCell ⟨bw, 1, none⟩ (I_ yo)).setCell ⟨bw, 2, none⟩ (I_ ya)).setCell ⟨bw, 3, none⟩ (I_ y0)).setCell ⟨bw, 4, none⟩ (I_ y1)).setCell ⟨bw, 5, none⟩ (.int .u64 y2)).heap[k]? = V3.heap[k]?) := Za (fun k hk => ne6 hk)
              have SZ : Hid (((((((V3.setCell ⟨bw, 0, none⟩ (I_ yk)).setCell ⟨bw, 1, none⟩ (I_ yo)).setCell ⟨bw, 2, none⟩ (I_ ya)).setCell ⟨bw, 3, none⟩ (I_ y0)).setCell ⟨bw, 4, none⟩ (I_ y1)).setCell ⟨bw, 5, none⟩ (.int .u64 y2)).heap.size = V3.heap.size) := Za (by simp only [Zi])
              have ZN := Za (show Kb ((((((V3.setCell ⟨bw, 0, none⟩ (I_ yk)).setCell ⟨bw, 1, none⟩ (I_ yo)).setCell ⟨bw, 2, none⟩ (I_ ya)).setCell ⟨bw, 3, none⟩ (I_ y0)).setCell ⟨bw, 4, none⟩ (I_ y1)).setCell ⟨bw, 5, none⟩ (.int .u64 y2)) G' bw (.cells #[I_ yk, I_ yo, I_ ya, I_ y0, I_ y1, .int .u64 y2] 76 (0, 0)) from ⟨set6 Zw.out.1 (I_ yk) (I_ yo) (I_ ya) (I_ y0) (I_ y1) (.int .u64 y2), Zw.out.2⟩)
              have BL : Hid (Below wo.heap.size V3 ((((((V3.setCell ⟨bw, 0, none⟩ (I_ yk)).setCell ⟨bw, 1, none⟩ (I_ yo)).setCell ⟨bw, 2, none⟩ (I_ ya)).setCell ⟨bw, 3, none⟩ (I_ y0)).setCell ⟨bw, 4, none⟩ (I_ y1)).setCell ⟨bw, 5, none⟩ (.int .u64 y2))) := Za (bel6 (Below.refl _ _) Lw.out (I_ yk) (I_ yo) (I_ ya) (I_ y0) (I_ y1) (.int .u64 y2))
              go_simp
              refine hK1.out _ _ (fun h => absurd h (by decide)) ?_
              clear hK1 K1 p0 f0 p1 f1 p2 f2 p3 f3 p4 f4 p5 f5
              replace HR := Za (HR.out.keep (fun k hk => OO.out k (fun e => Zw.out.2 (by rw [← e]; exact hk))) (Nat.le_of_eq SZ.out.symm))
              replace HC := Za (HC.out.below BL.out)
              replace Zh := Za (Zh.out.set (Zm Zh.out.1 Zw.out.1 (by decide)) OO.out)
              replace Zx := Za (Zx.out.set (Zm Zx.out.1 Zw.out.1 (by decide)) OO.out)
              clear Zw
              have Zw := ZN
              clear OO SZ ZN BL
              generalize ((((((V3.setCell ⟨bw, 0, none⟩ (I_ yk)).setCell ⟨bw, 1, none⟩ (I_ yo)).setCell ⟨bw, 2, none⟩ (I_ ya)).setCell ⟨bw, 3, none⟩ (I_ y0)).setCell ⟨bw, 4, none⟩ (I_ y1)).setCell ⟨bw, 5, none⟩ (.int .u64 y2)) = V4 at *
              refine ZS (rs := [13]) (by kernel_rfl) (by decide) ?_
              refine Zn.keep rfl (fun K1 hK1 => ?_) Zn.nil
              have p0 := Zb Zh.out.1 0 _ rfl
              have p1 := Zb Zh.out.1 1 _ rfl
              have p2 := Zb Zh.out.1 2 _ rfl
              have f0 := Zc Zh.out.1 0
              have f1 := Zc Zh.out.1 1
              have f2 := Zc Zh.out.1 2
              have OO : Hid (∀ k, k ≠ bh -> (((V4.setCell ⟨bh, 0, none⟩ (I_ hf)).setCell ⟨bh, 1, none⟩ (I_ hn)).setCell ⟨bh, 2, none⟩ (I_ hc)).heap[k]? = V4.heap[k]?) := Za (fun k hk => ne3 hk)
              have SZ : Hid ((((V4.setCell ⟨bh, 0, none⟩ (I_ hf)).setCell ⟨bh, 1, none⟩ (I_ hn)).setCell ⟨bh, 2, none⟩ (I_ hc)).heap.size = V4.heap.size) := Za (by simp only [Zi])
              have ZN := Za (show Kb (((V4.setCell ⟨bh, 0, none⟩ (I_ hf)).setCell ⟨bh, 1, none⟩ (I_ hn)).setCell ⟨bh, 2, none⟩ (I_ hc)) G' bh (.cells #[I_ hf, I_ hn, I_ hc] 100 (0, 0)) from ⟨YA Zh.out.1 (I_ hf) (I_ hn) (I_ hc), Zh.out.2⟩)
              have BL : Hid (Below wo.heap.size V4 (((V4.setCell ⟨bh, 0, none⟩ (I_ hf)).setCell ⟨bh, 1, none⟩ (I_ hn)).setCell ⟨bh, 2, none⟩ (I_ hc))) := Za (Zt (Below.refl _ _) Lh.out (I_ hf) (I_ hn) (I_ hc))
              go_simp
              refine hK1.out _ _ (fun h => absurd h (by decide)) ?_
              clear hK1 K1 p0 f0 p1 f1 p2 f2
              replace HR := Za (HR.out.keep (fun k hk => OO.out k (fun e => Zh.out.2 (by rw [← e]; exact hk))) (Nat.le_of_eq SZ.out.symm))
              replace HC := Za (HC.out.below BL.out)
              replace Zw := Za (Zw.out.set (Zm Zw.out.1 Zh.out.1 (by decide)) OO.out)
              replace Zx := Za (Zx.out.set (Zm Zx.out.1 Zh.out.1 (by decide)) OO.out)
              clear Zh
              have Zh := ZN
              clear OO SZ ZN BL
              generalize (((V4.setCell ⟨bh, 0, none⟩ (I_ hf)).setCell ⟨bh, 1, none⟩ (I_ hn)).setCell ⟨bh, 2, none⟩ (I_ hc)) = V5 at *
              refine ZX (by kernel_rfl) ?_ _
              go_wp2_with fail
              go_meet
              case rel => exact ⟨bw, bh, G', rfl, rfl, Za ⟨HR.out, HC.out, Zw.out, Zh.out, Zx.out⟩⟩
          · go_simp
            refine hK1.out _ _ (fun _ hs => hs.al (Zd wd (.cells #[I_ 0, I_ 0, I_ 0] 100))) ?_
            clear hK1 K1
            have Zh := Za (Kb.new HR.out #[I_ 0, I_ 0, I_ 0] 100)
            have AB := Za (Zd wd (.cells #[I_ 0, I_ 0, I_ 0] 100))
            have Lh := Za HC.out.size
            replace SS := Za (SS.out.al AB.out)
            replace Zx := Za (Zx.out.bel AB.out)
            replace HR := Za (HR.out.bel AB.out)
            replace HC := Za (HC.out.trans (Ch.of_bel AB.out))
            obtain ⟨bh, hbh⟩ : ∃ b, wd.heap.size = b := ⟨_, rfl⟩
            rw [hbh] at Zh Lh ⊢
            clear AB hbh
            generalize wd.alloc _ = V1 at *
            refine ZS (rs := [6, 10]) (by kernel_rfl) (by decide) ?_
            refine Zn.keep rfl (fun K1 hK1 => ?_) (Zn.keep rfl (fun K1 hK1 => ?_) Zn.nil)
            · go_simp
              refine (NX.out V1 HR.out SS.out.1).mono ?_
              rintro e V2 ⟨rfl, G', rn, ch⟩
              unfold w6V h3V
              refine hK1.out _ _ (fun h => absurd h (by decide)) ?_
              clear hK1 K1
              have CH := Za ch
              clear SS
              replace Zh := Za (Zh.out.ch CH.out)
              replace Zx := Za (Zx.out.ch CH.out)
              clear HR
              have HR := Za rn
              replace HC := Za (HC.out.trans CH.out)
              clear rn ch CH
              refine M_ 7 ?_
              simp only [Act.put, S_]
              refine M_ 8 ?_
              simp only [Act.put, S_]
              refine M_ 9 ?_
              simp only [Act.put, S_]
              refine ZS (rs := [10]) (by kernel_rfl) (by decide) ?_
              refine Zn.keep rfl (fun K1 hK1 => ?_) Zn.nil
              go_simp
              refine hK1.out _ _ (fun _ hs => hs.al (Zd V2 (.cells #[I_ 0, I_ 0, I_ 0, I_ 0, I_ 0, .int .u64 0] 76))) ?_
              clear hK1 K1
              have Zw := Za (Kb.new HR.out #[I_ 0, I_ 0, I_ 0, I_ 0, I_ 0, .int .u64 0] 76)
              have AB := Za (Zd V2 (.cells #[I_ 0, I_ 0, I_ 0, I_ 0, I_ 0, .int .u64 0] 76))
              have Lw := Za HC.out.size
              replace Zh := Za (Zh.out.bel AB.out)
              replace Zx := Za (Zx.out.bel AB.out)
              replace HR := Za (HR.out.bel AB.out)
              replace HC := Za (HC.out.trans (Ch.of_bel AB.out))
              obtain ⟨bw, hbw⟩ : ∃ b, V2.heap.size = b := ⟨_, rfl⟩
              rw [hbw] at Zw Lw ⊢
              clear AB hbw
              generalize V2.alloc _ = V3 at *
              refine ZS (rs := [12]) (by kernel_rfl) (by decide) ?_
              refine Zn.keep rfl (fun K1 hK1 => ?_) Zn.nil
              have p0 := Zb Zw.out.1 0 _ rfl
              have p1 := Zb Zw.out.1 1 _ rfl
              have p2 := Zb Zw.out.1 2 _ rfl
              have p3 := Zb Zw.out.1 3 _ rfl
              have p4 := Zb Zw.out.1 4 _ rfl
              have p5 := Zb Zw.out.1 5 _ rfl
              have f0 := Zc Zw.out.1 0
              have f1 := Zc Zw.out.1 1
              have f2 := Zc Zw.out.1 2
              have f3 := Zc Zw.out.1 3
              have f4 := Zc Zw.out.1 4
              have f5 := Zc Zw.out.1 5
              have OO : Hid (∀ k, k ≠ bw -> ((((((V3.setCell ⟨bw, 0, none⟩ (I_ yk)).setCell ⟨bw, 1, none⟩ (I_ yo)).setCell ⟨bw, 2, none⟩ (I_ ya)).setCell ⟨bw, 3, none⟩ (I_ y0)).setCell ⟨bw, 4, none⟩ (I_ y1)).setCell ⟨bw, 5, none⟩ (.int .u64 y2)).heap[k]? = V3.heap[k]?) := Za (fun k hk => ne6 hk)
              have SZ : Hid (((((((V3.setCell ⟨bw, 0, none⟩ (I_ yk)).setCell ⟨bw, 1, none⟩ (I_ yo)).setCell ⟨bw, 2, none⟩ (I_ ya)).setCell ⟨bw, 3, none⟩ (I_ y0)).setCell ⟨bw, 4, none⟩ (I_ y1)).setCell ⟨bw, 5, none⟩ (.int .u64 y2)).heap.size = V3.heap.size) := Za (by simp only [Zi])
              have ZN := Za (show Kb ((((((V3.setCell ⟨bw, 0, none⟩ (I_ yk)).setCell ⟨bw, 1, none⟩ (I_ yo)).setCell ⟨bw, 2, none⟩ (I_ ya)).setCell ⟨bw, 3, none⟩ (I_ y0)).setCell ⟨bw, 4, none⟩ (I_ y1)).setCell ⟨bw, 5, none⟩ (.int .u64 y2)) G' bw (.cells #[I_ yk, I_ yo, I_ ya, I_ y0, I_ y1, .int .u64 y2] 76 (0, 0)) from ⟨set6 Zw.out.1 (I_ yk) (I_ yo) (I_ ya) (I_ y0) (I_ y1) (.int .u64 y2), Zw.out.2⟩)
              have BL : Hid (Below wo.heap.size V3 ((((((V3.setCell ⟨bw, 0, none⟩ (I_ yk)).setCell ⟨bw, 1, none⟩ (I_ yo)).setCell ⟨bw, 2, none⟩ (I_ ya)).setCell ⟨bw, 3, none⟩ (I_ y0)).setCell ⟨bw, 4, none⟩ (I_ y1)).setCell ⟨bw, 5, none⟩ (.int .u64 y2))) := Za (bel6 (Below.refl _ _) Lw.out (I_ yk) (I_ yo) (I_ ya) (I_ y0) (I_ y1) (.int .u64 y2))
              go_simp
              refine hK1.out _ _ (fun h => absurd h (by decide)) ?_
              clear hK1 K1 p0 f0 p1 f1 p2 f2 p3 f3 p4 f4 p5 f5
              replace HR := Za (HR.out.keep (fun k hk => OO.out k (fun e => Zw.out.2 (by rw [← e]; exact hk))) (Nat.le_of_eq SZ.out.symm))
              replace HC := Za (HC.out.below BL.out)
              replace Zh := Za (Zh.out.set (Zm Zh.out.1 Zw.out.1 (by decide)) OO.out)
              replace Zx := Za (Zx.out.set (Zm Zx.out.1 Zw.out.1 (by decide)) OO.out)
              clear Zw
              have Zw := ZN
              clear OO SZ ZN BL
              generalize ((((((V3.setCell ⟨bw, 0, none⟩ (I_ yk)).setCell ⟨bw, 1, none⟩ (I_ yo)).setCell ⟨bw, 2, none⟩ (I_ ya)).setCell ⟨bw, 3, none⟩ (I_ y0)).setCell ⟨bw, 4, none⟩ (I_ y1)).setCell ⟨bw, 5, none⟩ (.int .u64 y2)) = V4 at *
              refine ZS (rs := [13]) (by kernel_rfl) (by decide) ?_
              refine Zn.keep rfl (fun K1 hK1 => ?_) Zn.nil
              have p0 := Zb Zh.out.1 0 _ rfl
              have p1 := Zb Zh.out.1 1 _ rfl
              have p2 := Zb Zh.out.1 2 _ rfl
              have f0 := Zc Zh.out.1 0
              have f1 := Zc Zh.out.1 1
              have f2 := Zc Zh.out.1 2
              have OO : Hid (∀ k, k ≠ bh -> (((V4.setCell ⟨bh, 0, none⟩ (I_ hf)).setCell ⟨bh, 1, none⟩ (I_ hn)).setCell ⟨bh, 2, none⟩ (I_ hc)).heap[k]? = V4.heap[k]?) := Za (fun k hk => ne3 hk)
              have SZ : Hid ((((V4.setCell ⟨bh, 0, none⟩ (I_ hf)).setCell ⟨bh, 1, none⟩ (I_ hn)).setCell ⟨bh, 2, none⟩ (I_ hc)).heap.size = V4.heap.size) := Za (by simp only [Zi])
              have ZN := Za (show Kb (((V4.setCell ⟨bh, 0, none⟩ (I_ hf)).setCell ⟨bh, 1, none⟩ (I_ hn)).setCell ⟨bh, 2, none⟩ (I_ hc)) G' bh (.cells #[I_ hf, I_ hn, I_ hc] 100 (0, 0)) from ⟨YA Zh.out.1 (I_ hf) (I_ hn) (I_ hc), Zh.out.2⟩)
              have BL : Hid (Below wo.heap.size V4 (((V4.setCell ⟨bh, 0, none⟩ (I_ hf)).setCell ⟨bh, 1, none⟩ (I_ hn)).setCell ⟨bh, 2, none⟩ (I_ hc))) := Za (Zt (Below.refl _ _) Lh.out (I_ hf) (I_ hn) (I_ hc))
              go_simp
              refine hK1.out _ _ (fun h => absurd h (by decide)) ?_
              clear hK1 K1 p0 f0 p1 f1 p2 f2
              replace HR := Za (HR.out.keep (fun k hk => OO.out k (fun e => Zh.out.2 (by rw [← e]; exact hk))) (Nat.le_of_eq SZ.out.symm))
              replace HC := Za (HC.out.below BL.out)
              replace Zw := Za (Zw.out.set (Zm Zw.out.1 Zh.out.1 (by decide)) OO.out)
              replace Zx := Za (Zx.out.set (Zm Zx.out.1 Zh.out.1 (by decide)) OO.out)
              clear Zh
              have Zh := ZN
              clear OO SZ ZN BL
              generalize (((V4.setCell ⟨bh, 0, none⟩ (I_ hf)).setCell ⟨bh, 1, none⟩ (I_ hn)).setCell ⟨bh, 2, none⟩ (I_ hc)) = V5 at *
              refine ZX (by kernel_rfl) ?_ _
              go_wp2_with fail
              go_meet
              case rel => exact ⟨bw, bh, G', rfl, rfl, Za ⟨HR.out, HC.out, Zw.out, Zh.out, Zx.out⟩⟩
            · go_simp
              refine hK1.out _ _ (fun _ hs => hs.al (Zd V1 (.cells #[I_ 0, I_ 0, I_ 0, I_ 0, I_ 0, .int .u64 0] 76))) ?_
              clear hK1 K1
              have Zw := Za (Kb.new HR.out #[I_ 0, I_ 0, I_ 0, I_ 0, I_ 0, .int .u64 0] 76)
              have AB := Za (Zd V1 (.cells #[I_ 0, I_ 0, I_ 0, I_ 0, I_ 0, .int .u64 0] 76))
              have Lw := Za HC.out.size
              replace SS := Za (SS.out.al AB.out)
              replace Zh := Za (Zh.out.bel AB.out)
              replace Zx := Za (Zx.out.bel AB.out)
              replace HR := Za (HR.out.bel AB.out)
              replace HC := Za (HC.out.trans (Ch.of_bel AB.out))
              obtain ⟨bw, hbw⟩ : ∃ b, V1.heap.size = b := ⟨_, rfl⟩
              rw [hbw] at Zw Lw ⊢
              clear AB hbw
              generalize V1.alloc _ = V2 at *
              refine ZS (rs := [6]) (by kernel_rfl) (by decide) ?_
              refine Zn.keep rfl (fun K1 hK1 => ?_) Zn.nil
              go_simp
              refine (NX.out V2 HR.out SS.out.1).mono ?_
              rintro e V3 ⟨rfl, G', rn, ch⟩
              unfold w6V h3V
              refine hK1.out _ _ (fun h => absurd h (by decide)) ?_
              clear hK1 K1
              have CH := Za ch
              clear SS
              replace Zw := Za (Zw.out.ch CH.out)
              replace Zh := Za (Zh.out.ch CH.out)
              replace Zx := Za (Zx.out.ch CH.out)
              clear HR
              have HR := Za rn
              replace HC := Za (HC.out.trans CH.out)
              clear rn ch CH
              refine M_ 7 ?_
              simp only [Act.put, S_]
              refine M_ 8 ?_
              simp only [Act.put, S_]
              refine M_ 9 ?_
              simp only [Act.put, S_]
              refine ZS (rs := [12]) (by kernel_rfl) (by decide) ?_
              refine Zn.keep rfl (fun K1 hK1 => ?_) Zn.nil
              have p0 := Zb Zw.out.1 0 _ rfl
              have p1 := Zb Zw.out.1 1 _ rfl
              have p2 := Zb Zw.out.1 2 _ rfl
              have p3 := Zb Zw.out.1 3 _ rfl
              have p4 := Zb Zw.out.1 4 _ rfl
              have p5 := Zb Zw.out.1 5 _ rfl
              have f0 := Zc Zw.out.1 0
              have f1 := Zc Zw.out.1 1
              have f2 := Zc Zw.out.1 2
              have f3 := Zc Zw.out.1 3
              have f4 := Zc Zw.out.1 4
              have f5 := Zc Zw.out.1 5
              have OO : Hid (∀ k, k ≠ bw -> ((((((V3.setCell ⟨bw, 0, none⟩ (I_ yk)).setCell ⟨bw, 1, none⟩ (I_ yo)).setCell ⟨bw, 2, none⟩ (I_ ya)).setCell ⟨bw, 3, none⟩ (I_ y0)).setCell ⟨bw, 4, none⟩ (I_ y1)).setCell ⟨bw, 5, none⟩ (.int .u64 y2)).heap[k]? = V3.heap[k]?) := Za (fun k hk => ne6 hk)
              have SZ : Hid (((((((V3.setCell ⟨bw, 0, none⟩ (I_ yk)).setCell ⟨bw, 1, none⟩ (I_ yo)).setCell ⟨bw, 2, none⟩ (I_ ya)).setCell ⟨bw, 3, none⟩ (I_ y0)).setCell ⟨bw, 4, none⟩ (I_ y1)).setCell ⟨bw, 5, none⟩ (.int .u64 y2)).heap.size = V3.heap.size) := Za (by simp only [Zi])
              have ZN := Za (show Kb ((((((V3.setCell ⟨bw, 0, none⟩ (I_ yk)).setCell ⟨bw, 1, none⟩ (I_ yo)).setCell ⟨bw, 2, none⟩ (I_ ya)).setCell ⟨bw, 3, none⟩ (I_ y0)).setCell ⟨bw, 4, none⟩ (I_ y1)).setCell ⟨bw, 5, none⟩ (.int .u64 y2)) G' bw (.cells #[I_ yk, I_ yo, I_ ya, I_ y0, I_ y1, .int .u64 y2] 76 (0, 0)) from ⟨set6 Zw.out.1 (I_ yk) (I_ yo) (I_ ya) (I_ y0) (I_ y1) (.int .u64 y2), Zw.out.2⟩)
              have BL : Hid (Below wo.heap.size V3 ((((((V3.setCell ⟨bw, 0, none⟩ (I_ yk)).setCell ⟨bw, 1, none⟩ (I_ yo)).setCell ⟨bw, 2, none⟩ (I_ ya)).setCell ⟨bw, 3, none⟩ (I_ y0)).setCell ⟨bw, 4, none⟩ (I_ y1)).setCell ⟨bw, 5, none⟩ (.int .u64 y2))) := Za (bel6 (Below.refl _ _) Lw.out (I_ yk) (I_ yo) (I_ ya) (I_ y0) (I_ y1) (.int .u64 y2))
              go_simp
              refine hK1.out _ _ (fun h => absurd h (by decide)) ?_
              clear hK1 K1 p0 f0 p1 f1 p2 f2 p3 f3 p4 f4 p5 f5
              replace HR := Za (HR.out.keep (fun k hk => OO.out k (fun e => Zw.out.2 (by rw [← e]; exact hk))) (Nat.le_of_eq SZ.out.symm))
              replace HC := Za (HC.out.below BL.out)
              replace Zh := Za (Zh.out.set (Zm Zh.out.1 Zw.out.1 (by decide)) OO.out)
              replace Zx := Za (Zx.out.set (Zm Zx.out.1 Zw.out.1 (by decide)) OO.out)
              clear Zw
              have Zw := ZN
              clear OO SZ ZN BL
              generalize ((((((V3.setCell ⟨bw, 0, none⟩ (I_ yk)).setCell ⟨bw, 1, none⟩ (I_ yo)).setCell ⟨bw, 2, none⟩ (I_ ya)).setCell ⟨bw, 3, none⟩ (I_ y0)).setCell ⟨bw, 4, none⟩ (I_ y1)).setCell ⟨bw, 5, none⟩ (.int .u64 y2)) = V4 at *
              refine ZS (rs := [13]) (by kernel_rfl) (by decide) ?_
              refine Zn.keep rfl (fun K1 hK1 => ?_) Zn.nil
              have p0 := Zb Zh.out.1 0 _ rfl
              have p1 := Zb Zh.out.1 1 _ rfl
              have p2 := Zb Zh.out.1 2 _ rfl
              have f0 := Zc Zh.out.1 0
              have f1 := Zc Zh.out.1 1
              have f2 := Zc Zh.out.1 2
              have OO : Hid (∀ k, k ≠ bh -> (((V4.setCell ⟨bh, 0, none⟩ (I_ hf)).setCell ⟨bh, 1, none⟩ (I_ hn)).setCell ⟨bh, 2, none⟩ (I_ hc)).heap[k]? = V4.heap[k]?) := Za (fun k hk => ne3 hk)
              have SZ : Hid ((((V4.setCell ⟨bh, 0, none⟩ (I_ hf)).setCell ⟨bh, 1, none⟩ (I_ hn)).setCell ⟨bh, 2, none⟩ (I_ hc)).heap.size = V4.heap.size) := Za (by simp only [Zi])
              have ZN := Za (show Kb (((V4.setCell ⟨bh, 0, none⟩ (I_ hf)).setCell ⟨bh, 1, none⟩ (I_ hn)).setCell ⟨bh, 2, none⟩ (I_ hc)) G' bh (.cells #[I_ hf, I_ hn, I_ hc] 100 (0, 0)) from ⟨YA Zh.out.1 (I_ hf) (I_ hn) (I_ hc), Zh.out.2⟩)
              have BL : Hid (Below wo.heap.size V4 (((V4.setCell ⟨bh, 0, none⟩ (I_ hf)).setCell ⟨bh, 1, none⟩ (I_ hn)).setCell ⟨bh, 2, none⟩ (I_ hc))) := Za (Zt (Below.refl _ _) Lh.out (I_ hf) (I_ hn) (I_ hc))
              go_simp
              refine hK1.out _ _ (fun h => absurd h (by decide)) ?_
              clear hK1 K1 p0 f0 p1 f1 p2 f2
              replace HR := Za (HR.out.keep (fun k hk => OO.out k (fun e => Zh.out.2 (by rw [← e]; exact hk))) (Nat.le_of_eq SZ.out.symm))
              replace HC := Za (HC.out.below BL.out)
              replace Zw := Za (Zw.out.set (Zm Zw.out.1 Zh.out.1 (by decide)) OO.out)
              replace Zx := Za (Zx.out.set (Zm Zx.out.1 Zh.out.1 (by decide)) OO.out)
              clear Zh
              have Zh := ZN
              clear OO SZ ZN BL
              generalize (((V4.setCell ⟨bh, 0, none⟩ (I_ hf)).setCell ⟨bh, 1, none⟩ (I_ hn)).setCell ⟨bh, 2, none⟩ (I_ hc)) = V5 at *
              refine ZX (by kernel_rfl) ?_ _
              go_wp2_with fail
              go_meet
              case rel => exact ⟨bw, bh, G', rfl, rfl, Za ⟨HR.out, HC.out, Zw.out, Zh.out, Zx.out⟩⟩
        case rest =>
          obtain ⟨bw, bh, G', rfl, rfl, HK⟩ := hcut
          clear NX SS HR HC Zx
          obtain ⟨hr, hc', zw, zh, zx⟩ := HK.out
          have TD := Za (rTold_any (hr.bel (w' := wc.drew) (Zp (Below.refl _ _))) i HL1.out ⟨yk, yo, ya, (y0, y1, y2)⟩ hf hn hc)
          unfold w6V h3V at TD
          simp only at TD
          have HC := Za hc'.drew
          have q0 := Zb zx.1 0 _ rfl
          have u0 := Zb zw.1 0 _ rfl
          have u1 := Zb zw.1 1 _ rfl
          have u2 := Zb zw.1 2 _ rfl
          have u3 := Zb zw.1 3 _ rfl
          have u4 := Zb zw.1 4 _ rfl
          have u5 := Zb zw.1 5 _ rfl
          have v0 := Zb zh.1 0 _ rfl
          have v1 := Zb zh.1 1 _ rfl
          have v2 := Zb zh.1 2 _ rfl
          clear hr hc' zw zh zx HK
          go_wp2_with fail
          refine ZW 7 ZK (by kernel_rfl) ?_
          simp only [List.take_succ_cons, List.take_zero, List.drop_succ_cons, List.drop_zero]
          repeat (first | go_big_quiet_skip | (go_big_quiet_want; go_big_quiet_op; go_big_quiet_on))
          refine wpQuiet_nil ?_
          clear q0 u0 u1 u2 u3 u4 u5 v0 v1 v2
          generalize wc.drew = wd at *
          go_wp2_with fail
          refine TD.out.mono ?_
          rintro e w3 ⟨rfl, G3, rn, ch⟩
          have Z3 := Za (And.intro rn ch)
          clear rn ch TD
          go_wp2_with fail
          go_roundw
          case rel => exact ⟨k + 1, by omega, by go_num, Za ⟨G3, by rw [HA1.out]; exact Z3.out.1, AK.out.ch (HC.out.trans Z3.out.2), CK.out.trans (HC.out.trans Z3.out.2)⟩⟩
          case measure => simp [intOf]; omega
      · have hd : (rc.e.o == 0) = false := by simp [he]
        have e1 : Hid (Yo r (lx.map Prod.fst) (k + 1) = rc) := Za (by rw [hst.out]; unfold ask1Z; rw [if_neg he])
        clear he
        go_wp2_with fail
        go_roundw
        case rel => exact ⟨k + 1, by omega, by go_num, Za ⟨Gk, by rw [e1.out]; exact HR.out, AK.out.ch HC.out, CK.out.trans HC.out⟩⟩
        case measure => simp [intOf]; omega
    · have ek : k = n := by omega
      subst ek
      obtain ⟨Gk, rk, ak, ck⟩ := HI.out
      have LK := Za (rLook_any rk hB)
      have CK := Za ck
      clear rk ak ck HI
      go_wp2_with fail
      refine LK.out.mono ?_
      rintro e w3 ⟨rfl, G', rn, ch⟩
      have Z := Za (And.intro rn ch)
      clear rn ch LK
      go_wp2_with fail
      go_end0
      exact ⟨rfl, G', Z.out.1, CK.out.trans Z.out.2⟩
theorem push_n {w : World} {v : Value} {l : List Nat} {n gx : Nat} (hn : n = l.length) (hl : n <= 1000) (ho : w.ownsRow 0 3 1 v n (nns l)) (x : Nat) (hx : w.cell? ⟨gx, 0, none⟩ = some (I_ (x : Nat))) (ty : TypeId) :
 ∃ v' w', (Builtin.append_ #[22, 22] ty #[v, .slice (some ⟨gx, 0, none⟩) 1 1]).run Tryz.prog w = .ok v' w' /\ ((∃ a c, v' = .slice a (n + 1) c) /\ w'.ownsRow 0 3 1 v' (n + 1) (nns (l ++ [x])) /\ w.grownBy w' v.ownBlock /\ (∀ k, v'.ownBlock = some k -> v.ownBlock = some k ∨ w.heap.size <= k)) := by
 obtain ⟨ie, hi, hz0, hz1, hz2⟩ := info_parts info3
 have hc : ∀ (j : Nat) (u : Value), (nns [x])[j]? = some u -> w.cell? ((⟨gx, 0, none⟩ : Addr).add j) = some u := fun j u hu => by
  cases j with
  | zero =>
   simp [nns] at hu
   subst hu
   exact hx
  | succ j => simp [nns] at hu
 obtain ⟨v', w', hr, ho', hg, _, hat⟩ := run_append_own_at (P := Tryz.prog) w 0 22 ty 3 ie _ 1 8 Tryz.underlying22 hi hz0 hz1 hz2 rfl (by decide) v n (nns l) ho ⟨gx, 0, none⟩ 1 1 (nns [x]) rfl hc (fun u hu => by simp [nns] at hu; subst hu; rfl) (by unfold maxLen; omega) (by omega) (Nat.zero_le _)
 obtain ⟨a9, c9, e9, _⟩ := Zl ho'
 refine ⟨v', w', hr, ⟨_, _, e9⟩, by rw [show nns (l ++ [x]) = nns l ++ nns [x] by simp [nns]]; exact ho', hg, fun k hk => ?_⟩
 rcases hat with e | e
 · exact .inl (e.symm.trans hk)
 · rw [e] at hk
   right
   have := Option.some.inj hk
   omega
section
variable {w : World} {G Fs Rs Fo R : Nat → Prop} {B g gs gt : Nat} {S : List (List Wt)} {r : Rz} {vW vE vL vO vA : Value} {vs : List Value} {os as_ : List Nat}
theorem Rq.begun (h : Rq w Fs Rs Fo R B g gs gt S r vW vE vL vO vA vs os as_) {w2 : World} {v1 v2 : Value} (fn : Nat) (l : List Wt) (hl : S[fn]? = some l) (hp : r.pe.length <= 8)
 (h1 : w2.ownsRow 0 3 1 v1 (r.pe.length + 1) (nns (os ++ [fn]))) (h2 : w2.ownsRow 0 3 1 v2 (r.pe.length + 1) (nns (as_ ++ [0]))) (hne : ∀ k, v1.ownBlock = some k -> v2.ownBlock ≠ some k)
 (c : Ch (fun k => vO.ownBlock = some k ∨ vA.ownBlock = some k) (fun k => v1.ownBlock = some k ∨ v2.ownBlock = some k) w w2) :
 Rq ((w2.setCell ⟨gt, 1, none⟩ v1).setCell ⟨gt, 2, none⟩ v2) Fs Rs (fun k => Fo k ∨ v1.ownBlock = some k ∨ v2.ownBlock = some k) R B g gs gt S { r with pe := r.pe ++ [l] } vW vE vL v1 v2 vs (os ++ [fn]) (as_ ++ [0]) /\ Ch Fo (fun k => Fo k ∨ v1.ownBlock = some k ∨ v2.ownBlock = some k) w ((w2.setCell ⟨gt, 1, none⟩ v1).setCell ⟨gt, 2, none⟩ v2) := by
 have hsz : ((w2.setCell ⟨gt, 1, none⟩ v1).setCell ⟨gt, 2, none⟩ v2).heap.size = w2.heap.size := by rw [Zi, Zi]
 have hk2 : ∀ {k : Nat}, k ≠ gt -> ((w2.setCell ⟨gt, 1, none⟩ v1).setCell ⟨gt, 2, none⟩ v2).heap[k]? = w2.heap[k]? := fun {k} hk => (Below.heap_setCell _ _ _ _ hk).trans (Below.heap_setCell _ _ _ _ hk)
 obtain ⟨⟨n1, n2, n3, n4⟩, ⟨n6, n7, n8, n9⟩, n5⟩ := h.rowne
 have hk0 : ∀ {k : Nat}, k < w.heap.size -> vO.ownBlock ≠ some k -> vA.ownBlock ≠ some k -> k ≠ gt -> ((w2.setCell ⟨gt, 1, none⟩ v1).setCell ⟨gt, 2, none⟩ v2).heap[k]? = w.heap[k]? := fun {k} a b c' d => (hk2 d).trans (c.blk k a (fun e => e.elim b c'))
 have hA : ∀ {T : TypeId} {n : Nat} {v : Value} {len : Nat} {xs : List Value}, w.ownsRow 0 T n v len xs -> T ≠ 3 -> T ≠ 79 -> ((w2.setCell ⟨gt, 1, none⟩ v1).setCell ⟨gt, 2, none⟩ v2).ownsRow 0 T n v len xs := fun hr h1 h2 => Zj hr fun k hk => hk0 (Zf hr hk).2.1 (fun e => Zo hr h.of h1 k hk e) (fun e => Zo hr h.at' h1 k hk e) (fun e => Zv hr h.tt h2 (by rw [hk, e]))
 have hR : ∀ k, R k -> ((w2.setCell ⟨gt, 1, none⟩ v1).setCell ⟨gt, 2, none⟩ v2).heap[k]? = w.heap[k]? := fun k hk => hk0 (h.rb k hk) (fun e => (h.ro k hk).2 (h.fO k e)) (fun e => (h.ro k hk).2 (h.fA k e)) (fun e => (h.ro k hk).2 (by rw [e]; exact h.ft))
 have hnew : ∀ k, v1.ownBlock = some k ∨ v2.ownBlock = some k -> Fo k ∨ w.heap.size <= k := fun k hk => (c.grow k hk).imp (fun e => e.elim (h.fO k) (h.fA k)) id
 have hgt := h.fb gt h.ft
 have hv1 : v1.ownBlock ≠ some gt := fun e => by
  rcases c.grow gt (.inl e) with h3 | h3
  · exact h3.elim n8 n9
  · omega
 have hv2 : v2.ownBlock ≠ some gt := fun e => by
  rcases c.grow gt (.inr e) with h3 | h3
  · exact h3.elim n8 n9
  · omega
 have hle : w.heap.size <= ((w2.setCell ⟨gt, 1, none⟩ v1).setCell ⟨gt, 2, none⟩ v2).heap.size := by rw [hsz]; exact c.size
 obtain ⟨ol, al, _⟩ := h.ol
 refine ⟨{ h with
  at_ := (hk0 (h.fb g h.fg) n3 n4 n5).trans h.at_
  st := h.st.keep (fun k hk => ?_) hle
  wa := hA h.wa (by decide) (by decide)
  ev := hA h.ev (by decide) (by decide)
  tt := heap_setCell_same _ _ _ _ _ _ (heap_setCell_same _ _ _ _ _ _ ((c.blk gt hgt (fun e => e.elim n8 n9)).trans h.tt))
  al := Zj h.al fun k hk => hR k (h.fL k hk)
  row := fun i l v hl hv => ⟨Zj (h.row i l v hl hv).1 fun k hk => hR k ((h.row i l v hl hv).2 k hk), (h.row i l v hl hv).2⟩
  of := by
   show World.ownsRow _ 0 3 1 _ (r.pe ++ [l]).length _
   rw [List.length_append]
   exact Zj h1 fun k hk => hk2 (fun e => hv1 (by rw [hk, e]))
  at' := by
   show World.ownsRow _ 0 3 1 _ (r.pe ++ [l]).length _
   rw [List.length_append]
   exact Zj h2 fun k hk => hk2 (fun e => hv2 (by rw [hk, e]))
  pos := fun j y o' a' hy hj hj' => ?_
  ne := hne
  fg := .inl h.fg
  ft := .inl h.ft
  fW := fun k hk => .inl (h.fW k hk)
  fE := fun k hk => .inl (h.fE k hk)
  fO := fun k hk => .inr (.inl hk)
  fA := fun k hk => .inr (.inr hk)
  so := fun k hk => ?_
  ro := fun k hk => ⟨(h.ro k hk).1, fun e => ?_⟩
  fb := fun k hk => ?_
  rb := fun k hk => Nat.lt_of_lt_of_le (h.rb k hk) hle
  n8 := ⟨h.n8.1, by rw [List.length_append]; simp; omega⟩ }, ⟨c.os, c.tape, c.output, hle, fun k hk hF => hk0 hk (fun e => hF (h.fO k e)) (fun e => hF (h.fA k e)) (fun e => hF (by rw [e]; exact h.ft)), fun k hk => ?_⟩⟩
 · have hF : ∀ j, Fo j -> k ≠ j := fun j hj e => hk.elim (fun q => (h.so j hj).1 (by rw [← e]; exact q)) (fun q => (h.so j hj).2 (by rw [← e]; exact q))
   exact hk0 (hk.elim (h.st.fb k) (h.st.rb k)) (fun e => hF k (h.fO k e) rfl) (fun e => hF k (h.fA k e) rfl) (hF gt h.ft)
 · by_cases e : j < r.pe.length
   · rw [List.getElem?_append_left e] at hy
     rw [List.getElem?_append_left (by omega)] at hj hj'
     exact h.pos j y o' a' hy hj hj'
   · obtain rfl : j = r.pe.length := by
      have := (G_ hy)
      simp at this
      omega
     rw [List.getElem?_append_right (by omega)] at hy hj hj'
     simp [ol, al] at hy hj hj'
     subst hy hj hj'
     exact ⟨l, hl, Nat.zero_le _, rfl⟩
 · rcases hk with h3 | h3
   · exact h.so k h3
   · rcases hnew k h3 with h4 | h4
     · exact h.so k h4
     · exact ⟨fun e => by have := h.st.fb k e; omega, fun e => by have := h.st.rb k e; omega⟩
 · rcases e with h3 | h3
   · exact (h.ro k hk).2 h3
   · rcases hnew k h3 with h4 | h4
     · exact (h.ro k hk).2 h4
     · have := h.rb k hk
       omega
 · rw [hsz]
   rcases hk with h3 | h3 | h3
   · exact Nat.lt_of_lt_of_le (h.fb k h3) c.size
   · exact (Zf h1 h3).2.1
   · exact (Zf h2 h3).2.1
 · rcases hk with h3 | h3
   · exact .inl h3
   · exact hnew k h3
end
structure Bgn (w wz : World) (gt : Nat) (ob : Obj) (vO vA v1 v2 : Value) (k1 k2 : Nat) (l1 l2 : List Nat) : Prop where
 o1 : wz.ownsRow 0 3 1 v1 k1 (nns l1)
 o2 : wz.ownsRow 0 3 1 v2 k2 (nns l2)
 ne : ∀ k, v1.ownBlock = some k -> v2.ownBlock ≠ some k
 n1 : v1.ownBlock ≠ some gt
 n2 : v2.ownBlock ≠ some gt
 tt : wz.heap[gt]? = some ob
 c : Ch (fun k => vO.ownBlock = some k ∨ vA.ownBlock = some k) (fun k => v1.ownBlock = some k ∨ v2.ownBlock = some k) w wz
section
variable {w wz wy : World} {gt : Nat} {ob : Obj} {vO vA v1 v2 v' : Value} {k1 k2 : Nat} {l1 l2 : List Nat}
theorem Bgn.al (h : Bgn w wz gt ob vO vA v1 v2 k1 k2 l1 l2) (hb : Below wz.heap.size wz wy) : Bgn w wy gt ob vO vA v1 v2 k1 k2 l1 l2 :=
 { h with
  o1 := Zj h.o1 fun k hk => hb.block k (Zf h.o1 hk).2.1
  o2 := Zj h.o2 fun k hk => hb.block k (Zf h.o2 hk).2.1
  tt := (hb.block gt (Ze h.tt)).trans h.tt
  c := h.c.trans (Ch.of_bel hb) }
theorem Bgn.push1 (h : Bgn w wz gt ob vO vA v1 v2 k1 k2 l1 l2) {x : Nat} (ho : wy.ownsRow 0 3 1 v' (k1 + 1) (nns (l1 ++ [x]))) (hg : wz.grownBy wy v1.ownBlock) (hb : ∀ k, v'.ownBlock = some k -> v1.ownBlock = some k ∨ wz.heap.size <= k) : Bgn w wy gt ob vO vA v' v2 (k1 + 1) k2 (l1 ++ [x]) l2 :=
 { h with
  o1 := ho
  o2 := Zj h.o2 fun k hk => hg.block k (Zf h.o2 hk).2.1 (fun e => h.ne k e.symm hk)
  ne := fun k hk e => by
   rcases hb k hk with h1 | h1
   · exact h.ne k h1 e
   · have := (Zf h.o2 e).2.1
     omega
  n1 := fun e => by
   rcases hb gt e with h1 | h1
   · exact h.n1 h1
   · have := Ze h.tt
     omega
  tt := (hg.block gt (Ze h.tt) (fun e => h.n1 e.symm)).trans h.tt
  c := h.c.trans ⟨hg.os, hg.tape, hg.output, hg.size, fun k hk hn => hg.block k hk (fun e => hn (.inl e.symm)), fun k hk => hk.elim (fun e => (hb k e).imp .inl id) (fun e => .inl (.inr e))⟩ }
theorem Bgn.push2 (h : Bgn w wz gt ob vO vA v1 v2 k1 k2 l1 l2) {x : Nat} (ho : wy.ownsRow 0 3 1 v' (k2 + 1) (nns (l2 ++ [x]))) (hg : wz.grownBy wy v2.ownBlock) (hb : ∀ k, v'.ownBlock = some k -> v2.ownBlock = some k ∨ wz.heap.size <= k) : Bgn w wy gt ob vO vA v1 v' k1 (k2 + 1) l1 (l2 ++ [x]) :=
 { h with
  o2 := ho
  o1 := Zj h.o1 fun k hk => hg.block k (Zf h.o1 hk).2.1 (fun e => h.ne k hk e.symm)
  ne := fun k hk e => by
   rcases hb k e with h1 | h1
   · exact h.ne k hk h1
   · have := (Zf h.o1 hk).2.1
     omega
  n2 := fun e => by
   rcases hb gt e with h1 | h1
   · exact h.n2 h1
   · have := Ze h.tt
     omega
  tt := (hg.block gt (Ze h.tt) (fun e => h.n2 e.symm)).trans h.tt
  c := h.c.trans ⟨hg.os, hg.tape, hg.output, hg.size, fun k hk hn => hg.block k hk (fun e => hn (.inr e.symm)), fun k hk => hk.elim (fun e => .inl (.inl e)) (fun e => (hb k e).imp .inr id)⟩ }
end
theorem begin_no {w : World} {Fs Rs Fo R : Nat -> Prop} {B g gs gt : Nat} {S : List (List Wt)} {r : Rz} {vW vE vL vO vA : Value} {vs : List Value} {os as_ : List Nat} (h : Rq w Fs Rs Fo R B g gs gt S r vW vE vL vO vA vs os as_) (fn : Int) (hf : lk S fn = none) : Calls Tryz.prog 40 #[P_ gt, I_ fn] w fun e w' => e = .returned (.bool false) /\ w = w' := by
 have hn := YJ hf
 have c0 := h.cells.2.2.1
 obtain ⟨aL, cL, eL, _⟩ := Zl h.al
 subst eL
 generalize S.length = nS at *
 clear h hf
 by_cases h0 : fn < 0
 · clear hn
   go_enter Tryz.func40, Tryz.ntmps40
   go_wp2_with fail
   go_ret
   exact ⟨by simp, rfl⟩
 · have h1 : (nS : Int) <= fn := by omega
   have h2 : 0 <= fn := by omega
   clear hn h0
   go_enter Tryz.func40, Tryz.ntmps40
   go_wp2_with fail
   go_ret
   exact ⟨by simp, rfl⟩
theorem begin_ok {w : World} {G Fs Rs Fo R : Nat -> Prop} {B g gs gt : Nat} {S : List (List Wt)} {r : Rz} {vW vE vL vO vA : Value} {vs : List Value} {os as_ : List Nat} (h : Rq w Fs Rs Fo R B g gs gt S r vW vE vL vO vA vs os as_) (hG : ∀ k, G k ↔ Fs k ∨ Rs k ∨ Fo k ∨ R k) (fn : Nat) (l : List Wt) (hl : S[fn]? = some l) (hp : r.pe.length <= 8) : Calls Tryz.prog 40 #[P_ gt, I_ (fn : Nat)] w (RrP w G B g S { r with pe := r.pe ++ [l] } (.bool true)) := by
  obtain ⟨n, hn⟩ : ∃ n, n = r.pe.length := ⟨_, rfl⟩
  obtain ⟨hol, hal, _⟩ := h.ol
  obtain ⟨aO, cO, eO, _⟩ := Zl h.of
  obtain ⟨aA, cA, eA, _⟩ := Zl h.at'
  obtain ⟨aL, cL, eL, _⟩ := Zl h.al
  rw [← hn] at eO eA
  subst eO eA eL
  have hfS := (G_ hl)
  obtain ⟨nS, hnS⟩ : ∃ n, n = S.length := ⟨_, rfl⟩
  have hlt : (fn : Int) < (nS : Int) := by omega
  have c0 := h.cells.2.2.1
  rw [← hnS] at c0
  have hd := h.bel (Zp (Below.refl _ _))
  have HQ := Za hd
  have HG := Za hG
  have HL := Za hl
  have HLN : Hid (n = os.length /\ n = as_.length /\ n <= 1000) := Za ⟨by omega, by omega, by omega⟩
  have HPN : Hid (r.pe.length = n) := Za hn.symm
  have HP8 : Hid (n <= 8) := Za (by omega)
  have HBD : Hid (Below w.heap.size w w.drew) := Za (Zp (Below.refl _ _))
  obtain ⟨_, ⟨m6, m7, m8, m9⟩, _⟩ := hd.rowne
  have X : Hid (Bgn w.drew w.drew gt (.cells #[.slice aL nS cL, .slice aO n cO, .slice aA n cA] 79 (0, 0)) (.slice aO n cO) (.slice aA n cA) (.slice aO n cO) (.slice aA n cA) n n os as_) := Za ⟨by have := hd.of; rw [← hn] at this; exact this, by have := hd.at'; rw [← hn] at this; exact this, hd.ne, m8, m9, by rw [hnS]; exact hd.tt, Ch.refl _ _⟩
  have HLO : Hid (∀ k, (Value.slice aO n cO).ownBlock = some k -> k < w.drew.heap.size) := Za (fun k hk => (Zf hd.of hk).2.1)
  clear h hd hG hl hp hn hol hal hfS hnS m6 m7 m8 m9
  go_enter Tryz.func40, Tryz.ntmps40
  go_upto_region 3 with fail
  refine ZE (S := fun w' => w'.heap[gt]? = some (.cells #[.slice aL nS cL, .slice aO n cO, .slice aA n cA] 79 (0, 0))) (fun j => decide (j < 15)) ZK X.out.tt (fun hH => ?_)
  generalize w.drew = wd at *
  refine M_ 0 ?_
  simp only [Act.put, S_]
  refine M_ 1 ?_
  simp only [Act.put, S_]
  refine M_ 2 ?_
  simp only [Act.put, S_]
  refine M_ 3 ?_
  simp only [Act.put, S_]
  refine M_ 4 ?_
  simp only [Act.put, S_]
  refine L_ 5 (v := ?_) ?_ hH ?_
  rotate_left 1
  · (intro w hSw; have q := Zb hSw 1 _ rfl; clear hSw; go_simp <;> with_reducible rfl)
  simp only [Act.put, S_]
  refine M_ 6 ?_
  simp only [Act.put, S_]
  refine M_ 9 ?_
  simp only [Act.put, S_]
  refine M_ 10 ?_
  simp only [Act.put, S_]
  refine M_ 11 ?_
  simp only [Act.put, S_]
  refine L_ 12 (v := ?_) ?_ hH ?_
  rotate_left 1
  · (intro w hSw; have q := Zb hSw 2 _ rfl; clear hSw; go_simp <;> with_reducible rfl)
  simp only [Act.put, S_]
  clear hH
  refine ZS (rs := [7, 13]) (by kernel_rfl) (by decide) ?_
  refine Zn.cons rfl (fun K1 hK1 => ?_) (Zn.cons rfl (fun K1 hK1 => ?_) Zn.nil)
  · go_simp
    refine hK1.out _ _ (fun _ => ((Zd _ _).block gt (Ze X.out.tt)).trans X.out.tt) (fun _ => ?_)
    have E1 : Hid ((wd.alloc (.cells #[I_ (fn : Nat)] 3)).cell? ⟨wd.heap.size, 0, none⟩ = some (I_ (fn : Nat))) := Za (by
      have e1 := Zb (B_ wd (.cells #[I_ (fn : Nat)] 3)) 0 _ rfl
      exact e1)
    have X9 := Za (X.out.al (Zd wd (.cells #[I_ (fn : Nat)] 3)))
    clear hK1 K1 X
    have X := X9
    clear X9
    refine ZS (rs := [8, 13]) (by kernel_rfl) (by decide) ?_
    refine Zn.cons rfl (fun K1 hK1 => ?_) (Zn.cons rfl (fun K1 hK1 => ?_) Zn.nil)
    · have PU := Za (fun ty => push_n (n := n) (l := os) (HLN.out.1) (HLN.out.2.2) X.out.o1 fn (E1.out) ty)
      refine Zr (TS := 22) (.tmp 21) (.tmp 23) _ _ _ (fun ty => PU.out ty) rfl rfl rfl rfl ?_
      rintro v1 w8 ⟨⟨a1, c1, rfl⟩, o9, g9, b9⟩
      have X9 := Za (X.out.push1 o9 g9 b9)
      refine hK1.out _ _ (fun _ => X9.out.tt) (fun _ => ?_)
      have G9 := Za g9
      clear hK1 K1 X PU o9 g9 b9
      have X := X9
      clear X9
      clear E1 G9
      refine RT_ 13 (fun K1 hK1 => ?_)
      go_simp
      refine hK1.out _ _ (fun _ => ((Zd _ _).block gt (Ze X.out.tt)).trans X.out.tt) (fun _ => ?_)
      have E2 : Hid ((w8.alloc (.cells #[I_ 0] 3)).cell? ⟨w8.heap.size, 0, none⟩ = some (I_ 0)) := Za (by
        have e1 := Zb (B_ w8 (.cells #[I_ 0] 3)) 0 _ rfl
        exact e1)
      have X9 := Za (X.out.al (Zd w8 (.cells #[I_ 0] 3)))
      clear hK1 K1 X
      have X := X9
      clear X9
      refine RT_ 14 (fun K1 hK1 => ?_)
      have PU := Za (fun ty => push_n (n := n) (l := as_) (HLN.out.2.1) (HLN.out.2.2) X.out.o2 0 (E2.out) ty)
      refine Zr (TS := 22) (.tmp 28) (.tmp 29) _ _ _ (fun ty => PU.out ty) rfl rfl rfl rfl ?_
      rintro v2 w14 ⟨⟨a2, c2, rfl⟩, o9, g9, b9⟩
      have X9 := Za (X.out.push2 o9 g9 b9)
      refine hK1.out _ _ (fun _ => X9.out.tt) (fun _ => ?_)
      have G9 := Za g9
      clear hK1 K1 X PU o9 g9 b9
      have X := X9
      clear X9
      clear E2 G9
      refine M_ 15 ?_
      simp only [Act.put, S_]
      refine M_ 16 ?_
      simp only [Act.put, S_]
      refine RT_ 17 (fun K1 hK1 => ?_)
      have n1 := Zb X.out.tt 1 _ rfl
      have m1 := Zc X.out.tt 1
      go_simp
      refine hK1.out _ _ (fun h => absurd h (by decide)) (fun _ => ?_)
      clear hK1 K1 n1 m1
      have T2 : Hid ((w14.setCell ⟨gt, 1, none⟩ (.slice a1 (n + 1) c1)).heap[gt]? = some (.cells #[.slice aL nS cL, .slice a1 (n + 1) c1, .slice aA n cA] 79 (0, 0))) := Za (heap_setCell_same _ _ _ _ _ _ X.out.tt)
      refine M_ 18 ?_
      simp only [Act.put, S_]
      refine M_ 19 ?_
      simp only [Act.put, S_]
      refine RT_ 20 (fun K1 hK1 => ?_)
      have n1 := Zb T2.out 2 _ rfl
      have m1 := Zc T2.out 2
      go_simp
      refine hK1.out _ _ (fun h => absurd h (by decide)) (fun _ => ?_)
      clear hK1 K1 n1 m1
      refine ZX (by kernel_rfl) ?_ _
      go_wp2_with fail
      go_ret
      have RB := HQ.out.begun fn l HL.out (by have := HLN.out.2.2; rw [HPN.out]; exact HP8.out) (by rw [HPN.out]; exact X.out.o1) (by rw [HPN.out]; exact X.out.o2) X.out.ne X.out.c
      refine ⟨rfl, _, RB.1.rr, (Ch.of_bel HBD.out).trans (RB.2.wide (fun k hk => (HG.out k).2 (.inr (.inr (.inl hk)))) (fun k hk => ?_))⟩
      rcases hk with hk | hk | hk | hk
      · exact .inl ((HG.out k).2 (.inl hk))
      · exact .inl ((HG.out k).2 (.inr (.inl hk)))
      · exact (RB.2.grow k hk).imp (fun q => (HG.out k).2 (.inr (.inr (.inl q)))) id
      · exact .inl ((HG.out k).2 (.inr (.inr (.inr hk))))
    · go_simp
      refine hK1.out _ _ (fun _ => ((Zd _ _).block gt (Ze X.out.tt)).trans X.out.tt) (fun _ => ?_)
      have E2 : Hid (((wd.alloc (.cells #[I_ (fn : Nat)] 3)).alloc (.cells #[I_ 0] 3)).cell? ⟨wd.heap.size + 1, 0, none⟩ = some (I_ 0)) := Za (by
        have e1 := Zb (B_ (wd.alloc (.cells #[I_ (fn : Nat)] 3)) (.cells #[I_ 0] 3)) 0 _ rfl
        have hs : (wd.alloc (.cells #[I_ (fn : Nat)] 3)).heap.size = wd.heap.size + 1 := by simp
        rw [hs] at e1
        exact e1)
      have X9 := Za (X.out.al (Zd (wd.alloc (.cells #[I_ (fn : Nat)] 3)) (.cells #[I_ 0] 3)))
      clear hK1 K1 X
      have X := X9
      clear X9
      replace E1 := Za (((Zd (wd.alloc (.cells #[I_ (fn : Nat)] 3)) (.cells #[I_ 0] 3)).cell (p := ⟨wd.heap.size, 0, none⟩) (by simp <;> omega)).trans E1.out)
      refine RT_ 8 (fun K1 hK1 => ?_)
      have PU := Za (fun ty => push_n (n := n) (l := os) (HLN.out.1) (HLN.out.2.2) X.out.o1 fn (E1.out) ty)
      refine Zr (TS := 22) (.tmp 21) (.tmp 23) _ _ _ (fun ty => PU.out ty) rfl rfl rfl rfl ?_
      rintro v1 w8 ⟨⟨a1, c1, rfl⟩, o9, g9, b9⟩
      have X9 := Za (X.out.push1 o9 g9 b9)
      refine hK1.out _ _ (fun _ => X9.out.tt) (fun _ => ?_)
      have G9 := Za g9
      clear hK1 K1 X PU o9 g9 b9
      have X := X9
      clear X9
      have E29 := Za ((World.cell?_of_block (a := ⟨wd.heap.size + 1, 0, none⟩) (G9.out.block (wd.heap.size + 1) (by simp <;> omega) (fun e => absurd (HLO.out _ e.symm) (by omega)))).trans E2.out)
      clear E1 E2 G9
      have E2 := E29
      clear E29
      refine RT_ 14 (fun K1 hK1 => ?_)
      have PU := Za (fun ty => push_n (n := n) (l := as_) (HLN.out.2.1) (HLN.out.2.2) X.out.o2 0 (E2.out) ty)
      refine Zr (TS := 22) (.tmp 28) (.tmp 29) _ _ _ (fun ty => PU.out ty) rfl rfl rfl rfl ?_
      rintro v2 w14 ⟨⟨a2, c2, rfl⟩, o9, g9, b9⟩
      have X9 := Za (X.out.push2 o9 g9 b9)
      refine hK1.out _ _ (fun _ => X9.out.tt) (fun _ => ?_)
      have G9 := Za g9
      clear hK1 K1 X PU o9 g9 b9
      have X := X9
      clear X9
      clear E2 G9
      refine M_ 15 ?_
      simp only [Act.put, S_]
      refine M_ 16 ?_
      simp only [Act.put, S_]
      refine RT_ 17 (fun K1 hK1 => ?_)
      have n1 := Zb X.out.tt 1 _ rfl
      have m1 := Zc X.out.tt 1
      go_simp
      refine hK1.out _ _ (fun h => absurd h (by decide)) (fun _ => ?_)
      clear hK1 K1 n1 m1
      have T2 : Hid ((w14.setCell ⟨gt, 1, none⟩ (.slice a1 (n + 1) c1)).heap[gt]? = some (.cells #[.slice aL nS cL, .slice a1 (n + 1) c1, .slice aA n cA] 79 (0, 0))) := Za (heap_setCell_same _ _ _ _ _ _ X.out.tt)
      refine M_ 18 ?_
      simp only [Act.put, S_]
      refine M_ 19 ?_
      simp only [Act.put, S_]
      refine RT_ 20 (fun K1 hK1 => ?_)
      have n1 := Zb T2.out 2 _ rfl
      have m1 := Zc T2.out 2
      go_simp
      refine hK1.out _ _ (fun h => absurd h (by decide)) (fun _ => ?_)
      clear hK1 K1 n1 m1
      refine ZX (by kernel_rfl) ?_ _
      go_wp2_with fail
      go_ret
      have RB := HQ.out.begun fn l HL.out (by have := HLN.out.2.2; rw [HPN.out]; exact HP8.out) (by rw [HPN.out]; exact X.out.o1) (by rw [HPN.out]; exact X.out.o2) X.out.ne X.out.c
      refine ⟨rfl, _, RB.1.rr, (Ch.of_bel HBD.out).trans (RB.2.wide (fun k hk => (HG.out k).2 (.inr (.inr (.inl hk)))) (fun k hk => ?_))⟩
      rcases hk with hk | hk | hk | hk
      · exact .inl ((HG.out k).2 (.inl hk))
      · exact .inl ((HG.out k).2 (.inr (.inl hk)))
      · exact (RB.2.grow k hk).imp (fun q => (HG.out k).2 (.inr (.inr (.inl q)))) id
      · exact .inl ((HG.out k).2 (.inr (.inr (.inr hk))))
  · go_simp
    refine hK1.out _ _ (fun _ => ((Zd _ _).block gt (Ze X.out.tt)).trans X.out.tt) (fun _ => ?_)
    have E2 : Hid ((wd.alloc (.cells #[I_ 0] 3)).cell? ⟨wd.heap.size, 0, none⟩ = some (I_ 0)) := Za (by
      have e1 := Zb (B_ wd (.cells #[I_ 0] 3)) 0 _ rfl
      exact e1)
    have X9 := Za (X.out.al (Zd wd (.cells #[I_ 0] 3)))
    clear hK1 K1 X
    have X := X9
    clear X9
    refine RT_ 7 (fun K1 hK1 => ?_)
    go_simp
    refine hK1.out _ _ (fun _ => ((Zd _ _).block gt (Ze X.out.tt)).trans X.out.tt) (fun _ => ?_)
    have E1 : Hid (((wd.alloc (.cells #[I_ 0] 3)).alloc (.cells #[I_ (fn : Nat)] 3)).cell? ⟨wd.heap.size + 1, 0, none⟩ = some (I_ (fn : Nat))) := Za (by
      have e1 := Zb (B_ (wd.alloc (.cells #[I_ 0] 3)) (.cells #[I_ (fn : Nat)] 3)) 0 _ rfl
      have hs : (wd.alloc (.cells #[I_ 0] 3)).heap.size = wd.heap.size + 1 := by simp
      rw [hs] at e1
      exact e1)
    have X9 := Za (X.out.al (Zd (wd.alloc (.cells #[I_ 0] 3)) (.cells #[I_ (fn : Nat)] 3)))
    clear hK1 K1 X
    have X := X9
    clear X9
    replace E2 := Za (((Zd (wd.alloc (.cells #[I_ 0] 3)) (.cells #[I_ (fn : Nat)] 3)).cell (p := ⟨wd.heap.size, 0, none⟩) (by simp <;> omega)).trans E2.out)
    refine RT_ 8 (fun K1 hK1 => ?_)
    have PU := Za (fun ty => push_n (n := n) (l := os) (HLN.out.1) (HLN.out.2.2) X.out.o1 fn (E1.out) ty)
    refine Zr (TS := 22) (.tmp 21) (.tmp 23) _ _ _ (fun ty => PU.out ty) rfl rfl rfl rfl ?_
    rintro v1 w8 ⟨⟨a1, c1, rfl⟩, o9, g9, b9⟩
    have X9 := Za (X.out.push1 o9 g9 b9)
    refine hK1.out _ _ (fun _ => X9.out.tt) (fun _ => ?_)
    have G9 := Za g9
    clear hK1 K1 X PU o9 g9 b9
    have X := X9
    clear X9
    have E29 := Za ((World.cell?_of_block (a := ⟨wd.heap.size, 0, none⟩) (G9.out.block (wd.heap.size) (by simp <;> omega) (fun e => absurd (HLO.out _ e.symm) (by omega)))).trans E2.out)
    clear E1 E2 G9
    have E2 := E29
    clear E29
    refine RT_ 14 (fun K1 hK1 => ?_)
    have PU := Za (fun ty => push_n (n := n) (l := as_) (HLN.out.2.1) (HLN.out.2.2) X.out.o2 0 (E2.out) ty)
    refine Zr (TS := 22) (.tmp 28) (.tmp 29) _ _ _ (fun ty => PU.out ty) rfl rfl rfl rfl ?_
    rintro v2 w14 ⟨⟨a2, c2, rfl⟩, o9, g9, b9⟩
    have X9 := Za (X.out.push2 o9 g9 b9)
    refine hK1.out _ _ (fun _ => X9.out.tt) (fun _ => ?_)
    have G9 := Za g9
    clear hK1 K1 X PU o9 g9 b9
    have X := X9
    clear X9
    clear E2 G9
    refine M_ 15 ?_
    simp only [Act.put, S_]
    refine M_ 16 ?_
    simp only [Act.put, S_]
    refine RT_ 17 (fun K1 hK1 => ?_)
    have n1 := Zb X.out.tt 1 _ rfl
    have m1 := Zc X.out.tt 1
    go_simp
    refine hK1.out _ _ (fun h => absurd h (by decide)) (fun _ => ?_)
    clear hK1 K1 n1 m1
    have T2 : Hid ((w14.setCell ⟨gt, 1, none⟩ (.slice a1 (n + 1) c1)).heap[gt]? = some (.cells #[.slice aL nS cL, .slice a1 (n + 1) c1, .slice aA n cA] 79 (0, 0))) := Za (heap_setCell_same _ _ _ _ _ _ X.out.tt)
    refine M_ 18 ?_
    simp only [Act.put, S_]
    refine M_ 19 ?_
    simp only [Act.put, S_]
    refine RT_ 20 (fun K1 hK1 => ?_)
    have n1 := Zb T2.out 2 _ rfl
    have m1 := Zc T2.out 2
    go_simp
    refine hK1.out _ _ (fun h => absurd h (by decide)) (fun _ => ?_)
    clear hK1 K1 n1 m1
    refine ZX (by kernel_rfl) ?_ _
    go_wp2_with fail
    go_ret
    have RB := HQ.out.begun fn l HL.out (by have := HLN.out.2.2; rw [HPN.out]; exact HP8.out) (by rw [HPN.out]; exact X.out.o1) (by rw [HPN.out]; exact X.out.o2) X.out.ne X.out.c
    refine ⟨rfl, _, RB.1.rr, (Ch.of_bel HBD.out).trans (RB.2.wide (fun k hk => (HG.out k).2 (.inr (.inr (.inl hk)))) (fun k hk => ?_))⟩
    rcases hk with hk | hk | hk | hk
    · exact .inl ((HG.out k).2 (.inl hk))
    · exact .inl ((HG.out k).2 (.inr (.inl hk)))
    · exact (RB.2.grow k hk).imp (fun q => (HG.out k).2 (.inr (.inr (.inl q)))) id
    · exact .inl ((HG.out k).2 (.inr (.inr (.inr hk))))
end Go.Proofs.YtfojninaginnoaaGreatDoor.Ck
