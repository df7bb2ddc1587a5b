/- Texts of this proof, packed: contracts of the program's functions, and the plain model that they are held against. -/
import Derived.Test.YtghfjnnmpmfboaaDoorQam
set_option maxRecDepth 20000
set_option maxHeartbeats 4000000
namespace Go.Proofs.YtghfjnnmpmfboaaDoor.Ck
open Go.RowKit
def AskC (W : World) (g gt bx i : Nat) : Prop := W.cell? ⟨g, 8, none⟩ = some (.pointer (some ⟨gt, 0, none⟩)) /\ W.cell? ⟨bx, 0, none⟩ = some (.int .i64 (i : Nat)) /\ g < W.heap.size /\ bx < W.heap.size
theorem AskC.al {W W' : World} {g gt bx i : Nat} (h : AskC W g gt bx i) (hb : Below W.heap.size W W') : AskC W' g gt bx i := ⟨(hb.cell (p := ⟨g, 8, none⟩) h.2.2.1).trans h.1, (hb.cell (p := ⟨bx, 0, none⟩) h.2.2.2).trans h.2.1, Nat.lt_of_lt_of_le h.2.2.1 hb.size, Nat.lt_of_lt_of_le h.2.2.2 hb.size⟩
theorem rNext_r {W : World} {G : Nat -> Prop} {B g gt : Nat} {S : List (List Wt)} {r : Rz} (h : Rr W G B g S r) (hc : W.cell? ⟨g, 8, none⟩ = some (.pointer (some ⟨gt, 0, none⟩))) (i : Nat) (x : List Wt) (hx : r.pe[i]? = some x) : Calls Tryd.prog 110 #[.pointer (some ⟨gt, 0, none⟩), .int .i64 (i : Nat)] W (RrP W G B g S { r with pe := r.pe.set i (Yl x).2 } (.tuple #[w6V (Yl x).1.1, h3V (Yl x).1.2])) := by
 obtain ⟨Fs, Rs, Fo, R, gs, gt', vW, vE, vL, vO, vA, vs, os, as_, h, hG⟩ := h
 have e := h.cells.1.2.2.2.symm.trans hc
 cases e
 exact rNext_any h hG i x hx
theorem Rr.c8 {W : World} {G : Nat -> Prop} {B g : Nat} {S : List (List Wt)} {r : Rz} (h : Rr W G B g S r) : (∃ gt, W.cell? ⟨g, 8, none⟩ = some (.pointer (some ⟨gt, 0, none⟩))) /\ W.cell? ⟨g, 3, none⟩ = some (.int .i64 r.e.o) := by
 obtain ⟨Fs, Rs, Fo, R, gs, gt, vW, vE, vL, vO, vA, vs, os, as_, h, hG⟩ := h
 exact ⟨⟨gt, h.cells.1.2.2.2⟩, h.cells.2.1.1⟩
theorem rask_any {w : World} {G : Nat -> Prop} {B g : Nat} {S : List (List Wt)} {r : Rz} {v : Value} {lx : List (Nat × V3)} (h : Rr w G B g S r) (hB : B <= 1000000) (hv : AskS w G v lx) (hl : ∀ x ∈ lx, x.1 < r.ws.length /\ x.1 < r.pe.length) : Calls Tryd.prog 98 #[.pointer (some ⟨g, 0, none⟩), v] w (RrP w G B g S (lookZ (asksZ r (lx.map Prod.fst) lx.length)) (.tuple #[])) := by
  have HA := Za hv
  have I0 : Hid (∃ Gk, Rr w Gk B g S (asksZ r (lx.map Prod.fst) 0) /\ AskS w Gk v lx /\ Ch G Gk w w) := Za ⟨G, h, hv, Ch.refl _ _⟩
  obtain ⟨aV, cV, rfl, hlen, _⟩ := hv
  obtain ⟨n, hn⟩ : ∃ n, n = lx.length := ⟨_, rfl⟩
  rw [← hn] at hlen I0 ⊢
  have HN := Za hn
  have HLN := Za hl
  clear h hn hl HA
  go_enter Tryd.func98, Tryd.ntmps98
  go_wp2_with fail
  go_loopw [5, 6, 7, 10] (fun x5 x6 x7 q wr => ∃ k : Nat, k <= n /\ q = .int .i64 k /\ Hid (∃ Gk, Rr wr Gk B g S (asksZ r (lx.map Prod.fst) k) /\ AskS wr Gk (.slice aV n cV) lx /\ Ch G Gk w wr)) (fun _ _ _ q _ => n - (intOf q).toNat)
  case atStart => exact ⟨0, Nat.zero_le _, rfl, I0⟩
  case round =>
    obtain ⟨k, hkn, rfl, HI⟩ := hrel
    clear I0
    by_cases hlt : k < n
    · have hlt' : (k : Int) < (n : Int) := by omega
      obtain ⟨⟨i, j0, j1, j2⟩, hx⟩ : ∃ x, lx[k]? = some x := ⟨_, List.getElem?_eq_getElem (by rw [← HN.out]; exact hlt)⟩
      obtain ⟨Gk, rk, ak, ck⟩ := HI.out
      obtain ⟨aV', cV', eV, _, hcs⟩ := id ak
      cases eV
      obtain ⟨b, ob, rfl, kb, p0, p1, p2, p3⟩ := hcs k _ hx
      simp only at p0 p1 p2 p3
      have hst := Za (asksZ_step (r := r) (l := lx.map Prod.fst) (k := k) (i := i) (by rw [List.getElem?_map, hx]; rfl))
      have hln := asksZ_len r (lx.map Prod.fst) k
      have hmem := HLN.out _ (List.mem_of_getElem? hx)
      generalize asksZ r (lx.map Prod.fst) k = rc at *
      obtain ⟨wo, rfl⟩ : ∃ z, z = wr := ⟨_, rfl⟩
      have Zx := Za (Kb.new rk #[.int .i64 (i : Nat), .int .i64 j0, .int .i64 j1, .int .u64 j2] 192)
      have AB := Za (Zd wo (.cells #[.int .i64 (i : Nat), .int .i64 j0, .int .i64 j1, .int .u64 j2] 192))
      have HR := Za (rk.bel AB.out)
      have HC : Hid (Ch Gk Gk wo (wo.alloc (.cells #[.int .i64 (i : Nat), .int .i64 j0, .int .i64 j1, .int .u64 j2] 192))) := Za (Ch.of_bel AB.out)
      have CK := Za ck
      have AK := Za ak
      have HI2 : Hid (i < rc.ws.length /\ i < rc.pe.length) := Za (by simp only at hmem; omega)
      clear hcs hx kb ak ck rk HI hln hmem
      go_upto_region 3 with fail
      obtain ⟨bx, hbx⟩ : ∃ b, b = wo.heap.size := ⟨_, rfl⟩
      generalize wo.alloc _ = w1 at *
      rw [← hbx] at Zx ⊢
      have LX : Hid (wo.heap.size <= bx) := Za (by omega)
      clear p0 p1 p2 p3 hbx AB
      obtain ⟨⟨gt, c8⟩, c3⟩ := HR.out.c8
      have hgl := HR.out.lt
      by_cases he : rc.e.o = 0
      · rw [he] at c3
        obtain ⟨x, hx⟩ : ∃ x, rc.pe[i]? = some x := ⟨_, List.getElem?_eq_getElem HI2.out.2⟩
        have HE := Za he
        have HX := Za hx
        clear he
        go_upto_region 4 with fail
        obtain ⟨y, hy⟩ : ∃ y, Yl x = y := ⟨_, rfl⟩
        obtain ⟨⟨⟨yk, yo, ya, y0, y1, y2⟩, hf, hn, hc⟩, x2⟩ := y
        obtain ⟨r1, hr1⟩ : ∃ r1 : Rz, r1 = { rc with pe := rc.pe.set i x2 } := ⟨_, rfl⟩
        have NX : Hid (∀ W, Rr W Gk B g S rc -> W.cell? ⟨g, 8, none⟩ = some (.pointer (some ⟨gt, 0, none⟩)) -> Calls Tryd.prog 110 #[.pointer (some ⟨gt, 0, none⟩), .int .i64 (i : Nat)] W (RrP W Gk B g S r1 (.tuple #[w6V ⟨yk, yo, ya, (y0, y1, y2)⟩, h3V (hf, hn, hc)]))) := Za (fun W h1 h2 => by
          have := rNext_r h1 h2 i x hx
          rw [hy, ← hr1] at this
          exact this)
        have HA1 : Hid (asksZ r (lx.map Prod.fst) (k + 1) = if hf = 0 then { r1 with ws := r1.ws.set i ⟨yk, yo, ya, (y0, y1, y2)⟩ } else { r1 with e := ⟨3, hf, (i : Nat), hn, hc⟩ }) := Za (by
          rw [hst.out]
          unfold ask1Z
          rw [if_pos HE.out, hx]
          simp only [hy, hr1])
        have HL1 : Hid (i < r1.ws.length) := Za (by rw [hr1]; exact HI2.out.1)
        have SS : Hid (AskC w1 g gt bx i) := Za ⟨c8, Zb Zx.out.1 0 _ rfl, hgl, Ze Zx.out.1⟩
        clear hx hy hr1 c8 c3 hgl hst HE HX HI2
        go_cut [6, 7] from 11 to 30 (fun x6 x7 wc => ∃ bw bh G', x6 = .pointer (some ⟨bw, 0, none⟩) /\ x7 = .pointer (some ⟨bh, 0, none⟩) /\ Hid (Rr wc G' B g S r1 /\ Ch Gk G' wo wc /\ Kb wc G' bw (.cells #[.int .i64 yk, .int .i64 yo, .int .i64 ya, .int .i64 y0, .int .i64 y1, .int .u64 y2] 141 (0, 0)) /\ Kb wc G' bh (.cells #[.int .i64 hf, .int .i64 hn, .int .i64 hc] 189 (0, 0)) /\ Kb wc G' bx (.cells #[.int .i64 (i : Nat), .int .i64 j0, .int .i64 j1, .int .u64 j2] 192 (0, 0))))
        case first =>
          refine wp_region_T (S := fun w' => AskC w' g gt bx i) (fun j => decide (j ≠ 6 /\ j < 12)) ZU (SS.out.al (Zs (Below.refl _ _))) (fun hH => ?_)
          have SS9 := Za (SS.out.al (W' := w1.drew) (Zs (Below.refl _ _)))
          clear SS
          have SS := SS9
          clear SS9
          have HR9 := Za (HR.out.bel (w' := w1.drew) (Zs (Below.refl _ _)))
          clear HR
          have HR := HR9
          clear HR9
          have HC9 := Za (HC.out.drew)
          clear HC
          have HC := HC9
          clear HC9
          have Zx9 := Za (Zx.out.bel (W' := w1.drew) (Zs (Below.refl _ _)))
          clear Zx
          have Zx := Zx9
          clear Zx9
          generalize w1.drew = wd at *
          refine Zr (i := 0) (v := ?_) rfl (by kernel_rfl) (by kernel_rfl) (by kernel_rfl) (fun _ _ _ h => h) (Or.inl ⟨by rfl, ?_⟩) ?_
          rotate_left 1
          · (intro w _; go_simp <;> with_reducible rfl)
          simp only [Act.put, S_]
          refine Zr (i := 1) (v := ?_) rfl (by kernel_rfl) (by kernel_rfl) (by kernel_rfl) (fun _ _ _ h => h) (Or.inl ⟨by rfl, ?_⟩) ?_
          rotate_left 1
          · (intro w _; go_simp <;> with_reducible rfl)
          simp only [Act.put, S_]
          refine Zr (i := 2) (v := ?_) rfl (by kernel_rfl) (by kernel_rfl) (by kernel_rfl) (fun _ _ _ h => h) (Or.inl ⟨by rfl, ?_⟩) ?_
          rotate_left 1
          · (intro w _; go_simp <;> with_reducible rfl)
          simp only [Act.put, S_]
          refine Yo (i := 3) (v := ?_) rfl (by kernel_rfl) (by kernel_rfl) (by kernel_rfl) (by kernel_rfl) (fun _ _ _ h => h) (Or.inl ⟨by rfl, ?_⟩) hH ?_
          rotate_left 1
          · (intro w hSw; have q := hSw.1; clear hSw; go_simp <;> with_reducible rfl)
          simp only [Act.put, S_]
          refine Zr (i := 4) (v := ?_) rfl (by kernel_rfl) (by kernel_rfl) (by kernel_rfl) (fun _ _ _ h => h) (Or.inl ⟨by rfl, ?_⟩) ?_
          rotate_left 1
          · (intro w _; go_simp <;> with_reducible rfl)
          simp only [Act.put, S_]
          refine Yo (i := 5) (v := ?_) rfl (by kernel_rfl) (by kernel_rfl) (by kernel_rfl) (by kernel_rfl) (fun _ _ _ h => h) (Or.inl ⟨by rfl, ?_⟩) hH ?_
          rotate_left 1
          · (intro w hSw; have q := hSw.2.1; clear hSw; go_simp <;> with_reducible rfl)
          simp only [Act.put, S_]
          clear hH
          refine Zy (rs := [6, 10, 11]) (by kernel_rfl) (by decide) ?_
          refine Zl.keep rfl (fun K1 hK1 => ?_) (Zl.keep rfl (fun K1 hK1 => ?_) (Zl.keep rfl (fun K1 hK1 => ?_) Zl.nil))
          · go_simp
            refine (NX.out wd HR.out SS.out.1).mono ?_
            rintro e V1 ⟨rfl, G', rn, ch⟩
            unfold w6V h3V
            refine hK1.out _ _ (fun h => absurd h (by decide)) ?_
            clear hK1 K1
            have CH := Za ch
            clear SS
            have Zx9 := Za (Zx.out.ch CH.out)
            clear Zx
            have Zx := Zx9
            clear Zx9
            clear HR
            have HR := Za rn
            have HC9 := Za (HC.out.trans CH.out)
            clear HC
            have HC := HC9
            clear HC9
            clear rn ch CH
            refine Zr (i := 7) (v := ?_) rfl (by kernel_rfl) (by kernel_rfl) (by kernel_rfl) (fun _ _ _ h => h) (Or.inl ⟨by rfl, ?_⟩) ?_
            rotate_left 1
            · (intro w _; go_simp <;> with_reducible rfl)
            simp only [Act.put, S_]
            refine Zr (i := 8) (v := ?_) rfl (by kernel_rfl) (by kernel_rfl) (by kernel_rfl) (fun _ _ _ h => h) (Or.inl ⟨by rfl, ?_⟩) ?_
            rotate_left 1
            · (intro w _; go_simp <;> with_reducible rfl)
            simp only [Act.put, S_]
            refine Zr (i := 9) (v := ?_) rfl (by kernel_rfl) (by kernel_rfl) (by kernel_rfl) (fun _ _ _ h => h) (Or.inl ⟨by rfl, ?_⟩) ?_
            rotate_left 1
            · (intro w _; go_simp <;> with_reducible rfl)
            simp only [Act.put, S_]
            refine Zy (rs := [10, 11]) (by kernel_rfl) (by decide) ?_
            refine Zl.keep rfl (fun K1 hK1 => ?_) (Zl.keep rfl (fun K1 hK1 => ?_) Zl.nil)
            · go_simp
              refine hK1.out _ _ (fun _ hs => hs.al (Zd V1 (.cells #[.int .i64 0, .int .i64 0, .int .i64 0, .int .i64 0, .int .i64 0, .int .u64 0] 141))) ?_
              clear hK1 K1
              have Zw := Za (Kb.new HR.out #[.int .i64 0, .int .i64 0, .int .i64 0, .int .i64 0, .int .i64 0, .int .u64 0] 141)
              have AB := Za (Zd V1 (.cells #[.int .i64 0, .int .i64 0, .int .i64 0, .int .i64 0, .int .i64 0, .int .u64 0] 141))
              have Lw := Za HC.out.size
              have Zx9 := Za (Zx.out.bel AB.out)
              clear Zx
              have Zx := Zx9
              clear Zx9
              have HR9 := Za (HR.out.bel AB.out)
              clear HR
              have HR := HR9
              clear HR9
              have HC9 := Za (HC.out.trans (Ch.of_bel AB.out))
              clear HC
              have HC := HC9
              clear HC9
              obtain ⟨bw, hbw⟩ : ∃ b, V1.heap.size = b := ⟨_, rfl⟩
              rw [hbw] at Zw Lw ⊢
              clear AB hbw
              generalize V1.alloc _ = V2 at *
              refine Zy (rs := [11]) (by kernel_rfl) (by decide) ?_
              refine Zl.keep rfl (fun K1 hK1 => ?_) Zl.nil
              go_simp
              refine hK1.out _ _ (fun _ hs => hs.al (Zd V2 (.cells #[.int .i64 0, .int .i64 0, .int .i64 0] 189))) ?_
              clear hK1 K1
              have Zh := Za (Kb.new HR.out #[.int .i64 0, .int .i64 0, .int .i64 0] 189)
              have AB := Za (Zd V2 (.cells #[.int .i64 0, .int .i64 0, .int .i64 0] 189))
              have Lh := Za HC.out.size
              have Zw9 := Za (Zw.out.bel AB.out)
              clear Zw
              have Zw := Zw9
              clear Zw9
              have Zx9 := Za (Zx.out.bel AB.out)
              clear Zx
              have Zx := Zx9
              clear Zx9
              have HR9 := Za (HR.out.bel AB.out)
              clear HR
              have HR := HR9
              clear HR9
              have HC9 := Za (HC.out.trans (Ch.of_bel AB.out))
              clear HC
              have HC := HC9
              clear HC9
              obtain ⟨bh, hbh⟩ : ∃ b, V2.heap.size = b := ⟨_, rfl⟩
              rw [hbh] at Zh Lh ⊢
              clear AB hbh
              generalize V2.alloc _ = V3 at *
              refine Zy (rs := [12]) (by kernel_rfl) (by decide) ?_
              refine Zl.keep rfl (fun K1 hK1 => ?_) Zl.nil
              have p0 := Zb Zw.out.1 0 _ rfl
              have p1 := Zb Zw.out.1 1 _ rfl
              have p2 := Zb Zw.out.1 2 _ rfl
              have p3 := Zb Zw.out.1 3 _ rfl
              have p4 := Zb Zw.out.1 4 _ rfl
              have p5 := Zb Zw.out.1 5 _ rfl
              have f0 := Zc Zw.out.1 0
              have f1 := Zc Zw.out.1 1
              have f2 := Zc Zw.out.1 2
              have f3 := Zc Zw.out.1 3
              have f4 := Zc Zw.out.1 4
              have f5 := Zc Zw.out.1 5
              have OO : Hid (∀ k, k ≠ bw -> ((((((V3.setCell ⟨bw, 0, none⟩ (.int .i64 yk)).setCell ⟨bw, 1, none⟩ (.int .i64 yo)).setCell ⟨bw, 2, none⟩ (.int .i64 ya)).setCell ⟨bw, 3, none⟩ (.int .i64 y0)).setCell ⟨bw, 4, none⟩ (.int .i64 y1)).setCell ⟨bw, 5, none⟩ (.int .u64 y2)).heap[k]? = V3.heap[k]?) := Za (fun k hk => ne6 hk)
              have SZ : Hid (((((((V3.setCell ⟨bw, 0, none⟩ (.int .i64 yk)).setCell ⟨bw, 1, none⟩ (.int .i64 yo)).setCell ⟨bw, 2, none⟩ (.int .i64 ya)).setCell ⟨bw, 3, none⟩ (.int .i64 y0)).setCell ⟨bw, 4, none⟩ (.int .i64 y1)).setCell ⟨bw, 5, none⟩ (.int .u64 y2)).heap.size = V3.heap.size) := Za (by simp only [Zg])
              have ZN := Za (show Kb ((((((V3.setCell ⟨bw, 0, none⟩ (.int .i64 yk)).setCell ⟨bw, 1, none⟩ (.int .i64 yo)).setCell ⟨bw, 2, none⟩ (.int .i64 ya)).setCell ⟨bw, 3, none⟩ (.int .i64 y0)).setCell ⟨bw, 4, none⟩ (.int .i64 y1)).setCell ⟨bw, 5, none⟩ (.int .u64 y2)) G' bw (.cells #[.int .i64 yk, .int .i64 yo, .int .i64 ya, .int .i64 y0, .int .i64 y1, .int .u64 y2] 141 (0, 0)) from ⟨set6 Zw.out.1 (.int .i64 yk) (.int .i64 yo) (.int .i64 ya) (.int .i64 y0) (.int .i64 y1) (.int .u64 y2), Zw.out.2⟩)
              have BL : Hid (Below wo.heap.size V3 ((((((V3.setCell ⟨bw, 0, none⟩ (.int .i64 yk)).setCell ⟨bw, 1, none⟩ (.int .i64 yo)).setCell ⟨bw, 2, none⟩ (.int .i64 ya)).setCell ⟨bw, 3, none⟩ (.int .i64 y0)).setCell ⟨bw, 4, none⟩ (.int .i64 y1)).setCell ⟨bw, 5, none⟩ (.int .u64 y2))) := Za (bel6 (Below.refl _ _) Lw.out (.int .i64 yk) (.int .i64 yo) (.int .i64 ya) (.int .i64 y0) (.int .i64 y1) (.int .u64 y2))
              go_simp
              refine hK1.out _ _ (fun h => absurd h (by decide)) ?_
              clear hK1 K1 p0 f0 p1 f1 p2 f2 p3 f3 p4 f4 p5 f5
              have HR9 := Za (HR.out.keep (fun k hk => OO.out k (fun e => Zw.out.2 (by rw [← e]; exact hk))) (Nat.le_of_eq SZ.out.symm))
              clear HR
              have HR := HR9
              clear HR9
              have HC9 := Za (HC.out.below BL.out)
              clear HC
              have HC := HC9
              clear HC9
              have Zh9 := Za (Zh.out.set (Zn Zh.out.1 Zw.out.1 (by decide)) OO.out)
              clear Zh
              have Zh := Zh9
              clear Zh9
              have Zx9 := Za (Zx.out.set (Zn Zx.out.1 Zw.out.1 (by decide)) OO.out)
              clear Zx
              have Zx := Zx9
              clear Zx9
              clear Zw
              have Zw := ZN
              clear OO SZ ZN BL
              generalize ((((((V3.setCell ⟨bw, 0, none⟩ (.int .i64 yk)).setCell ⟨bw, 1, none⟩ (.int .i64 yo)).setCell ⟨bw, 2, none⟩ (.int .i64 ya)).setCell ⟨bw, 3, none⟩ (.int .i64 y0)).setCell ⟨bw, 4, none⟩ (.int .i64 y1)).setCell ⟨bw, 5, none⟩ (.int .u64 y2)) = V4 at *
              refine Zy (rs := [13]) (by kernel_rfl) (by decide) ?_
              refine Zl.keep rfl (fun K1 hK1 => ?_) Zl.nil
              have p0 := Zb Zh.out.1 0 _ rfl
              have p1 := Zb Zh.out.1 1 _ rfl
              have p2 := Zb Zh.out.1 2 _ rfl
              have f0 := Zc Zh.out.1 0
              have f1 := Zc Zh.out.1 1
              have f2 := Zc Zh.out.1 2
              have OO : Hid (∀ k, k ≠ bh -> (((V4.setCell ⟨bh, 0, none⟩ (.int .i64 hf)).setCell ⟨bh, 1, none⟩ (.int .i64 hn)).setCell ⟨bh, 2, none⟩ (.int .i64 hc)).heap[k]? = V4.heap[k]?) := Za (fun k hk => ne3 hk)
              have SZ : Hid ((((V4.setCell ⟨bh, 0, none⟩ (.int .i64 hf)).setCell ⟨bh, 1, none⟩ (.int .i64 hn)).setCell ⟨bh, 2, none⟩ (.int .i64 hc)).heap.size = V4.heap.size) := Za (by simp only [Zg])
              have ZN := Za (show Kb (((V4.setCell ⟨bh, 0, none⟩ (.int .i64 hf)).setCell ⟨bh, 1, none⟩ (.int .i64 hn)).setCell ⟨bh, 2, none⟩ (.int .i64 hc)) G' bh (.cells #[.int .i64 hf, .int .i64 hn, .int .i64 hc] 189 (0, 0)) from ⟨Yp Zh.out.1 (.int .i64 hf) (.int .i64 hn) (.int .i64 hc), Zh.out.2⟩)
              have BL : Hid (Below wo.heap.size V4 (((V4.setCell ⟨bh, 0, none⟩ (.int .i64 hf)).setCell ⟨bh, 1, none⟩ (.int .i64 hn)).setCell ⟨bh, 2, none⟩ (.int .i64 hc))) := Za (Zq (Below.refl _ _) Lh.out (.int .i64 hf) (.int .i64 hn) (.int .i64 hc))
              go_simp
              refine hK1.out _ _ (fun h => absurd h (by decide)) ?_
              clear hK1 K1 p0 f0 p1 f1 p2 f2
              have HR9 := Za (HR.out.keep (fun k hk => OO.out k (fun e => Zh.out.2 (by rw [← e]; exact hk))) (Nat.le_of_eq SZ.out.symm))
              clear HR
              have HR := HR9
              clear HR9
              have HC9 := Za (HC.out.below BL.out)
              clear HC
              have HC := HC9
              clear HC9
              have Zw9 := Za (Zw.out.set (Zn Zw.out.1 Zh.out.1 (by decide)) OO.out)
              clear Zw
              have Zw := Zw9
              clear Zw9
              have Zx9 := Za (Zx.out.set (Zn Zx.out.1 Zh.out.1 (by decide)) OO.out)
              clear Zx
              have Zx := Zx9
              clear Zx9
              clear Zh
              have Zh := ZN
              clear OO SZ ZN BL
              generalize (((V4.setCell ⟨bh, 0, none⟩ (.int .i64 hf)).setCell ⟨bh, 1, none⟩ (.int .i64 hn)).setCell ⟨bh, 2, none⟩ (.int .i64 hc)) = V5 at *
              refine T_done (by kernel_rfl) ?_ _
              go_wp2_with fail
              go_meet
              case rel => exact ⟨bw, bh, G', rfl, rfl, Za ⟨HR.out, HC.out, Zw.out, Zh.out, Zx.out⟩⟩
            · go_simp
              refine hK1.out _ _ (fun _ hs => hs.al (Zd V1 (.cells #[.int .i64 0, .int .i64 0, .int .i64 0] 189))) ?_
              clear hK1 K1
              have Zh := Za (Kb.new HR.out #[.int .i64 0, .int .i64 0, .int .i64 0] 189)
              have AB := Za (Zd V1 (.cells #[.int .i64 0, .int .i64 0, .int .i64 0] 189))
              have Lh := Za HC.out.size
              have Zx9 := Za (Zx.out.bel AB.out)
              clear Zx
              have Zx := Zx9
              clear Zx9
              have HR9 := Za (HR.out.bel AB.out)
              clear HR
              have HR := HR9
              clear HR9
              have HC9 := Za (HC.out.trans (Ch.of_bel AB.out))
              clear HC
              have HC := HC9
              clear HC9
              obtain ⟨bh, hbh⟩ : ∃ b, V1.heap.size = b := ⟨_, rfl⟩
              rw [hbh] at Zh Lh ⊢
              clear AB hbh
              generalize V1.alloc _ = V2 at *
              refine Zy (rs := [10]) (by kernel_rfl) (by decide) ?_
              refine Zl.keep rfl (fun K1 hK1 => ?_) Zl.nil
              go_simp
              refine hK1.out _ _ (fun _ hs => hs.al (Zd V2 (.cells #[.int .i64 0, .int .i64 0, .int .i64 0, .int .i64 0, .int .i64 0, .int .u64 0] 141))) ?_
              clear hK1 K1
              have Zw := Za (Kb.new HR.out #[.int .i64 0, .int .i64 0, .int .i64 0, .int .i64 0, .int .i64 0, .int .u64 0] 141)
              have AB := Za (Zd V2 (.cells #[.int .i64 0, .int .i64 0, .int .i64 0, .int .i64 0, .int .i64 0, .int .u64 0] 141))
              have Lw := Za HC.out.size
              have Zh9 := Za (Zh.out.bel AB.out)
              clear Zh
              have Zh := Zh9
              clear Zh9
              have Zx9 := Za (Zx.out.bel AB.out)
              clear Zx
              have Zx := Zx9
              clear Zx9
              have HR9 := Za (HR.out.bel AB.out)
              clear HR
              have HR := HR9
              clear HR9
              have HC9 := Za (HC.out.trans (Ch.of_bel AB.out))
              clear HC
              have HC := HC9
              clear HC9
              obtain ⟨bw, hbw⟩ : ∃ b, V2.heap.size = b := ⟨_, rfl⟩
              rw [hbw] at Zw Lw ⊢
              clear AB hbw
              generalize V2.alloc _ = V3 at *
              refine Zy (rs := [12]) (by kernel_rfl) (by decide) ?_
              refine Zl.keep rfl (fun K1 hK1 => ?_) Zl.nil
              have p0 := Zb Zw.out.1 0 _ rfl
              have p1 := Zb Zw.out.1 1 _ rfl
              have p2 := Zb Zw.out.1 2 _ rfl
              have p3 := Zb Zw.out.1 3 _ rfl
              have p4 := Zb Zw.out.1 4 _ rfl
              have p5 := Zb Zw.out.1 5 _ rfl
              have f0 := Zc Zw.out.1 0
              have f1 := Zc Zw.out.1 1
              have f2 := Zc Zw.out.1 2
              have f3 := Zc Zw.out.1 3
              have f4 := Zc Zw.out.1 4
              have f5 := Zc Zw.out.1 5
              have OO : Hid (∀ k, k ≠ bw -> ((((((V3.setCell ⟨bw, 0, none⟩ (.int .i64 yk)).setCell ⟨bw, 1, none⟩ (.int .i64 yo)).setCell ⟨bw, 2, none⟩ (.int .i64 ya)).setCell ⟨bw, 3, none⟩ (.int .i64 y0)).setCell ⟨bw, 4, none⟩ (.int .i64 y1)).setCell ⟨bw, 5, none⟩ (.int .u64 y2)).heap[k]? = V3.heap[k]?) := Za (fun k hk => ne6 hk)
              have SZ : Hid (((((((V3.setCell ⟨bw, 0, none⟩ (.int .i64 yk)).setCell ⟨bw, 1, none⟩ (.int .i64 yo)).setCell ⟨bw, 2, none⟩ (.int .i64 ya)).setCell ⟨bw, 3, none⟩ (.int .i64 y0)).setCell ⟨bw, 4, none⟩ (.int .i64 y1)).setCell ⟨bw, 5, none⟩ (.int .u64 y2)).heap.size = V3.heap.size) := Za (by simp only [Zg])
              have ZN := Za (show Kb ((((((V3.setCell ⟨bw, 0, none⟩ (.int .i64 yk)).setCell ⟨bw, 1, none⟩ (.int .i64 yo)).setCell ⟨bw, 2, none⟩ (.int .i64 ya)).setCell ⟨bw, 3, none⟩ (.int .i64 y0)).setCell ⟨bw, 4, none⟩ (.int .i64 y1)).setCell ⟨bw, 5, none⟩ (.int .u64 y2)) G' bw (.cells #[.int .i64 yk, .int .i64 yo, .int .i64 ya, .int .i64 y0, .int .i64 y1, .int .u64 y2] 141 (0, 0)) from ⟨set6 Zw.out.1 (.int .i64 yk) (.int .i64 yo) (.int .i64 ya) (.int .i64 y0) (.int .i64 y1) (.int .u64 y2), Zw.out.2⟩)
              have BL : Hid (Below wo.heap.size V3 ((((((V3.setCell ⟨bw, 0, none⟩ (.int .i64 yk)).setCell ⟨bw, 1, none⟩ (.int .i64 yo)).setCell ⟨bw, 2, none⟩ (.int .i64 ya)).setCell ⟨bw, 3, none⟩ (.int .i64 y0)).setCell ⟨bw, 4, none⟩ (.int .i64 y1)).setCell ⟨bw, 5, none⟩ (.int .u64 y2))) := Za (bel6 (Below.refl _ _) Lw.out (.int .i64 yk) (.int .i64 yo) (.int .i64 ya) (.int .i64 y0) (.int .i64 y1) (.int .u64 y2))
              go_simp
              refine hK1.out _ _ (fun h => absurd h (by decide)) ?_
              clear hK1 K1 p0 f0 p1 f1 p2 f2 p3 f3 p4 f4 p5 f5
              have HR9 := Za (HR.out.keep (fun k hk => OO.out k (fun e => Zw.out.2 (by rw [← e]; exact hk))) (Nat.le_of_eq SZ.out.symm))
              clear HR
              have HR := HR9
              clear HR9
              have HC9 := Za (HC.out.below BL.out)
              clear HC
              have HC := HC9
              clear HC9
              have Zh9 := Za (Zh.out.set (Zn Zh.out.1 Zw.out.1 (by decide)) OO.out)
              clear Zh
              have Zh := Zh9
              clear Zh9
              have Zx9 := Za (Zx.out.set (Zn Zx.out.1 Zw.out.1 (by decide)) OO.out)
              clear Zx
              have Zx := Zx9
              clear Zx9
              clear Zw
              have Zw := ZN
              clear OO SZ ZN BL
              generalize ((((((V3.setCell ⟨bw, 0, none⟩ (.int .i64 yk)).setCell ⟨bw, 1, none⟩ (.int .i64 yo)).setCell ⟨bw, 2, none⟩ (.int .i64 ya)).setCell ⟨bw, 3, none⟩ (.int .i64 y0)).setCell ⟨bw, 4, none⟩ (.int .i64 y1)).setCell ⟨bw, 5, none⟩ (.int .u64 y2)) = V4 at *
              refine Zy (rs := [13]) (by kernel_rfl) (by decide) ?_
              refine Zl.keep rfl (fun K1 hK1 => ?_) Zl.nil
              have p0 := Zb Zh.out.1 0 _ rfl
              have p1 := Zb Zh.out.1 1 _ rfl
              have p2 := Zb Zh.out.1 2 _ rfl
              have f0 := Zc Zh.out.1 0
              have f1 := Zc Zh.out.1 1
              have f2 := Zc Zh.out.1 2
              have OO : Hid (∀ k, k ≠ bh -> (((V4.setCell ⟨bh, 0, none⟩ (.int .i64 hf)).setCell ⟨bh, 1, none⟩ (.int .i64 hn)).setCell ⟨bh, 2, none⟩ (.int .i64 hc)).heap[k]? = V4.heap[k]?) := Za (fun k hk => ne3 hk)
              have SZ : Hid ((((V4.setCell ⟨bh, 0, none⟩ (.int .i64 hf)).setCell ⟨bh, 1, none⟩ (.int .i64 hn)).setCell ⟨bh, 2, none⟩ (.int .i64 hc)).heap.size = V4.heap.size) := Za (by simp only [Zg])
              have ZN := Za (show Kb (((V4.setCell ⟨bh, 0, none⟩ (.int .i64 hf)).setCell ⟨bh, 1, none⟩ (.int .i64 hn)).setCell ⟨bh, 2, none⟩ (.int .i64 hc)) G' bh (.cells #[.int .i64 hf, .int .i64 hn, .int .i64 hc] 189 (0, 0)) from ⟨Yp Zh.out.1 (.int .i64 hf) (.int .i64 hn) (.int .i64 hc), Zh.out.2⟩)
              have BL : Hid (Below wo.heap.size V4 (((V4.setCell ⟨bh, 0, none⟩ (.int .i64 hf)).setCell ⟨bh, 1, none⟩ (.int .i64 hn)).setCell ⟨bh, 2, none⟩ (.int .i64 hc))) := Za (Zq (Below.refl _ _) Lh.out (.int .i64 hf) (.int .i64 hn) (.int .i64 hc))
              go_simp
              refine hK1.out _ _ (fun h => absurd h (by decide)) ?_
              clear hK1 K1 p0 f0 p1 f1 p2 f2
              have HR9 := Za (HR.out.keep (fun k hk => OO.out k (fun e => Zh.out.2 (by rw [← e]; exact hk))) (Nat.le_of_eq SZ.out.symm))
              clear HR
              have HR := HR9
              clear HR9
              have HC9 := Za (HC.out.below BL.out)
              clear HC
              have HC := HC9
              clear HC9
              have Zw9 := Za (Zw.out.set (Zn Zw.out.1 Zh.out.1 (by decide)) OO.out)
              clear Zw
              have Zw := Zw9
              clear Zw9
              have Zx9 := Za (Zx.out.set (Zn Zx.out.1 Zh.out.1 (by decide)) OO.out)
              clear Zx
              have Zx := Zx9
              clear Zx9
              clear Zh
              have Zh := ZN
              clear OO SZ ZN BL
              generalize (((V4.setCell ⟨bh, 0, none⟩ (.int .i64 hf)).setCell ⟨bh, 1, none⟩ (.int .i64 hn)).setCell ⟨bh, 2, none⟩ (.int .i64 hc)) = V5 at *
              refine T_done (by kernel_rfl) ?_ _
              go_wp2_with fail
              go_meet
              case rel => exact ⟨bw, bh, G', rfl, rfl, Za ⟨HR.out, HC.out, Zw.out, Zh.out, Zx.out⟩⟩
          · go_simp
            refine hK1.out _ _ (fun _ hs => hs.al (Zd wd (.cells #[.int .i64 0, .int .i64 0, .int .i64 0, .int .i64 0, .int .i64 0, .int .u64 0] 141))) ?_
            clear hK1 K1
            have Zw := Za (Kb.new HR.out #[.int .i64 0, .int .i64 0, .int .i64 0, .int .i64 0, .int .i64 0, .int .u64 0] 141)
            have AB := Za (Zd wd (.cells #[.int .i64 0, .int .i64 0, .int .i64 0, .int .i64 0, .int .i64 0, .int .u64 0] 141))
            have Lw := Za HC.out.size
            have SS9 := Za (SS.out.al AB.out)
            clear SS
            have SS := SS9
            clear SS9
            have Zx9 := Za (Zx.out.bel AB.out)
            clear Zx
            have Zx := Zx9
            clear Zx9
            have HR9 := Za (HR.out.bel AB.out)
            clear HR
            have HR := HR9
            clear HR9
            have HC9 := Za (HC.out.trans (Ch.of_bel AB.out))
            clear HC
            have HC := HC9
            clear HC9
            obtain ⟨bw, hbw⟩ : ∃ b, wd.heap.size = b := ⟨_, rfl⟩
            rw [hbw] at Zw Lw ⊢
            clear AB hbw
            generalize wd.alloc _ = V1 at *
            refine Zy (rs := [6, 11]) (by kernel_rfl) (by decide) ?_
            refine Zl.keep rfl (fun K1 hK1 => ?_) (Zl.keep rfl (fun K1 hK1 => ?_) Zl.nil)
            · go_simp
              refine (NX.out V1 HR.out SS.out.1).mono ?_
              rintro e V2 ⟨rfl, G', rn, ch⟩
              unfold w6V h3V
              refine hK1.out _ _ (fun h => absurd h (by decide)) ?_
              clear hK1 K1
              have CH := Za ch
              clear SS
              have Zw9 := Za (Zw.out.ch CH.out)
              clear Zw
              have Zw := Zw9
              clear Zw9
              have Zx9 := Za (Zx.out.ch CH.out)
              clear Zx
              have Zx := Zx9
              clear Zx9
              clear HR
              have HR := Za rn
              have HC9 := Za (HC.out.trans CH.out)
              clear HC
              have HC := HC9
              clear HC9
              clear rn ch CH
              refine Zr (i := 7) (v := ?_) rfl (by kernel_rfl) (by kernel_rfl) (by kernel_rfl) (fun _ _ _ h => h) (Or.inl ⟨by rfl, ?_⟩) ?_
              rotate_left 1
              · (intro w _; go_simp <;> with_reducible rfl)
              simp only [Act.put, S_]
              refine Zr (i := 8) (v := ?_) rfl (by kernel_rfl) (by kernel_rfl) (by kernel_rfl) (fun _ _ _ h => h) (Or.inl ⟨by rfl, ?_⟩) ?_
              rotate_left 1
              · (intro w _; go_simp <;> with_reducible rfl)
              simp only [Act.put, S_]
              refine Zr (i := 9) (v := ?_) rfl (by kernel_rfl) (by kernel_rfl) (by kernel_rfl) (fun _ _ _ h => h) (Or.inl ⟨by rfl, ?_⟩) ?_
              rotate_left 1
              · (intro w _; go_simp <;> with_reducible rfl)
              simp only [Act.put, S_]
              refine Zy (rs := [11]) (by kernel_rfl) (by decide) ?_
              refine Zl.keep rfl (fun K1 hK1 => ?_) Zl.nil
              go_simp
              refine hK1.out _ _ (fun _ hs => hs.al (Zd V2 (.cells #[.int .i64 0, .int .i64 0, .int .i64 0] 189))) ?_
              clear hK1 K1
              have Zh := Za (Kb.new HR.out #[.int .i64 0, .int .i64 0, .int .i64 0] 189)
              have AB := Za (Zd V2 (.cells #[.int .i64 0, .int .i64 0, .int .i64 0] 189))
              have Lh := Za HC.out.size
              have Zw9 := Za (Zw.out.bel AB.out)
              clear Zw
              have Zw := Zw9
              clear Zw9
              have Zx9 := Za (Zx.out.bel AB.out)
              clear Zx
              have Zx := Zx9
              clear Zx9
              have HR9 := Za (HR.out.bel AB.out)
              clear HR
              have HR := HR9
              clear HR9
              have HC9 := Za (HC.out.trans (Ch.of_bel AB.out))
              clear HC
              have HC := HC9
              clear HC9
              obtain ⟨bh, hbh⟩ : ∃ b, V2.heap.size = b := ⟨_, rfl⟩
              rw [hbh] at Zh Lh ⊢
              clear AB hbh
              generalize V2.alloc _ = V3 at *
              refine Zy (rs := [12]) (by kernel_rfl) (by decide) ?_
              refine Zl.keep rfl (fun K1 hK1 => ?_) Zl.nil
              have p0 := Zb Zw.out.1 0 _ rfl
              have p1 := Zb Zw.out.1 1 _ rfl
              have p2 := Zb Zw.out.1 2 _ rfl
              have p3 := Zb Zw.out.1 3 _ rfl
              have p4 := Zb Zw.out.1 4 _ rfl
              have p5 := Zb Zw.out.1 5 _ rfl
              have f0 := Zc Zw.out.1 0
              have f1 := Zc Zw.out.1 1
              have f2 := Zc Zw.out.1 2
              have f3 := Zc Zw.out.1 3
              have f4 := Zc Zw.out.1 4
              have f5 := Zc Zw.out.1 5
              have OO : Hid (∀ k, k ≠ bw -> ((((((V3.setCell ⟨bw, 0, none⟩ (.int .i64 yk)).setCell ⟨bw, 1, none⟩ (.int .i64 yo)).setCell ⟨bw, 2, none⟩ (.int .i64 ya)).setCell ⟨bw, 3, none⟩ (.int .i64 y0)).setCell ⟨bw, 4, none⟩ (.int .i64 y1)).setCell ⟨bw, 5, none⟩ (.int .u64 y2)).heap[k]? = V3.heap[k]?) := Za (fun k hk => ne6 hk)
              have SZ : Hid (((((((V3.setCell ⟨bw, 0, none⟩ (.int .i64 yk)).setCell ⟨bw, 1, none⟩ (.int .i64 yo)).setCell ⟨bw, 2, none⟩ (.int .i64 ya)).setCell ⟨bw, 3, none⟩ (.int .i64 y0)).setCell ⟨bw, 4, none⟩ (.int .i64 y1)).setCell ⟨bw, 5, none⟩ (.int .u64 y2)).heap.size = V3.heap.size) := Za (by simp only [Zg])
              have ZN := Za (show Kb ((((((V3.setCell ⟨bw, 0, none⟩ (.int .i64 yk)).setCell ⟨bw, 1, none⟩ (.int .i64 yo)).setCell ⟨bw, 2, none⟩ (.int .i64 ya)).setCell ⟨bw, 3, none⟩ (.int .i64 y0)).setCell ⟨bw, 4, none⟩ (.int .i64 y1)).setCell ⟨bw, 5, none⟩ (.int .u64 y2)) G' bw (.cells #[.int .i64 yk, .int .i64 yo, .int .i64 ya, .int .i64 y0, .int .i64 y1, .int .u64 y2] 141 (0, 0)) from ⟨set6 Zw.out.1 (.int .i64 yk) (.int .i64 yo) (.int .i64 ya) (.int .i64 y0) (.int .i64 y1) (.int .u64 y2), Zw.out.2⟩)
              have BL : Hid (Below wo.heap.size V3 ((((((V3.setCell ⟨bw, 0, none⟩ (.int .i64 yk)).setCell ⟨bw, 1, none⟩ (.int .i64 yo)).setCell ⟨bw, 2, none⟩ (.int .i64 ya)).setCell ⟨bw, 3, none⟩ (.int .i64 y0)).setCell ⟨bw, 4, none⟩ (.int .i64 y1)).setCell ⟨bw, 5, none⟩ (.int .u64 y2))) := Za (bel6 (Below.refl _ _) Lw.out (.int .i64 yk) (.int .i64 yo) (.int .i64 ya) (.int .i64 y0) (.int .i64 y1) (.int .u64 y2))
              go_simp
              refine hK1.out _ _ (fun h => absurd h (by decide)) ?_
              clear hK1 K1 p0 f0 p1 f1 p2 f2 p3 f3 p4 f4 p5 f5
              have HR9 := Za (HR.out.keep (fun k hk => OO.out k (fun e => Zw.out.2 (by rw [← e]; exact hk))) (Nat.le_of_eq SZ.out.symm))
              clear HR
              have HR := HR9
              clear HR9
              have HC9 := Za (HC.out.below BL.out)
              clear HC
              have HC := HC9
              clear HC9
              have Zh9 := Za (Zh.out.set (Zn Zh.out.1 Zw.out.1 (by decide)) OO.out)
              clear Zh
              have Zh := Zh9
              clear Zh9
              have Zx9 := Za (Zx.out.set (Zn Zx.out.1 Zw.out.1 (by decide)) OO.out)
              clear Zx
              have Zx := Zx9
              clear Zx9
              clear Zw
              have Zw := ZN
              clear OO SZ ZN BL
              generalize ((((((V3.setCell ⟨bw, 0, none⟩ (.int .i64 yk)).setCell ⟨bw, 1, none⟩ (.int .i64 yo)).setCell ⟨bw, 2, none⟩ (.int .i64 ya)).setCell ⟨bw, 3, none⟩ (.int .i64 y0)).setCell ⟨bw, 4, none⟩ (.int .i64 y1)).setCell ⟨bw, 5, none⟩ (.int .u64 y2)) = V4 at *
              refine Zy (rs := [13]) (by kernel_rfl) (by decide) ?_
              refine Zl.keep rfl (fun K1 hK1 => ?_) Zl.nil
              have p0 := Zb Zh.out.1 0 _ rfl
              have p1 := Zb Zh.out.1 1 _ rfl
              have p2 := Zb Zh.out.1 2 _ rfl
              have f0 := Zc Zh.out.1 0
              have f1 := Zc Zh.out.1 1
              have f2 := Zc Zh.out.1 2
              have OO : Hid (∀ k, k ≠ bh -> (((V4.setCell ⟨bh, 0, none⟩ (.int .i64 hf)).setCell ⟨bh, 1, none⟩ (.int .i64 hn)).setCell ⟨bh, 2, none⟩ (.int .i64 hc)).heap[k]? = V4.heap[k]?) := Za (fun k hk => ne3 hk)
              have SZ : Hid ((((V4.setCell ⟨bh, 0, none⟩ (.int .i64 hf)).setCell ⟨bh, 1, none⟩ (.int .i64 hn)).setCell ⟨bh, 2, none⟩ (.int .i64 hc)).heap.size = V4.heap.size) := Za (by simp only [Zg])
              have ZN := Za (show Kb (((V4.setCell ⟨bh, 0, none⟩ (.int .i64 hf)).setCell ⟨bh, 1, none⟩ (.int .i64 hn)).setCell ⟨bh, 2, none⟩ (.int .i64 hc)) G' bh (.cells #[.int .i64 hf, .int .i64 hn, .int .i64 hc] 189 (0, 0)) from ⟨Yp Zh.out.1 (.int .i64 hf) (.int .i64 hn) (.int .i64 hc), Zh.out.2⟩)
              have BL : Hid (Below wo.heap.size V4 (((V4.setCell ⟨bh, 0, none⟩ (.int .i64 hf)).setCell ⟨bh, 1, none⟩ (.int .i64 hn)).setCell ⟨bh, 2, none⟩ (.int .i64 hc))) := Za (Zq (Below.refl _ _) Lh.out (.int .i64 hf) (.int .i64 hn) (.int .i64 hc))
              go_simp
              refine hK1.out _ _ (fun h => absurd h (by decide)) ?_
              clear hK1 K1 p0 f0 p1 f1 p2 f2
              have HR9 := Za (HR.out.keep (fun k hk => OO.out k (fun e => Zh.out.2 (by rw [← e]; exact hk))) (Nat.le_of_eq SZ.out.symm))
              clear HR
              have HR := HR9
              clear HR9
              have HC9 := Za (HC.out.below BL.out)
              clear HC
              have HC := HC9
              clear HC9
              have Zw9 := Za (Zw.out.set (Zn Zw.out.1 Zh.out.1 (by decide)) OO.out)
              clear Zw
              have Zw := Zw9
              clear Zw9
              have Zx9 := Za (Zx.out.set (Zn Zx.out.1 Zh.out.1 (by decide)) OO.out)
              clear Zx
              have Zx := Zx9
              clear Zx9
              clear Zh
              have Zh := ZN
              clear OO SZ ZN BL
              generalize (((V4.setCell ⟨bh, 0, none⟩ (.int .i64 hf)).setCell ⟨bh, 1, none⟩ (.int .i64 hn)).setCell ⟨bh, 2, none⟩ (.int .i64 hc)) = V5 at *
              refine T_done (by kernel_rfl) ?_ _
              go_wp2_with fail
              go_meet
              case rel => exact ⟨bw, bh, G', rfl, rfl, Za ⟨HR.out, HC.out, Zw.out, Zh.out, Zx.out⟩⟩
            · go_simp
              refine hK1.out _ _ (fun _ hs => hs.al (Zd V1 (.cells #[.int .i64 0, .int .i64 0, .int .i64 0] 189))) ?_
              clear hK1 K1
              have Zh := Za (Kb.new HR.out #[.int .i64 0, .int .i64 0, .int .i64 0] 189)
              have AB := Za (Zd V1 (.cells #[.int .i64 0, .int .i64 0, .int .i64 0] 189))
              have Lh := Za HC.out.size
              have SS9 := Za (SS.out.al AB.out)
              clear SS
              have SS := SS9
              clear SS9
              have Zw9 := Za (Zw.out.bel AB.out)
              clear Zw
              have Zw := Zw9
              clear Zw9
              have Zx9 := Za (Zx.out.bel AB.out)
              clear Zx
              have Zx := Zx9
              clear Zx9
              have HR9 := Za (HR.out.bel AB.out)
              clear HR
              have HR := HR9
              clear HR9
              have HC9 := Za (HC.out.trans (Ch.of_bel AB.out))
              clear HC
              have HC := HC9
              clear HC9
              obtain ⟨bh, hbh⟩ : ∃ b, V1.heap.size = b := ⟨_, rfl⟩
              rw [hbh] at Zh Lh ⊢
              clear AB hbh
              generalize V1.alloc _ = V2 at *
              refine Zy (rs := [6]) (by kernel_rfl) (by decide) ?_
              refine Zl.keep rfl (fun K1 hK1 => ?_) Zl.nil
              go_simp
              refine (NX.out V2 HR.out SS.out.1).mono ?_
              rintro e V3 ⟨rfl, G', rn, ch⟩
              unfold w6V h3V
              refine hK1.out _ _ (fun h => absurd h (by decide)) ?_
              clear hK1 K1
              have CH := Za ch
              clear SS
              have Zw9 := Za (Zw.out.ch CH.out)
              clear Zw
              have Zw := Zw9
              clear Zw9
              have Zh9 := Za (Zh.out.ch CH.out)
              clear Zh
              have Zh := Zh9
              clear Zh9
              have Zx9 := Za (Zx.out.ch CH.out)
              clear Zx
              have Zx := Zx9
              clear Zx9
              clear HR
              have HR := Za rn
              have HC9 := Za (HC.out.trans CH.out)
              clear HC
              have HC := HC9
              clear HC9
              clear rn ch CH
              refine Zr (i := 7) (v := ?_) rfl (by kernel_rfl) (by kernel_rfl) (by kernel_rfl) (fun _ _ _ h => h) (Or.inl ⟨by rfl, ?_⟩) ?_
              rotate_left 1
              · (intro w _; go_simp <;> with_reducible rfl)
              simp only [Act.put, S_]
              refine Zr (i := 8) (v := ?_) rfl (by kernel_rfl) (by kernel_rfl) (by kernel_rfl) (fun _ _ _ h => h) (Or.inl ⟨by rfl, ?_⟩) ?_
              rotate_left 1
              · (intro w _; go_simp <;> with_reducible rfl)
              simp only [Act.put, S_]
              refine Zr (i := 9) (v := ?_) rfl (by kernel_rfl) (by kernel_rfl) (by kernel_rfl) (fun _ _ _ h => h) (Or.inl ⟨by rfl, ?_⟩) ?_
              rotate_left 1
              · (intro w _; go_simp <;> with_reducible rfl)
              simp only [Act.put, S_]
              refine Zy (rs := [12]) (by kernel_rfl) (by decide) ?_
              refine Zl.keep rfl (fun K1 hK1 => ?_) Zl.nil
              have p0 := Zb Zw.out.1 0 _ rfl
              have p1 := Zb Zw.out.1 1 _ rfl
              have p2 := Zb Zw.out.1 2 _ rfl
              have p3 := Zb Zw.out.1 3 _ rfl
              have p4 := Zb Zw.out.1 4 _ rfl
              have p5 := Zb Zw.out.1 5 _ rfl
              have f0 := Zc Zw.out.1 0
              have f1 := Zc Zw.out.1 1
              have f2 := Zc Zw.out.1 2
              have f3 := Zc Zw.out.1 3
              have f4 := Zc Zw.out.1 4
              have f5 := Zc Zw.out.1 5
              have OO : Hid (∀ k, k ≠ bw -> ((((((V3.setCell ⟨bw, 0, none⟩ (.int .i64 yk)).setCell ⟨bw, 1, none⟩ (.int .i64 yo)).setCell ⟨bw, 2, none⟩ (.int .i64 ya)).setCell ⟨bw, 3, none⟩ (.int .i64 y0)).setCell ⟨bw, 4, none⟩ (.int .i64 y1)).setCell ⟨bw, 5, none⟩ (.int .u64 y2)).heap[k]? = V3.heap[k]?) := Za (fun k hk => ne6 hk)
              have SZ : Hid (((((((V3.setCell ⟨bw, 0, none⟩ (.int .i64 yk)).setCell ⟨bw, 1, none⟩ (.int .i64 yo)).setCell ⟨bw, 2, none⟩ (.int .i64 ya)).setCell ⟨bw, 3, none⟩ (.int .i64 y0)).setCell ⟨bw, 4, none⟩ (.int .i64 y1)).setCell ⟨bw, 5, none⟩ (.int .u64 y2)).heap.size = V3.heap.size) := Za (by simp only [Zg])
              have ZN := Za (show Kb ((((((V3.setCell ⟨bw, 0, none⟩ (.int .i64 yk)).setCell ⟨bw, 1, none⟩ (.int .i64 yo)).setCell ⟨bw, 2, none⟩ (.int .i64 ya)).setCell ⟨bw, 3, none⟩ (.int .i64 y0)).setCell ⟨bw, 4, none⟩ (.int .i64 y1)).setCell ⟨bw, 5, none⟩ (.int .u64 y2)) G' bw (.cells #[.int .i64 yk, .int .i64 yo, .int .i64 ya, .int .i64 y0, .int .i64 y1, .int .u64 y2] 141 (0, 0)) from ⟨set6 Zw.out.1 (.int .i64 yk) (.int .i64 yo) (.int .i64 ya) (.int .i64 y0) (.int .i64 y1) (.int .u64 y2), Zw.out.2⟩)
              have BL : Hid (Below wo.heap.size V3 ((((((V3.setCell ⟨bw, 0, none⟩ (.int .i64 yk)).setCell ⟨bw, 1, none⟩ (.int .i64 yo)).setCell ⟨bw, 2, none⟩ (.int .i64 ya)).setCell ⟨bw, 3, none⟩ (.int .i64 y0)).setCell ⟨bw, 4, none⟩ (.int .i64 y1)).setCell ⟨bw, 5, none⟩ (.int .u64 y2))) := Za (bel6 (Below.refl _ _) Lw.out (.int .i64 yk) (.int .i64 yo) (.int .i64 ya) (.int .i64 y0) (.int .i64 y1) (.int .u64 y2))
              go_simp
              refine hK1.out _ _ (fun h => absurd h (by decide)) ?_
              clear hK1 K1 p0 f0 p1 f1 p2 f2 p3 f3 p4 f4 p5 f5
              have HR9 := Za (HR.out.keep (fun k hk => OO.out k (fun e => Zw.out.2 (by rw [← e]; exact hk))) (Nat.le_of_eq SZ.out.symm))
              clear HR
              have HR := HR9
              clear HR9
              have HC9 := Za (HC.out.below BL.out)
              clear HC
              have HC := HC9
              clear HC9
              have Zh9 := Za (Zh.out.set (Zn Zh.out.1 Zw.out.1 (by decide)) OO.out)
              clear Zh
              have Zh := Zh9
              clear Zh9
              have Zx9 := Za (Zx.out.set (Zn Zx.out.1 Zw.out.1 (by decide)) OO.out)
              clear Zx
              have Zx := Zx9
              clear Zx9
              clear Zw
              have Zw := ZN
              clear OO SZ ZN BL
              generalize ((((((V3.setCell ⟨bw, 0, none⟩ (.int .i64 yk)).setCell ⟨bw, 1, none⟩ (.int .i64 yo)).setCell ⟨bw, 2, none⟩ (.int .i64 ya)).setCell ⟨bw, 3, none⟩ (.int .i64 y0)).setCell ⟨bw, 4, none⟩ (.int .i64 y1)).setCell ⟨bw, 5, none⟩ (.int .u64 y2)) = V4 at *
              refine Zy (rs := [13]) (by kernel_rfl) (by decide) ?_
              refine Zl.keep rfl (fun K1 hK1 => ?_) Zl.nil
              have p0 := Zb Zh.out.1 0 _ rfl
              have p1 := Zb Zh.out.1 1 _ rfl
              have p2 := Zb Zh.out.1 2 _ rfl
              have f0 := Zc Zh.out.1 0
              have f1 := Zc Zh.out.1 1
              have f2 := Zc Zh.out.1 2
              have OO : Hid (∀ k, k ≠ bh -> (((V4.setCell ⟨bh, 0, none⟩ (.int .i64 hf)).setCell ⟨bh, 1, none⟩ (.int .i64 hn)).setCell ⟨bh, 2, none⟩ (.int .i64 hc)).heap[k]? = V4.heap[k]?) := Za (fun k hk => ne3 hk)
              have SZ : Hid ((((V4.setCell ⟨bh, 0, none⟩ (.int .i64 hf)).setCell ⟨bh, 1, none⟩ (.int .i64 hn)).setCell ⟨bh, 2, none⟩ (.int .i64 hc)).heap.size = V4.heap.size) := Za (by simp only [Zg])
              have ZN := Za (show Kb (((V4.setCell ⟨bh, 0, none⟩ (.int .i64 hf)).setCell ⟨bh, 1, none⟩ (.int .i64 hn)).setCell ⟨bh, 2, none⟩ (.int .i64 hc)) G' bh (.cells #[.int .i64 hf, .int .i64 hn, .int .i64 hc] 189 (0, 0)) from ⟨Yp Zh.out.1 (.int .i64 hf) (.int .i64 hn) (.int .i64 hc), Zh.out.2⟩)
              have BL : Hid (Below wo.heap.size V4 (((V4.setCell ⟨bh, 0, none⟩ (.int .i64 hf)).setCell ⟨bh, 1, none⟩ (.int .i64 hn)).setCell ⟨bh, 2, none⟩ (.int .i64 hc))) := Za (Zq (Below.refl _ _) Lh.out (.int .i64 hf) (.int .i64 hn) (.int .i64 hc))
              go_simp
              refine hK1.out _ _ (fun h => absurd h (by decide)) ?_
              clear hK1 K1 p0 f0 p1 f1 p2 f2
              have HR9 := Za (HR.out.keep (fun k hk => OO.out k (fun e => Zh.out.2 (by rw [← e]; exact hk))) (Nat.le_of_eq SZ.out.symm))
              clear HR
              have HR := HR9
              clear HR9
              have HC9 := Za (HC.out.below BL.out)
              clear HC
              have HC := HC9
              clear HC9
              have Zw9 := Za (Zw.out.set (Zn Zw.out.1 Zh.out.1 (by decide)) OO.out)
              clear Zw
              have Zw := Zw9
              clear Zw9
              have Zx9 := Za (Zx.out.set (Zn Zx.out.1 Zh.out.1 (by decide)) OO.out)
              clear Zx
              have Zx := Zx9
              clear Zx9
              clear Zh
              have Zh := ZN
              clear OO SZ ZN BL
              generalize (((V4.setCell ⟨bh, 0, none⟩ (.int .i64 hf)).setCell ⟨bh, 1, none⟩ (.int .i64 hn)).setCell ⟨bh, 2, none⟩ (.int .i64 hc)) = V5 at *
              refine T_done (by kernel_rfl) ?_ _
              go_wp2_with fail
              go_meet
              case rel => exact ⟨bw, bh, G', rfl, rfl, Za ⟨HR.out, HC.out, Zw.out, Zh.out, Zx.out⟩⟩
          · go_simp
            refine hK1.out _ _ (fun _ hs => hs.al (Zd wd (.cells #[.int .i64 0, .int .i64 0, .int .i64 0] 189))) ?_
            clear hK1 K1
            have Zh := Za (Kb.new HR.out #[.int .i64 0, .int .i64 0, .int .i64 0] 189)
            have AB := Za (Zd wd (.cells #[.int .i64 0, .int .i64 0, .int .i64 0] 189))
            have Lh := Za HC.out.size
            have SS9 := Za (SS.out.al AB.out)
            clear SS
            have SS := SS9
            clear SS9
            have Zx9 := Za (Zx.out.bel AB.out)
            clear Zx
            have Zx := Zx9
            clear Zx9
            have HR9 := Za (HR.out.bel AB.out)
            clear HR
            have HR := HR9
            clear HR9
            have HC9 := Za (HC.out.trans (Ch.of_bel AB.out))
            clear HC
            have HC := HC9
            clear HC9
            obtain ⟨bh, hbh⟩ : ∃ b, wd.heap.size = b := ⟨_, rfl⟩
            rw [hbh] at Zh Lh ⊢
            clear AB hbh
            generalize wd.alloc _ = V1 at *
            refine Zy (rs := [6, 10]) (by kernel_rfl) (by decide) ?_
            refine Zl.keep rfl (fun K1 hK1 => ?_) (Zl.keep rfl (fun K1 hK1 => ?_) Zl.nil)
            · go_simp
              refine (NX.out V1 HR.out SS.out.1).mono ?_
              rintro e V2 ⟨rfl, G', rn, ch⟩
              unfold w6V h3V
              refine hK1.out _ _ (fun h => absurd h (by decide)) ?_
              clear hK1 K1
              have CH := Za ch
              clear SS
              have Zh9 := Za (Zh.out.ch CH.out)
              clear Zh
              have Zh := Zh9
              clear Zh9
              have Zx9 := Za (Zx.out.ch CH.out)
              clear Zx
              have Zx := Zx9
              clear Zx9
              clear HR
              have HR := Za rn
              have HC9 := Za (HC.out.trans CH.out)
              clear HC
              have HC := HC9
              clear HC9
              clear rn ch CH
              refine Zr (i := 7) (v := ?_) rfl (by kernel_rfl) (by kernel_rfl) (by kernel_rfl) (fun _ _ _ h => h) (Or.inl ⟨by rfl, ?_⟩) ?_
              rotate_left 1
              · (intro w _; go_simp <;> with_reducible rfl)
              simp only [Act.put, S_]
              refine Zr (i := 8) (v := ?_) rfl (by kernel_rfl) (by kernel_rfl) (by kernel_rfl) (fun _ _ _ h => h) (Or.inl ⟨by rfl, ?_⟩) ?_
              rotate_left 1
              · (intro w _; go_simp <;> with_reducible rfl)
              simp only [Act.put, S_]
              refine Zr (i := 9) (v := ?_) rfl (by kernel_rfl) (by kernel_rfl) (by kernel_rfl) (fun _ _ _ h => h) (Or.inl ⟨by rfl, ?_⟩) ?_
              rotate_left 1
              · (intro w _; go_simp <;> with_reducible rfl)
              simp only [Act.put, S_]
              refine Zy (rs := [10]) (by kernel_rfl) (by decide) ?_
              refine Zl.keep rfl (fun K1 hK1 => ?_) Zl.nil
              go_simp
              refine hK1.out _ _ (fun _ hs => hs.al (Zd V2 (.cells #[.int .i64 0, .int .i64 0, .int .i64 0, .int .i64 0, .int .i64 0, .int .u64 0] 141))) ?_
              clear hK1 K1
              have Zw := Za (Kb.new HR.out #[.int .i64 0, .int .i64 0, .int .i64 0, .int .i64 0, .int .i64 0, .int .u64 0] 141)
              have AB := Za (Zd V2 (.cells #[.int .i64 0, .int .i64 0, .int .i64 0, .int .i64 0, .int .i64 0, .int .u64 0] 141))
              have Lw := Za HC.out.size
              have Zh9 := Za (Zh.out.bel AB.out)
              clear Zh
              have Zh := Zh9
              clear Zh9
              have Zx9 := Za (Zx.out.bel AB.out)
              clear Zx
              have Zx := Zx9
              clear Zx9
              have HR9 := Za (HR.out.bel AB.out)
              clear HR
              have HR := HR9
              clear HR9
              have HC9 := Za (HC.out.trans (Ch.of_bel AB.out))
              clear HC
              have HC := HC9
              clear HC9
              obtain ⟨bw, hbw⟩ : ∃ b, V2.heap.size = b := ⟨_, rfl⟩
              rw [hbw] at Zw Lw ⊢
              clear AB hbw
              generalize V2.alloc _ = V3 at *
              refine Zy (rs := [12]) (by kernel_rfl) (by decide) ?_
              refine Zl.keep rfl (fun K1 hK1 => ?_) Zl.nil
              have p0 := Zb Zw.out.1 0 _ rfl
              have p1 := Zb Zw.out.1 1 _ rfl
              have p2 := Zb Zw.out.1 2 _ rfl
              have p3 := Zb Zw.out.1 3 _ rfl
              have p4 := Zb Zw.out.1 4 _ rfl
              have p5 := Zb Zw.out.1 5 _ rfl
              have f0 := Zc Zw.out.1 0
              have f1 := Zc Zw.out.1 1
              have f2 := Zc Zw.out.1 2
              have f3 := Zc Zw.out.1 3
              have f4 := Zc Zw.out.1 4
              have f5 := Zc Zw.out.1 5
              have OO : Hid (∀ k, k ≠ bw -> ((((((V3.setCell ⟨bw, 0, none⟩ (.int .i64 yk)).setCell ⟨bw, 1, none⟩ (.int .i64 yo)).setCell ⟨bw, 2, none⟩ (.int .i64 ya)).setCell ⟨bw, 3, none⟩ (.int .i64 y0)).setCell ⟨bw, 4, none⟩ (.int .i64 y1)).setCell ⟨bw, 5, none⟩ (.int .u64 y2)).heap[k]? = V3.heap[k]?) := Za (fun k hk => ne6 hk)
              have SZ : Hid (((((((V3.setCell ⟨bw, 0, none⟩ (.int .i64 yk)).setCell ⟨bw, 1, none⟩ (.int .i64 yo)).setCell ⟨bw, 2, none⟩ (.int .i64 ya)).setCell ⟨bw, 3, none⟩ (.int .i64 y0)).setCell ⟨bw, 4, none⟩ (.int .i64 y1)).setCell ⟨bw, 5, none⟩ (.int .u64 y2)).heap.size = V3.heap.size) := Za (by simp only [Zg])
              have ZN := Za (show Kb ((((((V3.setCell ⟨bw, 0, none⟩ (.int .i64 yk)).setCell ⟨bw, 1, none⟩ (.int .i64 yo)).setCell ⟨bw, 2, none⟩ (.int .i64 ya)).setCell ⟨bw, 3, none⟩ (.int .i64 y0)).setCell ⟨bw, 4, none⟩ (.int .i64 y1)).setCell ⟨bw, 5, none⟩ (.int .u64 y2)) G' bw (.cells #[.int .i64 yk, .int .i64 yo, .int .i64 ya, .int .i64 y0, .int .i64 y1, .int .u64 y2] 141 (0, 0)) from ⟨set6 Zw.out.1 (.int .i64 yk) (.int .i64 yo) (.int .i64 ya) (.int .i64 y0) (.int .i64 y1) (.int .u64 y2), Zw.out.2⟩)
              have BL : Hid (Below wo.heap.size V3 ((((((V3.setCell ⟨bw, 0, none⟩ (.int .i64 yk)).setCell ⟨bw, 1, none⟩ (.int .i64 yo)).setCell ⟨bw, 2, none⟩ (.int .i64 ya)).setCell ⟨bw, 3, none⟩ (.int .i64 y0)).setCell ⟨bw, 4, none⟩ (.int .i64 y1)).setCell ⟨bw, 5, none⟩ (.int .u64 y2))) := Za (bel6 (Below.refl _ _) Lw.out (.int .i64 yk) (.int .i64 yo) (.int .i64 ya) (.int .i64 y0) (.int .i64 y1) (.int .u64 y2))
              go_simp
              refine hK1.out _ _ (fun h => absurd h (by decide)) ?_
              clear hK1 K1 p0 f0 p1 f1 p2 f2 p3 f3 p4 f4 p5 f5
              have HR9 := Za (HR.out.keep (fun k hk => OO.out k (fun e => Zw.out.2 (by rw [← e]; exact hk))) (Nat.le_of_eq SZ.out.symm))
              clear HR
              have HR := HR9
              clear HR9
              have HC9 := Za (HC.out.below BL.out)
              clear HC
              have HC := HC9
              clear HC9
              have Zh9 := Za (Zh.out.set (Zn Zh.out.1 Zw.out.1 (by decide)) OO.out)
              clear Zh
              have Zh := Zh9
              clear Zh9
              have Zx9 := Za (Zx.out.set (Zn Zx.out.1 Zw.out.1 (by decide)) OO.out)
              clear Zx
              have Zx := Zx9
              clear Zx9
              clear Zw
              have Zw := ZN
              clear OO SZ ZN BL
              generalize ((((((V3.setCell ⟨bw, 0, none⟩ (.int .i64 yk)).setCell ⟨bw, 1, none⟩ (.int .i64 yo)).setCell ⟨bw, 2, none⟩ (.int .i64 ya)).setCell ⟨bw, 3, none⟩ (.int .i64 y0)).setCell ⟨bw, 4, none⟩ (.int .i64 y1)).setCell ⟨bw, 5, none⟩ (.int .u64 y2)) = V4 at *
              refine Zy (rs := [13]) (by kernel_rfl) (by decide) ?_
              refine Zl.keep rfl (fun K1 hK1 => ?_) Zl.nil
              have p0 := Zb Zh.out.1 0 _ rfl
              have p1 := Zb Zh.out.1 1 _ rfl
              have p2 := Zb Zh.out.1 2 _ rfl
              have f0 := Zc Zh.out.1 0
              have f1 := Zc Zh.out.1 1
              have f2 := Zc Zh.out.1 2
              have OO : Hid (∀ k, k ≠ bh -> (((V4.setCell ⟨bh, 0, none⟩ (.int .i64 hf)).setCell ⟨bh, 1, none⟩ (.int .i64 hn)).setCell ⟨bh, 2, none⟩ (.int .i64 hc)).heap[k]? = V4.heap[k]?) := Za (fun k hk => ne3 hk)
              have SZ : Hid ((((V4.setCell ⟨bh, 0, none⟩ (.int .i64 hf)).setCell ⟨bh, 1, none⟩ (.int .i64 hn)).setCell ⟨bh, 2, none⟩ (.int .i64 hc)).heap.size = V4.heap.size) := Za (by simp only [Zg])
              have ZN := Za (show Kb (((V4.setCell ⟨bh, 0, none⟩ (.int .i64 hf)).setCell ⟨bh, 1, none⟩ (.int .i64 hn)).setCell ⟨bh, 2, none⟩ (.int .i64 hc)) G' bh (.cells #[.int .i64 hf, .int .i64 hn, .int .i64 hc] 189 (0, 0)) from ⟨Yp Zh.out.1 (.int .i64 hf) (.int .i64 hn) (.int .i64 hc), Zh.out.2⟩)
              have BL : Hid (Below wo.heap.size V4 (((V4.setCell ⟨bh, 0, none⟩ (.int .i64 hf)).setCell ⟨bh, 1, none⟩ (.int .i64 hn)).setCell ⟨bh, 2, none⟩ (.int .i64 hc))) := Za (Zq (Below.refl _ _) Lh.out (.int .i64 hf) (.int .i64 hn) (.int .i64 hc))
              go_simp
              refine hK1.out _ _ (fun h => absurd h (by decide)) ?_
              clear hK1 K1 p0 f0 p1 f1 p2 f2
              have HR9 := Za (HR.out.keep (fun k hk => OO.out k (fun e => Zh.out.2 (by rw [← e]; exact hk))) (Nat.le_of_eq SZ.out.symm))
              clear HR
              have HR := HR9
              clear HR9
              have HC9 := Za (HC.out.below BL.out)
              clear HC
              have HC := HC9
              clear HC9
              have Zw9 := Za (Zw.out.set (Zn Zw.out.1 Zh.out.1 (by decide)) OO.out)
              clear Zw
              have Zw := Zw9
              clear Zw9
              have Zx9 := Za (Zx.out.set (Zn Zx.out.1 Zh.out.1 (by decide)) OO.out)
              clear Zx
              have Zx := Zx9
              clear Zx9
              clear Zh
              have Zh := ZN
              clear OO SZ ZN BL
              generalize (((V4.setCell ⟨bh, 0, none⟩ (.int .i64 hf)).setCell ⟨bh, 1, none⟩ (.int .i64 hn)).setCell ⟨bh, 2, none⟩ (.int .i64 hc)) = V5 at *
              refine T_done (by kernel_rfl) ?_ _
              go_wp2_with fail
              go_meet
              case rel => exact ⟨bw, bh, G', rfl, rfl, Za ⟨HR.out, HC.out, Zw.out, Zh.out, Zx.out⟩⟩
            · go_simp
              refine hK1.out _ _ (fun _ hs => hs.al (Zd V1 (.cells #[.int .i64 0, .int .i64 0, .int .i64 0, .int .i64 0, .int .i64 0, .int .u64 0] 141))) ?_
              clear hK1 K1
              have Zw := Za (Kb.new HR.out #[.int .i64 0, .int .i64 0, .int .i64 0, .int .i64 0, .int .i64 0, .int .u64 0] 141)
              have AB := Za (Zd V1 (.cells #[.int .i64 0, .int .i64 0, .int .i64 0, .int .i64 0, .int .i64 0, .int .u64 0] 141))
              have Lw := Za HC.out.size
              have SS9 := Za (SS.out.al AB.out)
              clear SS
              have SS := SS9
              clear SS9
              have Zh9 := Za (Zh.out.bel AB.out)
              clear Zh
              have Zh := Zh9
              clear Zh9
              have Zx9 := Za (Zx.out.bel AB.out)
              clear Zx
              have Zx := Zx9
              clear Zx9
              have HR9 := Za (HR.out.bel AB.out)
              clear HR
              have HR := HR9
              clear HR9
              have HC9 := Za (HC.out.trans (Ch.of_bel AB.out))
              clear HC
              have HC := HC9
              clear HC9
              obtain ⟨bw, hbw⟩ : ∃ b, V1.heap.size = b := ⟨_, rfl⟩
              rw [hbw] at Zw Lw ⊢
              clear AB hbw
              generalize V1.alloc _ = V2 at *
              refine Zy (rs := [6]) (by kernel_rfl) (by decide) ?_
              refine Zl.keep rfl (fun K1 hK1 => ?_) Zl.nil
              go_simp
              refine (NX.out V2 HR.out SS.out.1).mono ?_
              rintro e V3 ⟨rfl, G', rn, ch⟩
              unfold w6V h3V
              refine hK1.out _ _ (fun h => absurd h (by decide)) ?_
              clear hK1 K1
              have CH := Za ch
              clear SS
              have Zw9 := Za (Zw.out.ch CH.out)
              clear Zw
              have Zw := Zw9
              clear Zw9
              have Zh9 := Za (Zh.out.ch CH.out)
              clear Zh
              have Zh := Zh9
              clear Zh9
              have Zx9 := Za (Zx.out.ch CH.out)
              clear Zx
              have Zx := Zx9
              clear Zx9
              clear HR
              have HR := Za rn
              have HC9 := Za (HC.out.trans CH.out)
              clear HC
              have HC := HC9
              clear HC9
              clear rn ch CH
              refine Zr (i := 7) (v := ?_) rfl (by kernel_rfl) (by kernel_rfl) (by kernel_rfl) (fun _ _ _ h => h) (Or.inl ⟨by rfl, ?_⟩) ?_
              rotate_left 1
              · (intro w _; go_simp <;> with_reducible rfl)
              simp only [Act.put, S_]
              refine Zr (i := 8) (v := ?_) rfl (by kernel_rfl) (by kernel_rfl) (by kernel_rfl) (fun _ _ _ h => h) (Or.inl ⟨by rfl, ?_⟩) ?_
              rotate_left 1
              · (intro w _; go_simp <;> with_reducible rfl)
              simp only [Act.put, S_]
              refine Zr (i := 9) (v := ?_) rfl (by kernel_rfl) (by kernel_rfl) (by kernel_rfl) (fun _ _ _ h => h) (Or.inl ⟨by rfl, ?_⟩) ?_
              rotate_left 1
              · (intro w _; go_simp <;> with_reducible rfl)
              simp only [Act.put, S_]
              refine Zy (rs := [12]) (by kernel_rfl) (by decide) ?_
              refine Zl.keep rfl (fun K1 hK1 => ?_) Zl.nil
              have p0 := Zb Zw.out.1 0 _ rfl
              have p1 := Zb Zw.out.1 1 _ rfl
              have p2 := Zb Zw.out.1 2 _ rfl
              have p3 := Zb Zw.out.1 3 _ rfl
              have p4 := Zb Zw.out.1 4 _ rfl
              have p5 := Zb Zw.out.1 5 _ rfl
              have f0 := Zc Zw.out.1 0
              have f1 := Zc Zw.out.1 1
              have f2 := Zc Zw.out.1 2
              have f3 := Zc Zw.out.1 3
              have f4 := Zc Zw.out.1 4
              have f5 := Zc Zw.out.1 5
              have OO : Hid (∀ k, k ≠ bw -> ((((((V3.setCell ⟨bw, 0, none⟩ (.int .i64 yk)).setCell ⟨bw, 1, none⟩ (.int .i64 yo)).setCell ⟨bw, 2, none⟩ (.int .i64 ya)).setCell ⟨bw, 3, none⟩ (.int .i64 y0)).setCell ⟨bw, 4, none⟩ (.int .i64 y1)).setCell ⟨bw, 5, none⟩ (.int .u64 y2)).heap[k]? = V3.heap[k]?) := Za (fun k hk => ne6 hk)
              have SZ : Hid (((((((V3.setCell ⟨bw, 0, none⟩ (.int .i64 yk)).setCell ⟨bw, 1, none⟩ (.int .i64 yo)).setCell ⟨bw, 2, none⟩ (.int .i64 ya)).setCell ⟨bw, 3, none⟩ (.int .i64 y0)).setCell ⟨bw, 4, none⟩ (.int .i64 y1)).setCell ⟨bw, 5, none⟩ (.int .u64 y2)).heap.size = V3.heap.size) := Za (by simp only [Zg])
              have ZN := Za (show Kb ((((((V3.setCell ⟨bw, 0, none⟩ (.int .i64 yk)).setCell ⟨bw, 1, none⟩ (.int .i64 yo)).setCell ⟨bw, 2, none⟩ (.int .i64 ya)).setCell ⟨bw, 3, none⟩ (.int .i64 y0)).setCell ⟨bw, 4, none⟩ (.int .i64 y1)).setCell ⟨bw, 5, none⟩ (.int .u64 y2)) G' bw (.cells #[.int .i64 yk, .int .i64 yo, .int .i64 ya, .int .i64 y0, .int .i64 y1, .int .u64 y2] 141 (0, 0)) from ⟨set6 Zw.out.1 (.int .i64 yk) (.int .i64 yo) (.int .i64 ya) (.int .i64 y0) (.int .i64 y1) (.int .u64 y2), Zw.out.2⟩)
              have BL : Hid (Below wo.heap.size V3 ((((((V3.setCell ⟨bw, 0, none⟩ (.int .i64 yk)).setCell ⟨bw, 1, none⟩ (.int .i64 yo)).setCell ⟨bw, 2, none⟩ (.int .i64 ya)).setCell ⟨bw, 3, none⟩ (.int .i64 y0)).setCell ⟨bw, 4, none⟩ (.int .i64 y1)).setCell ⟨bw, 5, none⟩ (.int .u64 y2))) := Za (bel6 (Below.refl _ _) Lw.out (.int .i64 yk) (.int .i64 yo) (.int .i64 ya) (.int .i64 y0) (.int .i64 y1) (.int .u64 y2))
              go_simp
              refine hK1.out _ _ (fun h => absurd h (by decide)) ?_
              clear hK1 K1 p0 f0 p1 f1 p2 f2 p3 f3 p4 f4 p5 f5
              have HR9 := Za (HR.out.keep (fun k hk => OO.out k (fun e => Zw.out.2 (by rw [← e]; exact hk))) (Nat.le_of_eq SZ.out.symm))
              clear HR
              have HR := HR9
              clear HR9
              have HC9 := Za (HC.out.below BL.out)
              clear HC
              have HC := HC9
              clear HC9
              have Zh9 := Za (Zh.out.set (Zn Zh.out.1 Zw.out.1 (by decide)) OO.out)
              clear Zh
              have Zh := Zh9
              clear Zh9
              have Zx9 := Za (Zx.out.set (Zn Zx.out.1 Zw.out.1 (by decide)) OO.out)
              clear Zx
              have Zx := Zx9
              clear Zx9
              clear Zw
              have Zw := ZN
              clear OO SZ ZN BL
              generalize ((((((V3.setCell ⟨bw, 0, none⟩ (.int .i64 yk)).setCell ⟨bw, 1, none⟩ (.int .i64 yo)).setCell ⟨bw, 2, none⟩ (.int .i64 ya)).setCell ⟨bw, 3, none⟩ (.int .i64 y0)).setCell ⟨bw, 4, none⟩ (.int .i64 y1)).setCell ⟨bw, 5, none⟩ (.int .u64 y2)) = V4 at *
              refine Zy (rs := [13]) (by kernel_rfl) (by decide) ?_
              refine Zl.keep rfl (fun K1 hK1 => ?_) Zl.nil
              have p0 := Zb Zh.out.1 0 _ rfl
              have p1 := Zb Zh.out.1 1 _ rfl
              have p2 := Zb Zh.out.1 2 _ rfl
              have f0 := Zc Zh.out.1 0
              have f1 := Zc Zh.out.1 1
              have f2 := Zc Zh.out.1 2
              have OO : Hid (∀ k, k ≠ bh -> (((V4.setCell ⟨bh, 0, none⟩ (.int .i64 hf)).setCell ⟨bh, 1, none⟩ (.int .i64 hn)).setCell ⟨bh, 2, none⟩ (.int .i64 hc)).heap[k]? = V4.heap[k]?) := Za (fun k hk => ne3 hk)
              have SZ : Hid ((((V4.setCell ⟨bh, 0, none⟩ (.int .i64 hf)).setCell ⟨bh, 1, none⟩ (.int .i64 hn)).setCell ⟨bh, 2, none⟩ (.int .i64 hc)).heap.size = V4.heap.size) := Za (by simp only [Zg])
              have ZN := Za (show Kb (((V4.setCell ⟨bh, 0, none⟩ (.int .i64 hf)).setCell ⟨bh, 1, none⟩ (.int .i64 hn)).setCell ⟨bh, 2, none⟩ (.int .i64 hc)) G' bh (.cells #[.int .i64 hf, .int .i64 hn, .int .i64 hc] 189 (0, 0)) from ⟨Yp Zh.out.1 (.int .i64 hf) (.int .i64 hn) (.int .i64 hc), Zh.out.2⟩)
              have BL : Hid (Below wo.heap.size V4 (((V4.setCell ⟨bh, 0, none⟩ (.int .i64 hf)).setCell ⟨bh, 1, none⟩ (.int .i64 hn)).setCell ⟨bh, 2, none⟩ (.int .i64 hc))) := Za (Zq (Below.refl _ _) Lh.out (.int .i64 hf) (.int .i64 hn) (.int .i64 hc))
              go_simp
              refine hK1.out _ _ (fun h => absurd h (by decide)) ?_
              clear hK1 K1 p0 f0 p1 f1 p2 f2
              have HR9 := Za (HR.out.keep (fun k hk => OO.out k (fun e => Zh.out.2 (by rw [← e]; exact hk))) (Nat.le_of_eq SZ.out.symm))
              clear HR
              have HR := HR9
              clear HR9
              have HC9 := Za (HC.out.below BL.out)
              clear HC
              have HC := HC9
              clear HC9
              have Zw9 := Za (Zw.out.set (Zn Zw.out.1 Zh.out.1 (by decide)) OO.out)
              clear Zw
              have Zw := Zw9
              clear Zw9
              have Zx9 := Za (Zx.out.set (Zn Zx.out.1 Zh.out.1 (by decide)) OO.out)
              clear Zx
              have Zx := Zx9
              clear Zx9
              clear Zh
              have Zh := ZN
              clear OO SZ ZN BL
              generalize (((V4.setCell ⟨bh, 0, none⟩ (.int .i64 hf)).setCell ⟨bh, 1, none⟩ (.int .i64 hn)).setCell ⟨bh, 2, none⟩ (.int .i64 hc)) = V5 at *
              refine T_done (by kernel_rfl) ?_ _
              go_wp2_with fail
              go_meet
              case rel => exact ⟨bw, bh, G', rfl, rfl, Za ⟨HR.out, HC.out, Zw.out, Zh.out, Zx.out⟩⟩
        case rest =>
          obtain ⟨bw, bh, G', rfl, rfl, HK⟩ := hcut
          clear NX SS HR HC Zx
          obtain ⟨hr, hc', zw, zh, zx⟩ := HK.out
          have TD := Za (rTold_any (hr.bel (w' := wc.drew) (Zs (Below.refl _ _))) i HL1.out ⟨yk, yo, ya, (y0, y1, y2)⟩ hf hn hc)
          unfold w6V h3V at TD
          simp only at TD
          have HC := Za hc'.drew
          have q0 := Zb zx.1 0 _ rfl
          have u0 := Zb zw.1 0 _ rfl
          have u1 := Zb zw.1 1 _ rfl
          have u2 := Zb zw.1 2 _ rfl
          have u3 := Zb zw.1 3 _ rfl
          have u4 := Zb zw.1 4 _ rfl
          have u5 := Zb zw.1 5 _ rfl
          have v0 := Zb zh.1 0 _ rfl
          have v1 := Zb zh.1 1 _ rfl
          have v2 := Zb zh.1 2 _ rfl
          clear hr hc' zw zh zx HK
          go_wp2_with fail
          refine ZT 7 ZU (by kernel_rfl) ?_
          simp only [List.take_succ_cons, List.take_zero, List.drop_succ_cons, List.drop_zero]
          repeat (first | go_big_quiet_skip | (go_big_quiet_want; go_big_quiet_op; go_big_quiet_on))
          refine wpQuiet_nil ?_
          clear q0 u0 u1 u2 u3 u4 u5 v0 v1 v2
          generalize wc.drew = wd at *
          go_wp2_with fail
          refine TD.out.mono ?_
          rintro e w3 ⟨rfl, G3, rn, ch⟩
          have Z3 := Za (And.intro rn ch)
          clear rn ch TD
          go_wp2_with fail
          go_roundw
          case rel => exact ⟨k + 1, by omega, by go_num, Za ⟨G3, by rw [HA1.out]; exact Z3.out.1, AK.out.ch (HC.out.trans Z3.out.2), CK.out.trans (HC.out.trans Z3.out.2)⟩⟩
          case measure => simp [intOf]; omega
      · have hd : (rc.e.o == 0) = false := by simp [he]
        have e1 : Hid (asksZ r (lx.map Prod.fst) (k + 1) = rc) := Za (by rw [hst.out]; unfold ask1Z; rw [if_neg he])
        clear he
        go_wp2_with fail
        go_roundw
        case rel => exact ⟨k + 1, by omega, by go_num, Za ⟨Gk, by rw [e1.out]; exact HR.out, AK.out.ch HC.out, CK.out.trans HC.out⟩⟩
        case measure => simp [intOf]; omega
    · have ek : k = n := by omega
      subst ek
      obtain ⟨Gk, rk, ak, ck⟩ := HI.out
      have LK := Za (rLook_any rk hB)
      have CK := Za ck
      clear rk ak ck HI
      go_wp2_with fail
      refine LK.out.mono ?_
      rintro e w3 ⟨rfl, G', rn, ch⟩
      have Z := Za (And.intro rn ch)
      clear rn ch LK
      go_wp2_with fail
      go_end0
      exact ⟨rfl, G', Z.out.1, CK.out.trans Z.out.2⟩
theorem push_n {w : World} {v : Value} {l : List Nat} {n gx : Nat} (hn : n = l.length) (hl : n <= 1000) (ho : w.ownsRow 0 3 1 v n (nns l)) (x : Nat) (hx : w.cell? ⟨gx, 0, none⟩ = some (.int .i64 (x : Nat))) (ty : TypeId) :
 ∃ v' w', (Builtin.append_ #[22, 22] ty #[v, .slice (some ⟨gx, 0, none⟩) 1 1]).run Tryd.prog w = .ok v' w' /\ ((∃ a c, v' = .slice a (n + 1) c) /\ w'.ownsRow 0 3 1 v' (n + 1) (nns (l ++ [x])) /\ w.grownBy w' v.ownBlock /\ (∀ k, v'.ownBlock = some k -> v.ownBlock = some k ∨ w.heap.size <= k)) := by
 obtain ⟨ie, hi, hz0, hz1, hz2⟩ := info_parts info3
 have hc : ∀ (j : Nat) (u : Value), (nns [x])[j]? = some u -> w.cell? ((⟨gx, 0, none⟩ : Addr).add j) = some u := fun j u hu => by
  cases j with
  | zero =>
   simp [nns] at hu
   subst hu
   exact hx
  | succ j => simp [nns] at hu
 obtain ⟨v', w', hr, ho', hg, _, hat⟩ := run_append_own_at (P := Tryd.prog) w 0 22 ty 3 ie _ 1 8 Tryd.underlying22 hi hz0 hz1 hz2 rfl (by decide) v n (nns l) ho ⟨gx, 0, none⟩ 1 1 (nns [x]) rfl hc (fun u hu => by simp [nns] at hu; subst hu; rfl) (by unfold maxLen; omega) (by omega) (Nat.zero_le _)
 obtain ⟨a9, c9, e9, _⟩ := Zo ho'
 refine ⟨v', w', hr, ⟨_, _, e9⟩, by rw [show nns (l ++ [x]) = nns l ++ nns [x] by simp [nns]]; exact ho', hg, fun k hk => ?_⟩
 rcases hat with e | e
 · exact .inl (e.symm.trans hk)
 · rw [e] at hk
   right
   have := Option.some.inj hk
   omega
section
variable {w : World} {G Fs Rs Fo R : Nat → Prop} {B g gs gt : Nat} {S : List (List Wt)} {r : Rz} {vW vE vL vO vA : Value} {vs : List Value} {os as_ : List Nat}
theorem Rq.begun (h : Rq w Fs Rs Fo R B g gs gt S r vW vE vL vO vA vs os as_) {w2 : World} {v1 v2 : Value} (fn : Nat) (l : List Wt) (hl : S[fn]? = some l) (hp : r.pe.length <= 8)
 (h1 : w2.ownsRow 0 3 1 v1 (r.pe.length + 1) (nns (os ++ [fn]))) (h2 : w2.ownsRow 0 3 1 v2 (r.pe.length + 1) (nns (as_ ++ [0]))) (hne : ∀ k, v1.ownBlock = some k -> v2.ownBlock ≠ some k)
 (c : Ch (fun k => vO.ownBlock = some k ∨ vA.ownBlock = some k) (fun k => v1.ownBlock = some k ∨ v2.ownBlock = some k) w w2) :
 Rq ((w2.setCell ⟨gt, 1, none⟩ v1).setCell ⟨gt, 2, none⟩ v2) Fs Rs (fun k => Fo k ∨ v1.ownBlock = some k ∨ v2.ownBlock = some k) R B g gs gt S { r with pe := r.pe ++ [l] } vW vE vL v1 v2 vs (os ++ [fn]) (as_ ++ [0]) /\ Ch Fo (fun k => Fo k ∨ v1.ownBlock = some k ∨ v2.ownBlock = some k) w ((w2.setCell ⟨gt, 1, none⟩ v1).setCell ⟨gt, 2, none⟩ v2) := by
 have hsz : ((w2.setCell ⟨gt, 1, none⟩ v1).setCell ⟨gt, 2, none⟩ v2).heap.size = w2.heap.size := by rw [Zg, Zg]
 have hk2 : ∀ {k : Nat}, k ≠ gt -> ((w2.setCell ⟨gt, 1, none⟩ v1).setCell ⟨gt, 2, none⟩ v2).heap[k]? = w2.heap[k]? := fun {k} hk => (Below.heap_setCell _ _ _ _ hk).trans (Below.heap_setCell _ _ _ _ hk)
 obtain ⟨⟨n1, n2, n3, n4⟩, ⟨n6, n7, n8, n9⟩, n5⟩ := h.rowne
 have hk0 : ∀ {k : Nat}, k < w.heap.size -> vO.ownBlock ≠ some k -> vA.ownBlock ≠ some k -> k ≠ gt -> ((w2.setCell ⟨gt, 1, none⟩ v1).setCell ⟨gt, 2, none⟩ v2).heap[k]? = w.heap[k]? := fun {k} a b c' d => (hk2 d).trans (c.blk k a (fun e => e.elim b c'))
 have hA : ∀ {T : TypeId} {n : Nat} {v : Value} {len : Nat} {xs : List Value}, w.ownsRow 0 T n v len xs -> T ≠ 3 -> T ≠ 145 -> ((w2.setCell ⟨gt, 1, none⟩ v1).setCell ⟨gt, 2, none⟩ v2).ownsRow 0 T n v len xs := fun hr h1 h2 => Zk hr fun k hk => hk0 (Zf hr hk).2.1 (fun e => Zp hr h.of h1 k hk e) (fun e => Zp hr h.at' h1 k hk e) (fun e => Zt hr h.tt h2 (by rw [hk, e]))
 have hR : ∀ k, R k -> ((w2.setCell ⟨gt, 1, none⟩ v1).setCell ⟨gt, 2, none⟩ v2).heap[k]? = w.heap[k]? := fun k hk => hk0 (h.rb k hk) (fun e => (h.ro k hk).2 (h.fO k e)) (fun e => (h.ro k hk).2 (h.fA k e)) (fun e => (h.ro k hk).2 (by rw [e]; exact h.ft))
 have hnew : ∀ k, v1.ownBlock = some k ∨ v2.ownBlock = some k -> Fo k ∨ w.heap.size <= k := fun k hk => (c.grow k hk).imp (fun e => e.elim (h.fO k) (h.fA k)) id
 have hgt := h.fb gt h.ft
 have hv1 : v1.ownBlock ≠ some gt := fun e => by
  rcases c.grow gt (.inl e) with h3 | h3
  · exact h3.elim n8 n9
  · omega
 have hv2 : v2.ownBlock ≠ some gt := fun e => by
  rcases c.grow gt (.inr e) with h3 | h3
  · exact h3.elim n8 n9
  · omega
 have hle : w.heap.size <= ((w2.setCell ⟨gt, 1, none⟩ v1).setCell ⟨gt, 2, none⟩ v2).heap.size := by rw [hsz]; exact c.size
 obtain ⟨ol, al, _⟩ := h.ol
 refine ⟨{ h with
  at_ := (hk0 (h.fb g h.fg) n3 n4 n5).trans h.at_
  st := h.st.keep (fun k hk => ?_) hle
  wa := hA h.wa (by decide) (by decide)
  ev := hA h.ev (by decide) (by decide)
  tt := heap_setCell_same _ _ _ _ _ _ (heap_setCell_same _ _ _ _ _ _ ((c.blk gt hgt (fun e => e.elim n8 n9)).trans h.tt))
  al := Zk h.al fun k hk => hR k (h.fL k hk)
  row := fun i l v hl hv => ⟨Zk (h.row i l v hl hv).1 fun k hk => hR k ((h.row i l v hl hv).2 k hk), (h.row i l v hl hv).2⟩
  of := by
   show World.ownsRow _ 0 3 1 _ (r.pe ++ [l]).length _
   rw [List.length_append]
   exact Zk h1 fun k hk => hk2 (fun e => hv1 (by rw [hk, e]))
  at' := by
   show World.ownsRow _ 0 3 1 _ (r.pe ++ [l]).length _
   rw [List.length_append]
   exact Zk h2 fun k hk => hk2 (fun e => hv2 (by rw [hk, e]))
  pos := fun j y o' a' hy hj hj' => ?_
  ne := hne
  fg := .inl h.fg
  ft := .inl h.ft
  fW := fun k hk => .inl (h.fW k hk)
  fE := fun k hk => .inl (h.fE k hk)
  fO := fun k hk => .inr (.inl hk)
  fA := fun k hk => .inr (.inr hk)
  so := fun k hk => ?_
  ro := fun k hk => ⟨(h.ro k hk).1, fun e => ?_⟩
  fb := fun k hk => ?_
  rb := fun k hk => Nat.lt_of_lt_of_le (h.rb k hk) hle
  n8 := ⟨h.n8.1, by rw [List.length_append]; simp; omega⟩ }, ⟨c.os, c.tape, c.output, hle, fun k hk hF => hk0 hk (fun e => hF (h.fO k e)) (fun e => hF (h.fA k e)) (fun e => hF (by rw [e]; exact h.ft)), fun k hk => ?_⟩⟩
 · have hF : ∀ j, Fo j -> k ≠ j := fun j hj e => hk.elim (fun q => (h.so j hj).1 (by rw [← e]; exact q)) (fun q => (h.so j hj).2 (by rw [← e]; exact q))
   exact hk0 (hk.elim (h.st.fb k) (h.st.rb k)) (fun e => hF k (h.fO k e) rfl) (fun e => hF k (h.fA k e) rfl) (hF gt h.ft)
 · by_cases e : j < r.pe.length
   · rw [List.getElem?_append_left e] at hy
     rw [List.getElem?_append_left (by omega)] at hj hj'
     exact h.pos j y o' a' hy hj hj'
   · obtain rfl : j = r.pe.length := by
      have := (List.getElem?_eq_some_iff.1 hy).1
      simp at this
      omega
     rw [List.getElem?_append_right (by omega)] at hy hj hj'
     simp [ol, al] at hy hj hj'
     subst hy hj hj'
     exact ⟨l, hl, Nat.zero_le _, rfl⟩
 · rcases hk with h3 | h3
   · exact h.so k h3
   · rcases hnew k h3 with h4 | h4
     · exact h.so k h4
     · exact ⟨fun e => by have := h.st.fb k e; omega, fun e => by have := h.st.rb k e; omega⟩
 · rcases e with h3 | h3
   · exact (h.ro k hk).2 h3
   · rcases hnew k h3 with h4 | h4
     · exact (h.ro k hk).2 h4
     · have := h.rb k hk
       omega
 · rw [hsz]
   rcases hk with h3 | h3 | h3
   · exact Nat.lt_of_lt_of_le (h.fb k h3) c.size
   · exact (Zf h1 h3).2.1
   · exact (Zf h2 h3).2.1
 · rcases hk with h3 | h3
   · exact .inl h3
   · exact hnew k h3
end
structure Bgn (w wz : World) (gt : Nat) (ob : Obj) (vO vA v1 v2 : Value) (k1 k2 : Nat) (l1 l2 : List Nat) : Prop where
 o1 : wz.ownsRow 0 3 1 v1 k1 (nns l1)
 o2 : wz.ownsRow 0 3 1 v2 k2 (nns l2)
 ne : ∀ k, v1.ownBlock = some k -> v2.ownBlock ≠ some k
 n1 : v1.ownBlock ≠ some gt
 n2 : v2.ownBlock ≠ some gt
 tt : wz.heap[gt]? = some ob
 c : Ch (fun k => vO.ownBlock = some k ∨ vA.ownBlock = some k) (fun k => v1.ownBlock = some k ∨ v2.ownBlock = some k) w wz
section
variable {w wz wy : World} {gt : Nat} {ob : Obj} {vO vA v1 v2 v' : Value} {k1 k2 : Nat} {l1 l2 : List Nat}
theorem Bgn.al (h : Bgn w wz gt ob vO vA v1 v2 k1 k2 l1 l2) (hb : Below wz.heap.size wz wy) : Bgn w wy gt ob vO vA v1 v2 k1 k2 l1 l2 :=
 { h with
  o1 := Zk h.o1 fun k hk => hb.block k (Zf h.o1 hk).2.1
  o2 := Zk h.o2 fun k hk => hb.block k (Zf h.o2 hk).2.1
  tt := (hb.block gt (Ze h.tt)).trans h.tt
  c := h.c.trans (Ch.of_bel hb) }
theorem Bgn.push1 (h : Bgn w wz gt ob vO vA v1 v2 k1 k2 l1 l2) {x : Nat} (ho : wy.ownsRow 0 3 1 v' (k1 + 1) (nns (l1 ++ [x]))) (hg : wz.grownBy wy v1.ownBlock) (hb : ∀ k, v'.ownBlock = some k -> v1.ownBlock = some k ∨ wz.heap.size <= k) : Bgn w wy gt ob vO vA v' v2 (k1 + 1) k2 (l1 ++ [x]) l2 :=
 { h with
  o1 := ho
  o2 := Zk h.o2 fun k hk => hg.block k (Zf h.o2 hk).2.1 (fun e => h.ne k e.symm hk)
  ne := fun k hk e => by
   rcases hb k hk with h1 | h1
   · exact h.ne k h1 e
   · have := (Zf h.o2 e).2.1
     omega
  n1 := fun e => by
   rcases hb gt e with h1 | h1
   · exact h.n1 h1
   · have := Ze h.tt
     omega
  tt := (hg.block gt (Ze h.tt) (fun e => h.n1 e.symm)).trans h.tt
  c := h.c.trans ⟨hg.os, hg.tape, hg.output, hg.size, fun k hk hn => hg.block k hk (fun e => hn (.inl e.symm)), fun k hk => hk.elim (fun e => (hb k e).imp .inl id) (fun e => .inl (.inr e))⟩ }
theorem Bgn.push2 (h : Bgn w wz gt ob vO vA v1 v2 k1 k2 l1 l2) {x : Nat} (ho : wy.ownsRow 0 3 1 v' (k2 + 1) (nns (l2 ++ [x]))) (hg : wz.grownBy wy v2.ownBlock) (hb : ∀ k, v'.ownBlock = some k -> v2.ownBlock = some k ∨ wz.heap.size <= k) : Bgn w wy gt ob vO vA v1 v' k1 (k2 + 1) l1 (l2 ++ [x]) :=
 { h with
  o2 := ho
  o1 := Zk h.o1 fun k hk => hg.block k (Zf h.o1 hk).2.1 (fun e => h.ne k hk e.symm)
  ne := fun k hk e => by
   rcases hb k e with h1 | h1
   · exact h.ne k hk h1
   · have := (Zf h.o1 hk).2.1
     omega
  n2 := fun e => by
   rcases hb gt e with h1 | h1
   · exact h.n2 h1
   · have := Ze h.tt
     omega
  tt := (hg.block gt (Ze h.tt) (fun e => h.n2 e.symm)).trans h.tt
  c := h.c.trans ⟨hg.os, hg.tape, hg.output, hg.size, fun k hk hn => hg.block k hk (fun e => hn (.inr e.symm)), fun k hk => hk.elim (fun e => .inl (.inl e)) (fun e => (hb k e).imp .inr id)⟩ }
end
theorem begin_no {w : World} {Fs Rs Fo R : Nat -> Prop} {B g gs gt : Nat} {S : List (List Wt)} {r : Rz} {vW vE vL vO vA : Value} {vs : List Value} {os as_ : List Nat} (h : Rq w Fs Rs Fo R B g gs gt S r vW vE vL vO vA vs os as_) (fn : Int) (hf : lk S fn = none) : Calls Tryd.prog 96 #[.pointer (some ⟨gt, 0, none⟩), .int .i64 fn] w fun e w' => e = .returned (.bool false) /\ w = w' := by
 have hn := Yv hf
 have c0 := h.cells.2.2.1
 obtain ⟨aL, cL, eL, _⟩ := Zo h.al
 subst eL
 generalize S.length = nS at *
 clear h hf
 by_cases h0 : fn < 0
 · clear hn
   go_enter Tryd.func96, Tryd.ntmps96
   go_wp2_with fail
   go_ret
   exact ⟨by simp, rfl⟩
 · have h1 : (nS : Int) <= fn := by omega
   have h2 : 0 <= fn := by omega
   clear hn h0
   go_enter Tryd.func96, Tryd.ntmps96
   go_wp2_with fail
   go_ret
   exact ⟨by simp, rfl⟩
end Go.Proofs.YtghfjnnmpmfboaaDoor.Ck
