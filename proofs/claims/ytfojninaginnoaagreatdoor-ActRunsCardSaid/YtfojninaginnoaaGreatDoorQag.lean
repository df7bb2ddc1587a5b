/- Texts of this proof, packed: contracts of the program's functions, and the plain model that they are held against. -/
import Derived.Test.YtfojninaginnoaaGreatDoorQaf
set_option maxRecDepth 20000
set_option maxHeartbeats 4000000
namespace Go.Proofs.YtfojninaginnoaaGreatDoor.Ck
open Go.RowKit
theorem next_halt {w : World} {G Fs Fo R : Nat -> Prop} {g gs : Nat} {S : List (List Wt)} {r : Rm} {vC vB vG vE : Value} {ps ts : List Nat} (h : Ru w Fs Fo R g gs S r vC vB vG vE ps ts) (hG : ∀ k, G k ↔ Fs k ∨ Fo k ∨ R k) (i t : Nat) (x : Gr) (hx : r.gs[i]? = some x) (ht : ts[i]? = some t) (y : Wt) (l : List Wt) (hr : x.rest = y :: l) (hk : y.k = 0) (j0 j1 j2 : Int) : Calls Tryz.prog 127 #[P_ t, .agg #[I_ j0, I_ j1, .int .u64 j2]] w (NextP w G g t S { r with gs := r.gs.set i ⟨l, x.w⟩ } zW 7 y.v.2.1 y.a) := by
  obtain ⟨b, hb⟩ : ∃ b, ps[i]? = some b := ⟨_, List.getElem?_eq_getElem (by rw [h.pl]; exact (G_ hx))⟩
  obtain ⟨⟨va, vw, q1, q2, q3, q4⟩, q5, q6⟩ := h.gr i x b t hx hb ht
  rw [hr] at q4
  have q4' := q4
  obtain ⟨a, c, rfl, hac, hcm, hel⟩ := q4
  obtain ⟨b2, o2, vy, rfl, hRb, hcl, hAy⟩ := hel 0 y rfl
  obtain ⟨ay, ny, cy, rfl⟩ := hAy.form
  obtain ⟨yk, yo, ya, y0, y1, y2⟩ := y
  simp only [List.length_cons] at hac q4' q3
  simp only at hk
  subst hk
  obtain ⟨n, hn⟩ : ∃ n, n = l.length := ⟨_, rfl⟩
  rw [← hn] at hac q4' q3
  have c0 : w.cell? ⟨t, 0, none⟩ = some (.slice (some ⟨b2, o2, none⟩) (n + 1) c) := Zb q3 0 _ rfl
  have HT := Za (Ze q3)
  have e0 : w.cell? ⟨b2, o2, none⟩ = some (I_ 0) := hcl 0 _ rfl
  have e1 : w.cell? ⟨b2, o2 + 1, none⟩ = some (I_ yo) := hcl 1 _ rfl
  have e2 : w.cell? ⟨b2, o2 + 2, none⟩ = some (I_ ya) := hcl 2 _ rfl
  have e3 : w.cell? ⟨b2, o2 + 3, none⟩ = some (I_ y0) := hcl 3 _ rfl
  have e4 : w.cell? ⟨b2, o2 + 4, none⟩ = some (I_ y1) := hcl 4 _ rfl
  have e5 : w.cell? ⟨b2, o2 + 5, none⟩ = some (.int .u64 y2) := hcl 5 _ rfl
  have e6 : w.cell? ⟨b2, o2 + 6, none⟩ = some (.slice ay ny cy) := hcl 6 _ rfl
  have EE := Za (And.intro e0 (And.intro e1 (And.intro e2 (And.intro e3 (And.intro e4 (And.intro e5 e6))))))
  have HB2 := Za (h.rb b2 hRb)
  have HA := Za hAy
  have HQ := Za q4'
  have HN := Za hn
  have HU := Za h
  have HG := Za hG
  have HX := Za (And.intro hx ht)
  have C0 := Za c0
  unfold maxLen at hcm
  clear h hG q1 q2 q3 q4' q5 q6 hx ht hb hr c0 hcl hAy hn e0 e1 e2 e3 e4 e5 e6 hel hRb
  have B1 : Hid (Below w.heap.size w (((w.alloc (.cells #[I_ j0, I_ j1, .int .u64 j2] 64)).alloc (.cells #[I_ 0, I_ 0, I_ 0, I_ 0, I_ 0, .int .u64 0, .slice none 0 0] 67)).alloc (.cells #[I_ 0, I_ 0, I_ 0] 122))) := Za (Zu (Zu (Zd w _) _) _)
  have Y1 : Hid ((((w.alloc (.cells #[I_ j0, I_ j1, .int .u64 j2] 64)).alloc (.cells #[I_ 0, I_ 0, I_ 0, I_ 0, I_ 0, .int .u64 0, .slice none 0 0] 67)).alloc (.cells #[I_ 0, I_ 0, I_ 0] 122)).heap[w.heap.size + 1]? = some (.cells #[I_ 0, I_ 0, I_ 0, I_ 0, I_ 0, .int .u64 0, .slice none 0 0] 67 (0, 0))) := Za (by
    have e1 := B_ (w.alloc (.cells #[I_ j0, I_ j1, .int .u64 j2] 64)) (.cells #[I_ 0, I_ 0, I_ 0, I_ 0, I_ 0, .int .u64 0, .slice none 0 0] 67)
    have hs : (w.alloc (.cells #[I_ j0, I_ j1, .int .u64 j2] 64)).heap.size = w.heap.size + 1 := by simp
    rw [hs] at e1
    exact ((Zd _ _).block _ (Ze e1)).trans e1)
  have Y2 : Hid ((((w.alloc (.cells #[I_ j0, I_ j1, .int .u64 j2] 64)).alloc (.cells #[I_ 0, I_ 0, I_ 0, I_ 0, I_ 0, .int .u64 0, .slice none 0 0] 67)).alloc (.cells #[I_ 0, I_ 0, I_ 0] 122)).heap[w.heap.size + 1 + 1]? = some (.cells #[I_ 0, I_ 0, I_ 0] 122 (0, 0))) := Za (by
    have e1 := B_ ((w.alloc (.cells #[I_ j0, I_ j1, .int .u64 j2] 64)).alloc (.cells #[I_ 0, I_ 0, I_ 0, I_ 0, I_ 0, .int .u64 0, .slice none 0 0] 67)) (.cells #[I_ 0, I_ 0, I_ 0] 122)
    have hs : ((w.alloc (.cells #[I_ j0, I_ j1, .int .u64 j2] 64)).alloc (.cells #[I_ 0, I_ 0, I_ 0, I_ 0, I_ 0, .int .u64 0, .slice none 0 0] 67)).heap.size = w.heap.size + 1 + 1 := by simp
    rw [hs] at e1
    exact e1)
  go_enter Tryz.func127, Tryz.ntmps127
  go_upto_region 1 with fail
  generalize ((w.alloc _).alloc _).alloc _ = W1 at *
  have c1 := (B1.out.cell (p := ⟨t, 0, none⟩) HT.out).trans C0.out
  obtain ⟨e0, e1, e2, e3, e4, e5, e6⟩ := EE.out
  have e0 := (B1.out.cell (p := ⟨b2, o2, none⟩) HB2.out).trans e0
  have e1 := (B1.out.cell (p := ⟨b2, o2 + 1, none⟩) HB2.out).trans e1
  have e2 := (B1.out.cell (p := ⟨b2, o2 + 2, none⟩) HB2.out).trans e2
  have e3 := (B1.out.cell (p := ⟨b2, o2 + 3, none⟩) HB2.out).trans e3
  have e4 := (B1.out.cell (p := ⟨b2, o2 + 4, none⟩) HB2.out).trans e4
  have e5 := (B1.out.cell (p := ⟨b2, o2 + 5, none⟩) HB2.out).trans e5
  have e6 := (B1.out.cell (p := ⟨b2, o2 + 6, none⟩) HB2.out).trans e6
  have hnn : ((n : Int) + 1 == 0) = false := by simp; omega
  go_upto_region 4 with fail
  have B2 : Hid (Below w.heap.size w (W1.alloc (.cells #[I_ 0, I_ yo, I_ ya, I_ y0, I_ y1, .int .u64 y2, .slice ay ny cy] 67))) := Za (Zu B1.out _)
  have X1 := Za (((Zd W1 (.cells #[I_ 0, I_ yo, I_ ya, I_ y0, I_ y1, .int .u64 y2, .slice ay ny cy] 67)).block _ (Ze Y1.out)).trans Y1.out)
  have X2 := Za (((Zd W1 (.cells #[I_ 0, I_ yo, I_ ya, I_ y0, I_ y1, .int .u64 y2, .slice ay ny cy] 67)).block _ (Ze Y2.out)).trans Y2.out)
  have X3 := Za (Wv.new W1 0 yo ya y0 y1 y2 (.slice ay ny cy))
  have c2 := ((Zd W1 (.cells #[I_ 0, I_ yo, I_ ya, I_ y0, I_ y1, .int .u64 y2, .slice ay ny cy] 67)).cell (p := ⟨t, 0, none⟩) (Nat.lt_of_lt_of_le HT.out B1.out.size)).trans c1
  have SZ := Za (And.intro (Ze Y2.out) B1.out.size)
  obtain ⟨bl, hbl⟩ : ∃ bl, W1.heap.size = bl := ⟨_, rfl⟩
  rw [hbl] at X3 SZ ⊢
  clear e0 e1 e2 e3 e4 e5 e6 c1 Y1 Y2 B1 hbl
  generalize W1.alloc _ = W2 at *
  by_cases hc1 : c = 1
  · have hn0 : n = 0 := by omega
    subst hn0
    subst hc1
    have HF := Za (HU.out.bel B2.out)
    have f0 : W2.frozen? ⟨t, 0, none⟩ = false := by
      obtain ⟨b', hb'⟩ : ∃ b', ps[i]? = some b' := ⟨_, List.getElem?_eq_getElem (by rw [HU.out.pl]; exact (G_ HX.out.1))⟩
      obtain ⟨⟨va', vw', q1, q2, q3, q4⟩, q5, q6⟩ := HF.out.gr i x b' t HX.out.1 hb' HX.out.2
      exact Zc q3 0
    have WR : WRow W2 R (.slice (some ⟨b2, o2, none⟩) 0 (1 - 1)) l := by
      have hq := HQ.out
      rw [HN.out] at hq ⊢
      exact (hq.tail rfl (some ⟨b2, o2, none⟩) (fun hl => absurd hl (by have := HN.out; omega))).keep (fun k hk => B2.out.block k (HU.out.rb k hk)) (fun _ h => h)
    simp only [Nat.sub_self] at WR
    have MV := Za (HF.out.moveT HX.out.1 HX.out.2 (.slice (some ⟨b2, o2, none⟩) 0 0) l WR)
    have HTW := Za (Nat.lt_of_lt_of_le HT.out B2.out.size)
    clear WR HF
    go_upto_region 5 with fail
    have Z1 := Za ((Below.heap_setCell W2 ⟨t, 0, none⟩ (.slice (some ⟨b2, o2, none⟩) 0 0) _ (by have := HT.out; simp; omega)).trans X1.out)
    have Z2 := Za ((Below.heap_setCell W2 ⟨t, 0, none⟩ (.slice (some ⟨b2, o2, none⟩) 0 0) _ (by have := HT.out; simp; omega)).trans X2.out)
    have Z3 : Hid (Wv (W2.setCell ⟨t, 0, none⟩ (.slice (some ⟨b2, o2, none⟩) 0 0)) bl 0 yo ya (y0, y1, y2) (.slice ay ny cy)) := Za ((Below.heap_setCell W2 ⟨t, 0, none⟩ (.slice (some ⟨b2, o2, none⟩) 0 0) _ (by have := HT.out; have := SZ.out; simp; omega)).trans X3.out)
    have RN := Za (Yk HG.out MV.out.1 MV.out.2)
    have AR : Hid (YN (W2.setCell ⟨t, 0, none⟩ (.slice (some ⟨b2, o2, none⟩) 0 0)) R (.slice ay ny cy)) := Za (HA.out.keep (fun k hk => (Below.heap_setCell _ _ _ _ (fun e => by
      obtain ⟨b', hb'⟩ : ∃ b', ps[i]? = some b' := ⟨_, List.getElem?_eq_getElem (by rw [HU.out.pl]; exact (G_ HX.out.1))⟩
      obtain ⟨_, q5, q6⟩ := HU.out.gr i x b' t HX.out.1 hb' HX.out.2
      have e' : k = t := e
      subst e'
      exact HU.out.ro _ hk q6)).trans (B2.out.block k (HU.out.rb k hk))) (fun _ h => h))
    have B3 := Za (And.intro ((Ch.of_bel B2.out).trans RN.out.2) RN.out.1)
    have K3 : Hid (∀ k, k < w.heap.size -> k ≠ t -> (W2.setCell ⟨t, 0, none⟩ (.slice (some ⟨b2, o2, none⟩) 0 0)).heap[k]? = w.heap[k]?) := Za (fun k hk hne => (Below.heap_setCell _ _ _ _ hne).trans (B2.out.block k hk))
    have S3 := Za (And.intro B2.out.size (by rw [Zi]; exact Nat.le_refl _ : W2.heap.size <= (W2.setCell ⟨t, 0, none⟩ (.slice (some ⟨b2, o2, none⟩) 0 0)).heap.size))
    have GL : Hid (∀ k, (Fs k ∨ Fo k ∨ R k) -> k < w.heap.size) := Za (fun k hk => HU.out.lt hk)
    clear MV RN X1 X2 X3 f0 c2 HU HQ HN HX HA
    generalize W2.setCell ⟨t, 0, none⟩ (.slice (some ⟨b2, o2, none⟩) 0 0) = W3 at *
    obtain ⟨q0, q1, q2, q3, q4, q5, q6⟩ := Z3.out.all
    clear q0 q1 q2 q3 q4 q5 q6 AR HTW B2 S3
    have Z1 : Hid (W3.drew.heap[w.heap.size + 1]? = _) := Z1
    have Z2 : Hid (W3.drew.heap[w.heap.size + 1 + 1]? = _) := Z2
    have K3 : Hid (∀ k, k < w.heap.size -> k ≠ t -> W3.drew.heap[k]? = w.heap[k]?) := K3
    have Z3' : Hid (Wv W3.drew bl 0 yo ya (y0, y1, y2) (.slice ay ny cy)) := Z3
    have B3' := Za (And.intro B3.out.1.drew (B3.out.2.bel (w' := W3.drew) (below_drewN (Below.refl _ _) 1)))
    obtain ⟨q0, q1, q2, q3, q4, q5, q6⟩ := Z3.out.all
    go_wp2_with fail
    clear q0 q1 q2 q3 q4 q5 q6 Z3 B3
    refine wp_region_any ZK ?_
    change wpAny _ _ _ _ _ _ _ (World.drew _)
    generalize World.drew _ = W0 at *
    refine T2_ 0 ?_
    simp only [Act.put, S_]
    refine T2_ 1 ?_
    simp only [Act.put, S_]
    refine T2_ 2 ?_
    simp only [Act.put, S_]
    refine T2_ 4 ?_
    simp only [Act.put, S_]
    refine wpAny_ready (rs := [3, 5, 7]) (by kernel_rfl) (by decide) ?_
    refine AllReady.cons rfl (fun K1 hK1 => ?_) (AllReady.cons rfl (fun K1 hK1 => ?_) (AllReady.cons rfl (fun K1 hK1 => ?_) AllReady.nil))
    · obtain ⟨q0, q1, q2, q3, q4, q5, q6⟩ := Z3'.out.all
      go_simp
      refine hK1 _ _ ?_
      clear hK1 K1 q0 q1 q2 q3 q4 q5 q6
      refine wpAny_ready (rs := [5, 7]) (by kernel_rfl) (by decide) ?_
      refine AllReady.cons rfl (fun K1 hK1 => ?_) (AllReady.cons rfl (fun K1 hK1 => ?_) AllReady.nil)
      · obtain ⟨q0, q1, q2, q3, q4, q5, q6⟩ := Z3'.out.all
        go_simp
        refine hK1 _ _ ?_
        clear hK1 K1 q0 q1 q2 q3 q4 q5 q6
        refine T2_ 6 ?_
        simp only [Act.put, S_]
        refine R_ 7 (fun K1 hK1 => ?_)
        have p0 := Zb Z1.out 0 _ rfl
        have p1 := Zb Z1.out 1 _ rfl
        have p2 := Zb Z1.out 2 _ rfl
        have p3 := Zb Z1.out 3 _ rfl
        have p4 := Zb Z1.out 4 _ rfl
        have p5 := Zb Z1.out 5 _ rfl
        have p6 := Zb Z1.out 6 _ rfl
        have f0 := Zc Z1.out 0
        have f1 := Zc Z1.out 1
        have f2 := Zc Z1.out 2
        have f3 := Zc Z1.out 3
        have f4 := Zc Z1.out 4
        have f5 := Zc Z1.out 5
        have f6 := Zc Z1.out 6
        go_simp
        refine hK1 _ _ ?_
        clear hK1 K1 p0 p1 p2 p3 p4 p5 p6 f0 f1 f2 f3 f4 f5 f6
        have E1 : Hid ((((((((W0.setCell ⟨w.heap.size + 1, 0, none⟩ (I_ 0)).setCell ⟨w.heap.size + 1, 1, none⟩ (I_ 0)).setCell ⟨w.heap.size + 1, 2, none⟩ (I_ 0)).setCell ⟨w.heap.size + 1, 3, none⟩ (I_ 0)).setCell ⟨w.heap.size + 1, 4, none⟩ (I_ 0)).setCell ⟨w.heap.size + 1, 5, none⟩ (.int .u64 0)).setCell ⟨w.heap.size + 1, 6, none⟩ (.slice none 0 0)).heap[w.heap.size + 1]? = some (.cells #[I_ 0, I_ 0, I_ 0, I_ 0, I_ 0, .int .u64 0, .slice none 0 0] 67 (0, 0))) := Za (ZR Z1.out (I_ 0) (I_ 0) (I_ 0) (I_ 0) (I_ 0) (.int .u64 0) (.slice none 0 0))
        have E2 : Hid ((((((((W0.setCell ⟨w.heap.size + 1, 0, none⟩ (I_ 0)).setCell ⟨w.heap.size + 1, 1, none⟩ (I_ 0)).setCell ⟨w.heap.size + 1, 2, none⟩ (I_ 0)).setCell ⟨w.heap.size + 1, 3, none⟩ (I_ 0)).setCell ⟨w.heap.size + 1, 4, none⟩ (I_ 0)).setCell ⟨w.heap.size + 1, 5, none⟩ (.int .u64 0)).setCell ⟨w.heap.size + 1, 6, none⟩ (.slice none 0 0)).heap[w.heap.size + 1 + 1]? = some (.cells #[I_ 0, I_ 0, I_ 0] 122 (0, 0))) := Za ((Zy (o := 0) (by omega)).trans Z2.out)
        have E3 : Hid (Wv (((((((W0.setCell ⟨w.heap.size + 1, 0, none⟩ (I_ 0)).setCell ⟨w.heap.size + 1, 1, none⟩ (I_ 0)).setCell ⟨w.heap.size + 1, 2, none⟩ (I_ 0)).setCell ⟨w.heap.size + 1, 3, none⟩ (I_ 0)).setCell ⟨w.heap.size + 1, 4, none⟩ (I_ 0)).setCell ⟨w.heap.size + 1, 5, none⟩ (.int .u64 0)).setCell ⟨w.heap.size + 1, 6, none⟩ (.slice none 0 0)) bl 0 yo ya (y0, y1, y2) (.slice ay ny cy)) := Za ((Zy (o := 0) (by have := SZ.out; omega)).trans Z3'.out)
        have E4 : Hid (Below w.heap.size W0 (((((((W0.setCell ⟨w.heap.size + 1, 0, none⟩ (I_ 0)).setCell ⟨w.heap.size + 1, 1, none⟩ (I_ 0)).setCell ⟨w.heap.size + 1, 2, none⟩ (I_ 0)).setCell ⟨w.heap.size + 1, 3, none⟩ (I_ 0)).setCell ⟨w.heap.size + 1, 4, none⟩ (I_ 0)).setCell ⟨w.heap.size + 1, 5, none⟩ (.int .u64 0)).setCell ⟨w.heap.size + 1, 6, none⟩ (.slice none 0 0))) := Za (ZM (o := 0) (Below.refl _ _) (by omega))
        generalize (((((((W0.setCell ⟨w.heap.size + 1, 0, none⟩ (I_ 0)).setCell ⟨w.heap.size + 1, 1, none⟩ (I_ 0)).setCell ⟨w.heap.size + 1, 2, none⟩ (I_ 0)).setCell ⟨w.heap.size + 1, 3, none⟩ (I_ 0)).setCell ⟨w.heap.size + 1, 4, none⟩ (I_ 0)).setCell ⟨w.heap.size + 1, 5, none⟩ (.int .u64 0)).setCell ⟨w.heap.size + 1, 6, none⟩ (.slice none 0 0)) = W5 at *
        refine R_ 8 (fun K1 hK1 => ?_)
        have n0 := Zb E2.out 0 _ rfl
        have n1 := Zb E2.out 1 _ rfl
        have n2 := Zb E2.out 2 _ rfl
        have m0 := Zc E2.out 0
        have m1 := Zc E2.out 1
        have m2 := Zc E2.out 2
        go_simp
        refine hK1 _ _ ?_
        clear hK1 K1 n0 n1 n2 m0 m1 m2
        refine wpAny_done (by kernel_rfl) ?_ _
        go_wp2_with fail
        have BB : Below w.heap.size W0 (((W5.setCell ⟨w.heap.size + 1 + 1, 0, none⟩ (I_ 7)).setCell ⟨w.heap.size + 1 + 1, 1, none⟩ (I_ y1)).setCell ⟨w.heap.size + 1 + 1, 2, none⟩ (I_ ya)) := Zt E4.out (by omega) _ _ _
        exact YK (w.heap.size + 1) (w.heap.size + 1 + 1) rfl rfl rfl ⟨_, _, _, rfl⟩ ((ne3 (by omega)).trans E1.out) (YA E2.out _ _ _) rfl ⟨_, rfl, YD.nilS, fun k hk hne => (BB.block k hk).trans (K3.out k hk hne), _, B3'.out.2.low (N := w.heap.size) GL.out BB, B3'.out.1.below BB⟩
      · have p0 := Zb Z1.out 0 _ rfl
        have p1 := Zb Z1.out 1 _ rfl
        have p2 := Zb Z1.out 2 _ rfl
        have p3 := Zb Z1.out 3 _ rfl
        have p4 := Zb Z1.out 4 _ rfl
        have p5 := Zb Z1.out 5 _ rfl
        have p6 := Zb Z1.out 6 _ rfl
        have f0 := Zc Z1.out 0
        have f1 := Zc Z1.out 1
        have f2 := Zc Z1.out 2
        have f3 := Zc Z1.out 3
        have f4 := Zc Z1.out 4
        have f5 := Zc Z1.out 5
        have f6 := Zc Z1.out 6
        go_simp
        refine hK1 _ _ ?_
        clear hK1 K1 p0 p1 p2 p3 p4 p5 p6 f0 f1 f2 f3 f4 f5 f6
        have E1 : Hid ((((((((W0.setCell ⟨w.heap.size + 1, 0, none⟩ (I_ 0)).setCell ⟨w.heap.size + 1, 1, none⟩ (I_ 0)).setCell ⟨w.heap.size + 1, 2, none⟩ (I_ 0)).setCell ⟨w.heap.size + 1, 3, none⟩ (I_ 0)).setCell ⟨w.heap.size + 1, 4, none⟩ (I_ 0)).setCell ⟨w.heap.size + 1, 5, none⟩ (.int .u64 0)).setCell ⟨w.heap.size + 1, 6, none⟩ (.slice none 0 0)).heap[w.heap.size + 1]? = some (.cells #[I_ 0, I_ 0, I_ 0, I_ 0, I_ 0, .int .u64 0, .slice none 0 0] 67 (0, 0))) := Za (ZR Z1.out (I_ 0) (I_ 0) (I_ 0) (I_ 0) (I_ 0) (.int .u64 0) (.slice none 0 0))
        have E2 : Hid ((((((((W0.setCell ⟨w.heap.size + 1, 0, none⟩ (I_ 0)).setCell ⟨w.heap.size + 1, 1, none⟩ (I_ 0)).setCell ⟨w.heap.size + 1, 2, none⟩ (I_ 0)).setCell ⟨w.heap.size + 1, 3, none⟩ (I_ 0)).setCell ⟨w.heap.size + 1, 4, none⟩ (I_ 0)).setCell ⟨w.heap.size + 1, 5, none⟩ (.int .u64 0)).setCell ⟨w.heap.size + 1, 6, none⟩ (.slice none 0 0)).heap[w.heap.size + 1 + 1]? = some (.cells #[I_ 0, I_ 0, I_ 0] 122 (0, 0))) := Za ((Zy (o := 0) (by omega)).trans Z2.out)
        have E3 : Hid (Wv (((((((W0.setCell ⟨w.heap.size + 1, 0, none⟩ (I_ 0)).setCell ⟨w.heap.size + 1, 1, none⟩ (I_ 0)).setCell ⟨w.heap.size + 1, 2, none⟩ (I_ 0)).setCell ⟨w.heap.size + 1, 3, none⟩ (I_ 0)).setCell ⟨w.heap.size + 1, 4, none⟩ (I_ 0)).setCell ⟨w.heap.size + 1, 5, none⟩ (.int .u64 0)).setCell ⟨w.heap.size + 1, 6, none⟩ (.slice none 0 0)) bl 0 yo ya (y0, y1, y2) (.slice ay ny cy)) := Za ((Zy (o := 0) (by have := SZ.out; omega)).trans Z3'.out)
        have E4 : Hid (Below w.heap.size W0 (((((((W0.setCell ⟨w.heap.size + 1, 0, none⟩ (I_ 0)).setCell ⟨w.heap.size + 1, 1, none⟩ (I_ 0)).setCell ⟨w.heap.size + 1, 2, none⟩ (I_ 0)).setCell ⟨w.heap.size + 1, 3, none⟩ (I_ 0)).setCell ⟨w.heap.size + 1, 4, none⟩ (I_ 0)).setCell ⟨w.heap.size + 1, 5, none⟩ (.int .u64 0)).setCell ⟨w.heap.size + 1, 6, none⟩ (.slice none 0 0))) := Za (ZM (o := 0) (Below.refl _ _) (by omega))
        generalize (((((((W0.setCell ⟨w.heap.size + 1, 0, none⟩ (I_ 0)).setCell ⟨w.heap.size + 1, 1, none⟩ (I_ 0)).setCell ⟨w.heap.size + 1, 2, none⟩ (I_ 0)).setCell ⟨w.heap.size + 1, 3, none⟩ (I_ 0)).setCell ⟨w.heap.size + 1, 4, none⟩ (I_ 0)).setCell ⟨w.heap.size + 1, 5, none⟩ (.int .u64 0)).setCell ⟨w.heap.size + 1, 6, none⟩ (.slice none 0 0)) = W5 at *
        refine R_ 5 (fun K1 hK1 => ?_)
        obtain ⟨q0, q1, q2, q3, q4, q5, q6⟩ := E3.out.all
        go_simp
        refine hK1 _ _ ?_
        clear hK1 K1 q0 q1 q2 q3 q4 q5 q6
        refine T2_ 6 ?_
        simp only [Act.put, S_]
        refine R_ 8 (fun K1 hK1 => ?_)
        have n0 := Zb E2.out 0 _ rfl
        have n1 := Zb E2.out 1 _ rfl
        have n2 := Zb E2.out 2 _ rfl
        have m0 := Zc E2.out 0
        have m1 := Zc E2.out 1
        have m2 := Zc E2.out 2
        go_simp
        refine hK1 _ _ ?_
        clear hK1 K1 n0 n1 n2 m0 m1 m2
        refine wpAny_done (by kernel_rfl) ?_ _
        go_wp2_with fail
        have BB : Below w.heap.size W0 (((W5.setCell ⟨w.heap.size + 1 + 1, 0, none⟩ (I_ 7)).setCell ⟨w.heap.size + 1 + 1, 1, none⟩ (I_ y1)).setCell ⟨w.heap.size + 1 + 1, 2, none⟩ (I_ ya)) := Zt E4.out (by omega) _ _ _
        exact YK (w.heap.size + 1) (w.heap.size + 1 + 1) rfl rfl rfl ⟨_, _, _, rfl⟩ ((ne3 (by omega)).trans E1.out) (YA E2.out _ _ _) rfl ⟨_, rfl, YD.nilS, fun k hk hne => (BB.block k hk).trans (K3.out k hk hne), _, B3'.out.2.low (N := w.heap.size) GL.out BB, B3'.out.1.below BB⟩
    · obtain ⟨q0, q1, q2, q3, q4, q5, q6⟩ := Z3'.out.all
      go_simp
      refine hK1 _ _ ?_
      clear hK1 K1 q0 q1 q2 q3 q4 q5 q6
      refine wpAny_ready (rs := [3, 7]) (by kernel_rfl) (by decide) ?_
      refine AllReady.cons rfl (fun K1 hK1 => ?_) (AllReady.cons rfl (fun K1 hK1 => ?_) AllReady.nil)
      · obtain ⟨q0, q1, q2, q3, q4, q5, q6⟩ := Z3'.out.all
        go_simp
        refine hK1 _ _ ?_
        clear hK1 K1 q0 q1 q2 q3 q4 q5 q6
        refine T2_ 6 ?_
        simp only [Act.put, S_]
        refine R_ 7 (fun K1 hK1 => ?_)
        have p0 := Zb Z1.out 0 _ rfl
        have p1 := Zb Z1.out 1 _ rfl
        have p2 := Zb Z1.out 2 _ rfl
        have p3 := Zb Z1.out 3 _ rfl
        have p4 := Zb Z1.out 4 _ rfl
        have p5 := Zb Z1.out 5 _ rfl
        have p6 := Zb Z1.out 6 _ rfl
        have f0 := Zc Z1.out 0
        have f1 := Zc Z1.out 1
        have f2 := Zc Z1.out 2
        have f3 := Zc Z1.out 3
        have f4 := Zc Z1.out 4
        have f5 := Zc Z1.out 5
        have f6 := Zc Z1.out 6
        go_simp
        refine hK1 _ _ ?_
        clear hK1 K1 p0 p1 p2 p3 p4 p5 p6 f0 f1 f2 f3 f4 f5 f6
        have E1 : Hid ((((((((W0.setCell ⟨w.heap.size + 1, 0, none⟩ (I_ 0)).setCell ⟨w.heap.size + 1, 1, none⟩ (I_ 0)).setCell ⟨w.heap.size + 1, 2, none⟩ (I_ 0)).setCell ⟨w.heap.size + 1, 3, none⟩ (I_ 0)).setCell ⟨w.heap.size + 1, 4, none⟩ (I_ 0)).setCell ⟨w.heap.size + 1, 5, none⟩ (.int .u64 0)).setCell ⟨w.heap.size + 1, 6, none⟩ (.slice none 0 0)).heap[w.heap.size + 1]? = some (.cells #[I_ 0, I_ 0, I_ 0, I_ 0, I_ 0, .int .u64 0, .slice none 0 0] 67 (0, 0))) := Za (ZR Z1.out (I_ 0) (I_ 0) (I_ 0) (I_ 0) (I_ 0) (.int .u64 0) (.slice none 0 0))
        have E2 : Hid ((((((((W0.setCell ⟨w.heap.size + 1, 0, none⟩ (I_ 0)).setCell ⟨w.heap.size + 1, 1, none⟩ (I_ 0)).setCell ⟨w.heap.size + 1, 2, none⟩ (I_ 0)).setCell ⟨w.heap.size + 1, 3, none⟩ (I_ 0)).setCell ⟨w.heap.size + 1, 4, none⟩ (I_ 0)).setCell ⟨w.heap.size + 1, 5, none⟩ (.int .u64 0)).setCell ⟨w.heap.size + 1, 6, none⟩ (.slice none 0 0)).heap[w.heap.size + 1 + 1]? = some (.cells #[I_ 0, I_ 0, I_ 0] 122 (0, 0))) := Za ((Zy (o := 0) (by omega)).trans Z2.out)
        have E3 : Hid (Wv (((((((W0.setCell ⟨w.heap.size + 1, 0, none⟩ (I_ 0)).setCell ⟨w.heap.size + 1, 1, none⟩ (I_ 0)).setCell ⟨w.heap.size + 1, 2, none⟩ (I_ 0)).setCell ⟨w.heap.size + 1, 3, none⟩ (I_ 0)).setCell ⟨w.heap.size + 1, 4, none⟩ (I_ 0)).setCell ⟨w.heap.size + 1, 5, none⟩ (.int .u64 0)).setCell ⟨w.heap.size + 1, 6, none⟩ (.slice none 0 0)) bl 0 yo ya (y0, y1, y2) (.slice ay ny cy)) := Za ((Zy (o := 0) (by have := SZ.out; omega)).trans Z3'.out)
        have E4 : Hid (Below w.heap.size W0 (((((((W0.setCell ⟨w.heap.size + 1, 0, none⟩ (I_ 0)).setCell ⟨w.heap.size + 1, 1, none⟩ (I_ 0)).setCell ⟨w.heap.size + 1, 2, none⟩ (I_ 0)).setCell ⟨w.heap.size + 1, 3, none⟩ (I_ 0)).setCell ⟨w.heap.size + 1, 4, none⟩ (I_ 0)).setCell ⟨w.heap.size + 1, 5, none⟩ (.int .u64 0)).setCell ⟨w.heap.size + 1, 6, none⟩ (.slice none 0 0))) := Za (ZM (o := 0) (Below.refl _ _) (by omega))
        generalize (((((((W0.setCell ⟨w.heap.size + 1, 0, none⟩ (I_ 0)).setCell ⟨w.heap.size + 1, 1, none⟩ (I_ 0)).setCell ⟨w.heap.size + 1, 2, none⟩ (I_ 0)).setCell ⟨w.heap.size + 1, 3, none⟩ (I_ 0)).setCell ⟨w.heap.size + 1, 4, none⟩ (I_ 0)).setCell ⟨w.heap.size + 1, 5, none⟩ (.int .u64 0)).setCell ⟨w.heap.size + 1, 6, none⟩ (.slice none 0 0)) = W5 at *
        refine R_ 8 (fun K1 hK1 => ?_)
        have n0 := Zb E2.out 0 _ rfl
        have n1 := Zb E2.out 1 _ rfl
        have n2 := Zb E2.out 2 _ rfl
        have m0 := Zc E2.out 0
        have m1 := Zc E2.out 1
        have m2 := Zc E2.out 2
        go_simp
        refine hK1 _ _ ?_
        clear hK1 K1 n0 n1 n2 m0 m1 m2
        refine wpAny_done (by kernel_rfl) ?_ _
        go_wp2_with fail
        have BB : Below w.heap.size W0 (((W5.setCell ⟨w.heap.size + 1 + 1, 0, none⟩ (I_ 7)).setCell ⟨w.heap.size + 1 + 1, 1, none⟩ (I_ y1)).setCell ⟨w.heap.size + 1 + 1, 2, none⟩ (I_ ya)) := Zt E4.out (by omega) _ _ _
        exact YK (w.heap.size + 1) (w.heap.size + 1 + 1) rfl rfl rfl ⟨_, _, _, rfl⟩ ((ne3 (by omega)).trans E1.out) (YA E2.out _ _ _) rfl ⟨_, rfl, YD.nilS, fun k hk hne => (BB.block k hk).trans (K3.out k hk hne), _, B3'.out.2.low (N := w.heap.size) GL.out BB, B3'.out.1.below BB⟩
      · have p0 := Zb Z1.out 0 _ rfl
        have p1 := Zb Z1.out 1 _ rfl
        have p2 := Zb Z1.out 2 _ rfl
        have p3 := Zb Z1.out 3 _ rfl
        have p4 := Zb Z1.out 4 _ rfl
        have p5 := Zb Z1.out 5 _ rfl
        have p6 := Zb Z1.out 6 _ rfl
        have f0 := Zc Z1.out 0
        have f1 := Zc Z1.out 1
        have f2 := Zc Z1.out 2
        have f3 := Zc Z1.out 3
        have f4 := Zc Z1.out 4
        have f5 := Zc Z1.out 5
        have f6 := Zc Z1.out 6
        go_simp
        refine hK1 _ _ ?_
        clear hK1 K1 p0 p1 p2 p3 p4 p5 p6 f0 f1 f2 f3 f4 f5 f6
        have E1 : Hid ((((((((W0.setCell ⟨w.heap.size + 1, 0, none⟩ (I_ 0)).setCell ⟨w.heap.size + 1, 1, none⟩ (I_ 0)).setCell ⟨w.heap.size + 1, 2, none⟩ (I_ 0)).setCell ⟨w.heap.size + 1, 3, none⟩ (I_ 0)).setCell ⟨w.heap.size + 1, 4, none⟩ (I_ 0)).setCell ⟨w.heap.size + 1, 5, none⟩ (.int .u64 0)).setCell ⟨w.heap.size + 1, 6, none⟩ (.slice none 0 0)).heap[w.heap.size + 1]? = some (.cells #[I_ 0, I_ 0, I_ 0, I_ 0, I_ 0, .int .u64 0, .slice none 0 0] 67 (0, 0))) := Za (ZR Z1.out (I_ 0) (I_ 0) (I_ 0) (I_ 0) (I_ 0) (.int .u64 0) (.slice none 0 0))
        have E2 : Hid ((((((((W0.setCell ⟨w.heap.size + 1, 0, none⟩ (I_ 0)).setCell ⟨w.heap.size + 1, 1, none⟩ (I_ 0)).setCell ⟨w.heap.size + 1, 2, none⟩ (I_ 0)).setCell ⟨w.heap.size + 1, 3, none⟩ (I_ 0)).setCell ⟨w.heap.size + 1, 4, none⟩ (I_ 0)).setCell ⟨w.heap.size + 1, 5, none⟩ (.int .u64 0)).setCell ⟨w.heap.size + 1, 6, none⟩ (.slice none 0 0)).heap[w.heap.size + 1 + 1]? = some (.cells #[I_ 0, I_ 0, I_ 0] 122 (0, 0))) := Za ((Zy (o := 0) (by omega)).trans Z2.out)
        have E3 : Hid (Wv (((((((W0.setCell ⟨w.heap.size + 1, 0, none⟩ (I_ 0)).setCell ⟨w.heap.size + 1, 1, none⟩ (I_ 0)).setCell ⟨w.heap.size + 1, 2, none⟩ (I_ 0)).setCell ⟨w.heap.size + 1, 3, none⟩ (I_ 0)).setCell ⟨w.heap.size + 1, 4, none⟩ (I_ 0)).setCell ⟨w.heap.size + 1, 5, none⟩ (.int .u64 0)).setCell ⟨w.heap.size + 1, 6, none⟩ (.slice none 0 0)) bl 0 yo ya (y0, y1, y2) (.slice ay ny cy)) := Za ((Zy (o := 0) (by have := SZ.out; omega)).trans Z3'.out)
        have E4 : Hid (Below w.heap.size W0 (((((((W0.setCell ⟨w.heap.size + 1, 0, none⟩ (I_ 0)).setCell ⟨w.heap.size + 1, 1, none⟩ (I_ 0)).setCell ⟨w.heap.size + 1, 2, none⟩ (I_ 0)).setCell ⟨w.heap.size + 1, 3, none⟩ (I_ 0)).setCell ⟨w.heap.size + 1, 4, none⟩ (I_ 0)).setCell ⟨w.heap.size + 1, 5, none⟩ (.int .u64 0)).setCell ⟨w.heap.size + 1, 6, none⟩ (.slice none 0 0))) := Za (ZM (o := 0) (Below.refl _ _) (by omega))
        generalize (((((((W0.setCell ⟨w.heap.size + 1, 0, none⟩ (I_ 0)).setCell ⟨w.heap.size + 1, 1, none⟩ (I_ 0)).setCell ⟨w.heap.size + 1, 2, none⟩ (I_ 0)).setCell ⟨w.heap.size + 1, 3, none⟩ (I_ 0)).setCell ⟨w.heap.size + 1, 4, none⟩ (I_ 0)).setCell ⟨w.heap.size + 1, 5, none⟩ (.int .u64 0)).setCell ⟨w.heap.size + 1, 6, none⟩ (.slice none 0 0)) = W5 at *
        refine R_ 3 (fun K1 hK1 => ?_)
        obtain ⟨q0, q1, q2, q3, q4, q5, q6⟩ := E3.out.all
        go_simp
        refine hK1 _ _ ?_
        clear hK1 K1 q0 q1 q2 q3 q4 q5 q6
        refine T2_ 6 ?_
        simp only [Act.put, S_]
        refine R_ 8 (fun K1 hK1 => ?_)
        have n0 := Zb E2.out 0 _ rfl
        have n1 := Zb E2.out 1 _ rfl
        have n2 := Zb E2.out 2 _ rfl
        have m0 := Zc E2.out 0
        have m1 := Zc E2.out 1
        have m2 := Zc E2.out 2
        go_simp
        refine hK1 _ _ ?_
        clear hK1 K1 n0 n1 n2 m0 m1 m2
        refine wpAny_done (by kernel_rfl) ?_ _
        go_wp2_with fail
        have BB : Below w.heap.size W0 (((W5.setCell ⟨w.heap.size + 1 + 1, 0, none⟩ (I_ 7)).setCell ⟨w.heap.size + 1 + 1, 1, none⟩ (I_ y1)).setCell ⟨w.heap.size + 1 + 1, 2, none⟩ (I_ ya)) := Zt E4.out (by omega) _ _ _
        exact YK (w.heap.size + 1) (w.heap.size + 1 + 1) rfl rfl rfl ⟨_, _, _, rfl⟩ ((ne3 (by omega)).trans E1.out) (YA E2.out _ _ _) rfl ⟨_, rfl, YD.nilS, fun k hk hne => (BB.block k hk).trans (K3.out k hk hne), _, B3'.out.2.low (N := w.heap.size) GL.out BB, B3'.out.1.below BB⟩
    · have p0 := Zb Z1.out 0 _ rfl
      have p1 := Zb Z1.out 1 _ rfl
      have p2 := Zb Z1.out 2 _ rfl
      have p3 := Zb Z1.out 3 _ rfl
      have p4 := Zb Z1.out 4 _ rfl
      have p5 := Zb Z1.out 5 _ rfl
      have p6 := Zb Z1.out 6 _ rfl
      have f0 := Zc Z1.out 0
      have f1 := Zc Z1.out 1
      have f2 := Zc Z1.out 2
      have f3 := Zc Z1.out 3
      have f4 := Zc Z1.out 4
      have f5 := Zc Z1.out 5
      have f6 := Zc Z1.out 6
      go_simp
      refine hK1 _ _ ?_
      clear hK1 K1 p0 p1 p2 p3 p4 p5 p6 f0 f1 f2 f3 f4 f5 f6
      have E1 : Hid ((((((((W0.setCell ⟨w.heap.size + 1, 0, none⟩ (I_ 0)).setCell ⟨w.heap.size + 1, 1, none⟩ (I_ 0)).setCell ⟨w.heap.size + 1, 2, none⟩ (I_ 0)).setCell ⟨w.heap.size + 1, 3, none⟩ (I_ 0)).setCell ⟨w.heap.size + 1, 4, none⟩ (I_ 0)).setCell ⟨w.heap.size + 1, 5, none⟩ (.int .u64 0)).setCell ⟨w.heap.size + 1, 6, none⟩ (.slice none 0 0)).heap[w.heap.size + 1]? = some (.cells #[I_ 0, I_ 0, I_ 0, I_ 0, I_ 0, .int .u64 0, .slice none 0 0] 67 (0, 0))) := Za (ZR Z1.out (I_ 0) (I_ 0) (I_ 0) (I_ 0) (I_ 0) (.int .u64 0) (.slice none 0 0))
      have E2 : Hid ((((((((W0.setCell ⟨w.heap.size + 1, 0, none⟩ (I_ 0)).setCell ⟨w.heap.size + 1, 1, none⟩ (I_ 0)).setCell ⟨w.heap.size + 1, 2, none⟩ (I_ 0)).setCell ⟨w.heap.size + 1, 3, none⟩ (I_ 0)).setCell ⟨w.heap.size + 1, 4, none⟩ (I_ 0)).setCell ⟨w.heap.size + 1, 5, none⟩ (.int .u64 0)).setCell ⟨w.heap.size + 1, 6, none⟩ (.slice none 0 0)).heap[w.heap.size + 1 + 1]? = some (.cells #[I_ 0, I_ 0, I_ 0] 122 (0, 0))) := Za ((Zy (o := 0) (by omega)).trans Z2.out)
      have E3 : Hid (Wv (((((((W0.setCell ⟨w.heap.size + 1, 0, none⟩ (I_ 0)).setCell ⟨w.heap.size + 1, 1, none⟩ (I_ 0)).setCell ⟨w.heap.size + 1, 2, none⟩ (I_ 0)).setCell ⟨w.heap.size + 1, 3, none⟩ (I_ 0)).setCell ⟨w.heap.size + 1, 4, none⟩ (I_ 0)).setCell ⟨w.heap.size + 1, 5, none⟩ (.int .u64 0)).setCell ⟨w.heap.size + 1, 6, none⟩ (.slice none 0 0)) bl 0 yo ya (y0, y1, y2) (.slice ay ny cy)) := Za ((Zy (o := 0) (by have := SZ.out; omega)).trans Z3'.out)
      have E4 : Hid (Below w.heap.size W0 (((((((W0.setCell ⟨w.heap.size + 1, 0, none⟩ (I_ 0)).setCell ⟨w.heap.size + 1, 1, none⟩ (I_ 0)).setCell ⟨w.heap.size + 1, 2, none⟩ (I_ 0)).setCell ⟨w.heap.size + 1, 3, none⟩ (I_ 0)).setCell ⟨w.heap.size + 1, 4, none⟩ (I_ 0)).setCell ⟨w.heap.size + 1, 5, none⟩ (.int .u64 0)).setCell ⟨w.heap.size + 1, 6, none⟩ (.slice none 0 0))) := Za (ZM (o := 0) (Below.refl _ _) (by omega))
      generalize (((((((W0.setCell ⟨w.heap.size + 1, 0, none⟩ (I_ 0)).setCell ⟨w.heap.size + 1, 1, none⟩ (I_ 0)).setCell ⟨w.heap.size + 1, 2, none⟩ (I_ 0)).setCell ⟨w.heap.size + 1, 3, none⟩ (I_ 0)).setCell ⟨w.heap.size + 1, 4, none⟩ (I_ 0)).setCell ⟨w.heap.size + 1, 5, none⟩ (.int .u64 0)).setCell ⟨w.heap.size + 1, 6, none⟩ (.slice none 0 0)) = W5 at *
      refine wpAny_ready (rs := [3, 5]) (by kernel_rfl) (by decide) ?_
      refine AllReady.cons rfl (fun K1 hK1 => ?_) (AllReady.cons rfl (fun K1 hK1 => ?_) AllReady.nil)
      · obtain ⟨q0, q1, q2, q3, q4, q5, q6⟩ := E3.out.all
        go_simp
        refine hK1 _ _ ?_
        clear hK1 K1 q0 q1 q2 q3 q4 q5 q6
        refine R_ 5 (fun K1 hK1 => ?_)
        obtain ⟨q0, q1, q2, q3, q4, q5, q6⟩ := E3.out.all
        go_simp
        refine hK1 _ _ ?_
        clear hK1 K1 q0 q1 q2 q3 q4 q5 q6
        refine T2_ 6 ?_
        simp only [Act.put, S_]
        refine R_ 8 (fun K1 hK1 => ?_)
        have n0 := Zb E2.out 0 _ rfl
        have n1 := Zb E2.out 1 _ rfl
        have n2 := Zb E2.out 2 _ rfl
        have m0 := Zc E2.out 0
        have m1 := Zc E2.out 1
        have m2 := Zc E2.out 2
        go_simp
        refine hK1 _ _ ?_
        clear hK1 K1 n0 n1 n2 m0 m1 m2
        refine wpAny_done (by kernel_rfl) ?_ _
        go_wp2_with fail
        have BB : Below w.heap.size W0 (((W5.setCell ⟨w.heap.size + 1 + 1, 0, none⟩ (I_ 7)).setCell ⟨w.heap.size + 1 + 1, 1, none⟩ (I_ y1)).setCell ⟨w.heap.size + 1 + 1, 2, none⟩ (I_ ya)) := Zt E4.out (by omega) _ _ _
        exact YK (w.heap.size + 1) (w.heap.size + 1 + 1) rfl rfl rfl ⟨_, _, _, rfl⟩ ((ne3 (by omega)).trans E1.out) (YA E2.out _ _ _) rfl ⟨_, rfl, YD.nilS, fun k hk hne => (BB.block k hk).trans (K3.out k hk hne), _, B3'.out.2.low (N := w.heap.size) GL.out BB, B3'.out.1.below BB⟩
      · obtain ⟨q0, q1, q2, q3, q4, q5, q6⟩ := E3.out.all
        go_simp
        refine hK1 _ _ ?_
        clear hK1 K1 q0 q1 q2 q3 q4 q5 q6
        refine R_ 3 (fun K1 hK1 => ?_)
        obtain ⟨q0, q1, q2, q3, q4, q5, q6⟩ := E3.out.all
        go_simp
        refine hK1 _ _ ?_
        clear hK1 K1 q0 q1 q2 q3 q4 q5 q6
        refine T2_ 6 ?_
        simp only [Act.put, S_]
        refine R_ 8 (fun K1 hK1 => ?_)
        have n0 := Zb E2.out 0 _ rfl
        have n1 := Zb E2.out 1 _ rfl
        have n2 := Zb E2.out 2 _ rfl
        have m0 := Zc E2.out 0
        have m1 := Zc E2.out 1
        have m2 := Zc E2.out 2
        go_simp
        refine hK1 _ _ ?_
        clear hK1 K1 n0 n1 n2 m0 m1 m2
        refine wpAny_done (by kernel_rfl) ?_ _
        go_wp2_with fail
        have BB : Below w.heap.size W0 (((W5.setCell ⟨w.heap.size + 1 + 1, 0, none⟩ (I_ 7)).setCell ⟨w.heap.size + 1 + 1, 1, none⟩ (I_ y1)).setCell ⟨w.heap.size + 1 + 1, 2, none⟩ (I_ ya)) := Zt E4.out (by omega) _ _ _
        exact YK (w.heap.size + 1) (w.heap.size + 1 + 1) rfl rfl rfl ⟨_, _, _, rfl⟩ ((ne3 (by omega)).trans E1.out) (YA E2.out _ _ _) rfl ⟨_, rfl, YD.nilS, fun k hk hne => (BB.block k hk).trans (K3.out k hk hne), _, B3'.out.2.low (N := w.heap.size) GL.out BB, B3'.out.1.below BB⟩
  · skip
    have HF := Za (HU.out.bel B2.out)
    have f0 : W2.frozen? ⟨t, 0, none⟩ = false := by
      obtain ⟨b', hb'⟩ : ∃ b', ps[i]? = some b' := ⟨_, List.getElem?_eq_getElem (by rw [HU.out.pl]; exact (G_ HX.out.1))⟩
      obtain ⟨⟨va', vw', q1, q2, q3, q4⟩, q5, q6⟩ := HF.out.gr i x b' t HX.out.1 hb' HX.out.2
      exact Zc q3 0
    have WR : WRow W2 R (.slice (some ⟨b2, o2 + 7, none⟩) n (c - 1)) l := by
      have hq := HQ.out
      rw [HN.out] at hq ⊢
      exact (hq.tail rfl (some ⟨b2, o2 + 7, none⟩) (fun hl => rfl)).keep (fun k hk => B2.out.block k (HU.out.rb k hk)) (fun _ h => h)
    have MV := Za (HF.out.moveT HX.out.1 HX.out.2 (.slice (some ⟨b2, o2 + 7, none⟩) n (c - 1)) l WR)
    have HTW := Za (Nat.lt_of_lt_of_le HT.out B2.out.size)
    clear WR HF
    go_upto_region 5 with fail
    have Z1 := Za ((Below.heap_setCell W2 ⟨t, 0, none⟩ (.slice (some ⟨b2, o2 + 7, none⟩) n (c - 1)) _ (by have := HT.out; simp; omega)).trans X1.out)
    have Z2 := Za ((Below.heap_setCell W2 ⟨t, 0, none⟩ (.slice (some ⟨b2, o2 + 7, none⟩) n (c - 1)) _ (by have := HT.out; simp; omega)).trans X2.out)
    have Z3 : Hid (Wv (W2.setCell ⟨t, 0, none⟩ (.slice (some ⟨b2, o2 + 7, none⟩) n (c - 1))) bl 0 yo ya (y0, y1, y2) (.slice ay ny cy)) := Za ((Below.heap_setCell W2 ⟨t, 0, none⟩ (.slice (some ⟨b2, o2 + 7, none⟩) n (c - 1)) _ (by have := HT.out; have := SZ.out; simp; omega)).trans X3.out)
    have RN := Za (Yk HG.out MV.out.1 MV.out.2)
    have AR : Hid (YN (W2.setCell ⟨t, 0, none⟩ (.slice (some ⟨b2, o2 + 7, none⟩) n (c - 1))) R (.slice ay ny cy)) := Za (HA.out.keep (fun k hk => (Below.heap_setCell _ _ _ _ (fun e => by
      obtain ⟨b', hb'⟩ : ∃ b', ps[i]? = some b' := ⟨_, List.getElem?_eq_getElem (by rw [HU.out.pl]; exact (G_ HX.out.1))⟩
      obtain ⟨_, q5, q6⟩ := HU.out.gr i x b' t HX.out.1 hb' HX.out.2
      have e' : k = t := e
      subst e'
      exact HU.out.ro _ hk q6)).trans (B2.out.block k (HU.out.rb k hk))) (fun _ h => h))
    have B3 := Za (And.intro ((Ch.of_bel B2.out).trans RN.out.2) RN.out.1)
    have K3 : Hid (∀ k, k < w.heap.size -> k ≠ t -> (W2.setCell ⟨t, 0, none⟩ (.slice (some ⟨b2, o2 + 7, none⟩) n (c - 1))).heap[k]? = w.heap[k]?) := Za (fun k hk hne => (Below.heap_setCell _ _ _ _ hne).trans (B2.out.block k hk))
    have S3 := Za (And.intro B2.out.size (by rw [Zi]; exact Nat.le_refl _ : W2.heap.size <= (W2.setCell ⟨t, 0, none⟩ (.slice (some ⟨b2, o2 + 7, none⟩) n (c - 1))).heap.size))
    have GL : Hid (∀ k, (Fs k ∨ Fo k ∨ R k) -> k < w.heap.size) := Za (fun k hk => HU.out.lt hk)
    clear MV RN X1 X2 X3 f0 c2 HU HQ HN HX HA
    generalize W2.setCell ⟨t, 0, none⟩ (.slice (some ⟨b2, o2 + 7, none⟩) n (c - 1)) = W3 at *
    obtain ⟨q0, q1, q2, q3, q4, q5, q6⟩ := Z3.out.all
    clear q0 q1 q2 q3 q4 q5 q6 AR HTW B2 S3
    have Z1 : Hid (W3.drew.heap[w.heap.size + 1]? = _) := Z1
    have Z2 : Hid (W3.drew.heap[w.heap.size + 1 + 1]? = _) := Z2
    have K3 : Hid (∀ k, k < w.heap.size -> k ≠ t -> W3.drew.heap[k]? = w.heap[k]?) := K3
    have Z3' : Hid (Wv W3.drew bl 0 yo ya (y0, y1, y2) (.slice ay ny cy)) := Z3
    have B3' := Za (And.intro B3.out.1.drew (B3.out.2.bel (w' := W3.drew) (below_drewN (Below.refl _ _) 1)))
    obtain ⟨q0, q1, q2, q3, q4, q5, q6⟩ := Z3.out.all
    go_wp2_with fail
    clear q0 q1 q2 q3 q4 q5 q6 Z3 B3
    refine wp_region_any ZK ?_
    change wpAny _ _ _ _ _ _ _ (World.drew _)
    generalize World.drew _ = W0 at *
    refine T2_ 0 ?_
    simp only [Act.put, S_]
    refine T2_ 1 ?_
    simp only [Act.put, S_]
    refine T2_ 2 ?_
    simp only [Act.put, S_]
    refine T2_ 4 ?_
    simp only [Act.put, S_]
    refine wpAny_ready (rs := [3, 5, 7]) (by kernel_rfl) (by decide) ?_
    refine AllReady.cons rfl (fun K1 hK1 => ?_) (AllReady.cons rfl (fun K1 hK1 => ?_) (AllReady.cons rfl (fun K1 hK1 => ?_) AllReady.nil))
    · obtain ⟨q0, q1, q2, q3, q4, q5, q6⟩ := Z3'.out.all
      go_simp
      refine hK1 _ _ ?_
      clear hK1 K1 q0 q1 q2 q3 q4 q5 q6
      refine wpAny_ready (rs := [5, 7]) (by kernel_rfl) (by decide) ?_
      refine AllReady.cons rfl (fun K1 hK1 => ?_) (AllReady.cons rfl (fun K1 hK1 => ?_) AllReady.nil)
      · obtain ⟨q0, q1, q2, q3, q4, q5, q6⟩ := Z3'.out.all
        go_simp
        refine hK1 _ _ ?_
        clear hK1 K1 q0 q1 q2 q3 q4 q5 q6
        refine T2_ 6 ?_
        simp only [Act.put, S_]
        refine R_ 7 (fun K1 hK1 => ?_)
        have p0 := Zb Z1.out 0 _ rfl
        have p1 := Zb Z1.out 1 _ rfl
        have p2 := Zb Z1.out 2 _ rfl
        have p3 := Zb Z1.out 3 _ rfl
        have p4 := Zb Z1.out 4 _ rfl
        have p5 := Zb Z1.out 5 _ rfl
        have p6 := Zb Z1.out 6 _ rfl
        have f0 := Zc Z1.out 0
        have f1 := Zc Z1.out 1
        have f2 := Zc Z1.out 2
        have f3 := Zc Z1.out 3
        have f4 := Zc Z1.out 4
        have f5 := Zc Z1.out 5
        have f6 := Zc Z1.out 6
        go_simp
        refine hK1 _ _ ?_
        clear hK1 K1 p0 p1 p2 p3 p4 p5 p6 f0 f1 f2 f3 f4 f5 f6
        have E1 : Hid ((((((((W0.setCell ⟨w.heap.size + 1, 0, none⟩ (I_ 0)).setCell ⟨w.heap.size + 1, 1, none⟩ (I_ 0)).setCell ⟨w.heap.size + 1, 2, none⟩ (I_ 0)).setCell ⟨w.heap.size + 1, 3, none⟩ (I_ 0)).setCell ⟨w.heap.size + 1, 4, none⟩ (I_ 0)).setCell ⟨w.heap.size + 1, 5, none⟩ (.int .u64 0)).setCell ⟨w.heap.size + 1, 6, none⟩ (.slice none 0 0)).heap[w.heap.size + 1]? = some (.cells #[I_ 0, I_ 0, I_ 0, I_ 0, I_ 0, .int .u64 0, .slice none 0 0] 67 (0, 0))) := Za (ZR Z1.out (I_ 0) (I_ 0) (I_ 0) (I_ 0) (I_ 0) (.int .u64 0) (.slice none 0 0))
        have E2 : Hid ((((((((W0.setCell ⟨w.heap.size + 1, 0, none⟩ (I_ 0)).setCell ⟨w.heap.size + 1, 1, none⟩ (I_ 0)).setCell ⟨w.heap.size + 1, 2, none⟩ (I_ 0)).setCell ⟨w.heap.size + 1, 3, none⟩ (I_ 0)).setCell ⟨w.heap.size + 1, 4, none⟩ (I_ 0)).setCell ⟨w.heap.size + 1, 5, none⟩ (.int .u64 0)).setCell ⟨w.heap.size + 1, 6, none⟩ (.slice none 0 0)).heap[w.heap.size + 1 + 1]? = some (.cells #[I_ 0, I_ 0, I_ 0] 122 (0, 0))) := Za ((Zy (o := 0) (by omega)).trans Z2.out)
        have E3 : Hid (Wv (((((((W0.setCell ⟨w.heap.size + 1, 0, none⟩ (I_ 0)).setCell ⟨w.heap.size + 1, 1, none⟩ (I_ 0)).setCell ⟨w.heap.size + 1, 2, none⟩ (I_ 0)).setCell ⟨w.heap.size + 1, 3, none⟩ (I_ 0)).setCell ⟨w.heap.size + 1, 4, none⟩ (I_ 0)).setCell ⟨w.heap.size + 1, 5, none⟩ (.int .u64 0)).setCell ⟨w.heap.size + 1, 6, none⟩ (.slice none 0 0)) bl 0 yo ya (y0, y1, y2) (.slice ay ny cy)) := Za ((Zy (o := 0) (by have := SZ.out; omega)).trans Z3'.out)
        have E4 : Hid (Below w.heap.size W0 (((((((W0.setCell ⟨w.heap.size + 1, 0, none⟩ (I_ 0)).setCell ⟨w.heap.size + 1, 1, none⟩ (I_ 0)).setCell ⟨w.heap.size + 1, 2, none⟩ (I_ 0)).setCell ⟨w.heap.size + 1, 3, none⟩ (I_ 0)).setCell ⟨w.heap.size + 1, 4, none⟩ (I_ 0)).setCell ⟨w.heap.size + 1, 5, none⟩ (.int .u64 0)).setCell ⟨w.heap.size + 1, 6, none⟩ (.slice none 0 0))) := Za (ZM (o := 0) (Below.refl _ _) (by omega))
        generalize (((((((W0.setCell ⟨w.heap.size + 1, 0, none⟩ (I_ 0)).setCell ⟨w.heap.size + 1, 1, none⟩ (I_ 0)).setCell ⟨w.heap.size + 1, 2, none⟩ (I_ 0)).setCell ⟨w.heap.size + 1, 3, none⟩ (I_ 0)).setCell ⟨w.heap.size + 1, 4, none⟩ (I_ 0)).setCell ⟨w.heap.size + 1, 5, none⟩ (.int .u64 0)).setCell ⟨w.heap.size + 1, 6, none⟩ (.slice none 0 0)) = W5 at *
        refine R_ 8 (fun K1 hK1 => ?_)
        have n0 := Zb E2.out 0 _ rfl
        have n1 := Zb E2.out 1 _ rfl
        have n2 := Zb E2.out 2 _ rfl
        have m0 := Zc E2.out 0
        have m1 := Zc E2.out 1
        have m2 := Zc E2.out 2
        go_simp
        refine hK1 _ _ ?_
        clear hK1 K1 n0 n1 n2 m0 m1 m2
        refine wpAny_done (by kernel_rfl) ?_ _
        go_wp2_with fail
        have BB : Below w.heap.size W0 (((W5.setCell ⟨w.heap.size + 1 + 1, 0, none⟩ (I_ 7)).setCell ⟨w.heap.size + 1 + 1, 1, none⟩ (I_ y1)).setCell ⟨w.heap.size + 1 + 1, 2, none⟩ (I_ ya)) := Zt E4.out (by omega) _ _ _
        exact YK (w.heap.size + 1) (w.heap.size + 1 + 1) rfl rfl rfl ⟨_, _, _, rfl⟩ ((ne3 (by omega)).trans E1.out) (YA E2.out _ _ _) rfl ⟨_, rfl, YD.nilS, fun k hk hne => (BB.block k hk).trans (K3.out k hk hne), _, B3'.out.2.low (N := w.heap.size) GL.out BB, B3'.out.1.below BB⟩
      · have p0 := Zb Z1.out 0 _ rfl
        have p1 := Zb Z1.out 1 _ rfl
        have p2 := Zb Z1.out 2 _ rfl
        have p3 := Zb Z1.out 3 _ rfl
        have p4 := Zb Z1.out 4 _ rfl
        have p5 := Zb Z1.out 5 _ rfl
        have p6 := Zb Z1.out 6 _ rfl
        have f0 := Zc Z1.out 0
        have f1 := Zc Z1.out 1
        have f2 := Zc Z1.out 2
        have f3 := Zc Z1.out 3
        have f4 := Zc Z1.out 4
        have f5 := Zc Z1.out 5
        have f6 := Zc Z1.out 6
        go_simp
        refine hK1 _ _ ?_
        clear hK1 K1 p0 p1 p2 p3 p4 p5 p6 f0 f1 f2 f3 f4 f5 f6
        have E1 : Hid ((((((((W0.setCell ⟨w.heap.size + 1, 0, none⟩ (I_ 0)).setCell ⟨w.heap.size + 1, 1, none⟩ (I_ 0)).setCell ⟨w.heap.size + 1, 2, none⟩ (I_ 0)).setCell ⟨w.heap.size + 1, 3, none⟩ (I_ 0)).setCell ⟨w.heap.size + 1, 4, none⟩ (I_ 0)).setCell ⟨w.heap.size + 1, 5, none⟩ (.int .u64 0)).setCell ⟨w.heap.size + 1, 6, none⟩ (.slice none 0 0)).heap[w.heap.size + 1]? = some (.cells #[I_ 0, I_ 0, I_ 0, I_ 0, I_ 0, .int .u64 0, .slice none 0 0] 67 (0, 0))) := Za (ZR Z1.out (I_ 0) (I_ 0) (I_ 0) (I_ 0) (I_ 0) (.int .u64 0) (.slice none 0 0))
        have E2 : Hid ((((((((W0.setCell ⟨w.heap.size + 1, 0, none⟩ (I_ 0)).setCell ⟨w.heap.size + 1, 1, none⟩ (I_ 0)).setCell ⟨w.heap.size + 1, 2, none⟩ (I_ 0)).setCell ⟨w.heap.size + 1, 3, none⟩ (I_ 0)).setCell ⟨w.heap.size + 1, 4, none⟩ (I_ 0)).setCell ⟨w.heap.size + 1, 5, none⟩ (.int .u64 0)).setCell ⟨w.heap.size + 1, 6, none⟩ (.slice none 0 0)).heap[w.heap.size + 1 + 1]? = some (.cells #[I_ 0, I_ 0, I_ 0] 122 (0, 0))) := Za ((Zy (o := 0) (by omega)).trans Z2.out)
        have E3 : Hid (Wv (((((((W0.setCell ⟨w.heap.size + 1, 0, none⟩ (I_ 0)).setCell ⟨w.heap.size + 1, 1, none⟩ (I_ 0)).setCell ⟨w.heap.size + 1, 2, none⟩ (I_ 0)).setCell ⟨w.heap.size + 1, 3, none⟩ (I_ 0)).setCell ⟨w.heap.size + 1, 4, none⟩ (I_ 0)).setCell ⟨w.heap.size + 1, 5, none⟩ (.int .u64 0)).setCell ⟨w.heap.size + 1, 6, none⟩ (.slice none 0 0)) bl 0 yo ya (y0, y1, y2) (.slice ay ny cy)) := Za ((Zy (o := 0) (by have := SZ.out; omega)).trans Z3'.out)
        have E4 : Hid (Below w.heap.size W0 (((((((W0.setCell ⟨w.heap.size + 1, 0, none⟩ (I_ 0)).setCell ⟨w.heap.size + 1, 1, none⟩ (I_ 0)).setCell ⟨w.heap.size + 1, 2, none⟩ (I_ 0)).setCell ⟨w.heap.size + 1, 3, none⟩ (I_ 0)).setCell ⟨w.heap.size + 1, 4, none⟩ (I_ 0)).setCell ⟨w.heap.size + 1, 5, none⟩ (.int .u64 0)).setCell ⟨w.heap.size + 1, 6, none⟩ (.slice none 0 0))) := Za (ZM (o := 0) (Below.refl _ _) (by omega))
        generalize (((((((W0.setCell ⟨w.heap.size + 1, 0, none⟩ (I_ 0)).setCell ⟨w.heap.size + 1, 1, none⟩ (I_ 0)).setCell ⟨w.heap.size + 1, 2, none⟩ (I_ 0)).setCell ⟨w.heap.size + 1, 3, none⟩ (I_ 0)).setCell ⟨w.heap.size + 1, 4, none⟩ (I_ 0)).setCell ⟨w.heap.size + 1, 5, none⟩ (.int .u64 0)).setCell ⟨w.heap.size + 1, 6, none⟩ (.slice none 0 0)) = W5 at *
        refine R_ 5 (fun K1 hK1 => ?_)
        obtain ⟨q0, q1, q2, q3, q4, q5, q6⟩ := E3.out.all
        go_simp
        refine hK1 _ _ ?_
        clear hK1 K1 q0 q1 q2 q3 q4 q5 q6
        refine T2_ 6 ?_
        simp only [Act.put, S_]
        refine R_ 8 (fun K1 hK1 => ?_)
        have n0 := Zb E2.out 0 _ rfl
        have n1 := Zb E2.out 1 _ rfl
        have n2 := Zb E2.out 2 _ rfl
        have m0 := Zc E2.out 0
        have m1 := Zc E2.out 1
        have m2 := Zc E2.out 2
        go_simp
        refine hK1 _ _ ?_
        clear hK1 K1 n0 n1 n2 m0 m1 m2
        refine wpAny_done (by kernel_rfl) ?_ _
        go_wp2_with fail
        have BB : Below w.heap.size W0 (((W5.setCell ⟨w.heap.size + 1 + 1, 0, none⟩ (I_ 7)).setCell ⟨w.heap.size + 1 + 1, 1, none⟩ (I_ y1)).setCell ⟨w.heap.size + 1 + 1, 2, none⟩ (I_ ya)) := Zt E4.out (by omega) _ _ _
        exact YK (w.heap.size + 1) (w.heap.size + 1 + 1) rfl rfl rfl ⟨_, _, _, rfl⟩ ((ne3 (by omega)).trans E1.out) (YA E2.out _ _ _) rfl ⟨_, rfl, YD.nilS, fun k hk hne => (BB.block k hk).trans (K3.out k hk hne), _, B3'.out.2.low (N := w.heap.size) GL.out BB, B3'.out.1.below BB⟩
    · obtain ⟨q0, q1, q2, q3, q4, q5, q6⟩ := Z3'.out.all
      go_simp
      refine hK1 _ _ ?_
      clear hK1 K1 q0 q1 q2 q3 q4 q5 q6
      refine wpAny_ready (rs := [3, 7]) (by kernel_rfl) (by decide) ?_
      refine AllReady.cons rfl (fun K1 hK1 => ?_) (AllReady.cons rfl (fun K1 hK1 => ?_) AllReady.nil)
      · obtain ⟨q0, q1, q2, q3, q4, q5, q6⟩ := Z3'.out.all
        go_simp
        refine hK1 _ _ ?_
        clear hK1 K1 q0 q1 q2 q3 q4 q5 q6
        refine T2_ 6 ?_
        simp only [Act.put, S_]
        refine R_ 7 (fun K1 hK1 => ?_)
        have p0 := Zb Z1.out 0 _ rfl
        have p1 := Zb Z1.out 1 _ rfl
        have p2 := Zb Z1.out 2 _ rfl
        have p3 := Zb Z1.out 3 _ rfl
        have p4 := Zb Z1.out 4 _ rfl
        have p5 := Zb Z1.out 5 _ rfl
        have p6 := Zb Z1.out 6 _ rfl
        have f0 := Zc Z1.out 0
        have f1 := Zc Z1.out 1
        have f2 := Zc Z1.out 2
        have f3 := Zc Z1.out 3
        have f4 := Zc Z1.out 4
        have f5 := Zc Z1.out 5
        have f6 := Zc Z1.out 6
        go_simp
        refine hK1 _ _ ?_
        clear hK1 K1 p0 p1 p2 p3 p4 p5 p6 f0 f1 f2 f3 f4 f5 f6
        have E1 : Hid ((((((((W0.setCell ⟨w.heap.size + 1, 0, none⟩ (I_ 0)).setCell ⟨w.heap.size + 1, 1, none⟩ (I_ 0)).setCell ⟨w.heap.size + 1, 2, none⟩ (I_ 0)).setCell ⟨w.heap.size + 1, 3, none⟩ (I_ 0)).setCell ⟨w.heap.size + 1, 4, none⟩ (I_ 0)).setCell ⟨w.heap.size + 1, 5, none⟩ (.int .u64 0)).setCell ⟨w.heap.size + 1, 6, none⟩ (.slice none 0 0)).heap[w.heap.size + 1]? = some (.cells #[I_ 0, I_ 0, I_ 0, I_ 0, I_ 0, .int .u64 0, .slice none 0 0] 67 (0, 0))) := Za (ZR Z1.out (I_ 0) (I_ 0) (I_ 0) (I_ 0) (I_ 0) (.int .u64 0) (.slice none 0 0))
        have E2 : Hid ((((((((W0.setCell ⟨w.heap.size + 1, 0, none⟩ (I_ 0)).setCell ⟨w.heap.size + 1, 1, none⟩ (I_ 0)).setCell ⟨w.heap.size + 1, 2, none⟩ (I_ 0)).setCell ⟨w.heap.size + 1, 3, none⟩ (I_ 0)).setCell ⟨w.heap.size + 1, 4, none⟩ (I_ 0)).setCell ⟨w.heap.size + 1, 5, none⟩ (.int .u64 0)).setCell ⟨w.heap.size + 1, 6, none⟩ (.slice none 0 0)).heap[w.heap.size + 1 + 1]? = some (.cells #[I_ 0, I_ 0, I_ 0] 122 (0, 0))) := Za ((Zy (o := 0) (by omega)).trans Z2.out)
        have E3 : Hid (Wv (((((((W0.setCell ⟨w.heap.size + 1, 0, none⟩ (I_ 0)).setCell ⟨w.heap.size + 1, 1, none⟩ (I_ 0)).setCell ⟨w.heap.size + 1, 2, none⟩ (I_ 0)).setCell ⟨w.heap.size + 1, 3, none⟩ (I_ 0)).setCell ⟨w.heap.size + 1, 4, none⟩ (I_ 0)).setCell ⟨w.heap.size + 1, 5, none⟩ (.int .u64 0)).setCell ⟨w.heap.size + 1, 6, none⟩ (.slice none 0 0)) bl 0 yo ya (y0, y1, y2) (.slice ay ny cy)) := Za ((Zy (o := 0) (by have := SZ.out; omega)).trans Z3'.out)
        have E4 : Hid (Below w.heap.size W0 (((((((W0.setCell ⟨w.heap.size + 1, 0, none⟩ (I_ 0)).setCell ⟨w.heap.size + 1, 1, none⟩ (I_ 0)).setCell ⟨w.heap.size + 1, 2, none⟩ (I_ 0)).setCell ⟨w.heap.size + 1, 3, none⟩ (I_ 0)).setCell ⟨w.heap.size + 1, 4, none⟩ (I_ 0)).setCell ⟨w.heap.size + 1, 5, none⟩ (.int .u64 0)).setCell ⟨w.heap.size + 1, 6, none⟩ (.slice none 0 0))) := Za (ZM (o := 0) (Below.refl _ _) (by omega))
        generalize (((((((W0.setCell ⟨w.heap.size + 1, 0, none⟩ (I_ 0)).setCell ⟨w.heap.size + 1, 1, none⟩ (I_ 0)).setCell ⟨w.heap.size + 1, 2, none⟩ (I_ 0)).setCell ⟨w.heap.size + 1, 3, none⟩ (I_ 0)).setCell ⟨w.heap.size + 1, 4, none⟩ (I_ 0)).setCell ⟨w.heap.size + 1, 5, none⟩ (.int .u64 0)).setCell ⟨w.heap.size + 1, 6, none⟩ (.slice none 0 0)) = W5 at *
        refine R_ 8 (fun K1 hK1 => ?_)
        have n0 := Zb E2.out 0 _ rfl
        have n1 := Zb E2.out 1 _ rfl
        have n2 := Zb E2.out 2 _ rfl
        have m0 := Zc E2.out 0
        have m1 := Zc E2.out 1
        have m2 := Zc E2.out 2
        go_simp
        refine hK1 _ _ ?_
        clear hK1 K1 n0 n1 n2 m0 m1 m2
        refine wpAny_done (by kernel_rfl) ?_ _
        go_wp2_with fail
        have BB : Below w.heap.size W0 (((W5.setCell ⟨w.heap.size + 1 + 1, 0, none⟩ (I_ 7)).setCell ⟨w.heap.size + 1 + 1, 1, none⟩ (I_ y1)).setCell ⟨w.heap.size + 1 + 1, 2, none⟩ (I_ ya)) := Zt E4.out (by omega) _ _ _
        exact YK (w.heap.size + 1) (w.heap.size + 1 + 1) rfl rfl rfl ⟨_, _, _, rfl⟩ ((ne3 (by omega)).trans E1.out) (YA E2.out _ _ _) rfl ⟨_, rfl, YD.nilS, fun k hk hne => (BB.block k hk).trans (K3.out k hk hne), _, B3'.out.2.low (N := w.heap.size) GL.out BB, B3'.out.1.below BB⟩
      · have p0 := Zb Z1.out 0 _ rfl
        have p1 := Zb Z1.out 1 _ rfl
        have p2 := Zb Z1.out 2 _ rfl
        have p3 := Zb Z1.out 3 _ rfl
        have p4 := Zb Z1.out 4 _ rfl
        have p5 := Zb Z1.out 5 _ rfl
        have p6 := Zb Z1.out 6 _ rfl
        have f0 := Zc Z1.out 0
        have f1 := Zc Z1.out 1
        have f2 := Zc Z1.out 2
        have f3 := Zc Z1.out 3
        have f4 := Zc Z1.out 4
        have f5 := Zc Z1.out 5
        have f6 := Zc Z1.out 6
        go_simp
        refine hK1 _ _ ?_
        clear hK1 K1 p0 p1 p2 p3 p4 p5 p6 f0 f1 f2 f3 f4 f5 f6
        have E1 : Hid ((((((((W0.setCell ⟨w.heap.size + 1, 0, none⟩ (I_ 0)).setCell ⟨w.heap.size + 1, 1, none⟩ (I_ 0)).setCell ⟨w.heap.size + 1, 2, none⟩ (I_ 0)).setCell ⟨w.heap.size + 1, 3, none⟩ (I_ 0)).setCell ⟨w.heap.size + 1, 4, none⟩ (I_ 0)).setCell ⟨w.heap.size + 1, 5, none⟩ (.int .u64 0)).setCell ⟨w.heap.size + 1, 6, none⟩ (.slice none 0 0)).heap[w.heap.size + 1]? = some (.cells #[I_ 0, I_ 0, I_ 0, I_ 0, I_ 0, .int .u64 0, .slice none 0 0] 67 (0, 0))) := Za (ZR Z1.out (I_ 0) (I_ 0) (I_ 0) (I_ 0) (I_ 0) (.int .u64 0) (.slice none 0 0))
        have E2 : Hid ((((((((W0.setCell ⟨w.heap.size + 1, 0, none⟩ (I_ 0)).setCell ⟨w.heap.size + 1, 1, none⟩ (I_ 0)).setCell ⟨w.heap.size + 1, 2, none⟩ (I_ 0)).setCell ⟨w.heap.size + 1, 3, none⟩ (I_ 0)).setCell ⟨w.heap.size + 1, 4, none⟩ (I_ 0)).setCell ⟨w.heap.size + 1, 5, none⟩ (.int .u64 0)).setCell ⟨w.heap.size + 1, 6, none⟩ (.slice none 0 0)).heap[w.heap.size + 1 + 1]? = some (.cells #[I_ 0, I_ 0, I_ 0] 122 (0, 0))) := Za ((Zy (o := 0) (by omega)).trans Z2.out)
        have E3 : Hid (Wv (((((((W0.setCell ⟨w.heap.size + 1, 0, none⟩ (I_ 0)).setCell ⟨w.heap.size + 1, 1, none⟩ (I_ 0)).setCell ⟨w.heap.size + 1, 2, none⟩ (I_ 0)).setCell ⟨w.heap.size + 1, 3, none⟩ (I_ 0)).setCell ⟨w.heap.size + 1, 4, none⟩ (I_ 0)).setCell ⟨w.heap.size + 1, 5, none⟩ (.int .u64 0)).setCell ⟨w.heap.size + 1, 6, none⟩ (.slice none 0 0)) bl 0 yo ya (y0, y1, y2) (.slice ay ny cy)) := Za ((Zy (o := 0) (by have := SZ.out; omega)).trans Z3'.out)
        have E4 : Hid (Below w.heap.size W0 (((((((W0.setCell ⟨w.heap.size + 1, 0, none⟩ (I_ 0)).setCell ⟨w.heap.size + 1, 1, none⟩ (I_ 0)).setCell ⟨w.heap.size + 1, 2, none⟩ (I_ 0)).setCell ⟨w.heap.size + 1, 3, none⟩ (I_ 0)).setCell ⟨w.heap.size + 1, 4, none⟩ (I_ 0)).setCell ⟨w.heap.size + 1, 5, none⟩ (.int .u64 0)).setCell ⟨w.heap.size + 1, 6, none⟩ (.slice none 0 0))) := Za (ZM (o := 0) (Below.refl _ _) (by omega))
        generalize (((((((W0.setCell ⟨w.heap.size + 1, 0, none⟩ (I_ 0)).setCell ⟨w.heap.size + 1, 1, none⟩ (I_ 0)).setCell ⟨w.heap.size + 1, 2, none⟩ (I_ 0)).setCell ⟨w.heap.size + 1, 3, none⟩ (I_ 0)).setCell ⟨w.heap.size + 1, 4, none⟩ (I_ 0)).setCell ⟨w.heap.size + 1, 5, none⟩ (.int .u64 0)).setCell ⟨w.heap.size + 1, 6, none⟩ (.slice none 0 0)) = W5 at *
        refine R_ 3 (fun K1 hK1 => ?_)
        obtain ⟨q0, q1, q2, q3, q4, q5, q6⟩ := E3.out.all
        go_simp
        refine hK1 _ _ ?_
        clear hK1 K1 q0 q1 q2 q3 q4 q5 q6
        refine T2_ 6 ?_
        simp only [Act.put, S_]
        refine R_ 8 (fun K1 hK1 => ?_)
        have n0 := Zb E2.out 0 _ rfl
        have n1 := Zb E2.out 1 _ rfl
        have n2 := Zb E2.out 2 _ rfl
        have m0 := Zc E2.out 0
        have m1 := Zc E2.out 1
        have m2 := Zc E2.out 2
        go_simp
        refine hK1 _ _ ?_
        clear hK1 K1 n0 n1 n2 m0 m1 m2
        refine wpAny_done (by kernel_rfl) ?_ _
        go_wp2_with fail
        have BB : Below w.heap.size W0 (((W5.setCell ⟨w.heap.size + 1 + 1, 0, none⟩ (I_ 7)).setCell ⟨w.heap.size + 1 + 1, 1, none⟩ (I_ y1)).setCell ⟨w.heap.size + 1 + 1, 2, none⟩ (I_ ya)) := Zt E4.out (by omega) _ _ _
        exact YK (w.heap.size + 1) (w.heap.size + 1 + 1) rfl rfl rfl ⟨_, _, _, rfl⟩ ((ne3 (by omega)).trans E1.out) (YA E2.out _ _ _) rfl ⟨_, rfl, YD.nilS, fun k hk hne => (BB.block k hk).trans (K3.out k hk hne), _, B3'.out.2.low (N := w.heap.size) GL.out BB, B3'.out.1.below BB⟩
    · have p0 := Zb Z1.out 0 _ rfl
      have p1 := Zb Z1.out 1 _ rfl
      have p2 := Zb Z1.out 2 _ rfl
      have p3 := Zb Z1.out 3 _ rfl
      have p4 := Zb Z1.out 4 _ rfl
      have p5 := Zb Z1.out 5 _ rfl
      have p6 := Zb Z1.out 6 _ rfl
      have f0 := Zc Z1.out 0
      have f1 := Zc Z1.out 1
      have f2 := Zc Z1.out 2
      have f3 := Zc Z1.out 3
      have f4 := Zc Z1.out 4
      have f5 := Zc Z1.out 5
      have f6 := Zc Z1.out 6
      go_simp
      refine hK1 _ _ ?_
      clear hK1 K1 p0 p1 p2 p3 p4 p5 p6 f0 f1 f2 f3 f4 f5 f6
      have E1 : Hid ((((((((W0.setCell ⟨w.heap.size + 1, 0, none⟩ (I_ 0)).setCell ⟨w.heap.size + 1, 1, none⟩ (I_ 0)).setCell ⟨w.heap.size + 1, 2, none⟩ (I_ 0)).setCell ⟨w.heap.size + 1, 3, none⟩ (I_ 0)).setCell ⟨w.heap.size + 1, 4, none⟩ (I_ 0)).setCell ⟨w.heap.size + 1, 5, none⟩ (.int .u64 0)).setCell ⟨w.heap.size + 1, 6, none⟩ (.slice none 0 0)).heap[w.heap.size + 1]? = some (.cells #[I_ 0, I_ 0, I_ 0, I_ 0, I_ 0, .int .u64 0, .slice none 0 0] 67 (0, 0))) := Za (ZR Z1.out (I_ 0) (I_ 0) (I_ 0) (I_ 0) (I_ 0) (.int .u64 0) (.slice none 0 0))
      have E2 : Hid ((((((((W0.setCell ⟨w.heap.size + 1, 0, none⟩ (I_ 0)).setCell ⟨w.heap.size + 1, 1, none⟩ (I_ 0)).setCell ⟨w.heap.size + 1, 2, none⟩ (I_ 0)).setCell ⟨w.heap.size + 1, 3, none⟩ (I_ 0)).setCell ⟨w.heap.size + 1, 4, none⟩ (I_ 0)).setCell ⟨w.heap.size + 1, 5, none⟩ (.int .u64 0)).setCell ⟨w.heap.size + 1, 6, none⟩ (.slice none 0 0)).heap[w.heap.size + 1 + 1]? = some (.cells #[I_ 0, I_ 0, I_ 0] 122 (0, 0))) := Za ((Zy (o := 0) (by omega)).trans Z2.out)
      have E3 : Hid (Wv (((((((W0.setCell ⟨w.heap.size + 1, 0, none⟩ (I_ 0)).setCell ⟨w.heap.size + 1, 1, none⟩ (I_ 0)).setCell ⟨w.heap.size + 1, 2, none⟩ (I_ 0)).setCell ⟨w.heap.size + 1, 3, none⟩ (I_ 0)).setCell ⟨w.heap.size + 1, 4, none⟩ (I_ 0)).setCell ⟨w.heap.size + 1, 5, none⟩ (.int .u64 0)).setCell ⟨w.heap.size + 1, 6, none⟩ (.slice none 0 0)) bl 0 yo ya (y0, y1, y2) (.slice ay ny cy)) := Za ((Zy (o := 0) (by have := SZ.out; omega)).trans Z3'.out)
      have E4 : Hid (Below w.heap.size W0 (((((((W0.setCell ⟨w.heap.size + 1, 0, none⟩ (I_ 0)).setCell ⟨w.heap.size + 1, 1, none⟩ (I_ 0)).setCell ⟨w.heap.size + 1, 2, none⟩ (I_ 0)).setCell ⟨w.heap.size + 1, 3, none⟩ (I_ 0)).setCell ⟨w.heap.size + 1, 4, none⟩ (I_ 0)).setCell ⟨w.heap.size + 1, 5, none⟩ (.int .u64 0)).setCell ⟨w.heap.size + 1, 6, none⟩ (.slice none 0 0))) := Za (ZM (o := 0) (Below.refl _ _) (by omega))
      generalize (((((((W0.setCell ⟨w.heap.size + 1, 0, none⟩ (I_ 0)).setCell ⟨w.heap.size + 1, 1, none⟩ (I_ 0)).setCell ⟨w.heap.size + 1, 2, none⟩ (I_ 0)).setCell ⟨w.heap.size + 1, 3, none⟩ (I_ 0)).setCell ⟨w.heap.size + 1, 4, none⟩ (I_ 0)).setCell ⟨w.heap.size + 1, 5, none⟩ (.int .u64 0)).setCell ⟨w.heap.size + 1, 6, none⟩ (.slice none 0 0)) = W5 at *
      refine wpAny_ready (rs := [3, 5]) (by kernel_rfl) (by decide) ?_
      refine AllReady.cons rfl (fun K1 hK1 => ?_) (AllReady.cons rfl (fun K1 hK1 => ?_) AllReady.nil)
      · obtain ⟨q0, q1, q2, q3, q4, q5, q6⟩ := E3.out.all
        go_simp
        refine hK1 _ _ ?_
        clear hK1 K1 q0 q1 q2 q3 q4 q5 q6
        refine R_ 5 (fun K1 hK1 => ?_)
        obtain ⟨q0, q1, q2, q3, q4, q5, q6⟩ := E3.out.all
        go_simp
        refine hK1 _ _ ?_
        clear hK1 K1 q0 q1 q2 q3 q4 q5 q6
        refine T2_ 6 ?_
        simp only [Act.put, S_]
        refine R_ 8 (fun K1 hK1 => ?_)
        have n0 := Zb E2.out 0 _ rfl
        have n1 := Zb E2.out 1 _ rfl
        have n2 := Zb E2.out 2 _ rfl
        have m0 := Zc E2.out 0
        have m1 := Zc E2.out 1
        have m2 := Zc E2.out 2
        go_simp
        refine hK1 _ _ ?_
        clear hK1 K1 n0 n1 n2 m0 m1 m2
        refine wpAny_done (by kernel_rfl) ?_ _
        go_wp2_with fail
        have BB : Below w.heap.size W0 (((W5.setCell ⟨w.heap.size + 1 + 1, 0, none⟩ (I_ 7)).setCell ⟨w.heap.size + 1 + 1, 1, none⟩ (I_ y1)).setCell ⟨w.heap.size + 1 + 1, 2, none⟩ (I_ ya)) := Zt E4.out (by omega) _ _ _
        exact YK (w.heap.size + 1) (w.heap.size + 1 + 1) rfl rfl rfl ⟨_, _, _, rfl⟩ ((ne3 (by omega)).trans E1.out) (YA E2.out _ _ _) rfl ⟨_, rfl, YD.nilS, fun k hk hne => (BB.block k hk).trans (K3.out k hk hne), _, B3'.out.2.low (N := w.heap.size) GL.out BB, B3'.out.1.below BB⟩
      · obtain ⟨q0, q1, q2, q3, q4, q5, q6⟩ := E3.out.all
        go_simp
        refine hK1 _ _ ?_
        clear hK1 K1 q0 q1 q2 q3 q4 q5 q6
        refine R_ 3 (fun K1 hK1 => ?_)
        obtain ⟨q0, q1, q2, q3, q4, q5, q6⟩ := E3.out.all
        go_simp
        refine hK1 _ _ ?_
        clear hK1 K1 q0 q1 q2 q3 q4 q5 q6
        refine T2_ 6 ?_
        simp only [Act.put, S_]
        refine R_ 8 (fun K1 hK1 => ?_)
        have n0 := Zb E2.out 0 _ rfl
        have n1 := Zb E2.out 1 _ rfl
        have n2 := Zb E2.out 2 _ rfl
        have m0 := Zc E2.out 0
        have m1 := Zc E2.out 1
        have m2 := Zc E2.out 2
        go_simp
        refine hK1 _ _ ?_
        clear hK1 K1 n0 n1 n2 m0 m1 m2
        refine wpAny_done (by kernel_rfl) ?_ _
        go_wp2_with fail
        have BB : Below w.heap.size W0 (((W5.setCell ⟨w.heap.size + 1 + 1, 0, none⟩ (I_ 7)).setCell ⟨w.heap.size + 1 + 1, 1, none⟩ (I_ y1)).setCell ⟨w.heap.size + 1 + 1, 2, none⟩ (I_ ya)) := Zt E4.out (by omega) _ _ _
        exact YK (w.heap.size + 1) (w.heap.size + 1 + 1) rfl rfl rfl ⟨_, _, _, rfl⟩ ((ne3 (by omega)).trans E1.out) (YA E2.out _ _ _) rfl ⟨_, rfl, YD.nilS, fun k hk hne => (BB.block k hk).trans (K3.out k hk hne), _, B3'.out.2.low (N := w.heap.size) GL.out BB, B3'.out.1.below BB⟩
theorem info_pgo : (Tryz.prog.info? 134).map (fun i => (i.zero, i.size, i.bytes)) = some (some (.pointer none), 1, 8) := by kernel_rfl
theorem push_g {w : World} {vq : Value} {l : List Nat} {n : Nat} (hn : n = l.length) (oq : w.ownsRow 0 134 1 vq n (pts l)) (hl : l.length <= 100000) (b : Nat) (ty : TypeId) :
 ∃ v' w', (Builtin.append_ #[115, 115] ty #[vq, .slice (some ⟨w.heap.size, 0, none⟩) 1 1]).run Tryz.prog (w.alloc (.cells #[P_ b] 134)) = .ok v' w' ∧
  ((∃ a l c, v' = .slice a l c) /\ w'.ownsRow 0 134 1 v' (n + 1) (pts (l ++ [b])) /\ w.grownBy w' vq.ownBlock /\ (∀ k, v'.ownBlock = some k -> vq.ownBlock = some k ∨ w.heap.size <= k)) := by
 obtain ⟨ie, hi, hz0, hz1, hz2⟩ := info_parts info_pgo
 have hb := Zd w (.cells #[P_ b] 134)
 have o1 := Zj oq (fun k hk => hb.block k (Zf oq hk).2.1)
 have hc : ∀ (j : Nat) (u : Value), (pts [b])[j]? = some u -> (w.alloc (.cells #[P_ b] 134)).cell? ((⟨w.heap.size, 0, none⟩ : Addr).add j) = some u := fun j u hu => by
  rw [show (⟨w.heap.size, 0, none⟩ : Addr).add j = ⟨w.heap.size, j, none⟩ by unfold Addr.add; by_cases h : j = 0 <;> simp [h]]
  exact Zb (B_ w _) j u (by simpa [pts] using hu)
 obtain ⟨v', w', hr, ho, hg, _, hat⟩ := run_append_own_at (P := Tryz.prog) (w.alloc (.cells #[P_ b] 134)) 0 115 ty 134 ie _ 1 8 Tryz.underlying115 hi hz0 hz1 hz2 rfl (by decide) vq n (pts l) o1 ⟨w.heap.size, 0, none⟩ 1 1 (pts [b]) rfl hc (fun u hu => by simp [pts] at hu; subst hu; rfl) (by unfold maxLen; omega) (by omega) (Nat.zero_le _)
 obtain ⟨a9, c9, e9, _⟩ := Zl ho
 refine ⟨v', w', hr, ⟨_, _, _, e9⟩, by rw [show pts (l ++ [b]) = pts l ++ pts [b] by simp [pts]]; exact ho, ⟨hg.os, hg.tape, hg.output, Nat.le_trans hb.size hg.size, fun k hk hne => (hg.block k (Nat.lt_of_lt_of_le hk hb.size) hne).trans (hb.block k hk)⟩, fun k hk => ?_⟩
 rcases hat with e | e
 · exact .inl (e.symm.trans hk)
 · rw [e] at hk
   right
   have := Option.some.inj hk
   simp at this
   omega
def BegP (w : World) (R : Nat -> Prop) (o : Option (List Wt)) (e : Ending) (w' : World) : Prop := Below w.heap.size w w' /\ match o with
 | none => e = .returned .nilIface
 | some l => ∃ t vw, e = .returned (.iface 126 (.pointer (some ⟨t, 0, none⟩))) /\ w.heap.size <= t /\ w'.heap[t]? = some (.cells #[vw] 128 (0, 0)) /\ WRow w' R vw l
theorem begin_any {w : World} {R : Nat -> Prop} {S : List (List Wt)} {c : Nat} (h : Beg w R (.func (.func 59) #[] #[P_ c]) S) (hR : ∀ k, R k -> k < w.heap.size) (fn : Int) (va : Value) : Calls Tryz.prog 59 #[I_ fn, va, P_ c] w (BegP w R (lk S fn)) := by
 obtain ⟨c', vS, vs, e, h2, h3, h4, h5, h6, h7⟩ := h
 cases e
 obtain ⟨a, cS, eS, _⟩ := Zl h4
 subst eS
 have c0 : w.cell? ⟨c, 0, none⟩ = some (.slice a S.length cS) := Zb h3 0 _ rfl
 have hcl := hR c h2
 obtain ⟨n, hn⟩ : ∃ n, n = S.length := ⟨_, rfl⟩
 rw [← hn] at c0 h6
 cases hl : lk S fn with
 | none =>
  have ho := YJ hl
  rw [← hn] at ho
  clear hl h2 h3 h4 h5 h7 hn
  by_cases h0 : fn < 0
  · have hd0 : decide (fn < 0) = true := by simp [h0]
    clear ho
    go_enter Tryz.func59, Tryz.ntmps59
    go_wp2_with fail
    go_ret
    exact ⟨Below.refl _ _, rfl⟩
  · have h1 : (n : Int) <= fn := by omega
    have h2 : 0 <= fn := by omega
    have hd0 : decide (fn < 0) = false := by simp; omega
    have hd1 : decide ((n : Int) <= fn) = true := by simp [h1]
    clear ho h0
    go_enter Tryz.func59, Tryz.ntmps59
    go_wp2_with fail
    go_ret
    exact ⟨Below.refl _ _, rfl⟩
 | some l =>
  obtain ⟨i, rfl, hi⟩ := ZD hl
  have hin : i < S.length := (G_ hi)
  obtain ⟨bS, cS', e, _⟩ := Zq h4 (by omega)
  cases e
  obtain ⟨v, hv⟩ : ∃ v, vs[i]? = some v := ⟨_, List.getElem?_eq_getElem (by have := h4.1; omega)⟩
  have d1 := (Zk h4 i v hv).1
  have hbl := (Zf h4 (k := bS) rfl).2.1
  have HW := Za (h7 i l v hi hv)
  obtain ⟨av, cv, ev, _⟩ := h7 i l v hi hv
  rw [ev] at d1 HW
  rw [← hn] at hin
  have hi1 : (i : Int) < (n : Int) := by omega
  have hi0 : (0 : Int) <= (i : Int) := by omega
  have hd0 : decide ((i : Int) < 0) = false := by simp
  have hd1 : decide ((n : Int) <= (i : Int)) = false := by simp; omega
  have HR := Za hR
  clear hl h2 h3 h4 h5 h7 hn hv ev hi hR
  go_enter Tryz.func59, Tryz.ntmps59
  go_wp2_with fail
  go_ret
  exact ⟨Zd _ _, w.heap.size, _, rfl, Nat.le_refl _, B_ w _, HW.out.keep (fun k hk => (Zd _ _).block k (HR.out k hk)) fun _ h => h⟩
theorem go_keep {w w2 : World} {Fs Fo R : Nat -> Prop} {g gs : Nat} {S : List (List Wt)} {r : Rm} {vC vB vG vE : Value} {ps ts : List Nat} (h : Ru w Fs Fo R g gs S r vC vB vG vE ps ts) (hg : w.grownBy w2 vG.ownBlock) : w2.cell? ⟨g, 3, none⟩ = some vG /\ w2.frozen? ⟨g, 3, none⟩ = false := by
 have e : w2.heap[g]? = w.heap[g]? := hg.block g (Ze h.at_) (fun e => Zv h.go h.at_ (by decide) e.symm)
 exact ⟨Zb (e.trans h.at_) 3 _ rfl, Zc (e.trans h.at_) 3⟩
theorem enter_none {w : World} {G : Nat -> Prop} {g : Nat} {S : List (List Wt)} {r : Rm} (h : Rn w G g S r) (fn : Int) {va : Value} {R0 : Nat -> Prop} (hA : YN w R0 va) (hl : lk S fn = none) : Calls Tryz.prog 55 #[P_ g, I_ fn, va] w (RnP w G g S r (.bool false)) := by
 obtain ⟨Fs, Fo, R, gs, vC, vB, vG, vE, ps, ts, h, hG⟩ := h
 obtain ⟨cB, vS, vs, eB, _⟩ := id h.bg
 subst eB
 obtain ⟨n, xs, hn, hs, h1, hR0⟩ := hA
 obtain ⟨aa, ca, ea, _⟩ := Zl hs
 subst ea
 have c2 := h.cells.1.2.2.1
 have hgl := h.fb g h.fg
 have hE : ∀ w, (binOp .eql 60 (.func (.func 59) #[] #[P_ cB]) .nilFunc).run Tryz.prog w = .ok (.bool false) w := fun w => by kernel_rfl
 have HU := Za h
 have HG := Za hG
 have HL := Za hl
 have CL := Za (cloneV2 (w := w.drew) (Zj hs (fun k hk => rfl)) hn h1)
 clear h hG hl hs h1 hR0
 go_enter Tryz.func55, Tryz.ntmps55
 go_upto_region 3 with fail
 have HD := Za (HU.out.bel (w' := w.drew) (below_drewN (Below.refl _ _) 1))
 have BD : Hid (Below w.heap.size w w.drew) := Za (below_drewN (Below.refl _ _) 1)
 have G0 := Za HD.out.at_
 clear c2
 refine wp_region_any ZK ?_
 change wpAny _ _ _ _ _ _ _ (World.drew _)
 generalize World.drew _ = W0 at *
 refine T2_ 0 ?_
 simp only [Act.put, S_]
 refine T2_ 1 ?_
 simp only [Act.put, S_]
 refine T2_ 2 ?_
 simp only [Act.put, S_]
 refine T2_ 4 ?_
 simp only [Act.put, S_]
 refine T2_ 5 ?_
 simp only [Act.put, S_]
 refine wpAny_ready (rs := [3, 6]) (by kernel_rfl) (by decide) ?_
 refine AllReady.cons rfl (fun K1 hK1 => ?_) (AllReady.cons rfl (fun K1 hK1 => ?_) AllReady.nil)
 · have q := (show W0.cell? ⟨g, 2, none⟩ = some (.func (.func 59) #[] #[P_ cB]) from Zb G0.out 2 _ rfl)
   go_simp
   refine hK1 _ _ ?_
   clear hK1 K1 q
   refine R_ 6 (fun K1 hK1 => ?_)
   go_simp
   refine CL.out.mono ?_
   rintro e w3 ⟨a3, c3, rfl, o3, b3⟩
   refine hK1 _ _ ?_
   clear hK1 K1
   have G3 := Za ((b3.block g (Ze G0.out)).trans G0.out)
   have U3 := Za (HD.out.bel b3)
   have B3 := Za (Zg BD.out b3)
   clear o3 b3
   refine R_ 7 (fun K1 hK1 => ?_)
   go_simp
   refine (begin_any U3.out.bg U3.out.rb fn _).mono ?_
   rw [HL.out]
   rintro e w4 ⟨b4, rfl⟩
   refine hK1 _ _ ?_
   clear hK1 K1
   have B4 := Za (Zg B3.out b4)
   have U4 := Za (U3.out.bel b4)
   refine T2_ 8 ?_
   simp only [Act.put, S_]
   refine wpAny_done (by kernel_rfl) ?_ _
   go_wp2_with fail
   go_ret
   exact RnP.mk rfl (U4.out.rn.keep (fun _ _ => rfl) (Nat.le_refl _)) ((Ch.of_bel B4.out).wide (fun k hk => hk) (fun k hk => .inl ((HG.out k).2 hk)))
 · go_simp
   refine CL.out.mono ?_
   rintro e w3 ⟨a3, c3, rfl, o3, b3⟩
   refine hK1 _ _ ?_
   clear hK1 K1
   have G3 := Za ((b3.block g (Ze G0.out)).trans G0.out)
   have U3 := Za (HD.out.bel b3)
   have B3 := Za (Zg BD.out b3)
   clear o3 b3
   refine R_ 3 (fun K1 hK1 => ?_)
   have q := (show w3.cell? ⟨g, 2, none⟩ = some (.func (.func 59) #[] #[P_ cB]) from Zb G3.out 2 _ rfl)
   go_simp
   refine hK1 _ _ ?_
   clear hK1 K1 q
   refine R_ 7 (fun K1 hK1 => ?_)
   go_simp
   refine (begin_any U3.out.bg U3.out.rb fn _).mono ?_
   rw [HL.out]
   rintro e w4 ⟨b4, rfl⟩
   refine hK1 _ _ ?_
   clear hK1 K1
   have B4 := Za (Zg B3.out b4)
   have U4 := Za (U3.out.bel b4)
   refine T2_ 8 ?_
   simp only [Act.put, S_]
   refine wpAny_done (by kernel_rfl) ?_ _
   go_wp2_with fail
   go_ret
   exact RnP.mk rfl (U4.out.rn.keep (fun _ _ => rfl) (Nat.le_refl _)) ((Ch.of_bel B4.out).wide (fun k hk => hk) (fun k hk => .inl ((HG.out k).2 hk)))
theorem enter_some {w : World} {G : Nat -> Prop} {g : Nat} {S : List (List Wt)} {r : Rm} (h : Rn w G g S r) (fn : Int) {va : Value} {R0 : Nat -> Prop} (hA : YN w R0 va) (l : List Wt) (hl : lk S fn = some l) (h8 : r.gs.length + 1 <= 8) : Calls Tryz.prog 55 #[P_ g, I_ fn, va] w (RnP w G g S { r with gs := r.gs ++ [⟨l, zW⟩] } (.bool true)) := by
 obtain ⟨Fs, Fo, R, gs, vC, vB, vG, vE, ps, ts, h, hG⟩ := h
 obtain ⟨cB, vS, vs, eB, _⟩ := id h.bg
 subst eB
 obtain ⟨n, xs, hn, hs, h1, hR0⟩ := hA
 obtain ⟨aa, ca, ea, _⟩ := Zl hs
 subst ea
 have c2 := h.cells.1.2.2.1
 have hgl := h.fb g h.fg
 have hE : ∀ w, (binOp .eql 60 (.func (.func 59) #[] #[P_ cB]) .nilFunc).run Tryz.prog w = .ok (.bool false) w := fun w => by kernel_rfl
 have HU := Za h
 have HG := Za hG
 have HL := Za hl
 have CL := Za (cloneV2 (w := w.drew) (Zj hs (fun k hk => rfl)) hn h1)
 clear h hG hl hs h1 hR0
 go_enter Tryz.func55, Tryz.ntmps55
 go_upto_region 3 with fail
 have HD := Za (HU.out.bel (w' := w.drew) (below_drewN (Below.refl _ _) 1))
 have BD : Hid (Below w.heap.size w w.drew) := Za (below_drewN (Below.refl _ _) 1)
 have G0 := Za HD.out.at_
 clear c2
 refine wp_region_any ZK ?_
 change wpAny _ _ _ _ _ _ _ (World.drew _)
 generalize World.drew _ = W0 at *
 refine T2_ 0 ?_
 simp only [Act.put, S_]
 refine T2_ 1 ?_
 simp only [Act.put, S_]
 refine T2_ 2 ?_
 simp only [Act.put, S_]
 refine T2_ 4 ?_
 simp only [Act.put, S_]
 refine T2_ 5 ?_
 simp only [Act.put, S_]
 refine wpAny_ready (rs := [3, 6]) (by kernel_rfl) (by decide) ?_
 refine AllReady.cons rfl (fun K1 hK1 => ?_) (AllReady.cons rfl (fun K1 hK1 => ?_) AllReady.nil)
 · have q := (show W0.cell? ⟨g, 2, none⟩ = some (.func (.func 59) #[] #[P_ cB]) from Zb G0.out 2 _ rfl)
   go_simp
   refine hK1 _ _ ?_
   clear hK1 K1 q
   refine R_ 6 (fun K1 hK1 => ?_)
   go_simp
   refine CL.out.mono ?_
   rintro e w3 ⟨a3, c3, rfl, o3, b3⟩
   refine hK1 _ _ ?_
   clear hK1 K1
   have G3 := Za ((b3.block g (Ze G0.out)).trans G0.out)
   have U3 := Za (HD.out.bel b3)
   have B3 := Za (Zg BD.out b3)
   clear o3 b3
   refine R_ 7 (fun K1 hK1 => ?_)
   go_simp
   refine (begin_any U3.out.bg U3.out.rb fn _).mono ?_
   rw [HL.out]
   rintro e w4 ⟨b4, t, vw, rfl, t4, h4, r4⟩
   refine hK1 _ _ ?_
   clear hK1 K1
   have B4 := Za (Zg B3.out b4)
   have U4 := Za (U3.out.bel b4)
   have T4 := Za (And.intro h4 (And.intro r4 (Nat.le_trans B3.out.size t4)))
   clear h4 r4 t4
   refine T2_ 8 ?_
   simp only [Act.put, S_]
   refine wpAny_done (by kernel_rfl) ?_ _
   have BG := Za (Zg B4.out (Zd w4 (.cells #[.iface 126 (P_ t), I_ 0, I_ 0, I_ 0, I_ 0, I_ 0, .int .u64 0, .slice none 0 0] 136)))
   have GO : Hid (Gor (w4.alloc (.cells #[.iface 126 (P_ t), I_ 0, I_ 0, I_ 0, I_ 0, I_ 0, .int .u64 0, .slice none 0 0] 136)) R w4.heap.size t ⟨l, zW⟩) := Za ⟨_, _, B_ w4 _, YN.nilS, ((Zd w4 _).block t (Ze T4.out.1)).trans T4.out.1, T4.out.2.1.keep (fun k hk => (Zd w4 _).block k (U4.out.rb k hk)) fun _ h => h⟩
   obtain ⟨aG, cG, eG, _⟩ := Zl U4.out.go
   obtain ⟨nG, hnG⟩ : ∃ nG, nG = r.gs.length := ⟨_, rfl⟩
   rw [← hnG] at eG
   subst eG
   have PU := Za (fun ty => push_g (w := w4.alloc (.cells #[.iface 126 (P_ t), I_ 0, I_ 0, I_ 0, I_ 0, I_ 0, .int .u64 0, .slice none 0 0] 136)) (n := nG) (by rw [hnG]; exact U4.out.pl.symm) (by rw [hnG]; exact Zj U4.out.go (fun k hk => (Zd w4 _).block k (Zf U4.out.go hk).2.1)) (by have := U4.out.pl; omega) w4.heap.size ty)
   have hs5 : (w4.alloc (.cells #[.iface 126 (P_ t), I_ 0, I_ 0, I_ 0, I_ 0, I_ 0, .int .u64 0, .slice none 0 0] 136)).heap.size = w4.heap.size + 1 := by simp
   rw [hs5] at PU
   have BO := Za (fun v' w2 ho hg hb => HU.out.born (W := w4.alloc (.cells #[.iface 126 (P_ t), I_ 0, I_ 0, I_ 0, I_ 0, I_ 0, .int .u64 0, .slice none 0 0] 136)) (w2 := w2) (v' := v') (b := w4.heap.size) (t := t) (x := ⟨l, zW⟩) BG.out h8 GO.out B4.out.size T4.out.2.2 ho hg hb)
   rw [hs5] at BO
   clear hs5
   have g3 : w4.cell? ⟨g, 3, none⟩ = some (.slice aG nG cG) := Zb U4.out.at_ 3 _ rfl
   have f3 := Zc U4.out.at_ 3
   have hg4 := Ze U4.out.at_
   have U5 := Za (U4.out.bel (Zd w4 (.cells #[.iface 126 (P_ t), I_ 0, I_ 0, I_ 0, I_ 0, I_ 0, .int .u64 0, .slice none 0 0] 136)))
   have HX := Za (fun (w2 : World) hg => go_keep U5.out (w2 := w2) hg)
   have HN := Za hnG
   have hn8 : nG <= 8 := by omega
   clear U4 U5 B4 BG GO T4 HU hnG U3 G3 B3 HD BD G0 CL hE
   go_wp2_with (first | (at_builtin; refine ZU (TS := 115) rfl (.tmp 27) (.tmp 31) rfl _ _ rfl rfl _ (PU.out _) ?_; rintro v9 w9 ⟨⟨a9, l9, c9, rfl⟩, o9, g9, b9⟩; obtain ⟨y3, yf⟩ := HX.out w9 g9; have Z9 := Za (BO.out _ _ (by rw [← HN.out]; exact o9) g9 b9); clear o9 g9 b9))
   go_ret
   have HE := Yk HG.out Z9.out.1 Z9.out.2
   exact RnP.mk rfl HE.1 HE.2
 · go_simp
   refine CL.out.mono ?_
   rintro e w3 ⟨a3, c3, rfl, o3, b3⟩
   refine hK1 _ _ ?_
   clear hK1 K1
   have G3 := Za ((b3.block g (Ze G0.out)).trans G0.out)
   have U3 := Za (HD.out.bel b3)
   have B3 := Za (Zg BD.out b3)
   clear o3 b3
   refine R_ 3 (fun K1 hK1 => ?_)
   have q := (show w3.cell? ⟨g, 2, none⟩ = some (.func (.func 59) #[] #[P_ cB]) from Zb G3.out 2 _ rfl)
   go_simp
   refine hK1 _ _ ?_
   clear hK1 K1 q
   refine R_ 7 (fun K1 hK1 => ?_)
   go_simp
   refine (begin_any U3.out.bg U3.out.rb fn _).mono ?_
   rw [HL.out]
   rintro e w4 ⟨b4, t, vw, rfl, t4, h4, r4⟩
   refine hK1 _ _ ?_
   clear hK1 K1
   have B4 := Za (Zg B3.out b4)
   have U4 := Za (U3.out.bel b4)
   have T4 := Za (And.intro h4 (And.intro r4 (Nat.le_trans B3.out.size t4)))
   clear h4 r4 t4
   refine T2_ 8 ?_
   simp only [Act.put, S_]
   refine wpAny_done (by kernel_rfl) ?_ _
   have BG := Za (Zg B4.out (Zd w4 (.cells #[.iface 126 (P_ t), I_ 0, I_ 0, I_ 0, I_ 0, I_ 0, .int .u64 0, .slice none 0 0] 136)))
   have GO : Hid (Gor (w4.alloc (.cells #[.iface 126 (P_ t), I_ 0, I_ 0, I_ 0, I_ 0, I_ 0, .int .u64 0, .slice none 0 0] 136)) R w4.heap.size t ⟨l, zW⟩) := Za ⟨_, _, B_ w4 _, YN.nilS, ((Zd w4 _).block t (Ze T4.out.1)).trans T4.out.1, T4.out.2.1.keep (fun k hk => (Zd w4 _).block k (U4.out.rb k hk)) fun _ h => h⟩
   obtain ⟨aG, cG, eG, _⟩ := Zl U4.out.go
   obtain ⟨nG, hnG⟩ : ∃ nG, nG = r.gs.length := ⟨_, rfl⟩
   rw [← hnG] at eG
   subst eG
   have PU := Za (fun ty => push_g (w := w4.alloc (.cells #[.iface 126 (P_ t), I_ 0, I_ 0, I_ 0, I_ 0, I_ 0, .int .u64 0, .slice none 0 0] 136)) (n := nG) (by rw [hnG]; exact U4.out.pl.symm) (by rw [hnG]; exact Zj U4.out.go (fun k hk => (Zd w4 _).block k (Zf U4.out.go hk).2.1)) (by have := U4.out.pl; omega) w4.heap.size ty)
   have hs5 : (w4.alloc (.cells #[.iface 126 (P_ t), I_ 0, I_ 0, I_ 0, I_ 0, I_ 0, .int .u64 0, .slice none 0 0] 136)).heap.size = w4.heap.size + 1 := by simp
   rw [hs5] at PU
   have BO := Za (fun v' w2 ho hg hb => HU.out.born (W := w4.alloc (.cells #[.iface 126 (P_ t), I_ 0, I_ 0, I_ 0, I_ 0, I_ 0, .int .u64 0, .slice none 0 0] 136)) (w2 := w2) (v' := v') (b := w4.heap.size) (t := t) (x := ⟨l, zW⟩) BG.out h8 GO.out B4.out.size T4.out.2.2 ho hg hb)
   rw [hs5] at BO
   clear hs5
   have g3 : w4.cell? ⟨g, 3, none⟩ = some (.slice aG nG cG) := Zb U4.out.at_ 3 _ rfl
   have f3 := Zc U4.out.at_ 3
   have hg4 := Ze U4.out.at_
   have U5 := Za (U4.out.bel (Zd w4 (.cells #[.iface 126 (P_ t), I_ 0, I_ 0, I_ 0, I_ 0, I_ 0, .int .u64 0, .slice none 0 0] 136)))
   have HX := Za (fun (w2 : World) hg => go_keep U5.out (w2 := w2) hg)
   have HN := Za hnG
   have hn8 : nG <= 8 := by omega
   clear U4 U5 B4 BG GO T4 HU hnG U3 G3 B3 HD BD G0 CL hE
   go_wp2_with (first | (at_builtin; refine ZU (TS := 115) rfl (.tmp 27) (.tmp 31) rfl _ _ rfl rfl _ (PU.out _) ?_; rintro v9 w9 ⟨⟨a9, l9, c9, rfl⟩, o9, g9, b9⟩; obtain ⟨y3, yf⟩ := HX.out w9 g9; have Z9 := Za (BO.out _ _ (by rw [← HN.out]; exact o9) g9 b9); clear o9 g9 b9))
   go_ret
   have HE := Yk HG.out Z9.out.1 Z9.out.2
   exact RnP.mk rfl HE.1 HE.2
def Yr (ks : List Nat) (W w' : World) : Prop := W.heap.size <= w'.heap.size /\ (∀ k ∈ ks, k < W.heap.size) /\ ∀ k ∈ ks, w'.heap[k]? = W.heap[k]?
section
variable {ks : List Nat} {W w' w'' : World}
theorem Yr.refl (h : ∀ k ∈ ks, k < W.heap.size) : Yr ks W W := ⟨Nat.le_refl _, h, fun _ _ => rfl⟩
theorem Yr.al (h : Yr ks W w') (hb : Below w'.heap.size w' w'') : Yr ks W w'' := ⟨Nat.le_trans h.1 hb.size, h.2.1, fun k hk => (hb.block k (Nat.lt_of_lt_of_le (h.2.1 k hk) h.1)).trans (h.2.2 k hk)⟩
theorem Yr.turn (h : Yr ks W w') (hs : w'.heap.size <= w''.heap.size) {t : Nat} (hb : ∀ k, k < w'.heap.size -> k ≠ t -> w''.heap[k]? = w'.heap[k]?) (ht : t ∉ ks) : Yr ks W w'' :=
 ⟨Nat.le_trans h.1 hs, h.2.1, fun k hk => (hb k (Nat.lt_of_lt_of_le (h.2.1 k hk) h.1) (fun e => ht (e ▸ hk))).trans (h.2.2 k hk)⟩
theorem Yr.cell (h : Yr ks W w') {k j : Nat} {u : Value} (hk : k ∈ ks) (hc : W.cell? ⟨k, j, none⟩ = some u) : w'.cell? ⟨k, j, none⟩ = some u := Yh (h.2.2 k hk) hc
end
structure AskQ (w W : World) (G G' : Nat -> Prop) (g : Nat) (S : List (List Wt)) (r' : Rm) (va : Value) : Prop where
 rn : Rn W G' g S r'
 ch : Ch G G' w W
 ar : YD 0 W va
section
variable {w W W' : World} {G G' : Nat → Prop} {g : Nat} {S : List (List Wt)} {r' : Rm} {va : Value}
theorem AskQ.al (h : AskQ w W G G' g S r' va) (hb : Below W.heap.size W W') : AskQ w W' G G' g S r' va := ⟨h.rn.bel hb, h.ch.trans (Ch.of_bel hb), h.ar.al hb⟩
theorem AskQ.set (h : AskQ w W G G' g S r' va) {b : Nat} {c : Array Value} {T : TypeId} (hbk : W.heap[b]? = some (.cells c T (0, 0))) (hT : 64 ≠ T) (hn : ¬ G' b) (hs : W.heap.size = W'.heap.size) (hb : Below w.heap.size W W') (ho : ∀ k, k ≠ b -> W'.heap[k]? = W.heap[k]?) : AskQ w W' G G' g S r' va :=
  ⟨h.rn.keep (fun k hk => ho k (fun e => hn (e ▸ hk))) (Nat.le_of_eq hs), h.ch.below hb, h.ar.keep fun k _ _ hk => ho k (fun e => by
    obtain ⟨a, n, c', xs, e', h1, h2, h3⟩ := h.ar
    exact Zv h2 hbk hT (by rw [hk, e]))⟩
end
def AskP (w : World) (G : Nat -> Prop) (g : Nat) (S : List (List Wt)) (r' : Rm) (y : Wt) (f n c : Int) (x7 x8 : Value) (wc : World) : Prop := ∃ bw bh aa na ca G', x7 = P_ bw /\ x8 = P_ bh /\ Hid (AskQ w wc G G' g S r' (.slice aa na ca) /\ Wv wc bw y.k y.o y.a y.v (.slice aa na ca) /\ wc.heap[bh]? = some (.cells #[I_ f, I_ n, I_ c] 122 (0, 0)) /\ ¬ G' bw)
end Go.Proofs.YtfojninaginnoaaGreatDoor.Ck
