/- Texts of this proof, packed: contracts of the program's functions, and the plain model that they are held against. -/
import Derived.Test.YtbiilnpblnjliaaDoorQap
/- Package act: a script that halts. (Written by mk_a.py.) -/
namespace Go.Proofs.YtbiilnpblnjliaaDoor.Ck
open Go.RowKit

set_option maxRecDepth 20000 in
set_option maxHeartbeats 3000000 in
theorem next_halt {w : World} {G Fs Fo R : Nat → Prop} {g gs : Nat} {S : List (List Wt)} {r : Rm} {vC vB vG vE : Value} {ps ts : List Nat} (h : Ru w Fs Fo R g gs S r vC vB vG vE ps ts) (hG : ∀ k, G k ↔ Fs k ∨ Fo k ∨ R k) (i t : Nat) (x : Gr) (hx : r.gs[i]? = some x) (ht : ts[i]? = some t) (y : Wt) (l : List Wt) (hr : x.rest = y :: l) (hk : y.k = 0) (j0 j1 j2 : Int) : Calls Tryd.prog 134 #[.pointer (some ⟨t, 0, none⟩), .agg #[.int .i64 j0, .int .i64 j1, .int .u64 j2]] w (NextP w G g t S { r with gs := r.gs.set i ⟨l, x.w⟩ } zW 7 y.v.2.1 y.a) := by
  obtain ⟨b, hb⟩ : ∃ b, ps[i]? = some b := ⟨_, List.getElem?_eq_getElem (by rw [h.pl]; exact (List.getElem?_eq_some_iff.1 hx).1)⟩
  obtain ⟨⟨va, vw, q1, q2, q3, q4⟩, q5, q6⟩ := h.gr i x b t hx hb ht
  rw [hr] at q4
  have q4' := q4
  obtain ⟨a, c, rfl, hac, hcm, hel⟩ := q4
  obtain ⟨b2, o2, vy, rfl, hRb, hcl, hAy⟩ := hel 0 y rfl
  obtain ⟨ay, ny, cy, rfl⟩ := hAy.form
  obtain ⟨yk, yo, ya, y0, y1, y2⟩ := y
  simp only [List.length_cons] at hac q4' q3
  simp only at hk
  subst hk
  obtain ⟨n, hn⟩ : ∃ n, n = l.length := ⟨_, rfl⟩
  rw [← hn] at hac q4' q3
  have c0 : w.cell? ⟨t, 0, none⟩ = some (.slice (some ⟨b2, o2, none⟩) (n + 1) c) := blk_cell q3 0 _ rfl
  have HT := hide (lt_of_blk q3)
  have e0 : w.cell? ⟨b2, o2, none⟩ = some (.int .i64 0) := hcl 0 _ rfl
  have e1 : w.cell? ⟨b2, o2 + 1, none⟩ = some (.int .i64 yo) := hcl 1 _ rfl
  have e2 : w.cell? ⟨b2, o2 + 2, none⟩ = some (.int .i64 ya) := hcl 2 _ rfl
  have e3 : w.cell? ⟨b2, o2 + 3, none⟩ = some (.int .i64 y0) := hcl 3 _ rfl
  have e4 : w.cell? ⟨b2, o2 + 4, none⟩ = some (.int .i64 y1) := hcl 4 _ rfl
  have e5 : w.cell? ⟨b2, o2 + 5, none⟩ = some (.int .u64 y2) := hcl 5 _ rfl
  have e6 : w.cell? ⟨b2, o2 + 6, none⟩ = some (.slice ay ny cy) := hcl 6 _ rfl
  have EE := hide (And.intro e0 (And.intro e1 (And.intro e2 (And.intro e3 (And.intro e4 (And.intro e5 e6))))))
  have HB2 := hide (h.rb b2 hRb)
  have HA := hide hAy
  have HQ := hide q4'
  have HN := hide hn
  have HU := hide h
  have HG := hide hG
  have HX := hide (And.intro hx ht)
  have C0 := hide c0
  unfold maxLen at hcm
  clear h hG q1 q2 q3 q4' q5 q6 hx ht hb hr c0 hcl hAy hn e0 e1 e2 e3 e4 e5 e6 hel hRb
  have B1 : Hid (Below w.heap.size w (((w.alloc (.cells #[.int .i64 j0, .int .i64 j1, .int .u64 j2] 41)).alloc (.cells #[.int .i64 0, .int .i64 0, .int .i64 0, .int .i64 0, .int .i64 0, .int .u64 0, .slice none 0 0] 133)).alloc (.cells #[.int .i64 0, .int .i64 0, .int .i64 0] 173))) := hide (bel_al (bel_al (bel_new w _) _) _)
  have Y1 : Hid ((((w.alloc (.cells #[.int .i64 j0, .int .i64 j1, .int .u64 j2] 41)).alloc (.cells #[.int .i64 0, .int .i64 0, .int .i64 0, .int .i64 0, .int .i64 0, .int .u64 0, .slice none 0 0] 133)).alloc (.cells #[.int .i64 0, .int .i64 0, .int .i64 0] 173)).heap[w.heap.size + 1]? = some (.cells #[.int .i64 0, .int .i64 0, .int .i64 0, .int .i64 0, .int .i64 0, .int .u64 0, .slice none 0 0] 133 (0, 0))) := hide (by
    have e1 := Go.Deep.blk_alloc_new (w.alloc (.cells #[.int .i64 j0, .int .i64 j1, .int .u64 j2] 41)) (.cells #[.int .i64 0, .int .i64 0, .int .i64 0, .int .i64 0, .int .i64 0, .int .u64 0, .slice none 0 0] 133)
    have hs : (w.alloc (.cells #[.int .i64 j0, .int .i64 j1, .int .u64 j2] 41)).heap.size = w.heap.size + 1 := by simp
    rw [hs] at e1
    exact ((bel_new _ _).block _ (lt_of_blk e1)).trans e1)
  have Y2 : Hid ((((w.alloc (.cells #[.int .i64 j0, .int .i64 j1, .int .u64 j2] 41)).alloc (.cells #[.int .i64 0, .int .i64 0, .int .i64 0, .int .i64 0, .int .i64 0, .int .u64 0, .slice none 0 0] 133)).alloc (.cells #[.int .i64 0, .int .i64 0, .int .i64 0] 173)).heap[w.heap.size + 1 + 1]? = some (.cells #[.int .i64 0, .int .i64 0, .int .i64 0] 173 (0, 0))) := hide (by
    have e1 := Go.Deep.blk_alloc_new ((w.alloc (.cells #[.int .i64 j0, .int .i64 j1, .int .u64 j2] 41)).alloc (.cells #[.int .i64 0, .int .i64 0, .int .i64 0, .int .i64 0, .int .i64 0, .int .u64 0, .slice none 0 0] 133)) (.cells #[.int .i64 0, .int .i64 0, .int .i64 0] 173)
    have hs : ((w.alloc (.cells #[.int .i64 j0, .int .i64 j1, .int .u64 j2] 41)).alloc (.cells #[.int .i64 0, .int .i64 0, .int .i64 0, .int .i64 0, .int .i64 0, .int .u64 0, .slice none 0 0] 133)).heap.size = w.heap.size + 1 + 1 := by simp
    rw [hs] at e1
    exact e1)
  go_enter Tryd.func134, Tryd.ntmps134
  go_upto_region 1 with fail
  generalize ((w.alloc (.cells #[.int .i64 j0, .int .i64 j1, .int .u64 j2] 41)).alloc (.cells #[.int .i64 0, .int .i64 0, .int .i64 0, .int .i64 0, .int .i64 0, .int .u64 0, .slice none 0 0] 133)).alloc (.cells #[.int .i64 0, .int .i64 0, .int .i64 0] 173) = W1 at *
  have c1 := (B1.out.cell (p := ⟨t, 0, none⟩) HT.out).trans C0.out
  obtain ⟨e0, e1, e2, e3, e4, e5, e6⟩ := EE.out
  have e0 := (B1.out.cell (p := ⟨b2, o2, none⟩) HB2.out).trans e0
  have e1 := (B1.out.cell (p := ⟨b2, o2 + 1, none⟩) HB2.out).trans e1
  have e2 := (B1.out.cell (p := ⟨b2, o2 + 2, none⟩) HB2.out).trans e2
  have e3 := (B1.out.cell (p := ⟨b2, o2 + 3, none⟩) HB2.out).trans e3
  have e4 := (B1.out.cell (p := ⟨b2, o2 + 4, none⟩) HB2.out).trans e4
  have e5 := (B1.out.cell (p := ⟨b2, o2 + 5, none⟩) HB2.out).trans e5
  have e6 := (B1.out.cell (p := ⟨b2, o2 + 6, none⟩) HB2.out).trans e6
  have hnn : ((n : Int) + 1 == 0) = false := by simp; omega
  go_upto_region 4 with fail
  have B2 : Hid (Below w.heap.size w (W1.alloc (.cells #[.int .i64 0, .int .i64 yo, .int .i64 ya, .int .i64 y0, .int .i64 y1, .int .u64 y2, .slice ay ny cy] 133))) := hide (bel_al B1.out _)
  have X1 := hide (((bel_new W1 (.cells #[.int .i64 0, .int .i64 yo, .int .i64 ya, .int .i64 y0, .int .i64 y1, .int .u64 y2, .slice ay ny cy] 133)).block _ (lt_of_blk Y1.out)).trans Y1.out)
  have X2 := hide (((bel_new W1 (.cells #[.int .i64 0, .int .i64 yo, .int .i64 ya, .int .i64 y0, .int .i64 y1, .int .u64 y2, .slice ay ny cy] 133)).block _ (lt_of_blk Y2.out)).trans Y2.out)
  have X3 := hide (Wv.new W1 0 yo ya y0 y1 y2 (.slice ay ny cy))
  have c2 := ((bel_new W1 (.cells #[.int .i64 0, .int .i64 yo, .int .i64 ya, .int .i64 y0, .int .i64 y1, .int .u64 y2, .slice ay ny cy] 133)).cell (p := ⟨t, 0, none⟩) (Nat.lt_of_lt_of_le HT.out B1.out.size)).trans c1
  have SZ := hide (And.intro (lt_of_blk Y2.out) B1.out.size)
  obtain ⟨bl, hbl⟩ : ∃ bl, W1.heap.size = bl := ⟨_, rfl⟩
  rw [hbl] at X3 SZ ⊢
  clear e0 e1 e2 e3 e4 e5 e6 c1 Y1 Y2 B1 hbl
  generalize W1.alloc (.cells #[.int .i64 0, .int .i64 yo, .int .i64 ya, .int .i64 y0, .int .i64 y1, .int .u64 y2, .slice ay ny cy] 133) = W2 at *
  by_cases hc1 : c = 1
  · have hn0 : n = 0 := by omega
    subst hn0
    subst hc1
    have HF := hide (HU.out.bel B2.out)
    have f0 : W2.frozen? ⟨t, 0, none⟩ = false := by
      obtain ⟨b', hb'⟩ : ∃ b', ps[i]? = some b' := ⟨_, List.getElem?_eq_getElem (by rw [HU.out.pl]; exact (List.getElem?_eq_some_iff.1 HX.out.1).1)⟩
      obtain ⟨⟨va', vw', q1, q2, q3, q4⟩, q5, q6⟩ := HF.out.gr i x b' t HX.out.1 hb' HX.out.2
      exact blk_frz q3 0
    have WR : WRow W2 R (.slice (some ⟨b2, o2, none⟩) 0 (1 - 1)) l := by
      have hq := HQ.out
      rw [HN.out] at hq ⊢
      exact (hq.tail rfl (some ⟨b2, o2, none⟩) (fun hl => absurd hl (by have := HN.out; omega))).keep (fun k hk => B2.out.block k (HU.out.rb k hk)) (fun _ h => h)
    simp only [Nat.sub_self] at WR
    have MV := hide (HF.out.moveT HX.out.1 HX.out.2 (.slice (some ⟨b2, o2, none⟩) 0 0) l WR)
    have HTW := hide (Nat.lt_of_lt_of_le HT.out B2.out.size)
    clear WR HF
    go_upto_region 5 with fail
    have Z1 := hide ((Below.heap_setCell W2 ⟨t, 0, none⟩ (.slice (some ⟨b2, o2, none⟩) 0 0) _ (by have := HT.out; simp; omega)).trans X1.out)
    have Z2 := hide ((Below.heap_setCell W2 ⟨t, 0, none⟩ (.slice (some ⟨b2, o2, none⟩) 0 0) _ (by have := HT.out; simp; omega)).trans X2.out)
    have Z3 : Hid (Wv (W2.setCell ⟨t, 0, none⟩ (.slice (some ⟨b2, o2, none⟩) 0 0)) bl 0 yo ya (y0, y1, y2) (.slice ay ny cy)) := hide ((Below.heap_setCell W2 ⟨t, 0, none⟩ (.slice (some ⟨b2, o2, none⟩) 0 0) _ (by have := HT.out; have := SZ.out; simp; omega)).trans X3.out)
    have RN := hide (ru_wide HG.out MV.out.1 MV.out.2)
    have AR : Hid (Args (W2.setCell ⟨t, 0, none⟩ (.slice (some ⟨b2, o2, none⟩) 0 0)) R (.slice ay ny cy)) := hide (HA.out.keep (fun k hk => (Below.heap_setCell _ _ _ _ (fun e => by
      obtain ⟨b', hb'⟩ : ∃ b', ps[i]? = some b' := ⟨_, List.getElem?_eq_getElem (by rw [HU.out.pl]; exact (List.getElem?_eq_some_iff.1 HX.out.1).1)⟩
      obtain ⟨_, q5, q6⟩ := HU.out.gr i x b' t HX.out.1 hb' HX.out.2
      have e' : k = t := e
      subst e'
      exact HU.out.ro _ hk q6)).trans (B2.out.block k (HU.out.rb k hk))) (fun _ h => h))
    have B3 := hide (And.intro ((Ch.of_bel B2.out).trans RN.out.2) RN.out.1)
    have K3 : Hid (∀ k, k < w.heap.size → k ≠ t → (W2.setCell ⟨t, 0, none⟩ (.slice (some ⟨b2, o2, none⟩) 0 0)).heap[k]? = w.heap[k]?) := hide (fun k hk hne => (Below.heap_setCell _ _ _ _ hne).trans (B2.out.block k hk))
    have S3 := hide (And.intro B2.out.size (by rw [size_setCell]; exact Nat.le_refl _ : W2.heap.size ≤ (W2.setCell ⟨t, 0, none⟩ (.slice (some ⟨b2, o2, none⟩) 0 0)).heap.size))
    have GL : Hid (∀ k, (Fs k ∨ Fo k ∨ R k) → k < w.heap.size) := hide (fun k hk => HU.out.lt hk)
    clear MV RN X1 X2 X3 f0 c2 HU HQ HN HX HA
    generalize W2.setCell ⟨t, 0, none⟩ (.slice (some ⟨b2, o2, none⟩) 0 0) = W3 at *
    obtain ⟨q0, q1, q2, q3, q4, q5, q6⟩ := Z3.out.all
    clear q0 q1 q2 q3 q4 q5 q6 AR HTW B2 S3
    have Z1 : Hid (W3.drew.heap[w.heap.size + 1]? = _) := Z1
    have Z2 : Hid (W3.drew.heap[w.heap.size + 1 + 1]? = _) := Z2
    have K3 : Hid (∀ k, k < w.heap.size → k ≠ t → W3.drew.heap[k]? = w.heap[k]?) := K3
    have Z3' : Hid (Wv W3.drew bl 0 yo ya (y0, y1, y2) (.slice ay ny cy)) := Z3
    have B3' := hide (And.intro B3.out.1.drew (B3.out.2.bel (w' := W3.drew) (below_drewN (Below.refl _ _) 1)))
    obtain ⟨q0, q1, q2, q3, q4, q5, q6⟩ := Z3.out.all
    go_wp2_with fail
    clear q0 q1 q2 q3 q4 q5 q6 Z3 B3
    refine wp_region_any mixed ?_
    change wpAny _ _ _ _ _ _ _ (World.drew _)
    generalize World.drew _ = W0 at *
    refine wpAny_take (i := 0) (v := ?_) rfl (by kernel_rfl) (by kernel_rfl) (by kernel_rfl) (fun _ _ _ h => h) (Or.inl ⟨by rfl, fun w => ?_⟩) ?_
    rotate_left 1
    · (go_simp <;> with_reducible rfl)
    simp only [Act.put, List.getElem_toArray, List.getElem_cons_zero, List.setIfInBounds_toArray, List.set_cons_zero, List.set_cons_succ]
    refine wpAny_take (i := 1) (v := ?_) rfl (by kernel_rfl) (by kernel_rfl) (by kernel_rfl) (fun _ _ _ h => h) (Or.inl ⟨by rfl, fun w => ?_⟩) ?_
    rotate_left 1
    · (go_simp <;> with_reducible rfl)
    simp only [Act.put, List.getElem_toArray, List.getElem_cons_zero, List.getElem_cons_succ, List.setIfInBounds_toArray, List.set_cons_zero, List.set_cons_succ]
    refine wpAny_take (i := 2) (v := ?_) rfl (by kernel_rfl) (by kernel_rfl) (by kernel_rfl) (fun _ _ _ h => h) (Or.inl ⟨by rfl, fun w => ?_⟩) ?_
    rotate_left 1
    · (go_simp <;> with_reducible rfl)
    simp only [Act.put, List.getElem_toArray, List.getElem_cons_zero, List.getElem_cons_succ, List.setIfInBounds_toArray, List.set_cons_zero, List.set_cons_succ]
    refine wpAny_take (i := 4) (v := ?_) rfl (by kernel_rfl) (by kernel_rfl) (by kernel_rfl) (fun _ _ _ h => h) (Or.inl ⟨by rfl, fun w => ?_⟩) ?_
    rotate_left 1
    · (go_simp <;> with_reducible rfl)
    simp only [Act.put, List.getElem_toArray, List.getElem_cons_zero, List.getElem_cons_succ, List.setIfInBounds_toArray, List.set_cons_zero, List.set_cons_succ]
    refine wpAny_ready (rs := [3, 5, 7]) (by kernel_rfl) (by decide) ?_
    refine AllReady.cons rfl (fun K1 hK1 => ?_) (AllReady.cons rfl (fun K1 hK1 => ?_) (AllReady.cons rfl (fun K1 hK1 => ?_) AllReady.nil))
    · obtain ⟨q0, q1, q2, q3, q4, q5, q6⟩ := Z3'.out.all
      go_simp
      refine hK1 _ _ ?_
      clear hK1 K1 q0 q1 q2 q3 q4 q5 q6
      refine wpAny_ready (rs := [5, 7]) (by kernel_rfl) (by decide) ?_
      refine AllReady.cons rfl (fun K1 hK1 => ?_) (AllReady.cons rfl (fun K1 hK1 => ?_) AllReady.nil)
      · obtain ⟨q0, q1, q2, q3, q4, q5, q6⟩ := Z3'.out.all
        go_simp
        refine hK1 _ _ ?_
        clear hK1 K1 q0 q1 q2 q3 q4 q5 q6
        refine wpAny_take (i := 6) (v := ?_) rfl (by kernel_rfl) (by kernel_rfl) (by kernel_rfl) (fun _ _ _ h => h) (Or.inl ⟨by rfl, fun w => ?_⟩) ?_
        rotate_left 1
        · (go_simp <;> with_reducible rfl)
        simp only [Act.put, List.getElem_toArray, List.getElem_cons_zero, List.getElem_cons_succ, List.setIfInBounds_toArray, List.set_cons_zero, List.set_cons_succ]
        refine wpAny_ready (rs := [7]) (by kernel_rfl) (by decide) ?_
        refine AllReady.cons rfl (fun K1 hK1 => ?_) AllReady.nil
        have p0 := blk_cell Z1.out 0 _ rfl
        have p1 := blk_cell Z1.out 1 _ rfl
        have p2 := blk_cell Z1.out 2 _ rfl
        have p3 := blk_cell Z1.out 3 _ rfl
        have p4 := blk_cell Z1.out 4 _ rfl
        have p5 := blk_cell Z1.out 5 _ rfl
        have p6 := blk_cell Z1.out 6 _ rfl
        have f0 := blk_frz Z1.out 0
        have f1 := blk_frz Z1.out 1
        have f2 := blk_frz Z1.out 2
        have f3 := blk_frz Z1.out 3
        have f4 := blk_frz Z1.out 4
        have f5 := blk_frz Z1.out 5
        have f6 := blk_frz Z1.out 6
        go_simp
        refine hK1 _ _ ?_
        clear hK1 K1 p0 p1 p2 p3 p4 p5 p6 f0 f1 f2 f3 f4 f5 f6
        have E1 : Hid ((((((((W0.setCell ⟨w.heap.size + 1, 0, none⟩ (.int .i64 0)).setCell ⟨w.heap.size + 1, 1, none⟩ (.int .i64 0)).setCell ⟨w.heap.size + 1, 2, none⟩ (.int .i64 0)).setCell ⟨w.heap.size + 1, 3, none⟩ (.int .i64 0)).setCell ⟨w.heap.size + 1, 4, none⟩ (.int .i64 0)).setCell ⟨w.heap.size + 1, 5, none⟩ (.int .u64 0)).setCell ⟨w.heap.size + 1, 6, none⟩ (.slice none 0 0)).heap[w.heap.size + 1]? = some (.cells #[.int .i64 0, .int .i64 0, .int .i64 0, .int .i64 0, .int .i64 0, .int .u64 0, .slice none 0 0] 133 (0, 0))) := hide (set7_at Z1.out (.int .i64 0) (.int .i64 0) (.int .i64 0) (.int .i64 0) (.int .i64 0) (.int .u64 0) (.slice none 0 0))
        have E2 : Hid ((((((((W0.setCell ⟨w.heap.size + 1, 0, none⟩ (.int .i64 0)).setCell ⟨w.heap.size + 1, 1, none⟩ (.int .i64 0)).setCell ⟨w.heap.size + 1, 2, none⟩ (.int .i64 0)).setCell ⟨w.heap.size + 1, 3, none⟩ (.int .i64 0)).setCell ⟨w.heap.size + 1, 4, none⟩ (.int .i64 0)).setCell ⟨w.heap.size + 1, 5, none⟩ (.int .u64 0)).setCell ⟨w.heap.size + 1, 6, none⟩ (.slice none 0 0)).heap[w.heap.size + 1 + 1]? = some (.cells #[.int .i64 0, .int .i64 0, .int .i64 0] 173 (0, 0))) := hide ((set7_ne (o := 0) (by omega)).trans Z2.out)
        have E3 : Hid (Wv (((((((W0.setCell ⟨w.heap.size + 1, 0, none⟩ (.int .i64 0)).setCell ⟨w.heap.size + 1, 1, none⟩ (.int .i64 0)).setCell ⟨w.heap.size + 1, 2, none⟩ (.int .i64 0)).setCell ⟨w.heap.size + 1, 3, none⟩ (.int .i64 0)).setCell ⟨w.heap.size + 1, 4, none⟩ (.int .i64 0)).setCell ⟨w.heap.size + 1, 5, none⟩ (.int .u64 0)).setCell ⟨w.heap.size + 1, 6, none⟩ (.slice none 0 0)) bl 0 yo ya (y0, y1, y2) (.slice ay ny cy)) := hide ((set7_ne (o := 0) (by have := SZ.out; omega)).trans Z3'.out)
        have E4 : Hid (Below w.heap.size W0 (((((((W0.setCell ⟨w.heap.size + 1, 0, none⟩ (.int .i64 0)).setCell ⟨w.heap.size + 1, 1, none⟩ (.int .i64 0)).setCell ⟨w.heap.size + 1, 2, none⟩ (.int .i64 0)).setCell ⟨w.heap.size + 1, 3, none⟩ (.int .i64 0)).setCell ⟨w.heap.size + 1, 4, none⟩ (.int .i64 0)).setCell ⟨w.heap.size + 1, 5, none⟩ (.int .u64 0)).setCell ⟨w.heap.size + 1, 6, none⟩ (.slice none 0 0))) := hide (bel_set7 (o := 0) (Below.refl _ _) (by omega))
        generalize (((((((W0.setCell ⟨w.heap.size + 1, 0, none⟩ (.int .i64 0)).setCell ⟨w.heap.size + 1, 1, none⟩ (.int .i64 0)).setCell ⟨w.heap.size + 1, 2, none⟩ (.int .i64 0)).setCell ⟨w.heap.size + 1, 3, none⟩ (.int .i64 0)).setCell ⟨w.heap.size + 1, 4, none⟩ (.int .i64 0)).setCell ⟨w.heap.size + 1, 5, none⟩ (.int .u64 0)).setCell ⟨w.heap.size + 1, 6, none⟩ (.slice none 0 0)) = W5 at *
        refine wpAny_ready (rs := [8]) (by kernel_rfl) (by decide) ?_
        refine AllReady.cons rfl (fun K1 hK1 => ?_) AllReady.nil
        have n0 := blk_cell E2.out 0 _ rfl
        have n1 := blk_cell E2.out 1 _ rfl
        have n2 := blk_cell E2.out 2 _ rfl
        have m0 := blk_frz E2.out 0
        have m1 := blk_frz E2.out 1
        have m2 := blk_frz E2.out 2
        go_simp
        refine hK1 _ _ ?_
        clear hK1 K1 n0 n1 n2 m0 m1 m2
        refine wpAny_done (by kernel_rfl) ?_ _
        go_wp2_with fail
        have BB : Below w.heap.size W0 (((W5.setCell ⟨w.heap.size + 1 + 1, 0, none⟩ (.int .i64 7)).setCell ⟨w.heap.size + 1 + 1, 1, none⟩ (.int .i64 y1)).setCell ⟨w.heap.size + 1 + 1, 2, none⟩ (.int .i64 ya)) := bel_set E4.out (by omega) _ _ _
        exact ret_wh (w.heap.size + 1) (w.heap.size + 1 + 1) rfl rfl rfl ⟨_, _, _, rfl⟩ ((ne3 (by omega)).trans E1.out) (set3 E2.out _ _ _) rfl ⟨_, rfl, ArgN.nilS, fun k hk hne => (BB.block k hk).trans (K3.out k hk hne), _, B3'.out.2.low (N := w.heap.size) GL.out BB, B3'.out.1.below BB⟩
      · have p0 := blk_cell Z1.out 0 _ rfl
        have p1 := blk_cell Z1.out 1 _ rfl
        have p2 := blk_cell Z1.out 2 _ rfl
        have p3 := blk_cell Z1.out 3 _ rfl
        have p4 := blk_cell Z1.out 4 _ rfl
        have p5 := blk_cell Z1.out 5 _ rfl
        have p6 := blk_cell Z1.out 6 _ rfl
        have f0 := blk_frz Z1.out 0
        have f1 := blk_frz Z1.out 1
        have f2 := blk_frz Z1.out 2
        have f3 := blk_frz Z1.out 3
        have f4 := blk_frz Z1.out 4
        have f5 := blk_frz Z1.out 5
        have f6 := blk_frz Z1.out 6
        go_simp
        refine hK1 _ _ ?_
        clear hK1 K1 p0 p1 p2 p3 p4 p5 p6 f0 f1 f2 f3 f4 f5 f6
        have E1 : Hid ((((((((W0.setCell ⟨w.heap.size + 1, 0, none⟩ (.int .i64 0)).setCell ⟨w.heap.size + 1, 1, none⟩ (.int .i64 0)).setCell ⟨w.heap.size + 1, 2, none⟩ (.int .i64 0)).setCell ⟨w.heap.size + 1, 3, none⟩ (.int .i64 0)).setCell ⟨w.heap.size + 1, 4, none⟩ (.int .i64 0)).setCell ⟨w.heap.size + 1, 5, none⟩ (.int .u64 0)).setCell ⟨w.heap.size + 1, 6, none⟩ (.slice none 0 0)).heap[w.heap.size + 1]? = some (.cells #[.int .i64 0, .int .i64 0, .int .i64 0, .int .i64 0, .int .i64 0, .int .u64 0, .slice none 0 0] 133 (0, 0))) := hide (set7_at Z1.out (.int .i64 0) (.int .i64 0) (.int .i64 0) (.int .i64 0) (.int .i64 0) (.int .u64 0) (.slice none 0 0))
        have E2 : Hid ((((((((W0.setCell ⟨w.heap.size + 1, 0, none⟩ (.int .i64 0)).setCell ⟨w.heap.size + 1, 1, none⟩ (.int .i64 0)).setCell ⟨w.heap.size + 1, 2, none⟩ (.int .i64 0)).setCell ⟨w.heap.size + 1, 3, none⟩ (.int .i64 0)).setCell ⟨w.heap.size + 1, 4, none⟩ (.int .i64 0)).setCell ⟨w.heap.size + 1, 5, none⟩ (.int .u64 0)).setCell ⟨w.heap.size + 1, 6, none⟩ (.slice none 0 0)).heap[w.heap.size + 1 + 1]? = some (.cells #[.int .i64 0, .int .i64 0, .int .i64 0] 173 (0, 0))) := hide ((set7_ne (o := 0) (by omega)).trans Z2.out)
        have E3 : Hid (Wv (((((((W0.setCell ⟨w.heap.size + 1, 0, none⟩ (.int .i64 0)).setCell ⟨w.heap.size + 1, 1, none⟩ (.int .i64 0)).setCell ⟨w.heap.size + 1, 2, none⟩ (.int .i64 0)).setCell ⟨w.heap.size + 1, 3, none⟩ (.int .i64 0)).setCell ⟨w.heap.size + 1, 4, none⟩ (.int .i64 0)).setCell ⟨w.heap.size + 1, 5, none⟩ (.int .u64 0)).setCell ⟨w.heap.size + 1, 6, none⟩ (.slice none 0 0)) bl 0 yo ya (y0, y1, y2) (.slice ay ny cy)) := hide ((set7_ne (o := 0) (by have := SZ.out; omega)).trans Z3'.out)
        have E4 : Hid (Below w.heap.size W0 (((((((W0.setCell ⟨w.heap.size + 1, 0, none⟩ (.int .i64 0)).setCell ⟨w.heap.size + 1, 1, none⟩ (.int .i64 0)).setCell ⟨w.heap.size + 1, 2, none⟩ (.int .i64 0)).setCell ⟨w.heap.size + 1, 3, none⟩ (.int .i64 0)).setCell ⟨w.heap.size + 1, 4, none⟩ (.int .i64 0)).setCell ⟨w.heap.size + 1, 5, none⟩ (.int .u64 0)).setCell ⟨w.heap.size + 1, 6, none⟩ (.slice none 0 0))) := hide (bel_set7 (o := 0) (Below.refl _ _) (by omega))
        generalize (((((((W0.setCell ⟨w.heap.size + 1, 0, none⟩ (.int .i64 0)).setCell ⟨w.heap.size + 1, 1, none⟩ (.int .i64 0)).setCell ⟨w.heap.size + 1, 2, none⟩ (.int .i64 0)).setCell ⟨w.heap.size + 1, 3, none⟩ (.int .i64 0)).setCell ⟨w.heap.size + 1, 4, none⟩ (.int .i64 0)).setCell ⟨w.heap.size + 1, 5, none⟩ (.int .u64 0)).setCell ⟨w.heap.size + 1, 6, none⟩ (.slice none 0 0)) = W5 at *
        refine wpAny_ready (rs := [5]) (by kernel_rfl) (by decide) ?_
        refine AllReady.cons rfl (fun K1 hK1 => ?_) AllReady.nil
        obtain ⟨q0, q1, q2, q3, q4, q5, q6⟩ := E3.out.all
        go_simp
        refine hK1 _ _ ?_
        clear hK1 K1 q0 q1 q2 q3 q4 q5 q6
        refine wpAny_take (i := 6) (v := ?_) rfl (by kernel_rfl) (by kernel_rfl) (by kernel_rfl) (fun _ _ _ h => h) (Or.inl ⟨by rfl, fun w => ?_⟩) ?_
        rotate_left 1
        · (go_simp <;> with_reducible rfl)
        simp only [Act.put, List.getElem_toArray, List.getElem_cons_zero, List.getElem_cons_succ, List.setIfInBounds_toArray, List.set_cons_zero, List.set_cons_succ]
        refine wpAny_ready (rs := [8]) (by kernel_rfl) (by decide) ?_
        refine AllReady.cons rfl (fun K1 hK1 => ?_) AllReady.nil
        have n0 := blk_cell E2.out 0 _ rfl
        have n1 := blk_cell E2.out 1 _ rfl
        have n2 := blk_cell E2.out 2 _ rfl
        have m0 := blk_frz E2.out 0
        have m1 := blk_frz E2.out 1
        have m2 := blk_frz E2.out 2
        go_simp
        refine hK1 _ _ ?_
        clear hK1 K1 n0 n1 n2 m0 m1 m2
        refine wpAny_done (by kernel_rfl) ?_ _
        go_wp2_with fail
        have BB : Below w.heap.size W0 (((W5.setCell ⟨w.heap.size + 1 + 1, 0, none⟩ (.int .i64 7)).setCell ⟨w.heap.size + 1 + 1, 1, none⟩ (.int .i64 y1)).setCell ⟨w.heap.size + 1 + 1, 2, none⟩ (.int .i64 ya)) := bel_set E4.out (by omega) _ _ _
        exact ret_wh (w.heap.size + 1) (w.heap.size + 1 + 1) rfl rfl rfl ⟨_, _, _, rfl⟩ ((ne3 (by omega)).trans E1.out) (set3 E2.out _ _ _) rfl ⟨_, rfl, ArgN.nilS, fun k hk hne => (BB.block k hk).trans (K3.out k hk hne), _, B3'.out.2.low (N := w.heap.size) GL.out BB, B3'.out.1.below BB⟩
    · obtain ⟨q0, q1, q2, q3, q4, q5, q6⟩ := Z3'.out.all
      go_simp
      refine hK1 _ _ ?_
      clear hK1 K1 q0 q1 q2 q3 q4 q5 q6
      refine wpAny_ready (rs := [3, 7]) (by kernel_rfl) (by decide) ?_
      refine AllReady.cons rfl (fun K1 hK1 => ?_) (AllReady.cons rfl (fun K1 hK1 => ?_) AllReady.nil)
      · obtain ⟨q0, q1, q2, q3, q4, q5, q6⟩ := Z3'.out.all
        go_simp
        refine hK1 _ _ ?_
        clear hK1 K1 q0 q1 q2 q3 q4 q5 q6
        refine wpAny_take (i := 6) (v := ?_) rfl (by kernel_rfl) (by kernel_rfl) (by kernel_rfl) (fun _ _ _ h => h) (Or.inl ⟨by rfl, fun w => ?_⟩) ?_
        rotate_left 1
        · (go_simp <;> with_reducible rfl)
        simp only [Act.put, List.getElem_toArray, List.getElem_cons_zero, List.getElem_cons_succ, List.setIfInBounds_toArray, List.set_cons_zero, List.set_cons_succ]
        refine wpAny_ready (rs := [7]) (by kernel_rfl) (by decide) ?_
        refine AllReady.cons rfl (fun K1 hK1 => ?_) AllReady.nil
        have p0 := blk_cell Z1.out 0 _ rfl
        have p1 := blk_cell Z1.out 1 _ rfl
        have p2 := blk_cell Z1.out 2 _ rfl
        have p3 := blk_cell Z1.out 3 _ rfl
        have p4 := blk_cell Z1.out 4 _ rfl
        have p5 := blk_cell Z1.out 5 _ rfl
        have p6 := blk_cell Z1.out 6 _ rfl
        have f0 := blk_frz Z1.out 0
        have f1 := blk_frz Z1.out 1
        have f2 := blk_frz Z1.out 2
        have f3 := blk_frz Z1.out 3
        have f4 := blk_frz Z1.out 4
        have f5 := blk_frz Z1.out 5
        have f6 := blk_frz Z1.out 6
        go_simp
        refine hK1 _ _ ?_
        clear hK1 K1 p0 p1 p2 p3 p4 p5 p6 f0 f1 f2 f3 f4 f5 f6
        have E1 : Hid ((((((((W0.setCell ⟨w.heap.size + 1, 0, none⟩ (.int .i64 0)).setCell ⟨w.heap.size + 1, 1, none⟩ (.int .i64 0)).setCell ⟨w.heap.size + 1, 2, none⟩ (.int .i64 0)).setCell ⟨w.heap.size + 1, 3, none⟩ (.int .i64 0)).setCell ⟨w.heap.size + 1, 4, none⟩ (.int .i64 0)).setCell ⟨w.heap.size + 1, 5, none⟩ (.int .u64 0)).setCell ⟨w.heap.size + 1, 6, none⟩ (.slice none 0 0)).heap[w.heap.size + 1]? = some (.cells #[.int .i64 0, .int .i64 0, .int .i64 0, .int .i64 0, .int .i64 0, .int .u64 0, .slice none 0 0] 133 (0, 0))) := hide (set7_at Z1.out (.int .i64 0) (.int .i64 0) (.int .i64 0) (.int .i64 0) (.int .i64 0) (.int .u64 0) (.slice none 0 0))
        have E2 : Hid ((((((((W0.setCell ⟨w.heap.size + 1, 0, none⟩ (.int .i64 0)).setCell ⟨w.heap.size + 1, 1, none⟩ (.int .i64 0)).setCell ⟨w.heap.size + 1, 2, none⟩ (.int .i64 0)).setCell ⟨w.heap.size + 1, 3, none⟩ (.int .i64 0)).setCell ⟨w.heap.size + 1, 4, none⟩ (.int .i64 0)).setCell ⟨w.heap.size + 1, 5, none⟩ (.int .u64 0)).setCell ⟨w.heap.size + 1, 6, none⟩ (.slice none 0 0)).heap[w.heap.size + 1 + 1]? = some (.cells #[.int .i64 0, .int .i64 0, .int .i64 0] 173 (0, 0))) := hide ((set7_ne (o := 0) (by omega)).trans Z2.out)
        have E3 : Hid (Wv (((((((W0.setCell ⟨w.heap.size + 1, 0, none⟩ (.int .i64 0)).setCell ⟨w.heap.size + 1, 1, none⟩ (.int .i64 0)).setCell ⟨w.heap.size + 1, 2, none⟩ (.int .i64 0)).setCell ⟨w.heap.size + 1, 3, none⟩ (.int .i64 0)).setCell ⟨w.heap.size + 1, 4, none⟩ (.int .i64 0)).setCell ⟨w.heap.size + 1, 5, none⟩ (.int .u64 0)).setCell ⟨w.heap.size + 1, 6, none⟩ (.slice none 0 0)) bl 0 yo ya (y0, y1, y2) (.slice ay ny cy)) := hide ((set7_ne (o := 0) (by have := SZ.out; omega)).trans Z3'.out)
        have E4 : Hid (Below w.heap.size W0 (((((((W0.setCell ⟨w.heap.size + 1, 0, none⟩ (.int .i64 0)).setCell ⟨w.heap.size + 1, 1, none⟩ (.int .i64 0)).setCell ⟨w.heap.size + 1, 2, none⟩ (.int .i64 0)).setCell ⟨w.heap.size + 1, 3, none⟩ (.int .i64 0)).setCell ⟨w.heap.size + 1, 4, none⟩ (.int .i64 0)).setCell ⟨w.heap.size + 1, 5, none⟩ (.int .u64 0)).setCell ⟨w.heap.size + 1, 6, none⟩ (.slice none 0 0))) := hide (bel_set7 (o := 0) (Below.refl _ _) (by omega))
        generalize (((((((W0.setCell ⟨w.heap.size + 1, 0, none⟩ (.int .i64 0)).setCell ⟨w.heap.size + 1, 1, none⟩ (.int .i64 0)).setCell ⟨w.heap.size + 1, 2, none⟩ (.int .i64 0)).setCell ⟨w.heap.size + 1, 3, none⟩ (.int .i64 0)).setCell ⟨w.heap.size + 1, 4, none⟩ (.int .i64 0)).setCell ⟨w.heap.size + 1, 5, none⟩ (.int .u64 0)).setCell ⟨w.heap.size + 1, 6, none⟩ (.slice none 0 0)) = W5 at *
        refine wpAny_ready (rs := [8]) (by kernel_rfl) (by decide) ?_
        refine AllReady.cons rfl (fun K1 hK1 => ?_) AllReady.nil
        have n0 := blk_cell E2.out 0 _ rfl
        have n1 := blk_cell E2.out 1 _ rfl
        have n2 := blk_cell E2.out 2 _ rfl
        have m0 := blk_frz E2.out 0
        have m1 := blk_frz E2.out 1
        have m2 := blk_frz E2.out 2
        go_simp
        refine hK1 _ _ ?_
        clear hK1 K1 n0 n1 n2 m0 m1 m2
        refine wpAny_done (by kernel_rfl) ?_ _
        go_wp2_with fail
        have BB : Below w.heap.size W0 (((W5.setCell ⟨w.heap.size + 1 + 1, 0, none⟩ (.int .i64 7)).setCell ⟨w.heap.size + 1 + 1, 1, none⟩ (.int .i64 y1)).setCell ⟨w.heap.size + 1 + 1, 2, none⟩ (.int .i64 ya)) := bel_set E4.out (by omega) _ _ _
        exact ret_wh (w.heap.size + 1) (w.heap.size + 1 + 1) rfl rfl rfl ⟨_, _, _, rfl⟩ ((ne3 (by omega)).trans E1.out) (set3 E2.out _ _ _) rfl ⟨_, rfl, ArgN.nilS, fun k hk hne => (BB.block k hk).trans (K3.out k hk hne), _, B3'.out.2.low (N := w.heap.size) GL.out BB, B3'.out.1.below BB⟩
      · have p0 := blk_cell Z1.out 0 _ rfl
        have p1 := blk_cell Z1.out 1 _ rfl
        have p2 := blk_cell Z1.out 2 _ rfl
        have p3 := blk_cell Z1.out 3 _ rfl
        have p4 := blk_cell Z1.out 4 _ rfl
        have p5 := blk_cell Z1.out 5 _ rfl
        have p6 := blk_cell Z1.out 6 _ rfl
        have f0 := blk_frz Z1.out 0
        have f1 := blk_frz Z1.out 1
        have f2 := blk_frz Z1.out 2
        have f3 := blk_frz Z1.out 3
        have f4 := blk_frz Z1.out 4
        have f5 := blk_frz Z1.out 5
        have f6 := blk_frz Z1.out 6
        go_simp
        refine hK1 _ _ ?_
        clear hK1 K1 p0 p1 p2 p3 p4 p5 p6 f0 f1 f2 f3 f4 f5 f6
        have E1 : Hid ((((((((W0.setCell ⟨w.heap.size + 1, 0, none⟩ (.int .i64 0)).setCell ⟨w.heap.size + 1, 1, none⟩ (.int .i64 0)).setCell ⟨w.heap.size + 1, 2, none⟩ (.int .i64 0)).setCell ⟨w.heap.size + 1, 3, none⟩ (.int .i64 0)).setCell ⟨w.heap.size + 1, 4, none⟩ (.int .i64 0)).setCell ⟨w.heap.size + 1, 5, none⟩ (.int .u64 0)).setCell ⟨w.heap.size + 1, 6, none⟩ (.slice none 0 0)).heap[w.heap.size + 1]? = some (.cells #[.int .i64 0, .int .i64 0, .int .i64 0, .int .i64 0, .int .i64 0, .int .u64 0, .slice none 0 0] 133 (0, 0))) := hide (set7_at Z1.out (.int .i64 0) (.int .i64 0) (.int .i64 0) (.int .i64 0) (.int .i64 0) (.int .u64 0) (.slice none 0 0))
        have E2 : Hid ((((((((W0.setCell ⟨w.heap.size + 1, 0, none⟩ (.int .i64 0)).setCell ⟨w.heap.size + 1, 1, none⟩ (.int .i64 0)).setCell ⟨w.heap.size + 1, 2, none⟩ (.int .i64 0)).setCell ⟨w.heap.size + 1, 3, none⟩ (.int .i64 0)).setCell ⟨w.heap.size + 1, 4, none⟩ (.int .i64 0)).setCell ⟨w.heap.size + 1, 5, none⟩ (.int .u64 0)).setCell ⟨w.heap.size + 1, 6, none⟩ (.slice none 0 0)).heap[w.heap.size + 1 + 1]? = some (.cells #[.int .i64 0, .int .i64 0, .int .i64 0] 173 (0, 0))) := hide ((set7_ne (o := 0) (by omega)).trans Z2.out)
        have E3 : Hid (Wv (((((((W0.setCell ⟨w.heap.size + 1, 0, none⟩ (.int .i64 0)).setCell ⟨w.heap.size + 1, 1, none⟩ (.int .i64 0)).setCell ⟨w.heap.size + 1, 2, none⟩ (.int .i64 0)).setCell ⟨w.heap.size + 1, 3, none⟩ (.int .i64 0)).setCell ⟨w.heap.size + 1, 4, none⟩ (.int .i64 0)).setCell ⟨w.heap.size + 1, 5, none⟩ (.int .u64 0)).setCell ⟨w.heap.size + 1, 6, none⟩ (.slice none 0 0)) bl 0 yo ya (y0, y1, y2) (.slice ay ny cy)) := hide ((set7_ne (o := 0) (by have := SZ.out; omega)).trans Z3'.out)
        have E4 : Hid (Below w.heap.size W0 (((((((W0.setCell ⟨w.heap.size + 1, 0, none⟩ (.int .i64 0)).setCell ⟨w.heap.size + 1, 1, none⟩ (.int .i64 0)).setCell ⟨w.heap.size + 1, 2, none⟩ (.int .i64 0)).setCell ⟨w.heap.size + 1, 3, none⟩ (.int .i64 0)).setCell ⟨w.heap.size + 1, 4, none⟩ (.int .i64 0)).setCell ⟨w.heap.size + 1, 5, none⟩ (.int .u64 0)).setCell ⟨w.heap.size + 1, 6, none⟩ (.slice none 0 0))) := hide (bel_set7 (o := 0) (Below.refl _ _) (by omega))
        generalize (((((((W0.setCell ⟨w.heap.size + 1, 0, none⟩ (.int .i64 0)).setCell ⟨w.heap.size + 1, 1, none⟩ (.int .i64 0)).setCell ⟨w.heap.size + 1, 2, none⟩ (.int .i64 0)).setCell ⟨w.heap.size + 1, 3, none⟩ (.int .i64 0)).setCell ⟨w.heap.size + 1, 4, none⟩ (.int .i64 0)).setCell ⟨w.heap.size + 1, 5, none⟩ (.int .u64 0)).setCell ⟨w.heap.size + 1, 6, none⟩ (.slice none 0 0)) = W5 at *
        refine wpAny_ready (rs := [3]) (by kernel_rfl) (by decide) ?_
        refine AllReady.cons rfl (fun K1 hK1 => ?_) AllReady.nil
        obtain ⟨q0, q1, q2, q3, q4, q5, q6⟩ := E3.out.all
        go_simp
        refine hK1 _ _ ?_
        clear hK1 K1 q0 q1 q2 q3 q4 q5 q6
        refine wpAny_take (i := 6) (v := ?_) rfl (by kernel_rfl) (by kernel_rfl) (by kernel_rfl) (fun _ _ _ h => h) (Or.inl ⟨by rfl, fun w => ?_⟩) ?_
        rotate_left 1
        · (go_simp <;> with_reducible rfl)
        simp only [Act.put, List.getElem_toArray, List.getElem_cons_zero, List.getElem_cons_succ, List.setIfInBounds_toArray, List.set_cons_zero, List.set_cons_succ]
        refine wpAny_ready (rs := [8]) (by kernel_rfl) (by decide) ?_
        refine AllReady.cons rfl (fun K1 hK1 => ?_) AllReady.nil
        have n0 := blk_cell E2.out 0 _ rfl
        have n1 := blk_cell E2.out 1 _ rfl
        have n2 := blk_cell E2.out 2 _ rfl
        have m0 := blk_frz E2.out 0
        have m1 := blk_frz E2.out 1
        have m2 := blk_frz E2.out 2
        go_simp
        refine hK1 _ _ ?_
        clear hK1 K1 n0 n1 n2 m0 m1 m2
        refine wpAny_done (by kernel_rfl) ?_ _
        go_wp2_with fail
        have BB : Below w.heap.size W0 (((W5.setCell ⟨w.heap.size + 1 + 1, 0, none⟩ (.int .i64 7)).setCell ⟨w.heap.size + 1 + 1, 1, none⟩ (.int .i64 y1)).setCell ⟨w.heap.size + 1 + 1, 2, none⟩ (.int .i64 ya)) := bel_set E4.out (by omega) _ _ _
        exact ret_wh (w.heap.size + 1) (w.heap.size + 1 + 1) rfl rfl rfl ⟨_, _, _, rfl⟩ ((ne3 (by omega)).trans E1.out) (set3 E2.out _ _ _) rfl ⟨_, rfl, ArgN.nilS, fun k hk hne => (BB.block k hk).trans (K3.out k hk hne), _, B3'.out.2.low (N := w.heap.size) GL.out BB, B3'.out.1.below BB⟩
    · have p0 := blk_cell Z1.out 0 _ rfl
      have p1 := blk_cell Z1.out 1 _ rfl
      have p2 := blk_cell Z1.out 2 _ rfl
      have p3 := blk_cell Z1.out 3 _ rfl
      have p4 := blk_cell Z1.out 4 _ rfl
      have p5 := blk_cell Z1.out 5 _ rfl
      have p6 := blk_cell Z1.out 6 _ rfl
      have f0 := blk_frz Z1.out 0
      have f1 := blk_frz Z1.out 1
      have f2 := blk_frz Z1.out 2
      have f3 := blk_frz Z1.out 3
      have f4 := blk_frz Z1.out 4
      have f5 := blk_frz Z1.out 5
      have f6 := blk_frz Z1.out 6
      go_simp
      refine hK1 _ _ ?_
      clear hK1 K1 p0 p1 p2 p3 p4 p5 p6 f0 f1 f2 f3 f4 f5 f6
      have E1 : Hid ((((((((W0.setCell ⟨w.heap.size + 1, 0, none⟩ (.int .i64 0)).setCell ⟨w.heap.size + 1, 1, none⟩ (.int .i64 0)).setCell ⟨w.heap.size + 1, 2, none⟩ (.int .i64 0)).setCell ⟨w.heap.size + 1, 3, none⟩ (.int .i64 0)).setCell ⟨w.heap.size + 1, 4, none⟩ (.int .i64 0)).setCell ⟨w.heap.size + 1, 5, none⟩ (.int .u64 0)).setCell ⟨w.heap.size + 1, 6, none⟩ (.slice none 0 0)).heap[w.heap.size + 1]? = some (.cells #[.int .i64 0, .int .i64 0, .int .i64 0, .int .i64 0, .int .i64 0, .int .u64 0, .slice none 0 0] 133 (0, 0))) := hide (set7_at Z1.out (.int .i64 0) (.int .i64 0) (.int .i64 0) (.int .i64 0) (.int .i64 0) (.int .u64 0) (.slice none 0 0))
      have E2 : Hid ((((((((W0.setCell ⟨w.heap.size + 1, 0, none⟩ (.int .i64 0)).setCell ⟨w.heap.size + 1, 1, none⟩ (.int .i64 0)).setCell ⟨w.heap.size + 1, 2, none⟩ (.int .i64 0)).setCell ⟨w.heap.size + 1, 3, none⟩ (.int .i64 0)).setCell ⟨w.heap.size + 1, 4, none⟩ (.int .i64 0)).setCell ⟨w.heap.size + 1, 5, none⟩ (.int .u64 0)).setCell ⟨w.heap.size + 1, 6, none⟩ (.slice none 0 0)).heap[w.heap.size + 1 + 1]? = some (.cells #[.int .i64 0, .int .i64 0, .int .i64 0] 173 (0, 0))) := hide ((set7_ne (o := 0) (by omega)).trans Z2.out)
      have E3 : Hid (Wv (((((((W0.setCell ⟨w.heap.size + 1, 0, none⟩ (.int .i64 0)).setCell ⟨w.heap.size + 1, 1, none⟩ (.int .i64 0)).setCell ⟨w.heap.size + 1, 2, none⟩ (.int .i64 0)).setCell ⟨w.heap.size + 1, 3, none⟩ (.int .i64 0)).setCell ⟨w.heap.size + 1, 4, none⟩ (.int .i64 0)).setCell ⟨w.heap.size + 1, 5, none⟩ (.int .u64 0)).setCell ⟨w.heap.size + 1, 6, none⟩ (.slice none 0 0)) bl 0 yo ya (y0, y1, y2) (.slice ay ny cy)) := hide ((set7_ne (o := 0) (by have := SZ.out; omega)).trans Z3'.out)
      have E4 : Hid (Below w.heap.size W0 (((((((W0.setCell ⟨w.heap.size + 1, 0, none⟩ (.int .i64 0)).setCell ⟨w.heap.size + 1, 1, none⟩ (.int .i64 0)).setCell ⟨w.heap.size + 1, 2, none⟩ (.int .i64 0)).setCell ⟨w.heap.size + 1, 3, none⟩ (.int .i64 0)).setCell ⟨w.heap.size + 1, 4, none⟩ (.int .i64 0)).setCell ⟨w.heap.size + 1, 5, none⟩ (.int .u64 0)).setCell ⟨w.heap.size + 1, 6, none⟩ (.slice none 0 0))) := hide (bel_set7 (o := 0) (Below.refl _ _) (by omega))
      generalize (((((((W0.setCell ⟨w.heap.size + 1, 0, none⟩ (.int .i64 0)).setCell ⟨w.heap.size + 1, 1, none⟩ (.int .i64 0)).setCell ⟨w.heap.size + 1, 2, none⟩ (.int .i64 0)).setCell ⟨w.heap.size + 1, 3, none⟩ (.int .i64 0)).setCell ⟨w.heap.size + 1, 4, none⟩ (.int .i64 0)).setCell ⟨w.heap.size + 1, 5, none⟩ (.int .u64 0)).setCell ⟨w.heap.size + 1, 6, none⟩ (.slice none 0 0)) = W5 at *
      refine wpAny_ready (rs := [3, 5]) (by kernel_rfl) (by decide) ?_
      refine AllReady.cons rfl (fun K1 hK1 => ?_) (AllReady.cons rfl (fun K1 hK1 => ?_) AllReady.nil)
      · obtain ⟨q0, q1, q2, q3, q4, q5, q6⟩ := E3.out.all
        go_simp
        refine hK1 _ _ ?_
        clear hK1 K1 q0 q1 q2 q3 q4 q5 q6
        refine wpAny_ready (rs := [5]) (by kernel_rfl) (by decide) ?_
        refine AllReady.cons rfl (fun K1 hK1 => ?_) AllReady.nil
        obtain ⟨q0, q1, q2, q3, q4, q5, q6⟩ := E3.out.all
        go_simp
        refine hK1 _ _ ?_
        clear hK1 K1 q0 q1 q2 q3 q4 q5 q6
        refine wpAny_take (i := 6) (v := ?_) rfl (by kernel_rfl) (by kernel_rfl) (by kernel_rfl) (fun _ _ _ h => h) (Or.inl ⟨by rfl, fun w => ?_⟩) ?_
        rotate_left 1
        · (go_simp <;> with_reducible rfl)
        simp only [Act.put, List.getElem_toArray, List.getElem_cons_zero, List.getElem_cons_succ, List.setIfInBounds_toArray, List.set_cons_zero, List.set_cons_succ]
        refine wpAny_ready (rs := [8]) (by kernel_rfl) (by decide) ?_
        refine AllReady.cons rfl (fun K1 hK1 => ?_) AllReady.nil
        have n0 := blk_cell E2.out 0 _ rfl
        have n1 := blk_cell E2.out 1 _ rfl
        have n2 := blk_cell E2.out 2 _ rfl
        have m0 := blk_frz E2.out 0
        have m1 := blk_frz E2.out 1
        have m2 := blk_frz E2.out 2
        go_simp
        refine hK1 _ _ ?_
        clear hK1 K1 n0 n1 n2 m0 m1 m2
        refine wpAny_done (by kernel_rfl) ?_ _
        go_wp2_with fail
        have BB : Below w.heap.size W0 (((W5.setCell ⟨w.heap.size + 1 + 1, 0, none⟩ (.int .i64 7)).setCell ⟨w.heap.size + 1 + 1, 1, none⟩ (.int .i64 y1)).setCell ⟨w.heap.size + 1 + 1, 2, none⟩ (.int .i64 ya)) := bel_set E4.out (by omega) _ _ _
        exact ret_wh (w.heap.size + 1) (w.heap.size + 1 + 1) rfl rfl rfl ⟨_, _, _, rfl⟩ ((ne3 (by omega)).trans E1.out) (set3 E2.out _ _ _) rfl ⟨_, rfl, ArgN.nilS, fun k hk hne => (BB.block k hk).trans (K3.out k hk hne), _, B3'.out.2.low (N := w.heap.size) GL.out BB, B3'.out.1.below BB⟩
      · obtain ⟨q0, q1, q2, q3, q4, q5, q6⟩ := E3.out.all
        go_simp
        refine hK1 _ _ ?_
        clear hK1 K1 q0 q1 q2 q3 q4 q5 q6
        refine wpAny_ready (rs := [3]) (by kernel_rfl) (by decide) ?_
        refine AllReady.cons rfl (fun K1 hK1 => ?_) AllReady.nil
        obtain ⟨q0, q1, q2, q3, q4, q5, q6⟩ := E3.out.all
        go_simp
        refine hK1 _ _ ?_
        clear hK1 K1 q0 q1 q2 q3 q4 q5 q6
        refine wpAny_take (i := 6) (v := ?_) rfl (by kernel_rfl) (by kernel_rfl) (by kernel_rfl) (fun _ _ _ h => h) (Or.inl ⟨by rfl, fun w => ?_⟩) ?_
        rotate_left 1
        · (go_simp <;> with_reducible rfl)
        simp only [Act.put, List.getElem_toArray, List.getElem_cons_zero, List.getElem_cons_succ, List.setIfInBounds_toArray, List.set_cons_zero, List.set_cons_succ]
        refine wpAny_ready (rs := [8]) (by kernel_rfl) (by decide) ?_
        refine AllReady.cons rfl (fun K1 hK1 => ?_) AllReady.nil
        have n0 := blk_cell E2.out 0 _ rfl
        have n1 := blk_cell E2.out 1 _ rfl
        have n2 := blk_cell E2.out 2 _ rfl
        have m0 := blk_frz E2.out 0
        have m1 := blk_frz E2.out 1
        have m2 := blk_frz E2.out 2
        go_simp
        refine hK1 _ _ ?_
        clear hK1 K1 n0 n1 n2 m0 m1 m2
        refine wpAny_done (by kernel_rfl) ?_ _
        go_wp2_with fail
        have BB : Below w.heap.size W0 (((W5.setCell ⟨w.heap.size + 1 + 1, 0, none⟩ (.int .i64 7)).setCell ⟨w.heap.size + 1 + 1, 1, none⟩ (.int .i64 y1)).setCell ⟨w.heap.size + 1 + 1, 2, none⟩ (.int .i64 ya)) := bel_set E4.out (by omega) _ _ _
        exact ret_wh (w.heap.size + 1) (w.heap.size + 1 + 1) rfl rfl rfl ⟨_, _, _, rfl⟩ ((ne3 (by omega)).trans E1.out) (set3 E2.out _ _ _) rfl ⟨_, rfl, ArgN.nilS, fun k hk hne => (BB.block k hk).trans (K3.out k hk hne), _, B3'.out.2.low (N := w.heap.size) GL.out BB, B3'.out.1.below BB⟩
  · skip
    have HF := hide (HU.out.bel B2.out)
    have f0 : W2.frozen? ⟨t, 0, none⟩ = false := by
      obtain ⟨b', hb'⟩ : ∃ b', ps[i]? = some b' := ⟨_, List.getElem?_eq_getElem (by rw [HU.out.pl]; exact (List.getElem?_eq_some_iff.1 HX.out.1).1)⟩
      obtain ⟨⟨va', vw', q1, q2, q3, q4⟩, q5, q6⟩ := HF.out.gr i x b' t HX.out.1 hb' HX.out.2
      exact blk_frz q3 0
    have WR : WRow W2 R (.slice (some ⟨b2, o2 + 7, none⟩) n (c - 1)) l := by
      have hq := HQ.out
      rw [HN.out] at hq ⊢
      exact (hq.tail rfl (some ⟨b2, o2 + 7, none⟩) (fun hl => rfl)).keep (fun k hk => B2.out.block k (HU.out.rb k hk)) (fun _ h => h)
    have MV := hide (HF.out.moveT HX.out.1 HX.out.2 (.slice (some ⟨b2, o2 + 7, none⟩) n (c - 1)) l WR)
    have HTW := hide (Nat.lt_of_lt_of_le HT.out B2.out.size)
    clear WR HF
    go_upto_region 5 with fail
    have Z1 := hide ((Below.heap_setCell W2 ⟨t, 0, none⟩ (.slice (some ⟨b2, o2 + 7, none⟩) n (c - 1)) _ (by have := HT.out; simp; omega)).trans X1.out)
    have Z2 := hide ((Below.heap_setCell W2 ⟨t, 0, none⟩ (.slice (some ⟨b2, o2 + 7, none⟩) n (c - 1)) _ (by have := HT.out; simp; omega)).trans X2.out)
    have Z3 : Hid (Wv (W2.setCell ⟨t, 0, none⟩ (.slice (some ⟨b2, o2 + 7, none⟩) n (c - 1))) bl 0 yo ya (y0, y1, y2) (.slice ay ny cy)) := hide ((Below.heap_setCell W2 ⟨t, 0, none⟩ (.slice (some ⟨b2, o2 + 7, none⟩) n (c - 1)) _ (by have := HT.out; have := SZ.out; simp; omega)).trans X3.out)
    have RN := hide (ru_wide HG.out MV.out.1 MV.out.2)
    have AR : Hid (Args (W2.setCell ⟨t, 0, none⟩ (.slice (some ⟨b2, o2 + 7, none⟩) n (c - 1))) R (.slice ay ny cy)) := hide (HA.out.keep (fun k hk => (Below.heap_setCell _ _ _ _ (fun e => by
      obtain ⟨b', hb'⟩ : ∃ b', ps[i]? = some b' := ⟨_, List.getElem?_eq_getElem (by rw [HU.out.pl]; exact (List.getElem?_eq_some_iff.1 HX.out.1).1)⟩
      obtain ⟨_, q5, q6⟩ := HU.out.gr i x b' t HX.out.1 hb' HX.out.2
      have e' : k = t := e
      subst e'
      exact HU.out.ro _ hk q6)).trans (B2.out.block k (HU.out.rb k hk))) (fun _ h => h))
    have B3 := hide (And.intro ((Ch.of_bel B2.out).trans RN.out.2) RN.out.1)
    have K3 : Hid (∀ k, k < w.heap.size → k ≠ t → (W2.setCell ⟨t, 0, none⟩ (.slice (some ⟨b2, o2 + 7, none⟩) n (c - 1))).heap[k]? = w.heap[k]?) := hide (fun k hk hne => (Below.heap_setCell _ _ _ _ hne).trans (B2.out.block k hk))
    have S3 := hide (And.intro B2.out.size (by rw [size_setCell]; exact Nat.le_refl _ : W2.heap.size ≤ (W2.setCell ⟨t, 0, none⟩ (.slice (some ⟨b2, o2 + 7, none⟩) n (c - 1))).heap.size))
    have GL : Hid (∀ k, (Fs k ∨ Fo k ∨ R k) → k < w.heap.size) := hide (fun k hk => HU.out.lt hk)
    clear MV RN X1 X2 X3 f0 c2 HU HQ HN HX HA
    generalize W2.setCell ⟨t, 0, none⟩ (.slice (some ⟨b2, o2 + 7, none⟩) n (c - 1)) = W3 at *
    obtain ⟨q0, q1, q2, q3, q4, q5, q6⟩ := Z3.out.all
    clear q0 q1 q2 q3 q4 q5 q6 AR HTW B2 S3
    have Z1 : Hid (W3.drew.heap[w.heap.size + 1]? = _) := Z1
    have Z2 : Hid (W3.drew.heap[w.heap.size + 1 + 1]? = _) := Z2
    have K3 : Hid (∀ k, k < w.heap.size → k ≠ t → W3.drew.heap[k]? = w.heap[k]?) := K3
    have Z3' : Hid (Wv W3.drew bl 0 yo ya (y0, y1, y2) (.slice ay ny cy)) := Z3
    have B3' := hide (And.intro B3.out.1.drew (B3.out.2.bel (w' := W3.drew) (below_drewN (Below.refl _ _) 1)))
    obtain ⟨q0, q1, q2, q3, q4, q5, q6⟩ := Z3.out.all
    go_wp2_with fail
    clear q0 q1 q2 q3 q4 q5 q6 Z3 B3
    refine wp_region_any mixed ?_
    change wpAny _ _ _ _ _ _ _ (World.drew _)
    generalize World.drew _ = W0 at *
    refine wpAny_take (i := 0) (v := ?_) rfl (by kernel_rfl) (by kernel_rfl) (by kernel_rfl) (fun _ _ _ h => h) (Or.inl ⟨by rfl, fun w => ?_⟩) ?_
    rotate_left 1
    · (go_simp <;> with_reducible rfl)
    simp only [Act.put, List.getElem_toArray, List.getElem_cons_zero, List.setIfInBounds_toArray, List.set_cons_zero, List.set_cons_succ]
    refine wpAny_take (i := 1) (v := ?_) rfl (by kernel_rfl) (by kernel_rfl) (by kernel_rfl) (fun _ _ _ h => h) (Or.inl ⟨by rfl, fun w => ?_⟩) ?_
    rotate_left 1
    · (go_simp <;> with_reducible rfl)
    simp only [Act.put, List.getElem_toArray, List.getElem_cons_zero, List.getElem_cons_succ, List.setIfInBounds_toArray, List.set_cons_zero, List.set_cons_succ]
    refine wpAny_take (i := 2) (v := ?_) rfl (by kernel_rfl) (by kernel_rfl) (by kernel_rfl) (fun _ _ _ h => h) (Or.inl ⟨by rfl, fun w => ?_⟩) ?_
    rotate_left 1
    · (go_simp <;> with_reducible rfl)
    simp only [Act.put, List.getElem_toArray, List.getElem_cons_zero, List.getElem_cons_succ, List.setIfInBounds_toArray, List.set_cons_zero, List.set_cons_succ]
    refine wpAny_take (i := 4) (v := ?_) rfl (by kernel_rfl) (by kernel_rfl) (by kernel_rfl) (fun _ _ _ h => h) (Or.inl ⟨by rfl, fun w => ?_⟩) ?_
    rotate_left 1
    · (go_simp <;> with_reducible rfl)
    simp only [Act.put, List.getElem_toArray, List.getElem_cons_zero, List.getElem_cons_succ, List.setIfInBounds_toArray, List.set_cons_zero, List.set_cons_succ]
    refine wpAny_ready (rs := [3, 5, 7]) (by kernel_rfl) (by decide) ?_
    refine AllReady.cons rfl (fun K1 hK1 => ?_) (AllReady.cons rfl (fun K1 hK1 => ?_) (AllReady.cons rfl (fun K1 hK1 => ?_) AllReady.nil))
    · obtain ⟨q0, q1, q2, q3, q4, q5, q6⟩ := Z3'.out.all
      go_simp
      refine hK1 _ _ ?_
      clear hK1 K1 q0 q1 q2 q3 q4 q5 q6
      refine wpAny_ready (rs := [5, 7]) (by kernel_rfl) (by decide) ?_
      refine AllReady.cons rfl (fun K1 hK1 => ?_) (AllReady.cons rfl (fun K1 hK1 => ?_) AllReady.nil)
      · obtain ⟨q0, q1, q2, q3, q4, q5, q6⟩ := Z3'.out.all
        go_simp
        refine hK1 _ _ ?_
        clear hK1 K1 q0 q1 q2 q3 q4 q5 q6
        refine wpAny_take (i := 6) (v := ?_) rfl (by kernel_rfl) (by kernel_rfl) (by kernel_rfl) (fun _ _ _ h => h) (Or.inl ⟨by rfl, fun w => ?_⟩) ?_
        rotate_left 1
        · (go_simp <;> with_reducible rfl)
        simp only [Act.put, List.getElem_toArray, List.getElem_cons_zero, List.getElem_cons_succ, List.setIfInBounds_toArray, List.set_cons_zero, List.set_cons_succ]
        refine wpAny_ready (rs := [7]) (by kernel_rfl) (by decide) ?_
        refine AllReady.cons rfl (fun K1 hK1 => ?_) AllReady.nil
        have p0 := blk_cell Z1.out 0 _ rfl
        have p1 := blk_cell Z1.out 1 _ rfl
        have p2 := blk_cell Z1.out 2 _ rfl
        have p3 := blk_cell Z1.out 3 _ rfl
        have p4 := blk_cell Z1.out 4 _ rfl
        have p5 := blk_cell Z1.out 5 _ rfl
        have p6 := blk_cell Z1.out 6 _ rfl
        have f0 := blk_frz Z1.out 0
        have f1 := blk_frz Z1.out 1
        have f2 := blk_frz Z1.out 2
        have f3 := blk_frz Z1.out 3
        have f4 := blk_frz Z1.out 4
        have f5 := blk_frz Z1.out 5
        have f6 := blk_frz Z1.out 6
        go_simp
        refine hK1 _ _ ?_
        clear hK1 K1 p0 p1 p2 p3 p4 p5 p6 f0 f1 f2 f3 f4 f5 f6
        have E1 : Hid ((((((((W0.setCell ⟨w.heap.size + 1, 0, none⟩ (.int .i64 0)).setCell ⟨w.heap.size + 1, 1, none⟩ (.int .i64 0)).setCell ⟨w.heap.size + 1, 2, none⟩ (.int .i64 0)).setCell ⟨w.heap.size + 1, 3, none⟩ (.int .i64 0)).setCell ⟨w.heap.size + 1, 4, none⟩ (.int .i64 0)).setCell ⟨w.heap.size + 1, 5, none⟩ (.int .u64 0)).setCell ⟨w.heap.size + 1, 6, none⟩ (.slice none 0 0)).heap[w.heap.size + 1]? = some (.cells #[.int .i64 0, .int .i64 0, .int .i64 0, .int .i64 0, .int .i64 0, .int .u64 0, .slice none 0 0] 133 (0, 0))) := hide (set7_at Z1.out (.int .i64 0) (.int .i64 0) (.int .i64 0) (.int .i64 0) (.int .i64 0) (.int .u64 0) (.slice none 0 0))
        have E2 : Hid ((((((((W0.setCell ⟨w.heap.size + 1, 0, none⟩ (.int .i64 0)).setCell ⟨w.heap.size + 1, 1, none⟩ (.int .i64 0)).setCell ⟨w.heap.size + 1, 2, none⟩ (.int .i64 0)).setCell ⟨w.heap.size + 1, 3, none⟩ (.int .i64 0)).setCell ⟨w.heap.size + 1, 4, none⟩ (.int .i64 0)).setCell ⟨w.heap.size + 1, 5, none⟩ (.int .u64 0)).setCell ⟨w.heap.size + 1, 6, none⟩ (.slice none 0 0)).heap[w.heap.size + 1 + 1]? = some (.cells #[.int .i64 0, .int .i64 0, .int .i64 0] 173 (0, 0))) := hide ((set7_ne (o := 0) (by omega)).trans Z2.out)
        have E3 : Hid (Wv (((((((W0.setCell ⟨w.heap.size + 1, 0, none⟩ (.int .i64 0)).setCell ⟨w.heap.size + 1, 1, none⟩ (.int .i64 0)).setCell ⟨w.heap.size + 1, 2, none⟩ (.int .i64 0)).setCell ⟨w.heap.size + 1, 3, none⟩ (.int .i64 0)).setCell ⟨w.heap.size + 1, 4, none⟩ (.int .i64 0)).setCell ⟨w.heap.size + 1, 5, none⟩ (.int .u64 0)).setCell ⟨w.heap.size + 1, 6, none⟩ (.slice none 0 0)) bl 0 yo ya (y0, y1, y2) (.slice ay ny cy)) := hide ((set7_ne (o := 0) (by have := SZ.out; omega)).trans Z3'.out)
        have E4 : Hid (Below w.heap.size W0 (((((((W0.setCell ⟨w.heap.size + 1, 0, none⟩ (.int .i64 0)).setCell ⟨w.heap.size + 1, 1, none⟩ (.int .i64 0)).setCell ⟨w.heap.size + 1, 2, none⟩ (.int .i64 0)).setCell ⟨w.heap.size + 1, 3, none⟩ (.int .i64 0)).setCell ⟨w.heap.size + 1, 4, none⟩ (.int .i64 0)).setCell ⟨w.heap.size + 1, 5, none⟩ (.int .u64 0)).setCell ⟨w.heap.size + 1, 6, none⟩ (.slice none 0 0))) := hide (bel_set7 (o := 0) (Below.refl _ _) (by omega))
        generalize (((((((W0.setCell ⟨w.heap.size + 1, 0, none⟩ (.int .i64 0)).setCell ⟨w.heap.size + 1, 1, none⟩ (.int .i64 0)).setCell ⟨w.heap.size + 1, 2, none⟩ (.int .i64 0)).setCell ⟨w.heap.size + 1, 3, none⟩ (.int .i64 0)).setCell ⟨w.heap.size + 1, 4, none⟩ (.int .i64 0)).setCell ⟨w.heap.size + 1, 5, none⟩ (.int .u64 0)).setCell ⟨w.heap.size + 1, 6, none⟩ (.slice none 0 0)) = W5 at *
        refine wpAny_ready (rs := [8]) (by kernel_rfl) (by decide) ?_
        refine AllReady.cons rfl (fun K1 hK1 => ?_) AllReady.nil
        have n0 := blk_cell E2.out 0 _ rfl
        have n1 := blk_cell E2.out 1 _ rfl
        have n2 := blk_cell E2.out 2 _ rfl
        have m0 := blk_frz E2.out 0
        have m1 := blk_frz E2.out 1
        have m2 := blk_frz E2.out 2
        go_simp
        refine hK1 _ _ ?_
        clear hK1 K1 n0 n1 n2 m0 m1 m2
        refine wpAny_done (by kernel_rfl) ?_ _
        go_wp2_with fail
        have BB : Below w.heap.size W0 (((W5.setCell ⟨w.heap.size + 1 + 1, 0, none⟩ (.int .i64 7)).setCell ⟨w.heap.size + 1 + 1, 1, none⟩ (.int .i64 y1)).setCell ⟨w.heap.size + 1 + 1, 2, none⟩ (.int .i64 ya)) := bel_set E4.out (by omega) _ _ _
        exact ret_wh (w.heap.size + 1) (w.heap.size + 1 + 1) rfl rfl rfl ⟨_, _, _, rfl⟩ ((ne3 (by omega)).trans E1.out) (set3 E2.out _ _ _) rfl ⟨_, rfl, ArgN.nilS, fun k hk hne => (BB.block k hk).trans (K3.out k hk hne), _, B3'.out.2.low (N := w.heap.size) GL.out BB, B3'.out.1.below BB⟩
      · have p0 := blk_cell Z1.out 0 _ rfl
        have p1 := blk_cell Z1.out 1 _ rfl
        have p2 := blk_cell Z1.out 2 _ rfl
        have p3 := blk_cell Z1.out 3 _ rfl
        have p4 := blk_cell Z1.out 4 _ rfl
        have p5 := blk_cell Z1.out 5 _ rfl
        have p6 := blk_cell Z1.out 6 _ rfl
        have f0 := blk_frz Z1.out 0
        have f1 := blk_frz Z1.out 1
        have f2 := blk_frz Z1.out 2
        have f3 := blk_frz Z1.out 3
        have f4 := blk_frz Z1.out 4
        have f5 := blk_frz Z1.out 5
        have f6 := blk_frz Z1.out 6
        go_simp
        refine hK1 _ _ ?_
        clear hK1 K1 p0 p1 p2 p3 p4 p5 p6 f0 f1 f2 f3 f4 f5 f6
        have E1 : Hid ((((((((W0.setCell ⟨w.heap.size + 1, 0, none⟩ (.int .i64 0)).setCell ⟨w.heap.size + 1, 1, none⟩ (.int .i64 0)).setCell ⟨w.heap.size + 1, 2, none⟩ (.int .i64 0)).setCell ⟨w.heap.size + 1, 3, none⟩ (.int .i64 0)).setCell ⟨w.heap.size + 1, 4, none⟩ (.int .i64 0)).setCell ⟨w.heap.size + 1, 5, none⟩ (.int .u64 0)).setCell ⟨w.heap.size + 1, 6, none⟩ (.slice none 0 0)).heap[w.heap.size + 1]? = some (.cells #[.int .i64 0, .int .i64 0, .int .i64 0, .int .i64 0, .int .i64 0, .int .u64 0, .slice none 0 0] 133 (0, 0))) := hide (set7_at Z1.out (.int .i64 0) (.int .i64 0) (.int .i64 0) (.int .i64 0) (.int .i64 0) (.int .u64 0) (.slice none 0 0))
        have E2 : Hid ((((((((W0.setCell ⟨w.heap.size + 1, 0, none⟩ (.int .i64 0)).setCell ⟨w.heap.size + 1, 1, none⟩ (.int .i64 0)).setCell ⟨w.heap.size + 1, 2, none⟩ (.int .i64 0)).setCell ⟨w.heap.size + 1, 3, none⟩ (.int .i64 0)).setCell ⟨w.heap.size + 1, 4, none⟩ (.int .i64 0)).setCell ⟨w.heap.size + 1, 5, none⟩ (.int .u64 0)).setCell ⟨w.heap.size + 1, 6, none⟩ (.slice none 0 0)).heap[w.heap.size + 1 + 1]? = some (.cells #[.int .i64 0, .int .i64 0, .int .i64 0] 173 (0, 0))) := hide ((set7_ne (o := 0) (by omega)).trans Z2.out)
        have E3 : Hid (Wv (((((((W0.setCell ⟨w.heap.size + 1, 0, none⟩ (.int .i64 0)).setCell ⟨w.heap.size + 1, 1, none⟩ (.int .i64 0)).setCell ⟨w.heap.size + 1, 2, none⟩ (.int .i64 0)).setCell ⟨w.heap.size + 1, 3, none⟩ (.int .i64 0)).setCell ⟨w.heap.size + 1, 4, none⟩ (.int .i64 0)).setCell ⟨w.heap.size + 1, 5, none⟩ (.int .u64 0)).setCell ⟨w.heap.size + 1, 6, none⟩ (.slice none 0 0)) bl 0 yo ya (y0, y1, y2) (.slice ay ny cy)) := hide ((set7_ne (o := 0) (by have := SZ.out; omega)).trans Z3'.out)
        have E4 : Hid (Below w.heap.size W0 (((((((W0.setCell ⟨w.heap.size + 1, 0, none⟩ (.int .i64 0)).setCell ⟨w.heap.size + 1, 1, none⟩ (.int .i64 0)).setCell ⟨w.heap.size + 1, 2, none⟩ (.int .i64 0)).setCell ⟨w.heap.size + 1, 3, none⟩ (.int .i64 0)).setCell ⟨w.heap.size + 1, 4, none⟩ (.int .i64 0)).setCell ⟨w.heap.size + 1, 5, none⟩ (.int .u64 0)).setCell ⟨w.heap.size + 1, 6, none⟩ (.slice none 0 0))) := hide (bel_set7 (o := 0) (Below.refl _ _) (by omega))
        generalize (((((((W0.setCell ⟨w.heap.size + 1, 0, none⟩ (.int .i64 0)).setCell ⟨w.heap.size + 1, 1, none⟩ (.int .i64 0)).setCell ⟨w.heap.size + 1, 2, none⟩ (.int .i64 0)).setCell ⟨w.heap.size + 1, 3, none⟩ (.int .i64 0)).setCell ⟨w.heap.size + 1, 4, none⟩ (.int .i64 0)).setCell ⟨w.heap.size + 1, 5, none⟩ (.int .u64 0)).setCell ⟨w.heap.size + 1, 6, none⟩ (.slice none 0 0)) = W5 at *
        refine wpAny_ready (rs := [5]) (by kernel_rfl) (by decide) ?_
        refine AllReady.cons rfl (fun K1 hK1 => ?_) AllReady.nil
        obtain ⟨q0, q1, q2, q3, q4, q5, q6⟩ := E3.out.all
        go_simp
        refine hK1 _ _ ?_
        clear hK1 K1 q0 q1 q2 q3 q4 q5 q6
        refine wpAny_take (i := 6) (v := ?_) rfl (by kernel_rfl) (by kernel_rfl) (by kernel_rfl) (fun _ _ _ h => h) (Or.inl ⟨by rfl, fun w => ?_⟩) ?_
        rotate_left 1
        · (go_simp <;> with_reducible rfl)
        simp only [Act.put, List.getElem_toArray, List.getElem_cons_zero, List.getElem_cons_succ, List.setIfInBounds_toArray, List.set_cons_zero, List.set_cons_succ]
        refine wpAny_ready (rs := [8]) (by kernel_rfl) (by decide) ?_
        refine AllReady.cons rfl (fun K1 hK1 => ?_) AllReady.nil
        have n0 := blk_cell E2.out 0 _ rfl
        have n1 := blk_cell E2.out 1 _ rfl
        have n2 := blk_cell E2.out 2 _ rfl
        have m0 := blk_frz E2.out 0
        have m1 := blk_frz E2.out 1
        have m2 := blk_frz E2.out 2
        go_simp
        refine hK1 _ _ ?_
        clear hK1 K1 n0 n1 n2 m0 m1 m2
        refine wpAny_done (by kernel_rfl) ?_ _
        go_wp2_with fail
        have BB : Below w.heap.size W0 (((W5.setCell ⟨w.heap.size + 1 + 1, 0, none⟩ (.int .i64 7)).setCell ⟨w.heap.size + 1 + 1, 1, none⟩ (.int .i64 y1)).setCell ⟨w.heap.size + 1 + 1, 2, none⟩ (.int .i64 ya)) := bel_set E4.out (by omega) _ _ _
        exact ret_wh (w.heap.size + 1) (w.heap.size + 1 + 1) rfl rfl rfl ⟨_, _, _, rfl⟩ ((ne3 (by omega)).trans E1.out) (set3 E2.out _ _ _) rfl ⟨_, rfl, ArgN.nilS, fun k hk hne => (BB.block k hk).trans (K3.out k hk hne), _, B3'.out.2.low (N := w.heap.size) GL.out BB, B3'.out.1.below BB⟩
    · obtain ⟨q0, q1, q2, q3, q4, q5, q6⟩ := Z3'.out.all
      go_simp
      refine hK1 _ _ ?_
      clear hK1 K1 q0 q1 q2 q3 q4 q5 q6
      refine wpAny_ready (rs := [3, 7]) (by kernel_rfl) (by decide) ?_
      refine AllReady.cons rfl (fun K1 hK1 => ?_) (AllReady.cons rfl (fun K1 hK1 => ?_) AllReady.nil)
      · obtain ⟨q0, q1, q2, q3, q4, q5, q6⟩ := Z3'.out.all
        go_simp
        refine hK1 _ _ ?_
        clear hK1 K1 q0 q1 q2 q3 q4 q5 q6
        refine wpAny_take (i := 6) (v := ?_) rfl (by kernel_rfl) (by kernel_rfl) (by kernel_rfl) (fun _ _ _ h => h) (Or.inl ⟨by rfl, fun w => ?_⟩) ?_
        rotate_left 1
        · (go_simp <;> with_reducible rfl)
        simp only [Act.put, List.getElem_toArray, List.getElem_cons_zero, List.getElem_cons_succ, List.setIfInBounds_toArray, List.set_cons_zero, List.set_cons_succ]
        refine wpAny_ready (rs := [7]) (by kernel_rfl) (by decide) ?_
        refine AllReady.cons rfl (fun K1 hK1 => ?_) AllReady.nil
        have p0 := blk_cell Z1.out 0 _ rfl
        have p1 := blk_cell Z1.out 1 _ rfl
        have p2 := blk_cell Z1.out 2 _ rfl
        have p3 := blk_cell Z1.out 3 _ rfl
        have p4 := blk_cell Z1.out 4 _ rfl
        have p5 := blk_cell Z1.out 5 _ rfl
        have p6 := blk_cell Z1.out 6 _ rfl
        have f0 := blk_frz Z1.out 0
        have f1 := blk_frz Z1.out 1
        have f2 := blk_frz Z1.out 2
        have f3 := blk_frz Z1.out 3
        have f4 := blk_frz Z1.out 4
        have f5 := blk_frz Z1.out 5
        have f6 := blk_frz Z1.out 6
        go_simp
        refine hK1 _ _ ?_
        clear hK1 K1 p0 p1 p2 p3 p4 p5 p6 f0 f1 f2 f3 f4 f5 f6
        have E1 : Hid ((((((((W0.setCell ⟨w.heap.size + 1, 0, none⟩ (.int .i64 0)).setCell ⟨w.heap.size + 1, 1, none⟩ (.int .i64 0)).setCell ⟨w.heap.size + 1, 2, none⟩ (.int .i64 0)).setCell ⟨w.heap.size + 1, 3, none⟩ (.int .i64 0)).setCell ⟨w.heap.size + 1, 4, none⟩ (.int .i64 0)).setCell ⟨w.heap.size + 1, 5, none⟩ (.int .u64 0)).setCell ⟨w.heap.size + 1, 6, none⟩ (.slice none 0 0)).heap[w.heap.size + 1]? = some (.cells #[.int .i64 0, .int .i64 0, .int .i64 0, .int .i64 0, .int .i64 0, .int .u64 0, .slice none 0 0] 133 (0, 0))) := hide (set7_at Z1.out (.int .i64 0) (.int .i64 0) (.int .i64 0) (.int .i64 0) (.int .i64 0) (.int .u64 0) (.slice none 0 0))
        have E2 : Hid ((((((((W0.setCell ⟨w.heap.size + 1, 0, none⟩ (.int .i64 0)).setCell ⟨w.heap.size + 1, 1, none⟩ (.int .i64 0)).setCell ⟨w.heap.size + 1, 2, none⟩ (.int .i64 0)).setCell ⟨w.heap.size + 1, 3, none⟩ (.int .i64 0)).setCell ⟨w.heap.size + 1, 4, none⟩ (.int .i64 0)).setCell ⟨w.heap.size + 1, 5, none⟩ (.int .u64 0)).setCell ⟨w.heap.size + 1, 6, none⟩ (.slice none 0 0)).heap[w.heap.size + 1 + 1]? = some (.cells #[.int .i64 0, .int .i64 0, .int .i64 0] 173 (0, 0))) := hide ((set7_ne (o := 0) (by omega)).trans Z2.out)
        have E3 : Hid (Wv (((((((W0.setCell ⟨w.heap.size + 1, 0, none⟩ (.int .i64 0)).setCell ⟨w.heap.size + 1, 1, none⟩ (.int .i64 0)).setCell ⟨w.heap.size + 1, 2, none⟩ (.int .i64 0)).setCell ⟨w.heap.size + 1, 3, none⟩ (.int .i64 0)).setCell ⟨w.heap.size + 1, 4, none⟩ (.int .i64 0)).setCell ⟨w.heap.size + 1, 5, none⟩ (.int .u64 0)).setCell ⟨w.heap.size + 1, 6, none⟩ (.slice none 0 0)) bl 0 yo ya (y0, y1, y2) (.slice ay ny cy)) := hide ((set7_ne (o := 0) (by have := SZ.out; omega)).trans Z3'.out)
        have E4 : Hid (Below w.heap.size W0 (((((((W0.setCell ⟨w.heap.size + 1, 0, none⟩ (.int .i64 0)).setCell ⟨w.heap.size + 1, 1, none⟩ (.int .i64 0)).setCell ⟨w.heap.size + 1, 2, none⟩ (.int .i64 0)).setCell ⟨w.heap.size + 1, 3, none⟩ (.int .i64 0)).setCell ⟨w.heap.size + 1, 4, none⟩ (.int .i64 0)).setCell ⟨w.heap.size + 1, 5, none⟩ (.int .u64 0)).setCell ⟨w.heap.size + 1, 6, none⟩ (.slice none 0 0))) := hide (bel_set7 (o := 0) (Below.refl _ _) (by omega))
        generalize (((((((W0.setCell ⟨w.heap.size + 1, 0, none⟩ (.int .i64 0)).setCell ⟨w.heap.size + 1, 1, none⟩ (.int .i64 0)).setCell ⟨w.heap.size + 1, 2, none⟩ (.int .i64 0)).setCell ⟨w.heap.size + 1, 3, none⟩ (.int .i64 0)).setCell ⟨w.heap.size + 1, 4, none⟩ (.int .i64 0)).setCell ⟨w.heap.size + 1, 5, none⟩ (.int .u64 0)).setCell ⟨w.heap.size + 1, 6, none⟩ (.slice none 0 0)) = W5 at *
        refine wpAny_ready (rs := [8]) (by kernel_rfl) (by decide) ?_
        refine AllReady.cons rfl (fun K1 hK1 => ?_) AllReady.nil
        have n0 := blk_cell E2.out 0 _ rfl
        have n1 := blk_cell E2.out 1 _ rfl
        have n2 := blk_cell E2.out 2 _ rfl
        have m0 := blk_frz E2.out 0
        have m1 := blk_frz E2.out 1
        have m2 := blk_frz E2.out 2
        go_simp
        refine hK1 _ _ ?_
        clear hK1 K1 n0 n1 n2 m0 m1 m2
        refine wpAny_done (by kernel_rfl) ?_ _
        go_wp2_with fail
        have BB : Below w.heap.size W0 (((W5.setCell ⟨w.heap.size + 1 + 1, 0, none⟩ (.int .i64 7)).setCell ⟨w.heap.size + 1 + 1, 1, none⟩ (.int .i64 y1)).setCell ⟨w.heap.size + 1 + 1, 2, none⟩ (.int .i64 ya)) := bel_set E4.out (by omega) _ _ _
        exact ret_wh (w.heap.size + 1) (w.heap.size + 1 + 1) rfl rfl rfl ⟨_, _, _, rfl⟩ ((ne3 (by omega)).trans E1.out) (set3 E2.out _ _ _) rfl ⟨_, rfl, ArgN.nilS, fun k hk hne => (BB.block k hk).trans (K3.out k hk hne), _, B3'.out.2.low (N := w.heap.size) GL.out BB, B3'.out.1.below BB⟩
      · have p0 := blk_cell Z1.out 0 _ rfl
        have p1 := blk_cell Z1.out 1 _ rfl
        have p2 := blk_cell Z1.out 2 _ rfl
        have p3 := blk_cell Z1.out 3 _ rfl
        have p4 := blk_cell Z1.out 4 _ rfl
        have p5 := blk_cell Z1.out 5 _ rfl
        have p6 := blk_cell Z1.out 6 _ rfl
        have f0 := blk_frz Z1.out 0
        have f1 := blk_frz Z1.out 1
        have f2 := blk_frz Z1.out 2
        have f3 := blk_frz Z1.out 3
        have f4 := blk_frz Z1.out 4
        have f5 := blk_frz Z1.out 5
        have f6 := blk_frz Z1.out 6
        go_simp
        refine hK1 _ _ ?_
        clear hK1 K1 p0 p1 p2 p3 p4 p5 p6 f0 f1 f2 f3 f4 f5 f6
        have E1 : Hid ((((((((W0.setCell ⟨w.heap.size + 1, 0, none⟩ (.int .i64 0)).setCell ⟨w.heap.size + 1, 1, none⟩ (.int .i64 0)).setCell ⟨w.heap.size + 1, 2, none⟩ (.int .i64 0)).setCell ⟨w.heap.size + 1, 3, none⟩ (.int .i64 0)).setCell ⟨w.heap.size + 1, 4, none⟩ (.int .i64 0)).setCell ⟨w.heap.size + 1, 5, none⟩ (.int .u64 0)).setCell ⟨w.heap.size + 1, 6, none⟩ (.slice none 0 0)).heap[w.heap.size + 1]? = some (.cells #[.int .i64 0, .int .i64 0, .int .i64 0, .int .i64 0, .int .i64 0, .int .u64 0, .slice none 0 0] 133 (0, 0))) := hide (set7_at Z1.out (.int .i64 0) (.int .i64 0) (.int .i64 0) (.int .i64 0) (.int .i64 0) (.int .u64 0) (.slice none 0 0))
        have E2 : Hid ((((((((W0.setCell ⟨w.heap.size + 1, 0, none⟩ (.int .i64 0)).setCell ⟨w.heap.size + 1, 1, none⟩ (.int .i64 0)).setCell ⟨w.heap.size + 1, 2, none⟩ (.int .i64 0)).setCell ⟨w.heap.size + 1, 3, none⟩ (.int .i64 0)).setCell ⟨w.heap.size + 1, 4, none⟩ (.int .i64 0)).setCell ⟨w.heap.size + 1, 5, none⟩ (.int .u64 0)).setCell ⟨w.heap.size + 1, 6, none⟩ (.slice none 0 0)).heap[w.heap.size + 1 + 1]? = some (.cells #[.int .i64 0, .int .i64 0, .int .i64 0] 173 (0, 0))) := hide ((set7_ne (o := 0) (by omega)).trans Z2.out)
        have E3 : Hid (Wv (((((((W0.setCell ⟨w.heap.size + 1, 0, none⟩ (.int .i64 0)).setCell ⟨w.heap.size + 1, 1, none⟩ (.int .i64 0)).setCell ⟨w.heap.size + 1, 2, none⟩ (.int .i64 0)).setCell ⟨w.heap.size + 1, 3, none⟩ (.int .i64 0)).setCell ⟨w.heap.size + 1, 4, none⟩ (.int .i64 0)).setCell ⟨w.heap.size + 1, 5, none⟩ (.int .u64 0)).setCell ⟨w.heap.size + 1, 6, none⟩ (.slice none 0 0)) bl 0 yo ya (y0, y1, y2) (.slice ay ny cy)) := hide ((set7_ne (o := 0) (by have := SZ.out; omega)).trans Z3'.out)
        have E4 : Hid (Below w.heap.size W0 (((((((W0.setCell ⟨w.heap.size + 1, 0, none⟩ (.int .i64 0)).setCell ⟨w.heap.size + 1, 1, none⟩ (.int .i64 0)).setCell ⟨w.heap.size + 1, 2, none⟩ (.int .i64 0)).setCell ⟨w.heap.size + 1, 3, none⟩ (.int .i64 0)).setCell ⟨w.heap.size + 1, 4, none⟩ (.int .i64 0)).setCell ⟨w.heap.size + 1, 5, none⟩ (.int .u64 0)).setCell ⟨w.heap.size + 1, 6, none⟩ (.slice none 0 0))) := hide (bel_set7 (o := 0) (Below.refl _ _) (by omega))
        generalize (((((((W0.setCell ⟨w.heap.size + 1, 0, none⟩ (.int .i64 0)).setCell ⟨w.heap.size + 1, 1, none⟩ (.int .i64 0)).setCell ⟨w.heap.size + 1, 2, none⟩ (.int .i64 0)).setCell ⟨w.heap.size + 1, 3, none⟩ (.int .i64 0)).setCell ⟨w.heap.size + 1, 4, none⟩ (.int .i64 0)).setCell ⟨w.heap.size + 1, 5, none⟩ (.int .u64 0)).setCell ⟨w.heap.size + 1, 6, none⟩ (.slice none 0 0)) = W5 at *
        refine wpAny_ready (rs := [3]) (by kernel_rfl) (by decide) ?_
        refine AllReady.cons rfl (fun K1 hK1 => ?_) AllReady.nil
        obtain ⟨q0, q1, q2, q3, q4, q5, q6⟩ := E3.out.all
        go_simp
        refine hK1 _ _ ?_
        clear hK1 K1 q0 q1 q2 q3 q4 q5 q6
        refine wpAny_take (i := 6) (v := ?_) rfl (by kernel_rfl) (by kernel_rfl) (by kernel_rfl) (fun _ _ _ h => h) (Or.inl ⟨by rfl, fun w => ?_⟩) ?_
        rotate_left 1
        · (go_simp <;> with_reducible rfl)
        simp only [Act.put, List.getElem_toArray, List.getElem_cons_zero, List.getElem_cons_succ, List.setIfInBounds_toArray, List.set_cons_zero, List.set_cons_succ]
        refine wpAny_ready (rs := [8]) (by kernel_rfl) (by decide) ?_
        refine AllReady.cons rfl (fun K1 hK1 => ?_) AllReady.nil
        have n0 := blk_cell E2.out 0 _ rfl
        have n1 := blk_cell E2.out 1 _ rfl
        have n2 := blk_cell E2.out 2 _ rfl
        have m0 := blk_frz E2.out 0
        have m1 := blk_frz E2.out 1
        have m2 := blk_frz E2.out 2
        go_simp
        refine hK1 _ _ ?_
        clear hK1 K1 n0 n1 n2 m0 m1 m2
        refine wpAny_done (by kernel_rfl) ?_ _
        go_wp2_with fail
        have BB : Below w.heap.size W0 (((W5.setCell ⟨w.heap.size + 1 + 1, 0, none⟩ (.int .i64 7)).setCell ⟨w.heap.size + 1 + 1, 1, none⟩ (.int .i64 y1)).setCell ⟨w.heap.size + 1 + 1, 2, none⟩ (.int .i64 ya)) := bel_set E4.out (by omega) _ _ _
        exact ret_wh (w.heap.size + 1) (w.heap.size + 1 + 1) rfl rfl rfl ⟨_, _, _, rfl⟩ ((ne3 (by omega)).trans E1.out) (set3 E2.out _ _ _) rfl ⟨_, rfl, ArgN.nilS, fun k hk hne => (BB.block k hk).trans (K3.out k hk hne), _, B3'.out.2.low (N := w.heap.size) GL.out BB, B3'.out.1.below BB⟩
    · have p0 := blk_cell Z1.out 0 _ rfl
      have p1 := blk_cell Z1.out 1 _ rfl
      have p2 := blk_cell Z1.out 2 _ rfl
      have p3 := blk_cell Z1.out 3 _ rfl
      have p4 := blk_cell Z1.out 4 _ rfl
      have p5 := blk_cell Z1.out 5 _ rfl
      have p6 := blk_cell Z1.out 6 _ rfl
      have f0 := blk_frz Z1.out 0
      have f1 := blk_frz Z1.out 1
      have f2 := blk_frz Z1.out 2
      have f3 := blk_frz Z1.out 3
      have f4 := blk_frz Z1.out 4
      have f5 := blk_frz Z1.out 5
      have f6 := blk_frz Z1.out 6
      go_simp
      refine hK1 _ _ ?_
      clear hK1 K1 p0 p1 p2 p3 p4 p5 p6 f0 f1 f2 f3 f4 f5 f6
      have E1 : Hid ((((((((W0.setCell ⟨w.heap.size + 1, 0, none⟩ (.int .i64 0)).setCell ⟨w.heap.size + 1, 1, none⟩ (.int .i64 0)).setCell ⟨w.heap.size + 1, 2, none⟩ (.int .i64 0)).setCell ⟨w.heap.size + 1, 3, none⟩ (.int .i64 0)).setCell ⟨w.heap.size + 1, 4, none⟩ (.int .i64 0)).setCell ⟨w.heap.size + 1, 5, none⟩ (.int .u64 0)).setCell ⟨w.heap.size + 1, 6, none⟩ (.slice none 0 0)).heap[w.heap.size + 1]? = some (.cells #[.int .i64 0, .int .i64 0, .int .i64 0, .int .i64 0, .int .i64 0, .int .u64 0, .slice none 0 0] 133 (0, 0))) := hide (set7_at Z1.out (.int .i64 0) (.int .i64 0) (.int .i64 0) (.int .i64 0) (.int .i64 0) (.int .u64 0) (.slice none 0 0))
      have E2 : Hid ((((((((W0.setCell ⟨w.heap.size + 1, 0, none⟩ (.int .i64 0)).setCell ⟨w.heap.size + 1, 1, none⟩ (.int .i64 0)).setCell ⟨w.heap.size + 1, 2, none⟩ (.int .i64 0)).setCell ⟨w.heap.size + 1, 3, none⟩ (.int .i64 0)).setCell ⟨w.heap.size + 1, 4, none⟩ (.int .i64 0)).setCell ⟨w.heap.size + 1, 5, none⟩ (.int .u64 0)).setCell ⟨w.heap.size + 1, 6, none⟩ (.slice none 0 0)).heap[w.heap.size + 1 + 1]? = some (.cells #[.int .i64 0, .int .i64 0, .int .i64 0] 173 (0, 0))) := hide ((set7_ne (o := 0) (by omega)).trans Z2.out)
      have E3 : Hid (Wv (((((((W0.setCell ⟨w.heap.size + 1, 0, none⟩ (.int .i64 0)).setCell ⟨w.heap.size + 1, 1, none⟩ (.int .i64 0)).setCell ⟨w.heap.size + 1, 2, none⟩ (.int .i64 0)).setCell ⟨w.heap.size + 1, 3, none⟩ (.int .i64 0)).setCell ⟨w.heap.size + 1, 4, none⟩ (.int .i64 0)).setCell ⟨w.heap.size + 1, 5, none⟩ (.int .u64 0)).setCell ⟨w.heap.size + 1, 6, none⟩ (.slice none 0 0)) bl 0 yo ya (y0, y1, y2) (.slice ay ny cy)) := hide ((set7_ne (o := 0) (by have := SZ.out; omega)).trans Z3'.out)
      have E4 : Hid (Below w.heap.size W0 (((((((W0.setCell ⟨w.heap.size + 1, 0, none⟩ (.int .i64 0)).setCell ⟨w.heap.size + 1, 1, none⟩ (.int .i64 0)).setCell ⟨w.heap.size + 1, 2, none⟩ (.int .i64 0)).setCell ⟨w.heap.size + 1, 3, none⟩ (.int .i64 0)).setCell ⟨w.heap.size + 1, 4, none⟩ (.int .i64 0)).setCell ⟨w.heap.size + 1, 5, none⟩ (.int .u64 0)).setCell ⟨w.heap.size + 1, 6, none⟩ (.slice none 0 0))) := hide (bel_set7 (o := 0) (Below.refl _ _) (by omega))
      generalize (((((((W0.setCell ⟨w.heap.size + 1, 0, none⟩ (.int .i64 0)).setCell ⟨w.heap.size + 1, 1, none⟩ (.int .i64 0)).setCell ⟨w.heap.size + 1, 2, none⟩ (.int .i64 0)).setCell ⟨w.heap.size + 1, 3, none⟩ (.int .i64 0)).setCell ⟨w.heap.size + 1, 4, none⟩ (.int .i64 0)).setCell ⟨w.heap.size + 1, 5, none⟩ (.int .u64 0)).setCell ⟨w.heap.size + 1, 6, none⟩ (.slice none 0 0)) = W5 at *
      refine wpAny_ready (rs := [3, 5]) (by kernel_rfl) (by decide) ?_
      refine AllReady.cons rfl (fun K1 hK1 => ?_) (AllReady.cons rfl (fun K1 hK1 => ?_) AllReady.nil)
      · obtain ⟨q0, q1, q2, q3, q4, q5, q6⟩ := E3.out.all
        go_simp
        refine hK1 _ _ ?_
        clear hK1 K1 q0 q1 q2 q3 q4 q5 q6
        refine wpAny_ready (rs := [5]) (by kernel_rfl) (by decide) ?_
        refine AllReady.cons rfl (fun K1 hK1 => ?_) AllReady.nil
        obtain ⟨q0, q1, q2, q3, q4, q5, q6⟩ := E3.out.all
        go_simp
        refine hK1 _ _ ?_
        clear hK1 K1 q0 q1 q2 q3 q4 q5 q6
        refine wpAny_take (i := 6) (v := ?_) rfl (by kernel_rfl) (by kernel_rfl) (by kernel_rfl) (fun _ _ _ h => h) (Or.inl ⟨by rfl, fun w => ?_⟩) ?_
        rotate_left 1
        · (go_simp <;> with_reducible rfl)
        simp only [Act.put, List.getElem_toArray, List.getElem_cons_zero, List.getElem_cons_succ, List.setIfInBounds_toArray, List.set_cons_zero, List.set_cons_succ]
        refine wpAny_ready (rs := [8]) (by kernel_rfl) (by decide) ?_
        refine AllReady.cons rfl (fun K1 hK1 => ?_) AllReady.nil
        have n0 := blk_cell E2.out 0 _ rfl
        have n1 := blk_cell E2.out 1 _ rfl
        have n2 := blk_cell E2.out 2 _ rfl
        have m0 := blk_frz E2.out 0
        have m1 := blk_frz E2.out 1
        have m2 := blk_frz E2.out 2
        go_simp
        refine hK1 _ _ ?_
        clear hK1 K1 n0 n1 n2 m0 m1 m2
        refine wpAny_done (by kernel_rfl) ?_ _
        go_wp2_with fail
        have BB : Below w.heap.size W0 (((W5.setCell ⟨w.heap.size + 1 + 1, 0, none⟩ (.int .i64 7)).setCell ⟨w.heap.size + 1 + 1, 1, none⟩ (.int .i64 y1)).setCell ⟨w.heap.size + 1 + 1, 2, none⟩ (.int .i64 ya)) := bel_set E4.out (by omega) _ _ _
        exact ret_wh (w.heap.size + 1) (w.heap.size + 1 + 1) rfl rfl rfl ⟨_, _, _, rfl⟩ ((ne3 (by omega)).trans E1.out) (set3 E2.out _ _ _) rfl ⟨_, rfl, ArgN.nilS, fun k hk hne => (BB.block k hk).trans (K3.out k hk hne), _, B3'.out.2.low (N := w.heap.size) GL.out BB, B3'.out.1.below BB⟩
      · obtain ⟨q0, q1, q2, q3, q4, q5, q6⟩ := E3.out.all
        go_simp
        refine hK1 _ _ ?_
        clear hK1 K1 q0 q1 q2 q3 q4 q5 q6
        refine wpAny_ready (rs := [3]) (by kernel_rfl) (by decide) ?_
        refine AllReady.cons rfl (fun K1 hK1 => ?_) AllReady.nil
        obtain ⟨q0, q1, q2, q3, q4, q5, q6⟩ := E3.out.all
        go_simp
        refine hK1 _ _ ?_
        clear hK1 K1 q0 q1 q2 q3 q4 q5 q6
        refine wpAny_take (i := 6) (v := ?_) rfl (by kernel_rfl) (by kernel_rfl) (by kernel_rfl) (fun _ _ _ h => h) (Or.inl ⟨by rfl, fun w => ?_⟩) ?_
        rotate_left 1
        · (go_simp <;> with_reducible rfl)
        simp only [Act.put, List.getElem_toArray, List.getElem_cons_zero, List.getElem_cons_succ, List.setIfInBounds_toArray, List.set_cons_zero, List.set_cons_succ]
        refine wpAny_ready (rs := [8]) (by kernel_rfl) (by decide) ?_
        refine AllReady.cons rfl (fun K1 hK1 => ?_) AllReady.nil
        have n0 := blk_cell E2.out 0 _ rfl
        have n1 := blk_cell E2.out 1 _ rfl
        have n2 := blk_cell E2.out 2 _ rfl
        have m0 := blk_frz E2.out 0
        have m1 := blk_frz E2.out 1
        have m2 := blk_frz E2.out 2
        go_simp
        refine hK1 _ _ ?_
        clear hK1 K1 n0 n1 n2 m0 m1 m2
        refine wpAny_done (by kernel_rfl) ?_ _
        go_wp2_with fail
        have BB : Below w.heap.size W0 (((W5.setCell ⟨w.heap.size + 1 + 1, 0, none⟩ (.int .i64 7)).setCell ⟨w.heap.size + 1 + 1, 1, none⟩ (.int .i64 y1)).setCell ⟨w.heap.size + 1 + 1, 2, none⟩ (.int .i64 ya)) := bel_set E4.out (by omega) _ _ _
        exact ret_wh (w.heap.size + 1) (w.heap.size + 1 + 1) rfl rfl rfl ⟨_, _, _, rfl⟩ ((ne3 (by omega)).trans E1.out) (set3 E2.out _ _ _) rfl ⟨_, rfl, ArgN.nilS, fun k hk hne => (BB.block k hk).trans (K3.out k hk hne), _, B3'.out.2.low (N := w.heap.size) GL.out BB, B3'.out.1.below BB⟩
end Go.Proofs.YtbiilnpblnjliaaDoor.Ck
