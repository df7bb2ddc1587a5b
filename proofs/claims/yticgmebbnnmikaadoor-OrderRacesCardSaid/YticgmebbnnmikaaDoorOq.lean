/- Package order: what an event leaves (walk.tell). (Written by mk_o.py.) -/
import Derived.Test.YticgmebbnnmikaaDoorOp
namespace Go.Proofs.YticgmebbnnmikaaDoor.Ck
open Go.RowKit

theorem snC_one (s : Sn) : (snC s).toArray.all (·.oneCell') = true := by simp [snC, Value.oneCell']
theorem Ar.range {w : World} {b : Nat} {s : Sn} (h : Ar w b 0 s) : w.rangeAt b 0 (snC s) := fun j u hu => by
  have hj : j < 8 := (List.getElem?_eq_some_iff.1 hu).1
  rw [snC_at _ j hj] at hu
  rw [← Option.some.inj hu]
  exact h.cell j hj
theorem Ar.of_row {w : World} {b : Nat} {s : Sn} {T : TypeId} (h : w.heap[b]? = some (.cells (snC s).toArray T (0, 0))) : Ar w b 0 s := ⟨_, _, h, fun i hi => by
  rw [Nat.zero_add, List.getElem?_toArray]
  exact snC_at s i hi⟩
set_option maxRecDepth 20000 in
set_option maxHeartbeats 8000000 in
theorem tell_any {w0 w : World} {bw bm ba bc : Nat} {vT vR vP : Value} {T : List Ev} {R : List Int} {W : Wk} {n N : Nat} {v : Int → Bool → Value} (h : WkM w0 w bw bm ba bc vT vR vP T R W n v) (ok : WkOk W N) (hN : N ≤ 100000) (hn : n < 1000000) (m : Sn) (e : Ev) (he : evB e = true) (ho : wfI e.o) (i : Nat) (hT : N ≤ T.length) (hG : ∀ k, k < T.length → evB (T.getD k zE) = true) : Calls Tryd.prog 30 #[.pointer (some ⟨bw, 0, none⟩), snV m, evV e, .int .i64 (i : Nat)] w (Wj w0 bw bm ba bc vT vR vP T R (tellM R T W m e i) (n + 1)) := by
  obtain ⟨eg, ek, eo, ea⟩ := e
  have ho : wfI eo := ho
  have hf := evB_out he
  have HF : Hid (ek = 10 → 0 ≤ eo ∧ eo < 8) := hide hf.2.2.2.2
  have HM : Hid (tellM R T W m ⟨eg, ek, eo, ea⟩ i = if ek = 10 then { W with gos := upd W.gos eo.toNat (jn (W.gos eo.toNat) m) } else if ek = 4 then { W with mu := up W.mu eo (jn (W.mu eo) m) } else if ek = 7 ∨ ek = 8 ∨ ek = 9 then { W with at_ := up W.at_ eo m } else if ek = 5 then { W with ss := up W.ss eo (W.ss eo ++ [(i : Int)]) } else if ek = 6 then tellR R T W m eo i else W) := hide rfl
  generalize tellM R T W m ⟨eg, ek, eo, ea⟩ i = res at *
  have B1 := hide (bel_new w (.cells (snC m).toArray 58))
  have Z1 := hide (Go.Deep.blk_alloc_new w (.cells (snC m).toArray 58))
  have H0 := hide h
  have OK := hide ok
  have HO := hide ho
  have HN := hide (And.intro hN (And.intro hn hT))
  have HG := hide hG
  unfold snV evV
  simp only
  clear h ok ho hG hf he hN hn hT
  go_enter Tryd.func30, Tryd.ntmps30
  go_upto_region 1 with fail
  generalize hw1 : w.alloc (.cells #[.int .i64 (m 0), .int .i64 (m 1), .int .i64 (m 2), .int .i64 (m 3), .int .i64 (m 4), .int .i64 (m 5), .int .i64 (m 6), .int .i64 (m 7)] 58) = w1
  have hs1 : w1.heap.size = w.heap.size + 1 := by rw [← hw1]; simp
  have B1 : Hid (Below w.heap.size w w1) := by rw [← hw1]; exact B1
  have Z1 : Hid (w1.heap[w.heap.size]? = some (.cells (snC m).toArray 58 (0, 0))) := by rw [← hw1]; exact Z1
  clear hw1
  have B2' := hide (bel_new w1 (.cells #[.int .i64 eg, .int .i64 ek, .int .i64 eo, .int .i64 ea] 47))
  have E2 := hide (Go.Deep.blk_alloc_new w1 (.cells #[.int .i64 eg, .int .i64 ek, .int .i64 eo, .int .i64 ea] 47))
  rw [hs1] at E2
  generalize w1.alloc (.cells #[.int .i64 eg, .int .i64 ek, .int .i64 eo, .int .i64 ea] 47) = w2 at *
  have B2 := hide (B1.out.trans (B2'.out.mono B1.out.size))
  have Z2 := hide ((B2'.out.block _ (by omega)).trans Z1.out)
  have H2 := hide (H0.out.below B2.out)
  clear hs1 Z1 B1
  have z1 := blk_cell E2.out 1 _ rfl
  have z2 := blk_cell E2.out 2 _ rfl
  have S0 := hide H0.out.size.1
  obtain ⟨csw, hw1, hw2⟩ := H2.out.cells
  have W1 := hide hw1
  have W2 := hide hw2
  clear hw1 hw2
  by_cases hk10 : ek = 10
  · subst hk10
    have hq := HF.out rfl
    obtain ⟨q, rfl⟩ : ∃ q : Nat, eo = q := ⟨eo.toNat, by omega⟩
    have e9 : Hid (res = { W with gos := upd W.gos q (jn (W.gos q) m) }) := hide (by rw [HM.out, if_pos rfl, Int.toNat_natCast])
    have hq8 : q < 8 := by omega
    have nX : w.heap.size + 1 ≠ bw := by have := S0.out; omega
    have nM : w.heap.size ≠ bw := by have := S0.out; omega
    have KT := hide (fun wz (t : Tn w2 wz bw (2 + q * 8) 8) => (show wz.cell? ⟨w.heap.size + 1, 2, none⟩ = some (.int .i64 (q : Nat)) ∧ wz.heap[w.heap.size]? = some (.cells (snC m).toArray 58 (0, 0)) from ⟨t.keep z2 nX, (t.oth _ (lt_of_blk Z2.out) nM).trans Z2.out⟩))
    have J := hide (fun wz (a : Ar wz bw (2 + q * 8) (W.gos q)) => join_any (t := m) a)
    have A2 := hide (H2.out.arr hq8)
    have T2 := hide (show Tn w2 w2.drew bw (2 + q * 8) 8 from (Tn.refl _ _ _ _).drew)
    have hq8' : (q : Int) < 8 := by omega
    have HQ := hide hq8
    clear hq8 nX nM HM HF hq
    go_upto_region 3 with fail
    clear z1 z2
    refine wp_region_T (S := fun wz => wz.cell? ⟨w.heap.size + 1, 2, none⟩ = some (.int .i64 (q : Nat)) ∧ wz.heap[w.heap.size]? = some (.cells (snC m).toArray 58 (0, 0))) (fun _ => true) mixed (KT.out _ T2.out) (fun hH => ?_)
    refine Tm 0 ?_
    simp only [Act.put, SA]
    refine Tm 1 ?_
    simp only [Act.put, SA]
    refine Tl 2 (v := ?_) ?_ hH ?_
    rotate_left 1
    · (intro wy hSw; have q := hSw.1; clear hSw; go_simp <;> with_reducible rfl)
    simp only [Act.put, SA]
    refine Tm 3 ?_
    simp only [Act.put, SA]
    refine Tm 4 ?_
    simp only [Act.put, SA]
    refine Tm 5 ?_
    simp only [Act.put, SA]
    refine Tl 6 (v := ?_) ?_ hH ?_
    rotate_left 1
    · (intro wy hSw; refine exec_load_row 58 (.tmp 5) ?_ w.heap.size ?_ _ (snC m).toArray _ _ hSw.2 Tryd.underlying58 rfl (seen_len m) <;> rfl)
    simp only [Act.put, SA]
    refine Tr 7 (fun K1 hK1 => ?_)
    go_simp
    refine (J.out w2.drew A2.out).mono ?_
    rintro e w3 ⟨rfl, t3, a3⟩
    have T3 := hide (T2.out.trans t3)
    have A3 := hide a3
    refine hK1.out _ _ (fun _ => KT.out _ T3.out) (fun _ => ?_)
    clear hK1 K1 t3 a3 hH
    refine T_done (by kernel_rfl) ?_ _
    go_wp2_with fail
    go_end0
    rw [e9.out]
    exact ⟨rfl, _, (H2.out.turn HQ.out T3.out A3.out).more⟩
  have g10 : (ek == 10) = false := by simpa using hk10
  by_cases hk4 : ek = 4
  · subst hk4
    have e9 : Hid (res = { W with mu := up W.mu eo (jn (W.mu eo) m) }) := hide (by rw [HM.out]; simp)
    have KS := hide (fun wz (b : Below w2.heap.size w2 wz) => (show wz.cell? ⟨bw, 66, none⟩ = some (.map (some bm)) ∧ wz.cell? ⟨w.heap.size + 1, 2, none⟩ = some (.int .i64 eo) ∧ (Instr.lookup 71 (.map (some bm)) (.int .i64 eo) false).run Tryd.prog wz = .ok (snV (W.mu eo)) wz from
      ⟨(H2.out.below b).cell.2.2.1, blk_cell ((b.block _ (lt_of_blk E2.out)).trans E2.out) 2 _ rfl, (H2.out.below b).mu.look HO.out⟩))
    clear HM HF
    go_upto_region 5 with fail
    obtain ⟨s, hs⟩ : ∃ s, s = W.mu eo := ⟨_, rfl⟩
    rw [← hs] at KS e9
    clear hs z1 z2
    refine wp_region_T (S := fun wz => wz.cell? ⟨bw, 66, none⟩ = some (.map (some bm)) ∧ wz.cell? ⟨w.heap.size + 1, 2, none⟩ = some (.int .i64 eo) ∧ (Instr.lookup 71 (.map (some bm)) (.int .i64 eo) false).run Tryd.prog wz = .ok (snV s) wz) (fun _ => true) mixed (KS.out _ (Below.refl _ _).drew) (fun hH => ?_)
    refine Tm 0 ?_
    simp only [Act.put, SA]
    refine Tm 1 ?_
    simp only [Act.put, SA]
    refine Tm 2 ?_
    simp only [Act.put, SA]
    refine Tl 3 (v := ?_) ?_ hH ?_
    rotate_left 1
    · (intro wy hSw; have q := hSw.1; clear hSw; go_simp <;> with_reducible rfl)
    simp only [Act.put, SA]
    refine Tm 4 ?_
    simp only [Act.put, SA]
    refine Tl 5 (v := ?_) ?_ hH ?_
    rotate_left 1
    · (intro wy hSw; have q := hSw.2.1; clear hSw; go_simp <;> with_reducible rfl)
    simp only [Act.put, SA]
    refine Tl 6 (v := ?_) ?_ hH ?_
    rotate_left 1
    · (intro wy hSw; have q := hSw.2.2; clear hSw; go_simp <;> with_reducible rfl)
    simp only [Act.put, SA]
    refine Tr 7 (fun K1 hK1 => ?_)
    go_simp
    have B3 := hide ((Below.refl w2.heap.size w2).drew.alloc (Nat.le_refl _) (.cells (snC sn0).toArray 58))
    have Z3 := hide (show (w2.drew.alloc (.cells (snC sn0).toArray 58)).heap[w2.heap.size]? = some (.cells (snC sn0).toArray 58 (0, 0)) from Go.Deep.blk_alloc_new w2.drew _)
    refine hK1.out _ _ (fun _ => KS.out _ B3.out) (fun _ => ?_)
    clear hK1 K1 hH
    refine Tr 8 (fun K1 hK1 => ?_)
    rw [if_pos (by rfl)]
    refine wp_store_row 58 (.tmp 8) (.tmp 30) rfl w2.heap.size (snC s).toArray rfl rfl _ _ Z3.out (seen_len s) rfl (snC_one s) ?_
    have B4 := hide (bel_row B3.out (Nat.le_refl _) (snC s).toArray)
    have Z4 := hide (setRow_heap _ _ _ (snC s).toArray _ _ Z3.out)
    refine hK1.out _ _ (fun _ => KS.out _ B4.out) (fun _ => ?_)
    clear hK1 K1 B3 Z3
    refine T_done (by kernel_rfl) ?_ _
    generalize hw4 : (w2.alloc (.cells #[.int .i64 0, .int .i64 0, .int .i64 0, .int .i64 0, .int .i64 0, .int .i64 0, .int .i64 0, .int .i64 0] 58)).drew.setRow w2.heap.size (snC s).toArray = w4
    have B4 : Hid (Below w2.heap.size w2 w4) := by rw [← hw4]; exact B4
    have Z4 : Hid (w4.heap[w2.heap.size]? = some (.cells (snC s).toArray 58 (0, 0))) := by rw [← hw4]; exact Z4
    clear hw4
    have y4 := (B4.out.block _ (lt_of_blk Z2.out)).trans Z2.out
    have J := hide (join_any (t := m) (Ar.of_row Z4.out))
    go_upto_region 7 with (first | (refine wpList_load_row rfl 58 (.tmp 5) rfl w.heap.size rfl _ _ _ _ y4 Tryd.underlying58 rfl (seen_len m) ?_) | (go_at_call 47; refine J.out.mono ?_; rintro e w5 ⟨rfl, t5, a5⟩; have T5 := hide t5; have A5 := hide a5; clear t5 a5))
    have B5 := hide (B4.out.trans (T5.out.below (Nat.le_refl _) B4.out.size))
    obtain ⟨w9, hrun, hV9, hg9⟩ := MSn.put (w := w5.drew) (H2.out.below B5.out).mu (by have := HN.out.2.1; unfold maxLen; omega) HO.out (jn s m)
    rw [show snV (jn s m) = .agg (snC (jn s m)).toArray from rfl] at hrun
    have P9 := hide ((H2.out.below B5.out.drew).putMu hV9 hg9)
    have q0 := (H2.out.below B5.out).cell.2.2.1
    have q1 := blk_cell ((B5.out.block _ (lt_of_blk E2.out)).trans E2.out) 2 _ rfl
    have q2 := A5.out.range
    clear hV9 hg9 y4 J
    refine wp_region_T (S := fun wz => wz.cell? ⟨bw, 66, none⟩ = some (.map (some bm)) ∧ wz.cell? ⟨w.heap.size + 1, 2, none⟩ = some (.int .i64 eo) ∧ wz.rangeAt w2.heap.size 0 (snC (jn s m))) (fun i => i != 7) mixed ⟨q0, q1, q2⟩ (fun hH => ?_)
    refine Tm 0 ?_
    simp only [Act.put, SA]
    refine Tm 1 ?_
    simp only [Act.put, SA]
    refine Tm 2 ?_
    simp only [Act.put, SA]
    refine Tl 3 (v := ?_) ?_ hH ?_
    rotate_left 1
    · (intro wy hSw; have q := hSw.1; clear hSw; go_simp <;> with_reducible rfl)
    simp only [Act.put, SA]
    refine Tm 4 ?_
    simp only [Act.put, SA]
    refine Tl 5 (v := ?_) ?_ hH ?_
    rotate_left 1
    · (intro wy hSw; have q := hSw.2.1; clear hSw; go_simp <;> with_reducible rfl)
    simp only [Act.put, SA]
    refine Tl 6 (v := ?_) ?_ hH ?_
    rotate_left 1
    · (intro wy hSw; refine exec_load_mid 58 (.tmp 8) ?_ w2.heap.size 0 ?_ (snC (jn s m)) _ hSw.2.2 Tryd.underlying58 rfl (seen_len _) <;> rfl)
    simp only [Act.put, SA]
    refine Tr 7 (fun K1 hK1 => ?_)
    go_simp
    refine hK1.out _ _ (fun h => absurd h (by decide)) (fun _ => ?_)
    clear hK1 K1 hH hrun q0 q1 q2
    refine T_done (by kernel_rfl) ?_ _
    go_wp2_with fail
    go_end0
    rw [e9.out]
    exact ⟨rfl, _, P9.out⟩
  have g4 : (ek == 4) = false := by simpa using hk4
  by_cases hk7 : ek = 7
  · subst hk7
    have e9 : Hid (res = { W with at_ := up W.at_ eo m }) := hide (by rw [HM.out]; simp)
    clear HM HF
    go_upto_region 11 with fail
    clear z1 z2
    obtain ⟨w9, hrun, hV9, hg9⟩ := MSn.put (w := w2.drew) H2.out.ac (by have := HN.out.2.1; unfold maxLen; omega) HO.out m
    rw [show snV m = .agg (snC m).toArray from rfl] at hrun
    have P9 := hide ((H2.out.below (Below.refl _ _).drew).putAc hV9 hg9)
    have q0 := H2.out.cell.2.2.2.1
    have q1 := blk_cell E2.out 2 _ rfl
    clear hV9 hg9
    refine wp_region_T (S := fun wz => wz.cell? ⟨bw, 67, none⟩ = some (.map (some ba)) ∧ wz.cell? ⟨w.heap.size + 1, 2, none⟩ = some (.int .i64 eo) ∧ wz.heap[w.heap.size]? = some (.cells (snC m).toArray 58 (0, 0))) (fun i => i != 7) mixed ⟨q0, q1, Z2.out⟩ (fun hH => ?_)
    refine Tm 0 ?_
    simp only [Act.put, SA]
    refine Tm 1 ?_
    simp only [Act.put, SA]
    refine Tm 2 ?_
    simp only [Act.put, SA]
    refine Tl 3 (v := ?_) ?_ hH ?_
    rotate_left 1
    · (intro wy hSw; have q := hSw.1; clear hSw; go_simp <;> with_reducible rfl)
    simp only [Act.put, SA]
    refine Tm 4 ?_
    simp only [Act.put, SA]
    refine Tl 5 (v := ?_) ?_ hH ?_
    rotate_left 1
    · (intro wy hSw; have q := hSw.2.1; clear hSw; go_simp <;> with_reducible rfl)
    simp only [Act.put, SA]
    refine Tl 6 (v := ?_) ?_ hH ?_
    rotate_left 1
    · (intro wy hSw; refine exec_load_row 58 (.tmp 5) ?_ w.heap.size ?_ _ (snC m).toArray _ _ hSw.2.2 Tryd.underlying58 rfl (seen_len m) <;> rfl)
    simp only [Act.put, SA]
    refine Tr 7 (fun K1 hK1 => ?_)
    go_simp
    refine hK1.out _ _ (fun h => absurd h (by decide)) (fun _ => ?_)
    clear hK1 K1 hH hrun q0 q1
    refine T_done (by kernel_rfl) ?_ _
    go_wp2_with fail
    go_end0
    rw [e9.out]
    exact ⟨rfl, _, P9.out⟩
  have g7 : (ek == 7) = false := by simpa using hk7
  by_cases hk8 : ek = 8
  · subst hk8
    have e9 : Hid (res = { W with at_ := up W.at_ eo m }) := hide (by rw [HM.out]; simp)
    clear HM HF
    go_upto_region 11 with fail
    clear z1 z2
    obtain ⟨w9, hrun, hV9, hg9⟩ := MSn.put (w := w2.drew) H2.out.ac (by have := HN.out.2.1; unfold maxLen; omega) HO.out m
    rw [show snV m = .agg (snC m).toArray from rfl] at hrun
    have P9 := hide ((H2.out.below (Below.refl _ _).drew).putAc hV9 hg9)
    have q0 := H2.out.cell.2.2.2.1
    have q1 := blk_cell E2.out 2 _ rfl
    clear hV9 hg9
    refine wp_region_T (S := fun wz => wz.cell? ⟨bw, 67, none⟩ = some (.map (some ba)) ∧ wz.cell? ⟨w.heap.size + 1, 2, none⟩ = some (.int .i64 eo) ∧ wz.heap[w.heap.size]? = some (.cells (snC m).toArray 58 (0, 0))) (fun i => i != 7) mixed ⟨q0, q1, Z2.out⟩ (fun hH => ?_)
    refine Tm 0 ?_
    simp only [Act.put, SA]
    refine Tm 1 ?_
    simp only [Act.put, SA]
    refine Tm 2 ?_
    simp only [Act.put, SA]
    refine Tl 3 (v := ?_) ?_ hH ?_
    rotate_left 1
    · (intro wy hSw; have q := hSw.1; clear hSw; go_simp <;> with_reducible rfl)
    simp only [Act.put, SA]
    refine Tm 4 ?_
    simp only [Act.put, SA]
    refine Tl 5 (v := ?_) ?_ hH ?_
    rotate_left 1
    · (intro wy hSw; have q := hSw.2.1; clear hSw; go_simp <;> with_reducible rfl)
    simp only [Act.put, SA]
    refine Tl 6 (v := ?_) ?_ hH ?_
    rotate_left 1
    · (intro wy hSw; refine exec_load_row 58 (.tmp 5) ?_ w.heap.size ?_ _ (snC m).toArray _ _ hSw.2.2 Tryd.underlying58 rfl (seen_len m) <;> rfl)
    simp only [Act.put, SA]
    refine Tr 7 (fun K1 hK1 => ?_)
    go_simp
    refine hK1.out _ _ (fun h => absurd h (by decide)) (fun _ => ?_)
    clear hK1 K1 hH hrun q0 q1
    refine T_done (by kernel_rfl) ?_ _
    go_wp2_with fail
    go_end0
    rw [e9.out]
    exact ⟨rfl, _, P9.out⟩
  have g8 : (ek == 8) = false := by simpa using hk8
  by_cases hk9 : ek = 9
  · subst hk9
    have e9 : Hid (res = { W with at_ := up W.at_ eo m }) := hide (by rw [HM.out]; simp)
    clear HM HF
    go_upto_region 11 with fail
    clear z1 z2
    obtain ⟨w9, hrun, hV9, hg9⟩ := MSn.put (w := w2.drew) H2.out.ac (by have := HN.out.2.1; unfold maxLen; omega) HO.out m
    rw [show snV m = .agg (snC m).toArray from rfl] at hrun
    have P9 := hide ((H2.out.below (Below.refl _ _).drew).putAc hV9 hg9)
    have q0 := H2.out.cell.2.2.2.1
    have q1 := blk_cell E2.out 2 _ rfl
    clear hV9 hg9
    refine wp_region_T (S := fun wz => wz.cell? ⟨bw, 67, none⟩ = some (.map (some ba)) ∧ wz.cell? ⟨w.heap.size + 1, 2, none⟩ = some (.int .i64 eo) ∧ wz.heap[w.heap.size]? = some (.cells (snC m).toArray 58 (0, 0))) (fun i => i != 7) mixed ⟨q0, q1, Z2.out⟩ (fun hH => ?_)
    refine Tm 0 ?_
    simp only [Act.put, SA]
    refine Tm 1 ?_
    simp only [Act.put, SA]
    refine Tm 2 ?_
    simp only [Act.put, SA]
    refine Tl 3 (v := ?_) ?_ hH ?_
    rotate_left 1
    · (intro wy hSw; have q := hSw.1; clear hSw; go_simp <;> with_reducible rfl)
    simp only [Act.put, SA]
    refine Tm 4 ?_
    simp only [Act.put, SA]
    refine Tl 5 (v := ?_) ?_ hH ?_
    rotate_left 1
    · (intro wy hSw; have q := hSw.2.1; clear hSw; go_simp <;> with_reducible rfl)
    simp only [Act.put, SA]
    refine Tl 6 (v := ?_) ?_ hH ?_
    rotate_left 1
    · (intro wy hSw; refine exec_load_row 58 (.tmp 5) ?_ w.heap.size ?_ _ (snC m).toArray _ _ hSw.2.2 Tryd.underlying58 rfl (seen_len m) <;> rfl)
    simp only [Act.put, SA]
    refine Tr 7 (fun K1 hK1 => ?_)
    go_simp
    refine hK1.out _ _ (fun h => absurd h (by decide)) (fun _ => ?_)
    clear hK1 K1 hH hrun q0 q1
    refine T_done (by kernel_rfl) ?_ _
    go_wp2_with fail
    go_end0
    rw [e9.out]
    exact ⟨rfl, _, P9.out⟩
  have g9 : (ek == 9) = false := by simpa using hk9
  by_cases hk5 : ek = 5
  · subst hk5
    have e9 : Hid (res = { W with ss := up W.ss eo (W.ss eo ++ [(i : Int)]), rs := W.rs }) := hide (by rw [HM.out]; simp)
    obtain ⟨aS, cS, eS, _, _⟩ := own_slice (H2.out.ch.row eo false)
    obtain ⟨aC, cC, eC, _, _⟩ := own_slice (H2.out.ch.row eo true)
    obtain ⟨k, hk'⟩ : ∃ q, q = (rowL W.ss W.rs eo false).length := ⟨_, rfl⟩
    obtain ⟨kc, hkc'⟩ : ∃ q, q = (rowL W.ss W.rs eo true).length := ⟨_, rfl⟩
    rw [← hk'] at eS
    rw [← hkc'] at eC
    have hkN : k ≤ N := by rw [hk']; exact OK.out.ls eo
    have HK := hide hk'
    have ES := hide eS
    have EC := hide eC
    have KS := hide (fun wz (b : Below w2.heap.size w2 wz) => (show wz.cell? ⟨bw, 68, none⟩ = some (.map (some bc)) ∧ wz.cell? ⟨w.heap.size + 1, 2, none⟩ = some (.int .i64 eo) ∧ (Instr.lookup 72 (.map (some bc)) (.int .i64 eo) false).run Tryd.prog wz = .ok (.agg #[.slice aS k cS, .slice aC kc cC]) wz from
      ⟨(H2.out.below b).cell.2.2.2.2.1, blk_cell ((b.block _ (lt_of_blk E2.out)).trans E2.out) 2 _ rfl, by rw [← ES.out, ← EC.out]; exact (H2.out.below b).ch.look HO.out⟩))
    clear HM HF hk' hkc' eS eC
    go_upto_region 13 with fail
    clear z1 z2
    refine wp_region_T (S := fun wz => wz.cell? ⟨bw, 68, none⟩ = some (.map (some bc)) ∧ wz.cell? ⟨w.heap.size + 1, 2, none⟩ = some (.int .i64 eo) ∧ (Instr.lookup 72 (.map (some bc)) (.int .i64 eo) false).run Tryd.prog wz = .ok (.agg #[.slice aS k cS, .slice aC kc cC]) wz) (fun _ => true) mixed (KS.out _ (Below.refl _ _).drew) (fun hH => ?_)
    refine Tm 0 ?_
    simp only [Act.put, SA]
    refine Tm 1 ?_
    simp only [Act.put, SA]
    refine Tm 2 ?_
    simp only [Act.put, SA]
    refine Tl 3 (v := ?_) ?_ hH ?_
    rotate_left 1
    · (intro wy hSw; have q := hSw.1; clear hSw; go_simp <;> with_reducible rfl)
    simp only [Act.put, SA]
    refine Tm 4 ?_
    simp only [Act.put, SA]
    refine Tl 5 (v := ?_) ?_ hH ?_
    rotate_left 1
    · (intro wy hSw; have q := hSw.2.1; clear hSw; go_simp <;> with_reducible rfl)
    simp only [Act.put, SA]
    refine Tl 6 (v := ?_) ?_ hH ?_
    rotate_left 1
    · (intro wy hSw; have q := hSw.2.2; clear hSw; go_simp <;> with_reducible rfl)
    simp only [Act.put, SA]
    refine Tr 7 (fun K1 hK1 => ?_)
    go_simp
    have B3 := hide ((Below.refl w2.heap.size w2).drew.alloc (Nat.le_refl _) (.cells #[.slice none 0 0, .slice none 0 0] 101))
    have Z3 := hide (show (w2.drew.alloc (.cells #[.slice none 0 0, .slice none 0 0] 101)).heap[w2.heap.size]? = some (.cells #[.slice none 0 0, .slice none 0 0] 101 (0, 0)) from Go.Deep.blk_alloc_new w2.drew _)
    refine hK1.out _ _ (fun _ => KS.out _ B3.out) (fun _ => ?_)
    clear hK1 K1 hH
    refine Tr 8 (fun K1 hK1 => ?_)
    rw [if_pos (by rfl)]
    refine wp_store_row 101 (.tmp 9) (.tmp 59) rfl w2.heap.size #[.slice aS k cS, .slice aC kc cC] rfl rfl _ _ Z3.out (by kernel_rfl) rfl (by simp [Value.oneCell']) ?_
    have B4 := hide (bel_row B3.out (Nat.le_refl _) #[.slice aS k cS, .slice aC kc cC])
    have Z4 := hide (setRow_heap _ _ _ #[.slice aS k cS, .slice aC kc cC] _ _ Z3.out)
    refine hK1.out _ _ (fun _ => KS.out _ B4.out) (fun _ => ?_)
    clear hK1 K1 B3 Z3
    refine T_done (by kernel_rfl) ?_ _
    generalize hw4 : (w2.alloc (.cells #[.slice none 0 0, .slice none 0 0] 101)).drew.setRow w2.heap.size #[.slice aS k cS, .slice aC kc cC] = w4
    have B4 : Hid (Below w2.heap.size w2 w4) := by rw [← hw4]; exact B4
    have Z4 : Hid (w4.heap[w2.heap.size]? = some (.cells #[.slice aS k cS, .slice aC kc cC] 101 (0, 0))) := by rw [← hw4]; exact Z4
    clear hw4
    have H3 := hide (H2.out.below B4.out)
    have row := H3.out.ch.row eo false
    rw [ES.out] at row
    rw [← HK.out] at row
    have PU := hide (fun ty => push_any (TS := 23) (l := W.ss eo) Tryd.underlying23 HK.out (by have := OK.out.ls eo; have := HN.out.1; omega) row H3.out.bel.size (i : Nat) ty)
    have c0 := blk_cell Z4.out 0 _ rfl
    clear row
    go_upto_region 15 with (first | (at_builtin; refine wpList_appG (TS := 23) (.tmp 61) (.tmp 63) _ _ _ PU.out rfl rfl rfl rfl ?_; rintro u w9 ⟨⟨a9, c9, rfl⟩, o9, g9, l9⟩; have xb := (g9.block w2.heap.size (lt_of_blk Z4.out) (fun e => by have row2 := H3.out.ch.row eo false; rw [ES.out] at row2; exact own_at row2 Z4.out (by decide) e.symm)).trans Z4.out; have k9 := blk_cell xb 0 _ rfl; have f9 := blk_frz xb 0; have O9 := hide o9; have G9 := hide g9; have L9 := hide l9; have XB9 := hide xb; clear o9 g9 l9 xb))
    have TN := hide (Tn.set (w := w9) (b := w2.heap.size) (o := 0) (n := 1) 0 (by omega) (by omega) (.slice a9 (k + 1) c9))
    have E9 := hide (heap_setCell_same w9 w2.heap.size 0 _ _ (.slice a9 (k + 1) c9) XB9.out)
    have lk1 : (W.ss eo ++ [(i : Int)]).length = k + 1 := by simp [HK.out, rowL]
    have hx0 : w0.heap.size ≤ w2.heap.size := Nat.le_trans H2.out.bel.size (Nat.le_refl _)
    obtain ⟨wB, hrun, HB⟩ := H3.out.putCh (by have := HN.out.2.1; unfold maxLen; omega) HO.out false (u := .slice a9 (k + 1) c9) (l := W.ss eo ++ [(i : Int)]) (w1 := w9) (w2 := (w9.setCell ⟨w2.heap.size, 0, none⟩ (.slice a9 (k + 1) c9)).drew) (by rw [ES.out]; exact G9.out) (by rw [lk1]; exact O9.out) (by rw [ES.out]; exact L9.out) Z4.out hx0 TN.out.drew
    have eU : upS v eo false (.slice a9 (k + 1) c9) eo true = .slice aC kc cC := by unfold upS; rw [if_neg (by simp)]; exact EC.out
    have eV : upS v eo false (.slice a9 (k + 1) c9) eo false = .slice a9 (k + 1) c9 := by unfold upS; rw [if_pos ⟨rfl, rfl⟩]
    rw [eU, eV] at hrun
    have HW := hide HB
    have b9 : ∀ z, z < w4.heap.size → w4.heap[z]? = w9.heap[z]? ∨ (Value.slice aS k cS).ownBlock = some z := fun z hz => by
      by_cases e : (Value.slice aS k cS).ownBlock = some z
      · exact .inr e
      · exact .inl (G9.out.block z hz (fun q => e q.symm)).symm
    have q68 : (w9.setCell ⟨w2.heap.size, 0, none⟩ (.slice a9 (k + 1) c9)).cell? ⟨bw, 68, none⟩ = some (.map (some bc)) := by
      obtain ⟨c5, h5, h6⟩ := H3.out.cells
      rcases b9 bw H3.out.size.1 with e | e
      · exact blk_cell ((TN.out.oth bw (Nat.lt_of_lt_of_le H3.out.size.1 G9.out.size) (by have := H2.out.size.1; omega)).trans (e.symm.trans h5)) 68 _ h6.c68
      · have row2 := H3.out.ch.row eo false
        rw [ES.out] at row2
        exact absurd e (own_at row2 h5 (by decide))
    have q2 : (w9.setCell ⟨w2.heap.size, 0, none⟩ (.slice a9 (k + 1) c9)).cell? ⟨w.heap.size + 1, 2, none⟩ = some (.int .i64 eo) := by
      have h5 := (B4.out.block _ (lt_of_blk E2.out)).trans E2.out
      rcases b9 (w.heap.size + 1) (lt_of_blk h5) with e | e
      · exact blk_cell ((TN.out.oth _ (Nat.lt_of_lt_of_le (lt_of_blk h5) G9.out.size) (by have := lt_of_blk E2.out; omega)).trans (e.symm.trans h5)) 2 _ rfl
      · have row2 := H3.out.ch.row eo false
        rw [ES.out] at row2
        exact absurd e (own_at row2 h5 (by decide))
    have e9' := E9.out
    clear c0 k9 f9 HB lk1 eU eV b9
    refine wp_region_T (S := fun wz => wz.cell? ⟨bw, 68, none⟩ = some (.map (some bc)) ∧ wz.cell? ⟨w.heap.size + 1, 2, none⟩ = some (.int .i64 eo) ∧ wz.heap[w2.heap.size]? = some (.cells #[.slice a9 (k + 1) c9, .slice aC kc cC] 101 (0, 0))) (fun i => i != 7) mixed ⟨q68, q2, e9'⟩ (fun hH => ?_)
    refine Tm 0 ?_
    simp only [Act.put, SA]
    refine Tm 1 ?_
    simp only [Act.put, SA]
    refine Tm 2 ?_
    simp only [Act.put, SA]
    refine Tl 3 (v := ?_) ?_ hH ?_
    rotate_left 1
    · (intro wy hSw; have q := hSw.1; clear hSw; go_simp <;> with_reducible rfl)
    simp only [Act.put, SA]
    refine Tm 4 ?_
    simp only [Act.put, SA]
    refine Tl 5 (v := ?_) ?_ hH ?_
    rotate_left 1
    · (intro wy hSw; have q := hSw.2.1; clear hSw; go_simp <;> with_reducible rfl)
    simp only [Act.put, SA]
    refine Tl 6 (v := ?_) ?_ hH ?_
    rotate_left 1
    · (intro wy hSw; refine exec_load_row 101 (.tmp 9) ?_ w2.heap.size ?_ _ #[.slice a9 (k + 1) c9, .slice aC kc cC] _ _ hSw.2.2 Tryd.underlying101 rfl (by kernel_rfl) <;> rfl)
    simp only [Act.put, SA]
    refine Tr 7 (fun K1 hK1 => ?_)
    go_simp
    refine hK1.out _ _ (fun h => absurd h (by decide)) (fun _ => ?_)
    clear hK1 K1 hH hrun q68 q2 e9'
    refine T_done (by kernel_rfl) ?_ _
    go_wp2_with fail
    go_end0
    rw [e9.out]
    exact ⟨rfl, _, HW.out⟩
  have g5 : (ek == 5) = false := by simpa using hk5
  by_cases hk6 : ek = 6
  · subst hk6
    have e9 : Hid (res = tellR R T W m eo i) := hide (by rw [HM.out]; simp)
    have TR := hide (tellRecv_any H2.out OK.out HN.out.1 HN.out.2.1 HO.out m i HN.out.2.2 HG.out)
    have y2 := Z2.out
    clear HM HF
    go_wp2_with (first | (refine wpList_load_row rfl 58 (.tmp 5) rfl w.heap.size rfl _ _ _ _ y2 Tryd.underlying58 rfl (seen_len m) ?_))
    refine TR.out.mono ?_
    rintro e w3 ⟨rfl, v3, h3⟩
    have H3 := hide h3
    clear h3 TR
    go_wp2_with fail
    go_end0
    rw [e9.out]
    exact ⟨rfl, _, H3.out⟩
  have g6 : (ek == 6) = false := by simpa using hk6
  have e9 : Hid (res = W) := hide (by rw [HM.out, if_neg hk10, if_neg hk4, if_neg (fun q => q.elim hk7 (fun q => q.elim hk8 hk9)), if_neg hk5, if_neg hk6])
  clear HM HF
  go_wp2_with fail
  go_end0
  rw [e9.out]
  exact ⟨rfl, _, H2.out.more⟩
end Go.Proofs.YticgmebbnnmikaaDoor.Ck
