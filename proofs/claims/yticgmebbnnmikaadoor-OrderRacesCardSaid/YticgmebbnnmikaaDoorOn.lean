/- Package order: what an event learns (walk.learn). (Written by mk_o.py.) -/
import Derived.Test.YticgmebbnnmikaaDoorOm
namespace Go.Proofs.YticgmebbnnmikaaDoor.Ck
open Go.RowKit

theorem Jn.after {w w2 : World} {bw g : Nat} {s : Sn} {e : Ending} {w' : World} (hb : bw < w.heap.size) (b : Below w.heap.size w w2) (h : Jn w2 bw g s e w') : Jn w bw g s e w' := ⟨h.1, (Tn.of_bel hb b).trans h.2.1, h.2.2⟩
set_option maxRecDepth 20000 in
set_option maxHeartbeats 2000000 in
theorem learn_any {w0 w : World} {bw bm ba bc : Nat} {vT vR vP : Value} {T : List Ev} {R : List Int} {W : Wk} {n N : Nat} {v : Int → Bool → Value} (h : WkM w0 w bw bm ba bc vT vR vP T R W n v) (ok : WkOk W N) (hN : N ≤ 100000) {g : Nat} (hg : g < 8) (e : Ev) (ho : wfI e.o) : Calls Tryd.prog 29 #[.pointer (some ⟨bw, 0, none⟩), .pointer (some ⟨bw, 2 + g * 8, none⟩), evV e] w (Jn w bw g (learnM R W (W.gos g) e)) := by
  obtain ⟨eg, ek, eo, ea⟩ := e
  have ho : wfI eo := ho
  have HM : Hid (learnM R W (W.gos g) ⟨eg, ek, eo, ea⟩ = if ek = 3 then jn (W.gos g) (W.mu eo) else if ek = 7 ∨ ek = 8 ∨ ek = 9 then jn (W.gos g) (W.at_ eo) else if ek = 5 then learnS R W (W.gos g) eo else if ek = 6 then learnR W (W.gos g) eo else W.gos g) := hide rfl
  generalize learnM R W (W.gos g) ⟨eg, ek, eo, ea⟩ = res at *
  have B2 := hide (bel_new w (.cells #[.int .i64 eg, .int .i64 ek, .int .i64 eo, .int .i64 ea] 47))
  have Z2 := hide (Go.Deep.blk_alloc_new w (.cells #[.int .i64 eg, .int .i64 ek, .int .i64 eo, .int .i64 ea] 47))
  have SZ := hide h.size
  have H2 := hide (h.below B2.out)
  have A2 := hide ((h.arr hg).bel B2.out)
  have LS := hide (learnSend_any H2.out ok hN hg ho)
  have LR := hide (learnRecv_any H2.out ok hg ho)
  have MP := hide h.maps
  unfold evV
  simp only
  obtain ⟨csw, hw1, hw2⟩ := H2.out.cells
  have MU := hide (H2.out.mu)
  have AC := hide (H2.out.ac)
  have W1 := hide hw1
  have W2 := hide hw2
  have HO := hide ho
  clear h ok hN ho hw1 hw2 H2
  go_enter Tryd.func29, Tryd.ntmps29
  go_upto_region 1 with fail
  generalize w.alloc (.cells #[.int .i64 eg, .int .i64 ek, .int .i64 eo, .int .i64 ea] 47) = w2 at *
  have z1 := blk_cell Z2.out 1 _ rfl
  have nB : w.heap.size ≠ bw := by have := SZ.out.1; omega
  have NB := hide nB
  clear nB
  by_cases h3 : ek = 3
  · subst h3
    have e9 : Hid (res = jn (W.gos g) (W.mu eo)) := hide (by rw [HM.out]; simp)
    have z2 := blk_cell Z2.out 2 _ rfl
    have KT := hide (fun wz (t : Tn w2 wz bw (2 + g * 8) 8) => (show wz.cell? ⟨bw, 66, none⟩ = some (.map (some bm)) ∧ wz.cell? ⟨w.heap.size, 2, none⟩ = some (.int .i64 eo) ∧ (Instr.lookup 71 (.map (some bm)) (.int .i64 eo) false).run Tryd.prog wz = .ok (snV (W.mu eo)) wz from ⟨t.keepIn W1.out W2.out.c66 (by omega), t.keep z2 NB.out, (MU.out.keep (t.oth bm (Nat.lt_of_lt_of_le SZ.out.2.1 B2.out.size) MP.out.1)).look HO.out⟩))
    have J := hide (fun wz (a : Ar wz bw (2 + g * 8) (W.gos g)) => join_any (t := W.mu eo) a)
    have T2 := hide (show Tn w2 w2.drew bw (2 + g * 8) 8 from (Tn.refl _ _ _ _).drew)
    clear LS LR HM
    go_upto_region 3 with fail
    generalize W.mu eo = so at *
    clear z1 z2
    refine wp_region_T (S := fun wz => wz.cell? ⟨bw, 66, none⟩ = some (.map (some bm)) ∧ wz.cell? ⟨w.heap.size, 2, none⟩ = some (.int .i64 eo) ∧ (Instr.lookup 71 (.map (some bm)) (.int .i64 eo) false).run Tryd.prog wz = .ok (snV so) wz) (fun _ => true) mixed (KT.out _ T2.out) (fun hH => ?_)
    refine Tm 0 ?_
    simp only [Act.put, SA]
    refine Tm 1 ?_
    simp only [Act.put, SA]
    refine Tm 2 ?_
    simp only [Act.put, SA]
    refine Tm 3 ?_
    simp only [Act.put, SA]
    refine Tl 4 (v := ?_) ?_ hH ?_
    rotate_left 1
    · (intro wy hSw; have q := hSw.1; clear hSw; go_simp <;> with_reducible rfl)
    simp only [Act.put, SA]
    refine Tm 5 ?_
    simp only [Act.put, SA]
    refine Tl 6 (v := ?_) ?_ hH ?_
    rotate_left 1
    · (intro wy hSw; have q := hSw.2.1; clear hSw; go_simp <;> with_reducible rfl)
    simp only [Act.put, SA]
    refine Tl 7 (v := ?_) ?_ hH ?_
    rotate_left 1
    · (intro wy hSw; have q := hSw.2.2; clear hSw; go_simp <;> with_reducible rfl)
    simp only [Act.put, SA]
    refine Tr 8 (fun K1 hK1 => ?_)
    go_simp
    refine (J.out w2.drew A2.out).mono ?_
    rintro e w3 ⟨rfl, t3, a3⟩
    have T3 := hide (T2.out.trans t3)
    refine hK1.out _ _ (fun _ => KT.out _ T3.out) (fun _ => ?_)
    clear hK1 K1 t3 hH
    refine T_done (by kernel_rfl) ?_ _
    go_wp2_with fail
    go_end0
    rw [e9.out]
    exact ⟨rfl, ((Tn.of_bel SZ.out.1 B2.out).trans T3.out), a3⟩
  by_cases h7 : ek = 7
  · subst h7
    have e9 : Hid (res = jn (W.gos g) (W.at_ eo)) := hide (by rw [HM.out]; simp)
    have z2 := blk_cell Z2.out 2 _ rfl
    have KT := hide (fun wz (t : Tn w2 wz bw (2 + g * 8) 8) => (show wz.cell? ⟨bw, 67, none⟩ = some (.map (some ba)) ∧ wz.cell? ⟨w.heap.size, 2, none⟩ = some (.int .i64 eo) ∧ (Instr.lookup 71 (.map (some ba)) (.int .i64 eo) false).run Tryd.prog wz = .ok (snV (W.at_ eo)) wz from ⟨t.keepIn W1.out W2.out.c67 (by omega), t.keep z2 NB.out, (AC.out.keep (t.oth ba (Nat.lt_of_lt_of_le SZ.out.2.2.1 B2.out.size) MP.out.2.1)).look HO.out⟩))
    have J := hide (fun wz (a : Ar wz bw (2 + g * 8) (W.gos g)) => join_any (t := W.at_ eo) a)
    have T2 := hide (show Tn w2 w2.drew bw (2 + g * 8) 8 from (Tn.refl _ _ _ _).drew)
    clear LS LR HM
    go_upto_region 7 with fail
    generalize W.at_ eo = so at *
    clear z1 z2
    refine wp_region_T (S := fun wz => wz.cell? ⟨bw, 67, none⟩ = some (.map (some ba)) ∧ wz.cell? ⟨w.heap.size, 2, none⟩ = some (.int .i64 eo) ∧ (Instr.lookup 71 (.map (some ba)) (.int .i64 eo) false).run Tryd.prog wz = .ok (snV so) wz) (fun _ => true) mixed (KT.out _ T2.out) (fun hH => ?_)
    refine Tm 0 ?_
    simp only [Act.put, SA]
    refine Tm 1 ?_
    simp only [Act.put, SA]
    refine Tm 2 ?_
    simp only [Act.put, SA]
    refine Tm 3 ?_
    simp only [Act.put, SA]
    refine Tl 4 (v := ?_) ?_ hH ?_
    rotate_left 1
    · (intro wy hSw; have q := hSw.1; clear hSw; go_simp <;> with_reducible rfl)
    simp only [Act.put, SA]
    refine Tm 5 ?_
    simp only [Act.put, SA]
    refine Tl 6 (v := ?_) ?_ hH ?_
    rotate_left 1
    · (intro wy hSw; have q := hSw.2.1; clear hSw; go_simp <;> with_reducible rfl)
    simp only [Act.put, SA]
    refine Tl 7 (v := ?_) ?_ hH ?_
    rotate_left 1
    · (intro wy hSw; have q := hSw.2.2; clear hSw; go_simp <;> with_reducible rfl)
    simp only [Act.put, SA]
    refine Tr 8 (fun K1 hK1 => ?_)
    go_simp
    refine (J.out w2.drew A2.out).mono ?_
    rintro e w3 ⟨rfl, t3, a3⟩
    have T3 := hide (T2.out.trans t3)
    refine hK1.out _ _ (fun _ => KT.out _ T3.out) (fun _ => ?_)
    clear hK1 K1 t3 hH
    refine T_done (by kernel_rfl) ?_ _
    go_wp2_with fail
    go_end0
    rw [e9.out]
    exact ⟨rfl, ((Tn.of_bel SZ.out.1 B2.out).trans T3.out), a3⟩
  by_cases h8 : ek = 8
  · subst h8
    have e9 : Hid (res = jn (W.gos g) (W.at_ eo)) := hide (by rw [HM.out]; simp)
    have z2 := blk_cell Z2.out 2 _ rfl
    have KT := hide (fun wz (t : Tn w2 wz bw (2 + g * 8) 8) => (show wz.cell? ⟨bw, 67, none⟩ = some (.map (some ba)) ∧ wz.cell? ⟨w.heap.size, 2, none⟩ = some (.int .i64 eo) ∧ (Instr.lookup 71 (.map (some ba)) (.int .i64 eo) false).run Tryd.prog wz = .ok (snV (W.at_ eo)) wz from ⟨t.keepIn W1.out W2.out.c67 (by omega), t.keep z2 NB.out, (AC.out.keep (t.oth ba (Nat.lt_of_lt_of_le SZ.out.2.2.1 B2.out.size) MP.out.2.1)).look HO.out⟩))
    have J := hide (fun wz (a : Ar wz bw (2 + g * 8) (W.gos g)) => join_any (t := W.at_ eo) a)
    have T2 := hide (show Tn w2 w2.drew bw (2 + g * 8) 8 from (Tn.refl _ _ _ _).drew)
    clear LS LR HM
    go_upto_region 7 with fail
    generalize W.at_ eo = so at *
    clear z1 z2
    refine wp_region_T (S := fun wz => wz.cell? ⟨bw, 67, none⟩ = some (.map (some ba)) ∧ wz.cell? ⟨w.heap.size, 2, none⟩ = some (.int .i64 eo) ∧ (Instr.lookup 71 (.map (some ba)) (.int .i64 eo) false).run Tryd.prog wz = .ok (snV so) wz) (fun _ => true) mixed (KT.out _ T2.out) (fun hH => ?_)
    refine Tm 0 ?_
    simp only [Act.put, SA]
    refine Tm 1 ?_
    simp only [Act.put, SA]
    refine Tm 2 ?_
    simp only [Act.put, SA]
    refine Tm 3 ?_
    simp only [Act.put, SA]
    refine Tl 4 (v := ?_) ?_ hH ?_
    rotate_left 1
    · (intro wy hSw; have q := hSw.1; clear hSw; go_simp <;> with_reducible rfl)
    simp only [Act.put, SA]
    refine Tm 5 ?_
    simp only [Act.put, SA]
    refine Tl 6 (v := ?_) ?_ hH ?_
    rotate_left 1
    · (intro wy hSw; have q := hSw.2.1; clear hSw; go_simp <;> with_reducible rfl)
    simp only [Act.put, SA]
    refine Tl 7 (v := ?_) ?_ hH ?_
    rotate_left 1
    · (intro wy hSw; have q := hSw.2.2; clear hSw; go_simp <;> with_reducible rfl)
    simp only [Act.put, SA]
    refine Tr 8 (fun K1 hK1 => ?_)
    go_simp
    refine (J.out w2.drew A2.out).mono ?_
    rintro e w3 ⟨rfl, t3, a3⟩
    have T3 := hide (T2.out.trans t3)
    refine hK1.out _ _ (fun _ => KT.out _ T3.out) (fun _ => ?_)
    clear hK1 K1 t3 hH
    refine T_done (by kernel_rfl) ?_ _
    go_wp2_with fail
    go_end0
    rw [e9.out]
    exact ⟨rfl, ((Tn.of_bel SZ.out.1 B2.out).trans T3.out), a3⟩
  by_cases h9 : ek = 9
  · subst h9
    have e9 : Hid (res = jn (W.gos g) (W.at_ eo)) := hide (by rw [HM.out]; simp)
    have z2 := blk_cell Z2.out 2 _ rfl
    have KT := hide (fun wz (t : Tn w2 wz bw (2 + g * 8) 8) => (show wz.cell? ⟨bw, 67, none⟩ = some (.map (some ba)) ∧ wz.cell? ⟨w.heap.size, 2, none⟩ = some (.int .i64 eo) ∧ (Instr.lookup 71 (.map (some ba)) (.int .i64 eo) false).run Tryd.prog wz = .ok (snV (W.at_ eo)) wz from ⟨t.keepIn W1.out W2.out.c67 (by omega), t.keep z2 NB.out, (AC.out.keep (t.oth ba (Nat.lt_of_lt_of_le SZ.out.2.2.1 B2.out.size) MP.out.2.1)).look HO.out⟩))
    have J := hide (fun wz (a : Ar wz bw (2 + g * 8) (W.gos g)) => join_any (t := W.at_ eo) a)
    have T2 := hide (show Tn w2 w2.drew bw (2 + g * 8) 8 from (Tn.refl _ _ _ _).drew)
    clear LS LR HM
    go_upto_region 7 with fail
    generalize W.at_ eo = so at *
    clear z1 z2
    refine wp_region_T (S := fun wz => wz.cell? ⟨bw, 67, none⟩ = some (.map (some ba)) ∧ wz.cell? ⟨w.heap.size, 2, none⟩ = some (.int .i64 eo) ∧ (Instr.lookup 71 (.map (some ba)) (.int .i64 eo) false).run Tryd.prog wz = .ok (snV so) wz) (fun _ => true) mixed (KT.out _ T2.out) (fun hH => ?_)
    refine Tm 0 ?_
    simp only [Act.put, SA]
    refine Tm 1 ?_
    simp only [Act.put, SA]
    refine Tm 2 ?_
    simp only [Act.put, SA]
    refine Tm 3 ?_
    simp only [Act.put, SA]
    refine Tl 4 (v := ?_) ?_ hH ?_
    rotate_left 1
    · (intro wy hSw; have q := hSw.1; clear hSw; go_simp <;> with_reducible rfl)
    simp only [Act.put, SA]
    refine Tm 5 ?_
    simp only [Act.put, SA]
    refine Tl 6 (v := ?_) ?_ hH ?_
    rotate_left 1
    · (intro wy hSw; have q := hSw.2.1; clear hSw; go_simp <;> with_reducible rfl)
    simp only [Act.put, SA]
    refine Tl 7 (v := ?_) ?_ hH ?_
    rotate_left 1
    · (intro wy hSw; have q := hSw.2.2; clear hSw; go_simp <;> with_reducible rfl)
    simp only [Act.put, SA]
    refine Tr 8 (fun K1 hK1 => ?_)
    go_simp
    refine (J.out w2.drew A2.out).mono ?_
    rintro e w3 ⟨rfl, t3, a3⟩
    have T3 := hide (T2.out.trans t3)
    refine hK1.out _ _ (fun _ => KT.out _ T3.out) (fun _ => ?_)
    clear hK1 K1 t3 hH
    refine T_done (by kernel_rfl) ?_ _
    go_wp2_with fail
    go_end0
    rw [e9.out]
    exact ⟨rfl, ((Tn.of_bel SZ.out.1 B2.out).trans T3.out), a3⟩
  have g3 : (ek == 3) = false := by simpa using h3
  have g7 : (ek == 7) = false := by simpa using h7
  have g8 : (ek == 8) = false := by simpa using h8
  have g9 : (ek == 9) = false := by simpa using h9
  by_cases h5 : ek = 5
  · subst h5
    have z2 := blk_cell Z2.out 2 _ rfl
    have e9 : Hid (res = learnS R W (W.gos g) eo) := hide (by rw [HM.out]; simp)
    clear HM LR
    go_wp2_with fail
    refine LS.out.mono ?_
    rintro e w3 ⟨rfl, t3, a3⟩
    have X := hide (And.intro ((Tn.of_bel (o := 2 + g * 8) (n := 8) SZ.out.1 B2.out).trans t3) a3)
    clear t3 a3 LS
    go_wp2_with fail
    go_end0
    rw [e9.out]
    exact ⟨rfl, X.out⟩
  have g5 : (ek == 5) = false := by simpa using h5
  by_cases h6 : ek = 6
  · subst h6
    have z2 := blk_cell Z2.out 2 _ rfl
    have e9 : Hid (res = learnR W (W.gos g) eo) := hide (by rw [HM.out]; simp)
    clear HM LS
    go_wp2_with fail
    refine LR.out.mono ?_
    rintro e w3 ⟨rfl, t3, a3⟩
    have X := hide (And.intro ((Tn.of_bel (o := 2 + g * 8) (n := 8) SZ.out.1 B2.out).trans t3) a3)
    clear t3 a3 LR
    go_wp2_with fail
    go_end0
    rw [e9.out]
    exact ⟨rfl, X.out⟩
  have g6 : (ek == 6) = false := by simpa using h6
  have e9 : Hid (res = W.gos g) := hide (by rw [HM.out, if_neg h3, if_neg (fun q => q.elim h7 (fun q => q.elim h8 h9)), if_neg h5, if_neg h6])
  clear HM LS LR
  go_wp2_with fail
  go_end0
  rw [e9.out]
  exact ⟨rfl, Tn.of_bel SZ.out.1 B2.out, A2.out⟩
end Go.Proofs.YticgmebbnnmikaaDoor.Ck
