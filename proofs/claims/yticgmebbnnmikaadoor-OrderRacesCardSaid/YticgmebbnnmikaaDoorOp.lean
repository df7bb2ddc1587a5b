/- Package order: what an EvRecv leaves (walk.tellRecv). (Written by mk_o.py.) -/
import Derived.Test.YticgmebbnnmikaaDoorOn
namespace Go.Proofs.YticgmebbnnmikaaDoor.Ck
open Go.RowKit

theorem wpList_appG {TS : TypeId} {w : World} {ops : Array Oper} {rest : List Oper} {o : Oper} {a : Act} {Q : Exit → Act → World → Prop} (s x : Operand) (v vx : Value) (R : Value → World → Prop)
    (hrun : ∀ ty, ∃ v' w', (Builtin.append_ #[TS, TS] ty #[v, vx]).run Tryd.prog w = .ok v' w' ∧ R v' w') (hgd : o.guard = none)
    (ho : o.op = .call { callee := .builtin .append, args := #[s, x], argTypes := #[TS, TS] }) (hs : a.eval s = v) (hx : a.eval x = vx)
    (h : ∀ v' w', R v' w' → wpList Tryd.prog ops Q rest (a.put o.dst v') w') : wpList Tryd.prog ops Q (o :: rest) a w :=
  wpList_plain hgd fun _ hK => by
    obtain ⟨v', w', hr, hR⟩ := hrun o.type
    unfold Oper.wp execOp
    simp only [ho, resolve, invoke, builtin, Sem.run_bind, Sem.run_pure, Result.andThen_ok, List.map_toArray, List.map_cons, List.map_nil, hs, hx, hr]
    exact hK _ _ (h v' w' hR)
/-- a call that turns the walk -/
def Wj (w0 : World) (bw bm ba bc : Nat) (vT vR vP : Value) (T : List Ev) (R : List Int) (W : Wk) (n : Nat) (e : Ending) (w' : World) : Prop := e = .returned (.tuple #[]) ∧ ∃ v, WkM w0 w' bw bm ba bc vT vR vP T R W n v
set_option maxRecDepth 20000 in
set_option maxHeartbeats 2000000 in
theorem tellRecv_any {w0 w : World} {bw bm ba bc : Nat} {vT vR vP : Value} {T : List Ev} {R : List Int} {W : Wk} {n N : Nat} {v : Int → Bool → Value} (h : WkM w0 w bw bm ba bc vT vR vP T R W n v) (ok : WkOk W N) (hN : N ≤ 100000) (hn : n < 1000000) {o : Int} (ho : wfI o) (m : Sn) (i : Nat) (hT : N ≤ T.length) (hG : ∀ k, k < T.length → evB (T.getD k zE) = true) : Calls Tryd.prog 50 #[.pointer (some ⟨bw, 0, none⟩), snV m, .int .i64 o, .int .i64 (i : Nat)] w (Wj w0 bw bm ba bc vT vR vP T R (tellR R T W m o i) (n + 1)) := by
  obtain ⟨q0, q1, q66, q67, q68, q69⟩ := h.cell
  obtain ⟨aS, cS, eS, _, _⟩ := own_slice (h.ch.row o false)
  obtain ⟨aC, cC, eC, _, _⟩ := own_slice (h.ch.row o true)
  have hS : (rowL W.ss W.rs o false).length = (W.ss o).length := rfl
  have hC : (rowL W.ss W.rs o true).length = (W.rs o).length := rfl
  rw [hS] at eS
  rw [hC] at eC
  have hR := roomM_in h.rm.fits o
  have hls := ok.ls o
  have hlr := ok.lr o
  have B1 := hide (bel_new w (.cells (snC m).toArray 58))
  have Z1 := hide (Go.Deep.blk_alloc_new w (.cells (snC m).toArray 58))
  have H0 := hide h
  have OK := hide ok
  have HO := hide ho
  have HG := hide hG
  have RM := hide (fun wz (b : Below w.heap.size w wz) => room_any (h.below b).cell.2.1 (h.rm.bel (h.below b).bel) o)
  have TR : Hid (tellR R T W m o i = { W with gos := if roomM R o = 0 ∧ (W.rs o).length < (W.ss o).length then upd W.gos (tellQ T W o) (jn (W.gos (tellQ T W o)) m) else W.gos, rs := up W.rs o (W.rs o ++ [(i : Int)]) }) := hide rfl
  generalize tellR R T W m o i = res at *
  obtain ⟨rm, hrm⟩ : ∃ q, q = roomM R o := ⟨_, rfl⟩
  rw [← hrm] at RM hR TR
  unfold snV
  clear h ok ho hrm hG
  go_enter Tryd.func50, Tryd.ntmps50
  go_upto_region 1 with fail
  generalize hw1 : w.alloc (.cells #[.int .i64 (m 0), .int .i64 (m 1), .int .i64 (m 2), .int .i64 (m 3), .int .i64 (m 4), .int .i64 (m 5), .int .i64 (m 6), .int .i64 (m 7)] 58) = w1
  have hs1 : w1.heap.size = w.heap.size + 1 := by rw [← hw1]; simp
  have B1 : Hid (Below w.heap.size w w1) := by rw [← hw1]; exact B1
  have Z1 : Hid (w1.heap[w.heap.size]? = some (.cells (snC m).toArray 58 (0, 0))) := by rw [← hw1]; exact Z1
  clear hw1
  have H1 := hide (H0.out.below B1.out)
  have LK := H1.out.ch.look HO.out
  rw [eS, eC] at LK
  have q68' := H1.out.cell.2.2.2.2.1
  have B2 := hide (bel_new w1 (.cells #[.slice aS (W.ss o).length cS, .slice aC (W.rs o).length cC] 101))
  have Z2 := hide (Go.Deep.blk_alloc_new w1 (.cells #[.slice aS (W.ss o).length cS, .slice aC (W.rs o).length cC] 101))
  obtain ⟨ls, hls'⟩ : ∃ q, q = (W.ss o).length := ⟨_, rfl⟩
  obtain ⟨k, hk'⟩ : ∃ q, q = (W.rs o).length := ⟨_, rfl⟩
  rw [← hls', ← hk'] at LK B2 Z2 TR
  rw [← hls'] at eS hls
  rw [← hk'] at eC hlr
  have HS1 := hide hs1
  have HLS := hide hls'
  have HK := hide hk'
  have ES := hide eS
  have EC := hide eC
  have nB := H0.out.size.1
  have HX := hide (show w0.heap.size ≤ w1.heap.size from by have := H0.out.bel.size; omega)
  clear q0 q1 q66 q67 q68 q69 eS eC hs1 hls' hk' hS hC
  go_upto_region 3 with fail
  clear LK
  generalize w1.alloc (.cells #[.slice aS ls cS, .slice aC k cC] 101) = w2 at *
  have H2 := hide (H1.out.below B2.out)
  have RM2 := hide (RM.out w2 (B1.out.trans (B2.out.mono B1.out.size)))
  clear RM q68' H1
  by_cases hc : rm = 0 ∧ k < ls
  · obtain ⟨rfl, hkl⟩ := hc
    have hkl' : (k : Int) < (ls : Int) := by omega
    have e9 : Hid (res = { W with gos := upd W.gos (tellQ T W o) (jn (W.gos (tellQ T W o)) m), rs := up W.rs o (W.rs o ++ [(i : Int)]) }) := hide (by rw [TR.out, if_pos ⟨rfl, hkl⟩])
    have z20 := blk_cell Z2.out 0 _ rfl
    have z21 := blk_cell Z2.out 1 _ rfl
    clear TR hR
    go_upto_region 4 with (first | (go_at_call 58; refine RM2.out.mono ?_; rintro e wz ⟨rfl, rfl⟩))
    obtain ⟨x, hx⟩ : ∃ x : Int, x = (W.ss o).getD k 0 := ⟨_, rfl⟩
    have hxi := OK.out.ss o ((W.ss o).getD k 0) (by rw [List.getD_eq_getElem?_getD, List.getElem?_eq_getElem (by rw [← HLS.out]; exact hkl)]; exact List.getElem_mem _)
    rw [← hx] at hxi
    obtain ⟨j, rfl⟩ : ∃ j : Nat, x = j := ⟨x.toNat, by omega⟩
    have hj : j < T.length := by omega
    have rowS := H2.out.ch.row o false
    rw [ES.out] at rowS
    obtain ⟨bS, cS', e1, _⟩ := own_some rowS (by show 0 < (W.ss o).length; rw [← HLS.out]; omega)
    injection e1 with e1 e1b e1c
    subst e1
    clear e1b e1c
    have hcell := (own_cell rowS k (.int .i64 (j : Nat)) (nts_at (by show (W.ss o)[k]? = _; rw [hx, List.getD_eq_getElem?_getD, List.getElem?_eq_getElem (by rw [← HLS.out]; exact hkl)]; rfl))).1
    obtain ⟨aT, cT, eT, _, _⟩ := H0.out.tr.form
    have tr2 := H2.out.tr.bel H2.out.bel
    rw [eT] at tr2
    obtain ⟨bT, off, eA, hbT, t0, _, _, _⟩ := tr2.at j hj
    subst eA
    have hf := evB_out (HG.out j hj)
    obtain ⟨q, hq⟩ : ∃ q : Nat, (T.getD j zE).g = q := ⟨(T.getD j zE).g.toNat, by omega⟩
    have hq8 : q < 8 := by omega
    rw [hq] at t0
    have TQ : Hid (tellQ T W o = q) := hide (by unfold tellQ; rw [← HK.out, ← hx, Int.toNat_natCast, hq, Int.toNat_natCast])
    rw [TQ.out] at e9
    obtain ⟨csw, hw1, hw2⟩ := H2.out.cells
    have c0 := hw2.c0
    rw [eT] at c0
    have nS : bS ≠ bw := fun e => own_at rowS hw1 (by decide) (by rw [e]; rfl)
    have hbT0 : bT < w0.heap.size := by
      obtain ⟨b', off', e', hlt', _⟩ := (show SlE w0 (.slice (some ⟨bT, off, none⟩) T.length cT) T by rw [← eT]; exact H0.out.tr).at j hj
      injection e' with e'
      injection e' with e' _ _
      omega
    have nT : bT ≠ bw := by have := H0.out.lw; omega
    have nX : w1.heap.size ≠ bw := by have := HS1.out; omega
    have nM : w.heap.size ≠ bw := by omega
    have zM := (B2.out.block _ (by have := HS1.out; omega)).trans Z1.out
    have KT := hide (fun wz (t : Tn w2 wz bw (2 + q * 8) 8) => (show wz.cell? ⟨bw, 0, none⟩ = some (.slice (some ⟨bT, off, none⟩) T.length cT) ∧ wz.cell? ⟨w1.heap.size, 0, none⟩ = some (.slice (some ⟨bS, 0, none⟩) ls cS) ∧ wz.cell? ⟨bS, k, none⟩ = some (.int .i64 (j : Nat)) ∧ wz.cell? ⟨bT, off + j * 4, none⟩ = some (.int .i64 (q : Nat)) ∧ wz.heap[w.heap.size]? = some (.cells (snC m).toArray 58 (0, 0)) from
      ⟨t.keepIn hw1 c0 (by omega), t.keep z20 nX, t.keep hcell nS, t.keep t0 nT, (t.oth _ (lt_of_blk zM) nM).trans zM⟩))
    have J := hide (fun wz (a : Ar wz bw (2 + q * 8) (W.gos q)) => join_any (t := m) a)
    have A2 := hide (H2.out.arr hq8)
    have T2 := hide (show Tn w2 w2.drew bw (2 + q * 8) 8 from (Tn.refl _ _ _ _).drew)
    have hjT : (j : Int) < (T.length : Int) := by omega
    have hq8' : (q : Int) < 8 := by omega
    have XB := hide (And.intro nX Z2.out)
    have hkl2 : (k : Int) < (ls : Int) := by omega
    have HQ := hide hq8
    have HKL := hide hkl
    clear hx hxi hj rowS hcell tr2 t0 hf hq hw1 hw2 c0 hbT hbT0 nS nT nX nM zM z20 z21 eT TQ hkl hkl' hq8
    refine wp_region_T (S := fun wz => wz.cell? ⟨bw, 0, none⟩ = some (.slice (some ⟨bT, off, none⟩) T.length cT) ∧ wz.cell? ⟨w1.heap.size, 0, none⟩ = some (.slice (some ⟨bS, 0, none⟩) ls cS) ∧ wz.cell? ⟨bS, k, none⟩ = some (.int .i64 (j : Nat)) ∧ wz.cell? ⟨bT, off + j * 4, none⟩ = some (.int .i64 (q : Nat)) ∧ wz.heap[w.heap.size]? = some (.cells (snC m).toArray 58 (0, 0))) (fun _ => true) mixed (KT.out _ T2.out) (fun hH => ?_)
    refine Tm 0 ?_
    simp only [Act.put, SA]
    refine Tm 1 ?_
    simp only [Act.put, SA]
    refine Tm 2 ?_
    simp only [Act.put, SA]
    refine Tm 3 ?_
    simp only [Act.put, SA]
    refine Tl 4 (v := ?_) ?_ hH ?_
    rotate_left 1
    · (intro wy hSw; have q := hSw.1; clear hSw; go_simp <;> with_reducible rfl)
    simp only [Act.put, SA]
    refine Tm 5 ?_
    simp only [Act.put, SA]
    refine Tl 6 (v := ?_) ?_ hH ?_
    rotate_left 1
    · (intro wy hSw; have q := hSw.2.1; clear hSw; go_simp <;> with_reducible rfl)
    simp only [Act.put, SA]
    refine Tm 7 ?_
    simp only [Act.put, SA]
    refine Tm 8 ?_
    simp only [Act.put, SA]
    refine Tl 9 (v := ?_) ?_ hH ?_
    rotate_left 1
    · (intro wy hSw; have q := hSw.2.2.1; clear hSw; go_simp <;> with_reducible rfl)
    simp only [Act.put, SA]
    refine Tm 10 ?_
    simp only [Act.put, SA]
    refine Tm 11 ?_
    simp only [Act.put, SA]
    refine Tl 12 (v := ?_) ?_ hH ?_
    rotate_left 1
    · (intro wy hSw; have q := hSw.2.2.2.1; clear hSw; go_simp <;> with_reducible rfl)
    simp only [Act.put, SA]
    refine Tm 13 ?_
    simp only [Act.put, SA]
    refine Tm 14 ?_
    simp only [Act.put, SA]
    refine Tm 15 ?_
    simp only [Act.put, SA]
    refine Tl 16 (v := ?_) ?_ hH ?_
    rotate_left 1
    · (intro wy hSw; refine exec_load_row 58 (.tmp 5) ?_ w.heap.size ?_ _ (snC m).toArray _ _ hSw.2.2.2.2 Tryd.underlying58 rfl (seen_len m) <;> rfl)
    simp only [Act.put, SA]
    refine Tr 17 (fun K1 hK1 => ?_)
    go_simp
    refine (J.out w2.drew A2.out).mono ?_
    rintro e w3 ⟨rfl, t3, a3⟩
    have T3 := hide (T2.out.trans t3)
    have A3 := hide a3
    refine hK1.out _ _ (fun _ => KT.out _ T3.out) (fun _ => ?_)
    clear hK1 K1 t3 a3 hH
    refine T_done (by kernel_rfl) ?_ _
    have H3 := hide (H2.out.turn HQ.out T3.out A3.out)
    have X3 := hide ((T3.out.oth _ (lt_of_blk XB.out.2) XB.out.1).trans XB.out.2)
    have row := H3.out.ch.row o true
    rw [EC.out] at row
    have hrl : (rowL W.ss W.rs o true).length = k := HK.out.symm
    rw [hrl] at row
    have PU := hide (fun ty => push_any (TS := 23) Tryd.underlying23 HK.out (by have := hlr; rw [← HK.out]; omega) row H3.out.bel.size (i : Nat) ty)
    have c1 := blk_cell X3.out 1 _ rfl
    clear hrl row
    go_upto_region 6 with (first | (at_builtin; refine wpList_appG (TS := 23) (.tmp 49) (.tmp 51) _ _ _ PU.out rfl rfl rfl rfl ?_; rintro u w9 ⟨⟨a9, c9, rfl⟩, o9, g9, l9⟩; have xb := (g9.block w1.heap.size (lt_of_blk X3.out) (fun e => by have row2 := H3.out.ch.row o true; rw [EC.out] at row2; exact own_at row2 X3.out (by decide) e.symm)).trans X3.out; have k9 := blk_cell xb 1 _ rfl; have f9 := blk_frz xb 1; have O9 := hide o9; have G9 := hide g9; have L9 := hide l9; have XB9 := hide xb; clear o9 g9 l9 xb))
    have TN := hide (Tn.set (w := w9) (b := w1.heap.size) (o := 1) (n := 1) 1 (by omega) (by omega) (.slice a9 (k + 1) c9))
    have E9 := hide (heap_setCell_same w9 w1.heap.size 1 _ _ (.slice a9 (k + 1) c9) XB9.out)
    have lk1 : (W.rs o ++ [(i : Int)]).length = k + 1 := by simp [HK.out]
    obtain ⟨wB, hrun, HB⟩ := H3.out.putCh (by unfold maxLen; omega) HO.out true (u := .slice a9 (k + 1) c9) (l := W.rs o ++ [(i : Int)]) (w1 := w9) (w2 := (w9.setCell ⟨w1.heap.size, 1, none⟩ (.slice a9 (k + 1) c9)).drew) (by rw [EC.out]; exact G9.out) (by rw [lk1]; exact O9.out) (by rw [EC.out]; exact L9.out) X3.out HX.out TN.out.drew
    have eU : upS v o true (.slice a9 (k + 1) c9) o false = .slice (some ⟨bS, 0, none⟩) ls cS := by unfold upS; rw [if_neg (by simp)]; exact ES.out
    have eV : upS v o true (.slice a9 (k + 1) c9) o true = .slice a9 (k + 1) c9 := by unfold upS; rw [if_pos ⟨rfl, rfl⟩]
    rw [eU, eV] at hrun
    have HW := hide HB
    have q68 : (w9.setCell ⟨w1.heap.size, 1, none⟩ (.slice a9 (k + 1) c9)).cell? ⟨bw, 68, none⟩ = some (.map (some bc)) := by
      have b9 := G9.out.block bw H3.out.size.1 (fun e => by have row2 := H3.out.ch.row o true; rw [EC.out] at row2; obtain ⟨c5, h5, _⟩ := H3.out.cells; exact own_at row2 h5 (by decide) e.symm)
      obtain ⟨c5, h5, h6⟩ := H3.out.cells
      exact blk_cell ((TN.out.oth bw (Nat.lt_of_lt_of_le H3.out.size.1 G9.out.size) (Ne.symm XB.out.1)).trans (b9.trans h5)) 68 _ h6.c68
    have e9' := E9.out
    clear c1 k9 f9 HB lk1 eU eV
    refine wp_region_T (S := fun wz => wz.cell? ⟨bw, 68, none⟩ = some (.map (some bc)) ∧ wz.heap[w1.heap.size]? = some (.cells #[.slice (some ⟨bS, 0, none⟩) ls cS, .slice a9 (k + 1) c9] 101 (0, 0))) (fun i => i != 6) mixed ⟨q68, e9'⟩ (fun hH => ?_)
    refine Tm 0 ?_
    simp only [Act.put, SA]
    refine Tm 1 ?_
    simp only [Act.put, SA]
    refine Tm 2 ?_
    simp only [Act.put, SA]
    refine Tl 3 (v := ?_) ?_ hH ?_
    rotate_left 1
    · (intro wy hSw; have q := hSw.1; clear hSw; go_simp <;> with_reducible rfl)
    simp only [Act.put, SA]
    refine Tm 4 ?_
    simp only [Act.put, SA]
    refine Tl 5 (v := ?_) ?_ hH ?_
    rotate_left 1
    · (intro wy hSw; refine exec_load_row 101 (.tmp 8) ?_ w1.heap.size ?_ _ #[.slice (some ⟨bS, 0, none⟩) ls cS, .slice a9 (k + 1) c9] _ _ hSw.2 Tryd.underlying101 rfl (by kernel_rfl) <;> rfl)
    simp only [Act.put, SA]
    refine Tr 6 (fun K1 hK1 => ?_)
    go_simp
    refine hK1.out _ _ (fun h => absurd h (by decide)) (fun _ => ?_)
    clear hK1 K1 hH hrun q68 e9'
    refine T_done (by kernel_rfl) ?_ _
    go_wp2_with fail
    go_end0
    rw [e9.out]
    exact ⟨rfl, _, HW.out⟩
  · have e9 : Hid (res = { W with gos := W.gos, rs := up W.rs o (W.rs o ++ [(i : Int)]) }) := hide (by rw [TR.out, if_neg hc])
    have z20 := blk_cell Z2.out 0 _ rfl
    have z21 := blk_cell Z2.out 1 _ rfl
    have nX : w1.heap.size ≠ bw := by have := HS1.out; omega
    have XB := hide (And.intro nX Z2.out)
    clear nX
    by_cases h0 : rm = 0
    · have hkl : ¬ k < ls := fun q => hc ⟨h0, q⟩
      subst h0
      clear TR hR hc
      go_upto_region 5 with (first | (go_at_call 58; refine RM2.out.mono ?_; rintro e wz ⟨rfl, rfl⟩))
      have H3 := hide (H2.out)
      have X3 := hide (XB.out.2)
      have row := H3.out.ch.row o true
      rw [EC.out] at row
      have hrl : (rowL W.ss W.rs o true).length = k := HK.out.symm
      rw [hrl] at row
      have PU := hide (fun ty => push_any (TS := 23) Tryd.underlying23 HK.out (by have := hlr; rw [← HK.out]; omega) row H3.out.bel.size (i : Nat) ty)
      have c1 := blk_cell X3.out 1 _ rfl
      clear hrl row
      go_upto_region 6 with (first | (at_builtin; refine wpList_appG (TS := 23) (.tmp 49) (.tmp 51) _ _ _ PU.out rfl rfl rfl rfl ?_; rintro u w9 ⟨⟨a9, c9, rfl⟩, o9, g9, l9⟩; have xb := (g9.block w1.heap.size (lt_of_blk X3.out) (fun e => by have row2 := H3.out.ch.row o true; rw [EC.out] at row2; exact own_at row2 X3.out (by decide) e.symm)).trans X3.out; have k9 := blk_cell xb 1 _ rfl; have f9 := blk_frz xb 1; have O9 := hide o9; have G9 := hide g9; have L9 := hide l9; have XB9 := hide xb; clear o9 g9 l9 xb))
      have TN := hide (Tn.set (w := w9) (b := w1.heap.size) (o := 1) (n := 1) 1 (by omega) (by omega) (.slice a9 (k + 1) c9))
      have E9 := hide (heap_setCell_same w9 w1.heap.size 1 _ _ (.slice a9 (k + 1) c9) XB9.out)
      have lk1 : (W.rs o ++ [(i : Int)]).length = k + 1 := by simp [HK.out]
      obtain ⟨wB, hrun, HB⟩ := H3.out.putCh (by unfold maxLen; omega) HO.out true (u := .slice a9 (k + 1) c9) (l := W.rs o ++ [(i : Int)]) (w1 := w9) (w2 := (w9.setCell ⟨w1.heap.size, 1, none⟩ (.slice a9 (k + 1) c9)).drew) (by rw [EC.out]; exact G9.out) (by rw [lk1]; exact O9.out) (by rw [EC.out]; exact L9.out) X3.out HX.out TN.out.drew
      have eU : upS v o true (.slice a9 (k + 1) c9) o false = .slice aS ls cS := by unfold upS; rw [if_neg (by simp)]; exact ES.out
      have eV : upS v o true (.slice a9 (k + 1) c9) o true = .slice a9 (k + 1) c9 := by unfold upS; rw [if_pos ⟨rfl, rfl⟩]
      rw [eU, eV] at hrun
      have HW := hide HB
      have q68 : (w9.setCell ⟨w1.heap.size, 1, none⟩ (.slice a9 (k + 1) c9)).cell? ⟨bw, 68, none⟩ = some (.map (some bc)) := by
        have b9 := G9.out.block bw H3.out.size.1 (fun e => by have row2 := H3.out.ch.row o true; rw [EC.out] at row2; obtain ⟨c5, h5, _⟩ := H3.out.cells; exact own_at row2 h5 (by decide) e.symm)
        obtain ⟨c5, h5, h6⟩ := H3.out.cells
        exact blk_cell ((TN.out.oth bw (Nat.lt_of_lt_of_le H3.out.size.1 G9.out.size) (Ne.symm XB.out.1)).trans (b9.trans h5)) 68 _ h6.c68
      have e9' := E9.out
      clear c1 k9 f9 HB lk1 eU eV
      refine wp_region_T (S := fun wz => wz.cell? ⟨bw, 68, none⟩ = some (.map (some bc)) ∧ wz.heap[w1.heap.size]? = some (.cells #[.slice aS ls cS, .slice a9 (k + 1) c9] 101 (0, 0))) (fun i => i != 6) mixed ⟨q68, e9'⟩ (fun hH => ?_)
      refine Tm 0 ?_
      simp only [Act.put, SA]
      refine Tm 1 ?_
      simp only [Act.put, SA]
      refine Tm 2 ?_
      simp only [Act.put, SA]
      refine Tl 3 (v := ?_) ?_ hH ?_
      rotate_left 1
      · (intro wy hSw; have q := hSw.1; clear hSw; go_simp <;> with_reducible rfl)
      simp only [Act.put, SA]
      refine Tm 4 ?_
      simp only [Act.put, SA]
      refine Tl 5 (v := ?_) ?_ hH ?_
      rotate_left 1
      · (intro wy hSw; refine exec_load_row 101 (.tmp 8) ?_ w1.heap.size ?_ _ #[.slice aS ls cS, .slice a9 (k + 1) c9] _ _ hSw.2 Tryd.underlying101 rfl (by kernel_rfl) <;> rfl)
      simp only [Act.put, SA]
      refine Tr 6 (fun K1 hK1 => ?_)
      go_simp
      refine hK1.out _ _ (fun h => absurd h (by decide)) (fun _ => ?_)
      clear hK1 K1 hH hrun q68 e9'
      refine T_done (by kernel_rfl) ?_ _
      go_wp2_with fail
      go_end0
      rw [e9.out]
      exact ⟨rfl, _, HW.out⟩
    · have h0' : (rm == 0) = false := by simpa using h0
      clear TR hR hc
      go_upto_region 5 with (first | (go_at_call 58; refine RM2.out.mono ?_; rintro e wz ⟨rfl, rfl⟩))
      have H3 := hide (H2.out)
      have X3 := hide (XB.out.2)
      have row := H3.out.ch.row o true
      rw [EC.out] at row
      have hrl : (rowL W.ss W.rs o true).length = k := HK.out.symm
      rw [hrl] at row
      have PU := hide (fun ty => push_any (TS := 23) Tryd.underlying23 HK.out (by have := hlr; rw [← HK.out]; omega) row H3.out.bel.size (i : Nat) ty)
      have c1 := blk_cell X3.out 1 _ rfl
      clear hrl row
      go_upto_region 6 with (first | (at_builtin; refine wpList_appG (TS := 23) (.tmp 49) (.tmp 51) _ _ _ PU.out rfl rfl rfl rfl ?_; rintro u w9 ⟨⟨a9, c9, rfl⟩, o9, g9, l9⟩; have xb := (g9.block w1.heap.size (lt_of_blk X3.out) (fun e => by have row2 := H3.out.ch.row o true; rw [EC.out] at row2; exact own_at row2 X3.out (by decide) e.symm)).trans X3.out; have k9 := blk_cell xb 1 _ rfl; have f9 := blk_frz xb 1; have O9 := hide o9; have G9 := hide g9; have L9 := hide l9; have XB9 := hide xb; clear o9 g9 l9 xb))
      have TN := hide (Tn.set (w := w9) (b := w1.heap.size) (o := 1) (n := 1) 1 (by omega) (by omega) (.slice a9 (k + 1) c9))
      have E9 := hide (heap_setCell_same w9 w1.heap.size 1 _ _ (.slice a9 (k + 1) c9) XB9.out)
      have lk1 : (W.rs o ++ [(i : Int)]).length = k + 1 := by simp [HK.out]
      obtain ⟨wB, hrun, HB⟩ := H3.out.putCh (by unfold maxLen; omega) HO.out true (u := .slice a9 (k + 1) c9) (l := W.rs o ++ [(i : Int)]) (w1 := w9) (w2 := (w9.setCell ⟨w1.heap.size, 1, none⟩ (.slice a9 (k + 1) c9)).drew) (by rw [EC.out]; exact G9.out) (by rw [lk1]; exact O9.out) (by rw [EC.out]; exact L9.out) X3.out HX.out TN.out.drew
      have eU : upS v o true (.slice a9 (k + 1) c9) o false = .slice aS ls cS := by unfold upS; rw [if_neg (by simp)]; exact ES.out
      have eV : upS v o true (.slice a9 (k + 1) c9) o true = .slice a9 (k + 1) c9 := by unfold upS; rw [if_pos ⟨rfl, rfl⟩]
      rw [eU, eV] at hrun
      have HW := hide HB
      have q68 : (w9.setCell ⟨w1.heap.size, 1, none⟩ (.slice a9 (k + 1) c9)).cell? ⟨bw, 68, none⟩ = some (.map (some bc)) := by
        have b9 := G9.out.block bw H3.out.size.1 (fun e => by have row2 := H3.out.ch.row o true; rw [EC.out] at row2; obtain ⟨c5, h5, _⟩ := H3.out.cells; exact own_at row2 h5 (by decide) e.symm)
        obtain ⟨c5, h5, h6⟩ := H3.out.cells
        exact blk_cell ((TN.out.oth bw (Nat.lt_of_lt_of_le H3.out.size.1 G9.out.size) (Ne.symm XB.out.1)).trans (b9.trans h5)) 68 _ h6.c68
      have e9' := E9.out
      clear c1 k9 f9 HB lk1 eU eV
      refine wp_region_T (S := fun wz => wz.cell? ⟨bw, 68, none⟩ = some (.map (some bc)) ∧ wz.heap[w1.heap.size]? = some (.cells #[.slice aS ls cS, .slice a9 (k + 1) c9] 101 (0, 0))) (fun i => i != 6) mixed ⟨q68, e9'⟩ (fun hH => ?_)
      refine Tm 0 ?_
      simp only [Act.put, SA]
      refine Tm 1 ?_
      simp only [Act.put, SA]
      refine Tm 2 ?_
      simp only [Act.put, SA]
      refine Tl 3 (v := ?_) ?_ hH ?_
      rotate_left 1
      · (intro wy hSw; have q := hSw.1; clear hSw; go_simp <;> with_reducible rfl)
      simp only [Act.put, SA]
      refine Tm 4 ?_
      simp only [Act.put, SA]
      refine Tl 5 (v := ?_) ?_ hH ?_
      rotate_left 1
      · (intro wy hSw; refine exec_load_row 101 (.tmp 8) ?_ w1.heap.size ?_ _ #[.slice aS ls cS, .slice a9 (k + 1) c9] _ _ hSw.2 Tryd.underlying101 rfl (by kernel_rfl) <;> rfl)
      simp only [Act.put, SA]
      refine Tr 6 (fun K1 hK1 => ?_)
      go_simp
      refine hK1.out _ _ (fun h => absurd h (by decide)) (fun _ => ?_)
      clear hK1 K1 hH hrun q68 e9'
      refine T_done (by kernel_rfl) ?_ _
      go_wp2_with fail
      go_end0
      rw [e9.out]
      exact ⟨rfl, _, HW.out⟩
end Go.Proofs.YticgmebbnnmikaaDoor.Ck
