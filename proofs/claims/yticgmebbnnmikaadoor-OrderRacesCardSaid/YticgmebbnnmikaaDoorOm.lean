/- Package order: what an event learns of channels (walk.learnSend, learnRecv). (Written by mk_o.py.) -/
import Derived.Test.YticgmebbnnmikaaDoorOl
namespace Go.Proofs.YticgmebbnnmikaaDoor.Ck
open Go.RowKit

/-- a call that turns what one goroutine knows -/
def Jn (w : World) (bw g : Nat) (s : Sn) (e : Ending) (w' : World) : Prop := e = .returned (.tuple #[]) ∧ Tn w w' bw (2 + g * 8) 8 ∧ Ar w' bw (2 + g * 8) s
theorem exec_load_mid {P : Program} {a : Act} {op : Oper} {w : World} (ty : TypeId) (x : Operand) (ho : op.op = .load ty x) (b o : Nat) (hx : a.eval x = .pointer (some ⟨b, o, none⟩)) (cs : List Value) (d : TypeDesc) (hc : w.rangeAt b o cs)
    (hu : P.underlying ty = some d) (hd : d.isRow = true) (hi : (P.info? ty).map (·.size) = some cs.length) : (execOp a.eval op).run P w = .ok (.value (.agg cs.toArray)) w := by
  unfold execOp
  simp only [ho, hx, Instr.loadAt, Instr.sureAddr, Sem.run_bind, Sem.run_pure, Result.andThen_ok, run_loadVar_mid w b o ty cs d hc hu hd hi]
theorem seen_len (s : Sn) : (Tryd.prog.info? 58).map (·.size) = some (snC s).length := by
  rw [show (snC s).length = 8 from rfl]
  kernel_rfl
theorem snC_at (s : Sn) (j : Nat) (hj : j < 8) : (snC s)[j]? = some (.int .i64 (s j)) := by
  rcases (by omega : j = 0 ∨ j = 1 ∨ j = 2 ∨ j = 3 ∨ j = 4 ∨ j = 5 ∨ j = 6 ∨ j = 7) with rfl | rfl | rfl | rfl | rfl | rfl | rfl | rfl <;> rfl
theorem flat_len (ps : List Sn) : (ps.flatMap snC).length = ps.length * 8 := by
  induction ps with
  | nil => rfl
  | cons p ps ih => simp only [List.flatMap_cons, List.length_append, ih, List.length_cons, show (snC p).length = 8 from rfl]; omega
theorem flat_at : ∀ (ps : List Sn) (i j : Nat), i < ps.length → j < 8 → (ps.flatMap snC)[i * 8 + j]? = some (.int .i64 (ps.getD i sn0 j))
  | [], _, _, h, _ => absurd h (Nat.not_lt_zero _)
  | p :: ps, 0, j, _, hj => by
    rw [List.flatMap_cons, List.getElem?_append_left (by rw [show (snC p).length = 8 from rfl]; omega), Nat.zero_mul, Nat.zero_add]
    exact snC_at p j hj
  | p :: ps, i + 1, j, h, hj => by
    rw [List.flatMap_cons, List.getElem?_append_right (by rw [show (snC p).length = 8 from rfl]; omega), show (i + 1) * 8 + j - (snC p).length = i * 8 + j by rw [show (snC p).length = 8 from rfl]; omega]
    exact flat_at ps i j (by simpa using h) hj
/-- one row of what events know, where it lies -/
theorem past_at {w : World} {B : Nat} {a : Option Addr} {m c : Nat} {ps : List Sn} (h : w.ownsRow B 58 8 (.slice a m c) ps.length (ps.flatMap snC)) (i : Nat) (hi : i < ps.length) : ∃ b, a = some ⟨b, 0, none⟩ ∧ B ≤ b ∧ b < w.heap.size ∧ (∃ cs, w.heap[b]? = some (.cells cs 58 (0, 0))) ∧ w.rangeAt b (i * 8) (snC (ps.getD i sn0)) := by
  obtain ⟨b, c', e, _⟩ := own_some h (by omega)
  injection e with e _ _
  subst e
  obtain ⟨h1, h2, h3⟩ := own_type h (k := b) rfl
  refine ⟨b, rfl, h1, h2, h3, fun j u hu => ?_⟩
  have hj : j < 8 := (List.getElem?_eq_some_iff.1 hu).1
  rw [snC_at _ j hj] at hu
  have hu' := Option.some.inj hu
  subst hu'
  exact (own_cell h _ _ (flat_at ps i j hi hj)).1
theorem Tn.keep {w w' : World} {b o n : Nat} (t : Tn w w' b o n) {a i : Nat} {u : Value} (h : w.cell? ⟨a, i, none⟩ = some u) (hne : a ≠ b) : w'.cell? ⟨a, i, none⟩ = some u := by
  have e := t.oth a (World.block_lt_of_cell? w _ h) hne
  unfold World.cell? at h ⊢
  simp only [e]
  exact h
theorem Tn.keepIn {w w' : World} {b o n i : Nat} (t : Tn w w' b o n) {cs : Array Value} {T : TypeId} (hb : w.heap[b]? = some (.cells cs T (0, 0))) {u : Value} (h : cs[i]? = some u) (hne : i < o ∨ o + n ≤ i) : w'.cell? ⟨b, i, none⟩ = some u := by
  obtain ⟨cs', h1, h2, h3⟩ := t.blk cs T hb
  exact blk_cell h1 _ _ ((h3 i hne).trans h)
theorem roomM_in {R : List Int} (h : Fits R) (o : Int) : 0 ≤ roomM R o ∧ roomM R o ≤ 9223372036854775807 := by
  unfold roomM
  split
  · omega
  · rename_i hn
    have hm : R.getD o.toNat 0 ∈ R := by
      rw [List.getD_eq_getElem?_getD, List.getElem?_eq_getElem (by omega)]
      exact List.getElem_mem _
    have := h _ hm
    omega
set_option maxRecDepth 20000 in
set_option maxHeartbeats 2000000 in
theorem learnSend_any {w0 w : World} {bw bm ba bc : Nat} {vT vR vP : Value} {T : List Ev} {R : List Int} {W : Wk} {n N : Nat} {v : Int → Bool → Value} (h : WkM w0 w bw bm ba bc vT vR vP T R W n v) (ok : WkOk W N) (hN : N ≤ 100000) {g : Nat} (hg : g < 8) {o : Int} (ho : wfI o) : Calls Tryd.prog 48 #[.pointer (some ⟨bw, 0, none⟩), .pointer (some ⟨bw, 2 + g * 8, none⟩), .int .i64 o] w (Jn w bw g (learnS R W (W.gos g) o)) := by
  obtain ⟨q0, q1, q66, q67, q68, q69⟩ := h.cell
  obtain ⟨aR, cR, eR, _, _⟩ := h.rm.form
  have RM := hide (room_any q1 (h.rm.bel h.bel) o)
  obtain ⟨aS, cS, eS, _, _⟩ := own_slice (h.ch.row o false)
  obtain ⟨aC, cC, eC, _, _⟩ := own_slice (h.ch.row o true)
  have LK := h.ch.look ho
  rw [eS, eC] at LK
  have hS : (rowL W.ss W.rs o false).length = (W.ss o).length := rfl
  have hC : (rowL W.ss W.rs o true).length = (W.rs o).length := rfl
  rw [hS, hC] at LK
  have hR := roomM_in h.rm.fits o
  obtain ⟨rm, hrm⟩ : ∃ q, q = roomM R o := ⟨_, rfl⟩
  rw [← hrm] at RM hR
  obtain ⟨d, hd⟩ : ∃ q, q = wrap64 (((W.ss o).length : Int) - rm) := ⟨_, rfl⟩
  have hls := ok.ls o
  have HD : Hid (d = ((W.ss o).length : Int) - rm) := hide (by rw [hd]; unfold wrap64; omega)
  have HL : Hid (learnS R W (W.gos g) o = if rm = 0 then W.gos g else if 0 ≤ d ∧ d < (W.rs o).length then jn (W.gos g) (pastAt W ((W.rs o).getD d.toNat 0)) else W.gos g) := hide (by rw [HD.out, hrm]; rfl)
  have A0 := hide (h.arr hg)
  have H0 := hide h
  have OK := hide ok
  generalize learnS R W (W.gos g) o = res at *
  generalize hsl : (W.ss o).length = ls at *
  have hwd := hd.symm
  have LR := hide (ok.lr o)
  have RI := hide (fun k (hk : k < (W.rs o).length) => (show 0 ≤ (W.rs o).getD k 0 ∧ (W.rs o).getD k 0 < W.past.length from by
    rw [ok.past]
    refine ok.rs o _ ?_
    rw [List.getD_eq_getElem?_getD, List.getElem?_eq_getElem hk]
    exact List.getElem_mem _))
  generalize hcl : (W.rs o).length = lc at *
  have HCL := hide hcl
  have AE := hide eC
  clear h ok hrm hls hS hC hN ho hd hcl eS eC
  go_enter Tryd.func48, Tryd.ntmps48
  go_wp2_with fail
  refine RM.out.mono ?_
  rintro e w1 ⟨rfl, rfl⟩
  by_cases h0 : rm = 0
  · subst h0
    have e9 : Hid (res = W.gos g) := hide (by rw [HL.out, if_pos rfl])
    clear LK hwd hR
    go_wp2_with fail
    refine bodyPost_ret (results_none rfl _ _ _) rfl ?_
    rw [e9.out]
    exact ⟨rfl, Tn.refl _ _ _ _, A0.out⟩
  · have h0' : (rm == 0) = false := by simpa using h0
    have B2 := hide (bel_new w (.cells #[.slice aS ls cS, .slice aC lc cC] 101))
    by_cases h1 : 0 ≤ d
    · by_cases h2 : d < (lc : Int)
      · obtain ⟨k, rfl⟩ : ∃ k : Nat, d = k := ⟨d.toNat, by omega⟩
        have hk : k < lc := by omega
        have e9 : Hid (res = jn (W.gos g) (pastAt W ((W.rs o).getD k 0))) := hide (by rw [HL.out, if_neg h0, if_pos ⟨h1, h2⟩, Int.toNat_natCast])
        go_upto_region 5 with fail
        rw [hwd]
        have Z2 := hide (Go.Deep.blk_alloc_new w (.cells #[.slice aS ls cS, .slice aC lc cC] 101))
        generalize w.alloc (.cells #[.slice aS ls cS, .slice aC lc cC] 101) = w2 at *
        have H2 := hide (H0.out.below B2.out)
        obtain ⟨x, hx⟩ : ∃ x : Int, x = (W.rs o).getD k 0 := ⟨_, rfl⟩
        have hxi := RI.out k hk
        rw [← hx] at e9 hxi
        obtain ⟨j, rfl⟩ : ∃ j : Nat, x = j := ⟨x.toNat, by omega⟩
        have hj : j < W.past.length := by omega
        have rowC := H2.out.ch.row o true
        rw [AE.out] at rowC
        obtain ⟨bC, cC', e1, _⟩ := own_some rowC (by show 0 < (W.rs o).length; rw [HCL.out]; omega)
        injection e1 with e1 _ _
        subst e1
        have hcell := (own_cell rowC k (.int .i64 (j : Nat)) (nts_at (by show (W.rs o)[k]? = _; rw [hx, List.getD_eq_getElem?_getD, List.getElem?_eq_getElem (by rw [HCL.out]; omega)]; rfl))).1
        obtain ⟨aP, cP, eP, _⟩ := own_slice H2.out.pa
        have pa2 := H2.out.pa
        rw [eP] at pa2
        obtain ⟨bP, eP', _, hbP, ⟨csP, hcP⟩, hrange⟩ := past_at pa2 j hj
        subst eP'
        obtain ⟨csw, hw1, hw2⟩ := H2.out.cells
        have c69 := hw2.c69
        rw [eP] at c69
        have nC : bC ≠ bw := fun e => own_at rowC hw1 (by decide) (by rw [e]; rfl)
        have nP : bP ≠ bw := fun e => by rw [e, hw1] at hcP; injection hcP with hcP; injection hcP with _ q _; revert q; decide
        have nB : w.heap.size ≠ bw := by have := H0.out.size.1; omega
        have hz1 := blk_cell Z2.out 1 _ rfl
        have KT := hide (fun wz (t : Tn w2 wz bw (2 + g * 8) 8) => (show wz.cell? ⟨bw, 69, none⟩ = some (.slice (some ⟨bP, 0, none⟩) W.past.length cP) ∧ wz.cell? ⟨w.heap.size, 1, none⟩ = some (.slice (some ⟨bC, 0, none⟩) lc cC) ∧ wz.cell? ⟨bC, k, none⟩ = some (.int .i64 (j : Nat)) ∧ wz.rangeAt bP (j * 8) (snC (W.past.getD j sn0)) from
          ⟨t.keepIn hw1 c69 (by omega), t.keep hz1 nB, t.keep hcell nC, fun i u hu => t.keep (hrange i u hu) nP⟩))
        have J := hide (fun wz (t : Tn w2 wz bw (2 + g * 8) 8) (a : Ar wz bw (2 + g * 8) (W.gos g)) => join_any (t := W.past.getD j sn0) a)
        have A2 := hide (A0.out.bel B2.out)
        have T2 := hide (show Tn w2 w2.drew bw (2 + g * 8) 8 from (Tn.refl _ _ _ _).drew)
        have PE : Hid (pastAt W (j : Nat) = W.past.getD j sn0) := hide (by unfold pastAt; rw [Int.toNat_natCast])
        rw [PE.out] at e9
        have hjP : (j : Int) < (W.past.length : Int) := by omega
        have SZ := hide H0.out.size.1
        generalize W.past.getD j sn0 = sj at *
        generalize W.past.length = lp at *
        clear H2 H0 hx hxi hj rowC hcell pa2 hrange hw1 hw2 c69 hcP eP nC nP nB hz1 RI HL LK hwd HD OK hR h0 h1 AE HCL LR PE q0 q1 q66 q67 q68 q69 h0' h2
        refine wp_region_T (S := fun wz => wz.cell? ⟨bw, 69, none⟩ = some (.slice (some ⟨bP, 0, none⟩) lp cP) ∧ wz.cell? ⟨w.heap.size, 1, none⟩ = some (.slice (some ⟨bC, 0, none⟩) lc cC) ∧ wz.cell? ⟨bC, k, none⟩ = some (.int .i64 (j : Nat)) ∧ wz.rangeAt bP (j * 8) (snC sj)) (fun _ => true) mixed (KT.out _ T2.out) (fun hH => ?_)
        refine Tm 0 ?_
        simp only [Act.put, SA]
        refine Tm 1 ?_
        simp only [Act.put, SA]
        refine Tm 2 ?_
        simp only [Act.put, SA]
        refine Tm 3 ?_
        simp only [Act.put, SA]
        refine Tl 4 (v := ?_) ?_ hH ?_
        rotate_left 1
        · (intro wy hSw; have q := hSw.1; clear hSw; go_simp <;> with_reducible rfl)
        simp only [Act.put, SA]
        refine Tm 5 ?_
        simp only [Act.put, SA]
        refine Tl 6 (v := ?_) ?_ hH ?_
        rotate_left 1
        · (intro wy hSw; have q := hSw.2.1; clear hSw; go_simp <;> with_reducible rfl)
        simp only [Act.put, SA]
        refine Tm 7 ?_
        simp only [Act.put, SA]
        refine Tm 8 ?_
        simp only [Act.put, SA]
        refine Tl 9 (v := ?_) ?_ hH ?_
        rotate_left 1
        · (intro wy hSw; have q := hSw.2.2.1; clear hSw; go_simp <;> with_reducible rfl)
        simp only [Act.put, SA]
        refine Tm 10 ?_
        simp only [Act.put, SA]
        refine Tl 11 (v := ?_) ?_ hH ?_
        rotate_left 1
        · (intro wy hSw; refine exec_load_mid 58 (.tmp 44) ?_ bP (j * 8) ?_ (snC sj) _ hSw.2.2.2 Tryd.underlying58 rfl (seen_len sj) <;> rfl)
        simp only [Act.put, SA]
        refine Tr 12 (fun K1 hK1 => ?_)
        go_simp
        refine (J.out _ T2.out A2.out).mono ?_
        rintro e w3 ⟨rfl, t3, a3⟩
        have T3 := hide (T2.out.trans t3)
        refine hK1.out _ _ (fun _ => KT.out _ T3.out) (fun _ => ?_)
        clear hK1 K1 t3 hH
        refine T_done (by kernel_rfl) ?_ _
        go_wp2_with fail
        go_end0
        rw [e9.out]
        exact ⟨rfl, ((Tn.of_bel SZ.out B2.out).trans T3.out), a3⟩
      · have e9 : Hid (res = W.gos g) := hide (by rw [HL.out, if_neg h0, if_neg (fun q => h2 q.2)])
        go_wp2_with fail
        go_end0
        rw [e9.out]
        exact ⟨rfl, Tn.of_bel H0.out.size.1 B2.out, A0.out.bel B2.out⟩
    · have e9 : Hid (res = W.gos g) := hide (by rw [HL.out, if_neg h0, if_neg (fun q => h1 q.1)])
      go_wp2_with fail
      go_end0
      rw [e9.out]
      exact ⟨rfl, Tn.of_bel H0.out.size.1 B2.out, A0.out.bel B2.out⟩
set_option maxRecDepth 20000 in
set_option maxHeartbeats 2000000 in
theorem learnRecv_any {w0 w : World} {bw bm ba bc : Nat} {vT vR vP : Value} {T : List Ev} {R : List Int} {W : Wk} {n N : Nat} {v : Int → Bool → Value} (h : WkM w0 w bw bm ba bc vT vR vP T R W n v) (ok : WkOk W N) {g : Nat} (hg : g < 8) {o : Int} (ho : wfI o) : Calls Tryd.prog 49 #[.pointer (some ⟨bw, 0, none⟩), .pointer (some ⟨bw, 2 + g * 8, none⟩), .int .i64 o] w (Jn w bw g (learnR W (W.gos g) o)) := by
  obtain ⟨q0, q1, q66, q67, q68, q69⟩ := h.cell
  obtain ⟨aS, cS, eS, _, _⟩ := own_slice (h.ch.row o false)
  obtain ⟨aC, cC, eC, _, _⟩ := own_slice (h.ch.row o true)
  have LK := h.ch.look ho
  rw [eS, eC] at LK
  have hS : (rowL W.ss W.rs o false).length = (W.ss o).length := rfl
  have hC : (rowL W.ss W.rs o true).length = (W.rs o).length := rfl
  rw [hS, hC] at LK
  have hls := ok.ls o
  have HL : Hid (learnR W (W.gos g) o = if (W.rs o).length < (W.ss o).length then jn (W.gos g) (pastAt W ((W.ss o).getD (W.rs o).length 0)) else W.gos g) := hide rfl
  have A0 := hide (h.arr hg)
  have H0 := hide h
  have RI := hide (fun k (hk : k < (W.ss o).length) => (show 0 ≤ (W.ss o).getD k 0 ∧ (W.ss o).getD k 0 < W.past.length from by
    rw [ok.past]
    refine ok.ss o _ ?_
    rw [List.getD_eq_getElem?_getD, List.getElem?_eq_getElem hk]
    exact List.getElem_mem _))
  generalize learnR W (W.gos g) o = res at *
  generalize hsl : (W.ss o).length = ls at *
  generalize hcl : (W.rs o).length = k at *
  have HSL := hide hsl
  have AE := hide eS
  clear h ok hls hS hC ho hcl eS eC hsl
  have B2 := hide (bel_new w (.cells #[.slice aS ls cS, .slice aC k cC] 101))
  go_enter Tryd.func49, Tryd.ntmps49
  by_cases hk : k < ls
  · have hk' : (k : Int) < (ls : Int) := by omega
    have e9 : Hid (res = jn (W.gos g) (pastAt W ((W.ss o).getD k 0))) := hide (by rw [HL.out, if_pos hk])
    go_upto_region 3 with fail
    have Z2 := hide (Go.Deep.blk_alloc_new w (.cells #[.slice aS ls cS, .slice aC k cC] 101))
    generalize w.alloc (.cells #[.slice aS ls cS, .slice aC k cC] 101) = w2 at *
    have H2 := hide (H0.out.below B2.out)
    obtain ⟨x, hx⟩ : ∃ x : Int, x = (W.ss o).getD k 0 := ⟨_, rfl⟩
    have hxi := RI.out k hk
    rw [← hx] at e9 hxi
    obtain ⟨j, rfl⟩ : ∃ j : Nat, x = j := ⟨x.toNat, by omega⟩
    have hj : j < W.past.length := by omega
    have rowC := H2.out.ch.row o false
    rw [AE.out] at rowC
    obtain ⟨bC, cC', e1, _⟩ := own_some rowC (by show 0 < (W.ss o).length; rw [HSL.out]; omega)
    injection e1 with e1 _ _
    subst e1
    have hcell := (own_cell rowC k (.int .i64 (j : Nat)) (nts_at (by show (W.ss o)[k]? = _; rw [hx, List.getD_eq_getElem?_getD, List.getElem?_eq_getElem (by rw [HSL.out]; omega)]; rfl))).1
    obtain ⟨aP, cP, eP, _⟩ := own_slice H2.out.pa
    have pa2 := H2.out.pa
    rw [eP] at pa2
    obtain ⟨bP, eP', _, hbP, ⟨csP, hcP⟩, hrange⟩ := past_at pa2 j hj
    subst eP'
    obtain ⟨csw, hw1, hw2⟩ := H2.out.cells
    have c69 := hw2.c69
    rw [eP] at c69
    have nC : bC ≠ bw := fun e => own_at rowC hw1 (by decide) (by rw [e]; rfl)
    have nP : bP ≠ bw := fun e => by rw [e, hw1] at hcP; injection hcP with hcP; injection hcP with _ q _; revert q; decide
    have nB : w.heap.size ≠ bw := by have := H0.out.size.1; omega
    have hz1 := blk_cell Z2.out 0 _ rfl
    have KT := hide (fun wz (t : Tn w2 wz bw (2 + g * 8) 8) => (show wz.cell? ⟨bw, 69, none⟩ = some (.slice (some ⟨bP, 0, none⟩) W.past.length cP) ∧ wz.cell? ⟨w.heap.size, 0, none⟩ = some (.slice (some ⟨bC, 0, none⟩) ls cS) ∧ wz.cell? ⟨bC, k, none⟩ = some (.int .i64 (j : Nat)) ∧ wz.rangeAt bP (j * 8) (snC (W.past.getD j sn0)) from
      ⟨t.keepIn hw1 c69 (by omega), t.keep hz1 nB, t.keep hcell nC, fun i u hu => t.keep (hrange i u hu) nP⟩))
    have J := hide (fun wz (t : Tn w2 wz bw (2 + g * 8) 8) (a : Ar wz bw (2 + g * 8) (W.gos g)) => join_any (t := W.past.getD j sn0) a)
    have A2 := hide (A0.out.bel B2.out)
    have T2 := hide (show Tn w2 w2.drew bw (2 + g * 8) 8 from (Tn.refl _ _ _ _).drew)
    have PE : Hid (pastAt W (j : Nat) = W.past.getD j sn0) := hide (by unfold pastAt; rw [Int.toNat_natCast])
    rw [PE.out] at e9
    have hjP : (j : Int) < (W.past.length : Int) := by omega
    have SZ := hide H0.out.size.1
    generalize W.past.getD j sn0 = sj at *
    generalize W.past.length = lp at *
    clear H2 H0 hx hxi hj rowC hcell pa2 hrange hw1 hw2 c69 hcP eP nC nP nB hz1 RI HL LK AE HSL PE q0 q1 q66 q67 q68 q69
    refine wp_region_T (S := fun wz => wz.cell? ⟨bw, 69, none⟩ = some (.slice (some ⟨bP, 0, none⟩) lp cP) ∧ wz.cell? ⟨w.heap.size, 0, none⟩ = some (.slice (some ⟨bC, 0, none⟩) ls cS) ∧ wz.cell? ⟨bC, k, none⟩ = some (.int .i64 (j : Nat)) ∧ wz.rangeAt bP (j * 8) (snC sj)) (fun _ => true) mixed (KT.out _ T2.out) (fun hH => ?_)
    refine Tm 0 ?_
    simp only [Act.put, SA]
    refine Tm 1 ?_
    simp only [Act.put, SA]
    refine Tm 2 ?_
    simp only [Act.put, SA]
    refine Tm 3 ?_
    simp only [Act.put, SA]
    refine Tl 4 (v := ?_) ?_ hH ?_
    rotate_left 1
    · (intro wy hSw; have q := hSw.1; clear hSw; go_simp <;> with_reducible rfl)
    simp only [Act.put, SA]
    refine Tm 5 ?_
    simp only [Act.put, SA]
    refine Tl 6 (v := ?_) ?_ hH ?_
    rotate_left 1
    · (intro wy hSw; have q := hSw.2.1; clear hSw; go_simp <;> with_reducible rfl)
    simp only [Act.put, SA]
    refine Tm 7 ?_
    simp only [Act.put, SA]
    refine Tm 8 ?_
    simp only [Act.put, SA]
    refine Tl 9 (v := ?_) ?_ hH ?_
    rotate_left 1
    · (intro wy hSw; have q := hSw.2.2.1; clear hSw; go_simp <;> with_reducible rfl)
    simp only [Act.put, SA]
    refine Tm 10 ?_
    simp only [Act.put, SA]
    refine Tl 11 (v := ?_) ?_ hH ?_
    rotate_left 1
    · (intro wy hSw; refine exec_load_mid 58 (.tmp 32) ?_ bP (j * 8) ?_ (snC sj) _ hSw.2.2.2 Tryd.underlying58 rfl (seen_len sj) <;> rfl)
    simp only [Act.put, SA]
    refine Tr 12 (fun K1 hK1 => ?_)
    go_simp
    refine (J.out _ T2.out A2.out).mono ?_
    rintro e w3 ⟨rfl, t3, a3⟩
    have T3 := hide (T2.out.trans t3)
    refine hK1.out _ _ (fun _ => KT.out _ T3.out) (fun _ => ?_)
    clear hK1 K1 t3 hH
    refine T_done (by kernel_rfl) ?_ _
    go_wp2_with fail
    go_end0
    rw [e9.out]
    exact ⟨rfl, ((Tn.of_bel SZ.out B2.out).trans T3.out), a3⟩
  · have e9 : Hid (res = W.gos g) := hide (by rw [HL.out, if_neg hk])
    go_wp2_with fail
    go_end0
    rw [e9.out]
    exact ⟨rfl, Tn.of_bel H0.out.size.1 B2.out, A0.out.bel B2.out⟩
end Go.Proofs.YticgmebbnnmikaaDoor.Ck
