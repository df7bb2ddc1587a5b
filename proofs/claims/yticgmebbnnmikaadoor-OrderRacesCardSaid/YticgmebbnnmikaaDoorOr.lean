/- Package order: what each event knows (pasts). (Written by mk_o.py.) -/
import Derived.Test.YticgmebbnnmikaaDoorOq
import Derived.Carry
namespace Go.Proofs.YticgmebbnnmikaaDoor.Ck
open Go.RowKit

/-- the walk's cells at its start -/
def wkA (vT vR : Value) (bm ba bc bp n : Nat) : Array Value := #[vT, vR, .int .i64 0, .int .i64 0, .int .i64 0, .int .i64 0, .int .i64 0, .int .i64 0, .int .i64 0, .int .i64 0, .int .i64 0, .int .i64 0, .int .i64 0, .int .i64 0, .int .i64 0, .int .i64 0, .int .i64 0, .int .i64 0, .int .i64 0, .int .i64 0, .int .i64 0, .int .i64 0, .int .i64 0, .int .i64 0, .int .i64 0, .int .i64 0, .int .i64 0, .int .i64 0, .int .i64 0, .int .i64 0, .int .i64 0, .int .i64 0, .int .i64 0, .int .i64 0, .int .i64 0, .int .i64 0, .int .i64 0, .int .i64 0, .int .i64 0, .int .i64 0, .int .i64 0, .int .i64 0, .int .i64 0, .int .i64 0, .int .i64 0, .int .i64 0, .int .i64 0, .int .i64 0, .int .i64 0, .int .i64 0, .int .i64 0, .int .i64 0, .int .i64 0, .int .i64 0, .int .i64 0, .int .i64 0, .int .i64 0, .int .i64 0, .int .i64 0, .int .i64 0, .int .i64 0, .int .i64 0, .int .i64 0, .int .i64 0, .int .i64 0, .int .i64 0, .map (some bm), .map (some ba), .map (some bc), .slice (some ⟨bp, 0, none⟩) 0 n]
theorem wkA_gos (vT vR : Value) (bm ba bc bp n g i : Nat) (hg : g < 8) (hi : i < 8) : (wkA vT vR bm ba bc bp n)[2 + g * 8 + i]? = some (.int .i64 0) := by
  rcases (by omega : g = 0 ∨ g = 1 ∨ g = 2 ∨ g = 3 ∨ g = 4 ∨ g = 5 ∨ g = 6 ∨ g = 7) with rfl | rfl | rfl | rfl | rfl | rfl | rfl | rfl <;> rcases (by omega : i = 0 ∨ i = 1 ∨ i = 2 ∨ i = 3 ∨ i = 4 ∨ i = 5 ∨ i = 6 ∨ i = 7) with rfl | rfl | rfl | rfl | rfl | rfl | rfl | rfl <;> rfl
theorem wp_appG {TS : TypeId} {w : World} {o : Oper} {a : Act} {K : Act → World → Prop} {Q : Exit → Act → World → Prop} (s x : Operand) (v vx : Value) (R : Value → World → Prop)
    (hrun : ∀ ty, ∃ v' w', (Builtin.append_ #[TS, TS] ty #[v, vx]).run Tryd.prog w = .ok v' w' ∧ R v' w')
    (ho : o.op = .call { callee := .builtin .append, args := #[s, x], argTypes := #[TS, TS] }) (hs : a.eval s = v) (hx : a.eval x = vx)
    (h : ∀ v' w', R v' w' → K (a.put o.dst v') w') : o.wp Tryd.prog a w K Q := by
  obtain ⟨v', w', hr, hR⟩ := hrun o.type
  unfold Oper.wp execOp
  simp only [ho, resolve, invoke, builtin, Sem.run_bind, Sem.run_pure, Result.andThen_ok, List.map_toArray, List.map_cons, List.map_nil, hs, hx, hr]
  exact h v' w' hR
theorem Tn.undrew {w w' : World} {b o n : Nat} (h : Tn w.drew w' b o n) : Tn w w' b o n := ⟨h.os, h.tape, h.out, h.size, h.oth, h.blk⟩
theorem grown_undrew {w w' : World} {r : Option Nat} (h : w.drew.grownBy w' r) : w.grownBy w' r := ⟨h.os, h.tape, h.output, h.size, h.block⟩
theorem wrap_same (n : Int) : IntKind.i64.wrap n = wrap64 n := by rw [IntKind.wrap_i64]; unfold wrap64; omega
/-- a walk begins -/
theorem WkM.start {w : World} {vT vR : Value} {T : List Ev} {R : List Int} (hT : SlE w vT T) (hR : Sl w vR R) (n : Nat) (hn : n ≤ 100000) {w5 : World} (h5 : w5 = ((((w.alloc (.map #[] 0)).alloc (.map #[] 0)).alloc (.map #[] 0)).alloc (.cells (madeCells (snC sn0).toArray (n * 8)) 58)).alloc (.cells (wkA vT vR w.heap.size (w.heap.size + 1) (w.heap.size + 2) (w.heap.size + 3) n) 75)) :
    WkM w w5 (w.heap.size + 4) w.heap.size (w.heap.size + 1) (w.heap.size + 2) vT vR (.slice (some ⟨w.heap.size + 3, 0, none⟩) 0 n) T R wk0 0 (fun _ _ => .slice none 0 0) := by
  obtain ⟨w1, h1⟩ : ∃ q, q = w.alloc (.map #[] 0) := ⟨_, rfl⟩
  obtain ⟨w2, h2⟩ : ∃ q, q = w1.alloc (.map #[] 0) := ⟨_, rfl⟩
  obtain ⟨w3, h3⟩ : ∃ q, q = w2.alloc (.map #[] 0) := ⟨_, rfl⟩
  obtain ⟨w4, h4⟩ : ∃ q, q = w3.alloc (.cells (madeCells (snC sn0).toArray (n * 8)) 58) := ⟨_, rfl⟩
  rw [← h1, ← h2, ← h3, ← h4] at h5
  have s1 : w1.heap.size = w.heap.size + 1 := by rw [h1]; simp
  have s2 : w2.heap.size = w.heap.size + 2 := by rw [h2]; simp; omega
  have s3 : w3.heap.size = w.heap.size + 3 := by rw [h3]; simp; omega
  have s4 : w4.heap.size = w.heap.size + 4 := by rw [h4]; simp; omega
  have b1 : Below w.heap.size w w1 := by rw [h1]; exact bel_new w _
  have b2 : Below w1.heap.size w1 w2 := by rw [h2]; exact bel_new w1 _
  have b3 : Below w2.heap.size w2 w3 := by rw [h3]; exact bel_new w2 _
  have b4 : Below w3.heap.size w3 w4 := by rw [h4]; exact bel_new w3 _
  have b5 : Below w4.heap.size w4 w5 := by rw [h5]; exact bel_new w4 _
  have m1 : MSn w1 w.heap.size 0 (fun _ => sn0) := by rw [h1]; exact MSn.made w
  have m2 : MSn w2 w1.heap.size 0 (fun _ => sn0) := by rw [h2]; exact MSn.made w1
  have m3 : MCh w3 w.heap.size w2.heap.size 0 (fun _ => []) (fun _ => []) (fun _ _ => .slice none 0 0) := by rw [h3]; exact MCh.made w2 _
  have p4 : w4.heap[w3.heap.size]? = some (.cells (madeCells (snC sn0).toArray (n * 8)) 58 (0, 0)) := by rw [h4]; exact Go.Deep.blk_alloc_new w3 _
  have k5 : w5.heap[w4.heap.size]? = some (.cells (wkA vT vR w.heap.size (w.heap.size + 1) (w.heap.size + 2) (w.heap.size + 3) n) 75 (0, 0)) := by rw [h5]; exact Go.Deep.blk_alloc_new w4 _
  rw [s4] at k5
  rw [s3] at p4
  rw [s1] at m2
  rw [s2] at m3
  refine ⟨⟨_, k5, ⟨rfl, rfl, rfl, fun g hg i hi => wkA_gos _ _ _ _ _ _ _ g i hg hi, rfl, rfl, rfl, rfl⟩⟩, ?_, ?_, ?_, ?_, hT, hR, by omega, Nat.le_refl _, by omega, by omega, by omega, by omega, by omega, ?_⟩
  · exact m1.keep ((b5.block _ (by omega)).trans ((b4.block _ (by omega)).trans ((b3.block _ (by omega)).trans (b2.block _ (by omega)))))
  · exact m2.keep ((b5.block _ (by omega)).trans ((b4.block _ (by omega)).trans (b3.block _ (by omega))))
  · exact m3.keep ((b5.block _ (by omega)).trans (b4.block _ (by omega))) (fun _ _ k hk => by cases hk)
  · refine ⟨rfl, .inr ⟨w.heap.size + 3, n, _, rfl, by omega, (b5.block _ (by omega)).trans p4, Nat.zero_le _, by unfold maxLen; omega, size_madeCells _ _, ?_⟩⟩
    simp [wk0]
  · exact b1.trans ((b2.mono b1.size).trans ((b3.mono (Nat.le_trans b1.size b2.size)).trans ((b4.mono (Nat.le_trans b1.size (Nat.le_trans b2.size b3.size))).trans (b5.mono (by omega)))))
theorem run_pastMake (n : Nat) (hn : n ≤ 100000) (w : World) : (Instr.makeSlice 55 (.int .i64 0) (.int .i64 (n : Int))).run Tryd.prog w = .ok (.slice (some ⟨w.heap.size, 0, none⟩) 0 n) (w.alloc (.cells (madeCells (snC sn0).toArray (n * 8)) 58)) := by
  obtain ⟨i, hi, hz0, hz1, hz2⟩ := info_parts info_seen
  have hr := run_make (P := Tryd.prog) w 55 58 i (snV sn0) Tryd.underlying55 hi hz0 .i64 .i64 0 n (by omega) (by omega) (by rw [hz2]; omega) (by omega)
  simp only [Int.toNat_natCast, hz1] at hr
  exact hr
set_option maxRecDepth 20000 in
set_option maxHeartbeats 8000000 in
theorem pasts_any {w : World} {vT vR : Value} {T : List Ev} {R : List Int} (hT : SlE w vT T) (hR : Sl w vR R) (hG : ∀ k, k < T.length → evB (T.getD k zE) = true) (hW : ∀ k, k < T.length → wfI (T.getD k zE).o) (hn : T.length ≤ 100000) : Calls Tryd.prog 20 #[vT, vR] w (fun e w' => ∃ v, e = .returned v ∧ Below w.heap.size w w' ∧ SlS w' v (walkM R T T.length).past) := by
  obtain ⟨aT, cT, rfl, hcT, _⟩ := hT.form
  obtain ⟨aR, cR, rfl, _, _⟩ := hR.form
  have hmk := run_pastMake T.length hn
  have hmm := @run_makeMap Tryd.prog
  have ST := hide (fun w5 h5 => WkM.start hT hR T.length hn (w5 := w5) h5)
  have HT := hide hT
  have HG := hide hG
  have HW := hide hW
  have HN := hide hn
  clear hT hG hW hn hR
  go_enter Tryd.func20, Tryd.ntmps20
  go_upto_region 3 with fail
  obtain ⟨bw, hbw⟩ : ∃ q, q = w.heap.size + 1 + 1 + 1 + 1 := ⟨_, rfl⟩
  rw [← hbw]
  generalize hw5 : ((((w.alloc (.map #[] 0)).alloc (.map #[] 0)).alloc (.map #[] 0)).alloc (.cells (madeCells (snC sn0).toArray (T.length * 8)) 58)).alloc (.cells ((((((Tryd.zeroCells75.setIfInBounds 0 (.slice aT T.length cT)).setIfInBounds 1 (.slice aR R.length cR)).setIfInBounds 66 (.map (some w.heap.size))).setIfInBounds 67 (.map (some (w.heap.size + 1)))).setIfInBounds 68 (.map (some (w.heap.size + 1 + 1)))).setIfInBounds 69 (.slice (some ⟨w.heap.size + 1 + 1 + 1, 0, none⟩) 0 T.length)) 75) = w5
  have H5 := hide (ST.out w5 (by rw [← hw5]; rfl))
  rw [show w.heap.size + 4 = bw from hbw.symm] at H5
  clear hw5 ST hmk hmm hbw
  obtain ⟨bm, hbm⟩ : ∃ q, q = w.heap.size := ⟨_, rfl⟩
  obtain ⟨ba, hba⟩ : ∃ q, q = w.heap.size + 1 := ⟨_, rfl⟩
  obtain ⟨bc, hbc⟩ : ∃ q, q = w.heap.size + 2 := ⟨_, rfl⟩
  have H5 : Hid (∃ vP v, WkM w w5 bw bm ba bc (.slice aT T.length cT) (.slice aR R.length cR) vP T R wk0 0 v) := hide (by rw [hbm, hba, hbc]; exact ⟨_, _, H5.out⟩)
  go_loopw [21] (fun x21 wr => ∃ k : Nat, k ≤ T.length ∧ x21 = .int .i64 (k : Nat) ∧ Hid (∃ vP v, WkM w wr bw bm ba bc (.slice aT T.length cT) (.slice aR R.length cR) vP T R (walkM R T k) k v)) (fun x21 _ => T.length - (intOf x21).toNat)
  case atStart => exact ⟨0, Nat.zero_le _, rfl, H5⟩
  case round =>
    obtain ⟨k, hk, rfl, hI⟩ := hrel
    clear H5 hbm hba hbc
    by_cases hlt : k < T.length
    · obtain ⟨vP, v, h⟩ := hI.out
      have H := hide h
      have OK := hide (walk_ok R T k)
      have hlt' : (k : Int) < (T.length : Int) := by omega
      have he := HG.out k hlt
      have hf := evB_out he
      have ho := HW.out k hlt
      obtain ⟨bT, off, rfl, hbT, t0, t1, t2, t3⟩ := (h.tr.bel h.bel).at k hlt
      have WE : Hid (walkM R T (k + 1) = stepM R T (walkM R T k) (T.getD k zE) k) := hide rfl
      obtain ⟨ev, hev⟩ : ∃ q, q = T.getD k zE := ⟨_, rfl⟩
      rw [← hev] at WE he hf ho t0 t1 t2 t3
      obtain ⟨eg, ek, eo, ea⟩ := ev
      obtain ⟨g, rfl⟩ : ∃ g : Nat, eg = g := ⟨eg.toNat, by have := hf.1; simp at this; omega⟩
      have hg : g < 8 := by have := hf.2.1; simp at this; omega
      have hg' : (g : Int) < 8 := by omega
      have HE := hide he
      have HO := hide ho
      have MS : Hid (T.length - (k + 1) < T.length - k) := hide (by omega)
      obtain ⟨W, hWW⟩ : ∃ q, q = walkM R T k := ⟨_, rfl⟩
      rw [← hWW] at H OK WE
      simp only at t0 t1 t2 t3
      clear h hI hev he hf ho hWW hk
      go_upto_region 5 with fail
      have B1 := hide (bel_new wr (.cells #[.int .i64 (g : Nat), .int .i64 ek, .int .i64 eo, .int .i64 ea] 47))
      have Z1 := hide (Go.Deep.blk_alloc_new wr (.cells #[.int .i64 (g : Nat), .int .i64 ek, .int .i64 eo, .int .i64 ea] 47))
      generalize wr.alloc (.cells #[.int .i64 (g : Nat), .int .i64 ek, .int .i64 eo, .int .i64 ea] 47) = w1 at *
      have H1 := hide (H.out.below B1.out)
      have z0 := blk_cell Z1.out 0 _ rfl
      have NB := hide (show wr.heap.size ≠ bw by have := H.out.size.1; omega)
      clear t0 t1 t2 t3 hbT H
      refine wp_region_T (S := fun wz => wz.cell? ⟨wr.heap.size, 0, none⟩ = some (.int .i64 (g : Nat))) (fun _ => true) mixed z0 (fun hH => ?_)
      refine Tm 0 ?_
      simp only [Act.put, SA]
      refine Tm 1 ?_
      simp only [Act.put, SA]
      refine Tl 2 (v := ?_) ?_ hH ?_
      rotate_left 1
      · (intro wy hSw; have q := hSw; clear hSw; go_simp <;> with_reducible rfl)
      simp only [Act.put, SA]
      refine Tm 3 ?_
      simp only [Act.put, SA]
      refine Tm 4 ?_
      simp only [Act.put, SA]
      refine Tm 5 ?_
      simp only [Act.put, SA]
      refine Tm 6 ?_
      simp only [Act.put, SA]
      refine T_done (by kernel_rfl) ?_ _
      have HN := HN
      have LN := hide (learn_any (w := w1.drew) (H1.out.below (Below.refl _ _).drew) OK.out (by have := HN.out; omega) hg ⟨(g : Nat), ek, eo, ea⟩ HO.out)
      have z1 := blk_cell Z1.out 1 _ rfl
      have z2 := blk_cell Z1.out 2 _ rfl
      have z3 := blk_cell Z1.out 3 _ rfl
      go_upto_region 7 with (first | (go_at_call 29; refine LN.out.mono ?_; rintro e w3 ⟨rfl, t3, a3⟩; have T3 := hide t3; have A3 := hide a3; clear t3 a3))
      have E3 := hide ((T3.out.oth wr.heap.size (lt_of_blk Z1.out) NB.out).trans Z1.out)
      have y0 := blk_cell E3.out 0 _ rfl
      obtain ⟨s, hs⟩ : ∃ s, s = learnM R W (W.gos g) ⟨(g : Nat), ek, eo, ea⟩ := ⟨_, rfl⟩
      rw [← hs] at A3
      have ME : Hid (mineM R W ⟨(g : Nat), ek, eo, ea⟩ = setS s g (wrap64 (s g + 1))) := hide (by unfold mineM; simp only [Int.toNat_natCast]; rw [← hs])
      have yg := A3.out.cell g hg
      have fg := A3.out.frz (2 + g * 8 + g)
      clear LN z0 z1 z2 z3 hs
      refine wp_region_T (S := fun wz => wz.cell? ⟨wr.heap.size, 0, none⟩ = some (.int .i64 (g : Nat)) ∧ wz.cell? ⟨bw, 2 + g * 8 + g, none⟩ = some (.int .i64 (s g)) ∧ wz.frozen? ⟨bw, 2 + g * 8 + g, none⟩ = false) (fun i => i != 9) mixed ⟨y0, yg, fg⟩ (fun hH => ?_)
      refine Tm 0 ?_
      simp only [Act.put, SA]
      refine Tm 1 ?_
      simp only [Act.put, SA]
      refine Tl 2 (v := ?_) ?_ hH ?_
      rotate_left 1
      · (intro wy hSw; have q := hSw.1; clear hSw; go_simp <;> with_reducible rfl)
      simp only [Act.put, SA]
      refine Tm 3 ?_
      simp only [Act.put, SA]
      refine Tm 4 ?_
      simp only [Act.put, SA]
      refine Tl 5 (v := ?_) ?_ hH ?_
      rotate_left 1
      · (intro wy hSw; have q := hSw.2.1; clear hSw; go_simp <;> with_reducible rfl)
      simp only [Act.put, SA]
      refine Tm 6 ?_
      simp only [Act.put, SA]
      refine Tm 7 ?_
      simp only [Act.put, SA]
      refine Tm 8 ?_
      simp only [Act.put, SA]
      refine Tr 9 (fun K1 hK1 => ?_)
      go_simp
      refine hK1.out _ _ (fun h => absurd h (by decide)) (fun _ => ?_)
      clear hK1 K1 hH y0 yg fg
      refine T_done (by kernel_rfl) ?_ _
      rw [wrap_same]
      generalize hw4 : (w3.setCell ⟨bw, 2 + g * 8 + g, none⟩ (.int .i64 (wrap64 (s g + 1)))).drew = w4
      obtain ⟨mm, hmm⟩ : ∃ q, q = mineM R W ⟨(g : Nat), ek, eo, ea⟩ := ⟨_, rfl⟩
      rw [← hmm] at ME
      have A4 : Hid (Ar w4 bw (2 + g * 8) mm) := hide (by rw [← hw4, ME.out]; exact A3.out.set g _)
      have T4 : Hid (Tn w1 w4 bw (2 + g * 8) 8) := hide (by rw [← hw4]; exact (T3.out.undrew.trans (Tn.set (2 + g * 8 + g) (by omega) (by omega) _)).drew)
      have H4 := hide (H1.out.turn hg T4.out A4.out)
      have E4 := hide ((T4.out.oth wr.heap.size (lt_of_blk Z1.out) NB.out).trans Z1.out)
      have WE2 : Hid (walkM R T (k + 1) = tellM R T { W with gos := upd W.gos g mm, past := W.past ++ [mm] } mm ⟨(g : Nat), ek, eo, ea⟩ k) := hide (by rw [WE.out]; unfold stepM; simp only [Int.toNat_natCast]; rw [← hmm])
      clear hw4 hmm ME WE T3 E3 A3 H1
      obtain ⟨aP, cP, eP, _⟩ := own_slice H4.out.pa
      have q69 := H4.out.cell.2.2.2.2.2
      rw [eP] at q69
      have rM : w4.rangeAt bw (2 + g * 8) (snC mm) := fun j u hu => by
        have hj : j < 8 := (List.getElem?_eq_some_iff.1 hu).1
        rw [snC_at _ j hj] at hu
        rw [← Option.some.inj hu]
        exact A4.out.cell j hj
      have lpk : W.past.length = k := OK.out.past
      have row := H4.out.pa
      rw [eP] at row
      have PU := hide (fun ty => pushE (w := w4.drew) (TS := 55) Tryd.underlying55 info_seen rfl (by omega) (by omega) (by show W.past.length ≤ 100000; have := HN.out; omega) row H4.out.bel.size (snC mm) rfl (fun u hu => by simp [snC] at hu; rcases hu with rfl | rfl | rfl | rfl | rfl | rfl | rfl | rfl <;> rfl) ty)
      have EP := hide eP
      have KS := hide (fun (wz : World) (hz : wz.heap[bw]? = w4.heap[bw]?) => (show wz.cell? ⟨bw, 69, none⟩ = some (.slice aP W.past.length cP) ∧ wz.rangeAt bw (2 + g * 8) (snC mm) from by
        constructor
        · have e : wz.cell? ⟨bw, 69, none⟩ = w4.cell? ⟨bw, 69, none⟩ := by unfold World.cell?; simp only [hz]
          exact e.trans q69
        · intro j u hu
          have e : wz.cell? ⟨bw, 2 + g * 8 + j, none⟩ = w4.cell? ⟨bw, 2 + g * 8 + j, none⟩ := by unfold World.cell?; simp only [hz]
          exact e.trans (rM j u hu)))
      have NP : Hid (∀ w9, w4.drew.grownBy w9 (Value.slice aP W.past.length cP).ownBlock → w9.heap[bw]? = w4.heap[bw]?) := hide (fun w9 g9 => g9.block bw H4.out.size.1 (fun e => by
        obtain ⟨c5, h5, _⟩ := H4.out.cells
        exact own_at row h5 (by decide) e.symm))
      have FZ := hide (H4.out.frz 69)
      clear row lpk eP q69 rM
      go_upto_region 8 with fail
      refine wp_region_T (S := fun wz => wz.cell? ⟨bw, 69, none⟩ = some (.slice aP W.past.length cP) ∧ wz.rangeAt bw (2 + g * 8) (snC mm)) (fun i => i != 12) mixed (KS.out _ rfl) (fun hH => ?_)
      refine Tm 0 ?_
      simp only [Act.put, SA]
      refine Tm 1 ?_
      simp only [Act.put, SA]
      refine Tm 2 ?_
      simp only [Act.put, SA]
      refine Tm 3 ?_
      simp only [Act.put, SA]
      refine Tl 4 (v := ?_) ?_ hH ?_
      rotate_left 1
      · (intro wy hSw; have q := hSw.1; clear hSw; go_simp <;> with_reducible rfl)
      simp only [Act.put, SA]
      refine Tm 5 ?_
      simp only [Act.put, SA]
      refine Tm 6 ?_
      simp only [Act.put, SA]
      refine Tl 7 (v := .agg #[.int .i64 (mm 0), .int .i64 (mm 1), .int .i64 (mm 2), .int .i64 (mm 3), .int .i64 (mm 4), .int .i64 (mm 5), .int .i64 (mm 6), .int .i64 (mm 7)]) ?_ hH ?_
      · (intro wy hSw; refine exec_load_mid 58 (.tmp 51) ?_ bw (2 + g * 8) ?_ (snC mm) _ hSw.2 Tryd.underlying58 rfl (seen_len mm) <;> rfl)
      simp only [Act.put, SA]
      refine Tr 8 (fun K1 hK1 => ?_)
      go_simp
      have BA := hide ((Below.refl w4.heap.size w4).drew.alloc (Nat.le_refl _) (.cells (snC mm).toArray 58))
      refine hK1.out _ _ (fun _ => KS.out _ (BA.out.block bw H4.out.size.1)) (fun _ => ?_)
      clear hK1 K1 hH
      refine Tr 9 (fun K1 hK1 => ?_)
      rw [if_pos (by rfl)]
      refine wp_appG (TS := 55) (.tmp 49) (.tmp 53) _ _ _ PU.out rfl rfl rfl ?_
      rintro u w9 ⟨⟨a9, c9, rfl⟩, o9, g9, l9⟩
      have O9 := hide o9
      have G9 := hide g9
      clear o9 g9 l9
      refine hK1.out _ _ (fun _ => KS.out _ (NP.out w9 G9.out)) (fun _ => ?_)
      have c69 := (KS.out w9 (NP.out w9 G9.out)).1
      have f69 : w9.frozen? ⟨bw, 69, none⟩ = false := by obtain ⟨c5, h5, _⟩ := H4.out.cells; exact blk_frz ((NP.out w9 G9.out).trans h5) 69
      clear hK1 K1
      refine Tm 10 ?_
      simp only [Act.put, SA]
      refine Tm 11 ?_
      simp only [Act.put, SA]
      refine Tr 12 (fun K1 hK1 => ?_)
      go_simp
      refine hK1.out _ _ (fun h => absurd h (by decide)) (fun _ => ?_)
      clear hK1 K1 c69 f69
      refine T_done (by kernel_rfl) ?_ _
      have H6 := hide (H4.out.putPa (m := mm) (w' := w9) (u := .slice a9 (W.past.length + 1) c9) O9.out (by rw [EP.out]; exact grown_undrew G9.out))
      have E6 := hide (show (w9.setCell ⟨bw, 69, none⟩ (.slice a9 (W.past.length + 1) c9)).heap[wr.heap.size]? = some (.cells #[.int .i64 (g : Nat), .int .i64 ek, .int .i64 eo, .int .i64 ea] 47 (0, 0)) from (Below.heap_setCell _ _ _ _ NB.out).trans ((G9.out.block wr.heap.size (lt_of_blk E4.out) (fun e => by
        have row := H4.out.pa
        rw [EP.out] at row
        exact own_at row E4.out (by decide) e.symm)).trans E4.out))
      clear KS PU NP FZ G9 O9 H4 E4 A4 T4 EP
      generalize w9.setCell ⟨bw, 69, none⟩ (.slice a9 (W.past.length + 1) c9) = w6 at *
      have A6 := hide (H6.out.arr hg)
      have OK2 := hide (OK.out.more (upd W.gos g mm) mm)
      have TL := hide (tell_any (w := w6.drew) (H6.out.below (Below.refl _ _).drew) OK2.out (by have := HN.out; omega) (by have := HN.out; omega) mm ⟨(g : Nat), ek, eo, ea⟩ HE.out HO.out k (by omega) HG.out)
      have r6 : w6.rangeAt bw (2 + g * 8) (snC mm) := fun j u hu => by
        have hj : j < 8 := (List.getElem?_eq_some_iff.1 hu).1
        rw [snC_at _ j hj] at hu
        rw [← Option.some.inj hu]
        have := A6.out.cell j hj
        simp only [upd, if_true] at this
        exact this
      clear A6 H6
      go_upto_region 9 with fail
      refine wp_region_T (S := fun wz => wz.rangeAt bw (2 + g * 8) (snC mm) ∧ wz.heap[wr.heap.size]? = some (.cells #[.int .i64 (g : Nat), .int .i64 ek, .int .i64 eo, .int .i64 ea] 47 (0, 0))) (fun i => i != 6) mixed ⟨r6, E6.out⟩ (fun hH => ?_)
      refine Tm 0 ?_
      simp only [Act.put, SA]
      refine Tm 1 ?_
      simp only [Act.put, SA]
      refine Tm 2 ?_
      simp only [Act.put, SA]
      refine Tl 3 (v := .agg #[.int .i64 (mm 0), .int .i64 (mm 1), .int .i64 (mm 2), .int .i64 (mm 3), .int .i64 (mm 4), .int .i64 (mm 5), .int .i64 (mm 6), .int .i64 (mm 7)]) ?_ hH ?_
      · (intro wy hSw; refine exec_load_mid 58 (.tmp 59) ?_ bw (2 + g * 8) ?_ (snC mm) _ hSw.1 Tryd.underlying58 rfl (seen_len mm) <;> rfl)
      simp only [Act.put, SA]
      refine Tl 4 (v := ?_) ?_ hH ?_
      rotate_left 1
      · (intro wy hSw; refine exec_load_row 47 (.tmp 7) ?_ wr.heap.size ?_ _ _ _ _ hSw.2 Tryd.underlying47 rfl (by kernel_rfl) <;> rfl)
      simp only [Act.put, SA]
      refine Tm 5 ?_
      simp only [Act.put, SA]
      refine Tr 6 (fun K1 hK1 => ?_)
      go_simp
      refine TL.out.mono ?_
      rintro e wA ⟨rfl, vA, hA⟩
      have HA := hide hA
      clear hA
      refine hK1.out _ _ (fun h => absurd h (by decide)) (fun _ => ?_)
      clear hK1 K1 hH r6
      refine T_done (by kernel_rfl) ?_ _
      have hk8 : k ≤ 100000 := by have := HN.out; omega
      go_wp2_with fail
      go_roundw
      case rel => exact ⟨k + 1, by omega, by first | rfl | go_num, hide ⟨_, vA, by rw [WE2.out]; exact HA.out⟩⟩
      case measure => simp [intOf]; omega
    · obtain rfl : k = T.length := by omega
      obtain ⟨vP, v, h⟩ := hI.out
      have H := hide h
      obtain ⟨aP, cP, eP, _⟩ := own_slice h.pa
      have q69 := h.cell.2.2.2.2.2
      rw [eP] at q69
      have row := h.pa
      rw [eP] at row
      have RS := hide (show SlS wr (.slice aP (walkM R T T.length).past.length cP) (walkM R T T.length).past from by
        obtain ⟨b0, c0, e0, l1, l2⟩ := own_slice row
        injection e0 with e1 e2 e3
        refine ⟨aP, cP, rfl, by rw [e3]; exact l1, by rw [e3]; exact l2, fun i hi => ?_⟩
        obtain ⟨b, eb, _, hlt9, ⟨cs, hcs⟩, _⟩ := past_at row i hi
        subst eb
        refine ⟨b, rfl, cs, _, hcs, fun j hj => ?_⟩
        have hc := (own_cell row _ _ (flat_at _ i j hi hj)).1
        unfold World.cell? at hc
        rw [hcs] at hc
        simpa using hc)
      have BW := hide h.bel
      clear h hI H eP row
      go_wp2_with fail
      go_ret
      exact ⟨.slice aP (walkM R T T.length).past.length cP, rfl, BW.out, RS.out⟩
end Go.Proofs.YticgmebbnnmikaaDoor.Ck
