/- Texts of this proof, packed. -/
import Derived.Test.YtidjbgemnohbnaaDoorGq2
import Derived.Test.YtidjbgemnohbnaaDoorHoldQ
import Derived.Test.YtidjbgemnohbnaaDoorGq3
import Derived.Recover
import Derived.Test.YtidjbgemnohbnaaDoorGq1
import Derived.Defers
/- Package code: a code's functions. (Written by mk_c.py.) -/
namespace Go.Proofs.YtidjbgemnohbnaaDoor.Ck
open Go.RowKit

def rnd (c : Cd) (i : Nat) : Bool := (i == 0 || decide ((c.F.getD (i - 1) zF).st < (c.F.getD i zF).st)) && (decide ((c.F.getD i zF).st < (c.B.length : Int)) && entB (c.F.getD i zF))
def funsB (c : Cd) : Bool := hasB 0 ((c.F.length : Int) - 1) c.mn && ((c.F.getD c.mn.toNat zF).pa == 0 && ((c.F.getD 0 zF).st == 0 && (List.range c.F.length).all (rnd c)))
theorem range_no {n k : Nat} {f : Nat → Bool} (hk : k < n) (h : f k = false) : (List.range n).all f = false := by
  rw [List.all_eq_false]
  exact ⟨k, by simpa using hk, by simp [h]⟩
theorem range_yes {n : Nat} {f : Nat → Bool} (h : ∀ k, k < n → f k = true) : (List.range n).all f = true := by
  rw [List.all_eq_true]
  intro k hk
  exact h k (by simpa using hk)
set_option maxRecDepth 20000 in
set_option maxHeartbeats 4000000 in
theorem functions_any {w : World} {p : List Addr} {vP vC vF vB : Value} {c : Cd} (hc : Ec w p) (h : Cv w vP vC vF vB c) (hF16 : c.F.length ≤ 16) : Calls Tryd.prog 38 #[codeA vP vC vF vB c] w (Gt p w (funsB c) (.tuple #[])) := by
  have B0 := hide (bel_new w (codeO vP vC vF vB c))
  have C0 := hide (fun wz (hb : Below (w.alloc (codeO vP vC vF vB c)).heap.size (w.alloc (codeO vP vC vF vB c)) wz) => hc.bel (bel_trans B0.out hb))
  have X0 := hide (fun wz (hb : Below (w.alloc (codeO vP vC vF vB c)).heap.size (w.alloc (codeO vP vC vF vB c)) wz) => (hb.block w.heap.size (by simp)).trans (show (w.alloc (codeO vP vC vF vB c)).heap[w.heap.size]? = some (codeO vP vC vF vB c) from Go.Deep.blk_alloc_new _ _))
  obtain ⟨aP, cP, rfl, _, hmP⟩ := h.P.form
  obtain ⟨aC, cC, rfl, _, hmC⟩ := h.C.form
  obtain ⟨aF, cF, rfl, _, hmF⟩ := h.F.form
  obtain ⟨aB, cB, rfl, _, hmB⟩ := h.B.form
  have hF := hide (fun wz (hb : Below (w.alloc (.cells #[.slice aP c.P.length cP, .int .i64 c.M, .int .i64 c.A, .slice aC c.C.length cC, .slice aF c.F.length cF, .int .i64 c.mn, .slice aB c.B.length cB] 27)).heap.size (w.alloc (.cells #[.slice aP c.P.length cP, .int .i64 c.M, .int .i64 c.A, .slice aC c.C.length cC, .slice aF c.F.length cF, .int .i64 c.mn, .slice aB c.B.length cB] 27)) wz) i (hi : i < c.F.length) => (by
    obtain ⟨a, cp, e, _, _, h⟩ := (h.bel (bel_trans B0.out hb)).F
    cases e
    exact h i hi : ∃ b off vl, aF = some ⟨b, off, none⟩ ∧ b < _ ∧ _))
  obtain ⟨r, hr⟩ : ∃ r, funsB c = r := ⟨_, rfl⟩
  rw [hr]
  have HR := hide hr
  have HY := hide (fun (h1 : hasB 0 ((c.F.length : Int) - 1) c.mn = true) (h2 : ((c.F.getD c.mn.toNat zF).pa == 0) = true) (h3 : ((c.F.getD 0 zF).st == 0) = true) (h : ∀ k, k < c.F.length → rnd c k = true) => (show r = true by rw [← hr]; unfold funsB; rw [h1, h2, h3, range_yes h]; rfl))
  have HN1 := hide (fun (h1 : hasB 0 ((c.F.length : Int) - 1) c.mn = false) => (show r = false by rw [← hr]; unfold funsB; rw [h1]; rfl))
  have HN2 := hide (fun (h1 : ((c.F.getD c.mn.toNat zF).pa == 0) = false) => (show r = false by rw [← hr]; unfold funsB; rw [h1]; simp))
  have HN3 := hide (fun (h1 : ((c.F.getD 0 zF).st == 0) = false) => (show r = false by rw [← hr]; unfold funsB; rw [h1]; simp))
  have HN4 := hide (fun k (hk : k < c.F.length) (h1 : rnd c k = false) => (show r = false by rw [← hr]; unfold funsB; rw [range_no hk h1]; simp))
  clear hr hc h hmP hmC hmF hmB HR
  unfold codeA codeO at *
  go_enter Tryd.func38, Tryd.ntmps38
  go_wp2_with fail
  generalize w.alloc (.cells #[.slice aP c.P.length cP, .int .i64 c.M, .int .i64 c.A, .slice aC c.C.length cC, .slice aF c.F.length cF, .int .i64 c.mn, .slice aB c.B.length cB] 27) = W1 at *
  generalize c.P.length = nP at *
  generalize c.C.length = nC at *
  generalize hnF : c.F.length = nF at *
  generalize hnB : c.B.length = nB at *
  generalize c.M = M at *
  generalize c.A = A at *
  generalize c.mn = mn at *
  have HnB := hide hnB
  clear hnF hnB
  have X1 := hide (X0.out _ (bel_drawn (Below.refl _ _)))
  refine wp_region_T (S := fun wz => wz.heap[w.heap.size]? = some (.cells #[.slice aP nP cP, .int .i64 M, .int .i64 A, .slice aC nC cC, .slice aF nF cF, .int .i64 mn, .slice aB nB cB] 27)) (fun _ => true) mixed X1.out (fun hH => ?_)
  refine T_move (i := 0) (v := ?_) rfl (by kernel_rfl) (by kernel_rfl) (by kernel_rfl) (fun _ _ _ h => h) (Or.inl ⟨by rfl, ?_⟩) ?_
  rotate_left 1
  · (intro w _; go_simp <;> with_reducible rfl)
  simp only [Act.put, List.getElem_toArray, List.getElem_cons_zero, List.setIfInBounds_toArray, List.set_cons_zero, List.set_cons_succ]
  refine T_take (i := 1) (v := ?_) rfl (by kernel_rfl) (by kernel_rfl) (by kernel_rfl) (by kernel_rfl) (fun _ _ _ h => h) (Or.inl ⟨by rfl, ?_⟩) hH ?_
  rotate_left 1
  · (intro w hSw; have c4 := blk_cell hSw 4 _ rfl; clear hSw; go_simp <;> with_reducible rfl)
  simp only [Act.put, List.getElem_toArray, List.getElem_cons_zero, List.getElem_cons_succ, List.setIfInBounds_toArray, List.set_cons_zero, List.set_cons_succ]
  refine T_move (i := 2) (v := ?_) rfl (by kernel_rfl) (by kernel_rfl) (by kernel_rfl) (fun _ _ _ h => h) (Or.inl ⟨by rfl, ?_⟩) ?_
  rotate_left 1
  · (intro w _; go_simp <;> with_reducible rfl)
  simp only [Act.put, List.getElem_toArray, List.getElem_cons_zero, List.getElem_cons_succ, List.setIfInBounds_toArray, List.set_cons_zero, List.set_cons_succ]
  refine T_move (i := 4) (v := ?_) rfl (by kernel_rfl) (by kernel_rfl) (by kernel_rfl) (fun _ _ _ h => h) (Or.inl ⟨by rfl, ?_⟩) ?_
  rotate_left 1
  · (intro w _; go_simp <;> with_reducible rfl)
  simp only [Act.put, List.getElem_toArray, List.getElem_cons_zero, List.getElem_cons_succ, List.setIfInBounds_toArray, List.set_cons_zero, List.set_cons_succ]
  refine T_take (i := 5) (v := ?_) rfl (by kernel_rfl) (by kernel_rfl) (by kernel_rfl) (by kernel_rfl) (fun _ _ _ h => h) (Or.inl ⟨by rfl, ?_⟩) hH ?_
  rotate_left 1
  · (intro w hSw; have c5 := blk_cell hSw 5 _ rfl; clear hSw; go_simp <;> with_reducible rfl)
  simp only [Act.put, List.getElem_toArray, List.getElem_cons_zero, List.getElem_cons_succ, List.setIfInBounds_toArray, List.set_cons_zero, List.set_cons_succ]
  refine T_ready (rs := [3]) (by kernel_rfl) (by decide) ?_
  refine AllReadyT.cons rfl (fun K1 hK1 => ?_) AllReadyT.nil
  go_simp
  refine (oneOf_any _ _ (by omega) (by omega)).mono ?_
  rintro e w2 ⟨rfl, hb2⟩
  have B2 := hide ((bel_drawn (Below.refl W1.heap.size W1)).trans hb2)
  refine hK1.out _ _ (fun _ => X0.out _ B2.out) (fun _ => ?_)
  clear hK1 K1 hb2
  refine T_ready (rs := [6]) (by kernel_rfl) (by decide) ?_
  refine AllReadyT.cons rfl (fun K1 hK1 => ?_) AllReadyT.nil
  go_simp
  refine (has_any _ _ _ _).mono ?_
  rintro e w3 ⟨rfl, hb3⟩
  have B3 := hide (B2.out.trans (hb3.mono B2.out.size))
  refine hK1.out _ _ (fun _ => X0.out _ B3.out) (fun _ => ?_)
  clear hK1 K1 hb3 B2
  refine T_ready (rs := [7]) (by kernel_rfl) (by decide) ?_
  refine AllReadyT.cons rfl (fun K1 hK1 => ?_) AllReadyT.nil
  go_simp
  refine (must_any (C0.out _ B3.out) _).mono ?_
  rintro e w4 ⟨⟨h1, rfl⟩ | ⟨h1, rfl⟩, rfl⟩
  case inr => exact ⟨rfl, Gt.no (HN1.out h1) (B0.out.trans (B3.out.mono B0.out.size))⟩
  have hh := hide h1
  refine hK1.out _ _ (fun _ => X0.out _ B3.out) (fun _ => ?_)
  clear hK1 K1 h1
  refine T_done (by kernel_rfl) ?_ _
  clear hH X1
  have hmn0 : 0 ≤ mn ∧ mn ≤ (nF : Int) - 1 := by have := hh.out; simp [hasB] at this; exact this
  obtain ⟨m, rfl⟩ : ∃ m : Nat, mn = m := ⟨mn.toNat, by omega⟩
  have hm1 : (m : Int) < (nF : Int) := by omega
  have hmF : m < nF := by omega
  obtain ⟨bF, oF, vl, rfl, hbl, f1, f2, f3, f4⟩ := hF.out _ B3.out m hmF
  have g4 : w3.cell? ⟨w.heap.size, 4, none⟩ = some (.slice (some ⟨bF, oF, none⟩) nF cF) := blk_cell (X0.out _ B3.out) 4 _ rfl
  have g5 : w3.cell? ⟨w.heap.size, 5, none⟩ = some (.int .i64 m) := blk_cell (X0.out _ B3.out) 5 _ rfl
  clear f1 f3 f4
  rw [Int.toNat_natCast] at HN2 HY
  generalize (c.F.getD m zF).pa = y at *
  go_wp2_with fail
  refine (must_any (C0.out _ B3.out) _).mono ?_
  rintro e w4 ⟨⟨h1, rfl⟩ | ⟨h1, rfl⟩, rfl⟩
  case inr => exact ⟨rfl, Gt.no (HN2.out h1) (B0.out.trans (B3.out.mono B0.out.size))⟩
  have h2 := hide h1
  clear h1 HN1 HN2 f2 g5
  have hF0 : 0 < nF := by omega
  obtain ⟨b0, o0, vl0, e0, hbl0, f1, f2, f3, f4⟩ := hF.out _ B3.out 0 hF0
  cases e0
  rw [Nat.zero_mul, Nat.add_zero] at f1
  have hF0' : (0 : Int) < (nF : Int) := by omega
  clear f2 f3 f4
  generalize (c.F.getD 0 zF).st = y0 at *
  go_wp2_with fail
  refine (must_any (C0.out _ B3.out) _).mono ?_
  rintro e w4 ⟨⟨h1, rfl⟩ | ⟨h1, rfl⟩, rfl⟩
  case inr => exact ⟨rfl, Gt.no (HN3.out h1) (B0.out.trans (B3.out.mono B0.out.size))⟩
  have h3 := hide h1
  clear h1 HN3 f1
  go_wp2_with fail
  go_loopw [2, 3, 31] (fun u2 u3 i wr => ∃ k : Nat, k ≤ nF ∧ i = .int .i64 k ∧ Hid (∀ j, j < k → rnd c j = true) ∧ Hid (Below W1.heap.size W1 wr)) (fun u2 u3 i _ => nF - (intOf i).toNat)
  case atStart => exact ⟨0, Nat.zero_le _, rfl, fun j hj => absurd hj (Nat.not_lt_zero _), B3.out⟩
  case round =>
    obtain ⟨k, hk, rfl, hall, hbel⟩ := hrel
    clear B3 g4
    by_cases hlt : k < nF
    · have h1 : (k : Int) < (nF : Int) := by omega
      obtain ⟨b1, o1, vk, e1, hbk, f1, f2, f3, f4⟩ := hF.out _ hbel.out k hlt
      cases e1
      have hne := hide (HN4.out k hlt)
      have hstep : Hid (rnd c k = true → ∀ j, j < k + 1 → rnd c j = true) := fun e j hj => by
        by_cases ej : j = k
        · rw [ej]; exact e
        · exact hall.out j (by omega)
      obtain ⟨f, hf⟩ : ∃ f, f = c.F.getD k zF := ⟨_, rfl⟩
      rw [← hf] at f1 f2 f4
      obtain ⟨ak, ck, rfl, _, _⟩ := f4.form
      obtain ⟨nk, hnk⟩ : ∃ nk, f.lo.length = nk := ⟨_, rfl⟩
      rw [hnk] at f3 f4
      have HNK := hide hnk
      clear hnk
      obtain ⟨ps, hps⟩ : ∃ ps, ps = (c.F.getD (k - 1) zF).st := ⟨_, rfl⟩
      have HK := hide (show rnd c k = ((k == 0 || decide (ps < f.st)) && (decide (f.st < (nB : Int)) && entB f)) by unfold rnd; rw [← hf, ← hps, HnB.out])
      have Bb := hide (bel_trans hbel.out (bel_new wr (.cells #[.int .i64 f.st, .int .i64 f.pa, .slice ak nk ck] 46)))
      have g4 : (wr.alloc (.cells #[.int .i64 f.st, .int .i64 f.pa, .slice ak nk ck] 46)).cell? ⟨w.heap.size, 4, none⟩ = some (.slice (some ⟨bF, oF, none⟩) nF cF) := blk_cell (X0.out _ Bb.out) 4 _ rfl
      have g6 : (wr.alloc (.cells #[.int .i64 f.st, .int .i64 f.pa, .slice ak nk ck] 46)).cell? ⟨w.heap.size, 6, none⟩ = some (.slice aB nB cB) := blk_cell (X0.out _ Bb.out) 6 _ rfl
      have EN := hide (fun wz (hb : Below (wr.alloc (.cells #[.int .i64 f.st, .int .i64 f.pa, .slice ak nk ck] 46)).heap.size (wr.alloc (.cells #[.int .i64 f.st, .int .i64 f.pa, .slice ak nk ck] 46)) wz) => entry_any f (C0.out _ (bel_trans Bb.out hb)) ((f4.bel (bel_new _ _)).bel hb))
      have PV : Hid (0 < k → (wr.alloc (.cells #[.int .i64 f.st, .int .i64 f.pa, .slice ak nk ck] 46)).cell? ⟨bF, oF + (k - 1) * 3, none⟩ = some (.int .i64 ps)) := fun h0 => by
        obtain ⟨b2, o2, v2, e2, _, q1, _⟩ := hF.out _ Bb.out (k - 1) (by omega)
        cases e2
        rw [hps]
        exact q1
      clear f4 hf hps HnB
      generalize f.st = st at *
      generalize f.pa = pa at *
      generalize entB f = eb at *
      by_cases hk0 : k = 0
      · have hk1 : ((k : Int) == 0) = true := by simp [hk0]
        have HK0 := hide hk0
        clear hk0 PV
        go_wp2_with fail
        refine wp_quiet_tail 14 mixed (by kernel_rfl) ?_
        simp only [List.take_succ_cons, List.take_zero, List.drop_succ_cons, List.drop_zero]
        repeat (first | go_big_quiet_skip | (go_big_quiet_want; go_big_quiet_op; go_big_quiet_on))
        refine wpQuiet_nil ?_
        go_wp2_with fail
        refine (must_yes _).mono ?_
        rintro e w4 ⟨rfl, rfl⟩
        go_wp2_with fail
        refine (must_any (C0.out _ (bel_drawn Bb.out)) _).mono ?_
        rintro e w4 ⟨⟨h5, rfl⟩ | ⟨h5, rfl⟩, rfl⟩
        case inr => exact ⟨rfl, Gt.no (hne.out (by rw [HK.out, h5]; simp)) (B0.out.trans ((bel_drawn Bb.out).mono B0.out.size))⟩
        have h6 := hide h5
        clear h5
        go_wp2_with fail
        refine (EN.out _ (bel_drawn (Below.refl _ _))).mono ?_
        intro e w5 hp
        rcases hp.both with ⟨h5, rfl, hb⟩ | ⟨h5, rfl, hb⟩
        case inr => exact ⟨rfl, Gt.no (hne.out (by rw [HK.out, h5]; simp)) (B0.out.trans ((bel_trans (bel_drawn Bb.out) hb).mono B0.out.size))⟩
        have Hb := hide (bel_trans (bel_drawn Bb.out) hb)
        have h7 := hide h5
        clear h5 hb
        go_wp2_with fail
        go_roundw
        case rel => exact ⟨k + 1, by omega, by go_num, hstep.out (by rw [HK.out, h6.out, h7.out]; simp [HK0.out]), Hb.out⟩
        case measure => simp [intOf]; omega
      · have hk1 : ((k : Int) == 0) = false := by simp [hk0]
        obtain ⟨j, hj⟩ : ∃ j, k = j + 1 := ⟨k - 1, by omega⟩
        have pv := PV.out (by omega)
        have hj1 : (k : Int) - 1 = (j : Int) := by omega
        have hj2 : k - 1 = j := by omega
        have hj3 : (j : Int) < (nF : Int) := by omega
        rw [hj2] at pv
        have hkk : (k == 0) = false := by simp [hk0]
        have HKK := hide hkk
        clear PV hj hj2 hk0 hkk
        go_wp2_with fail
        refine wp_quiet_tail 14 mixed (by kernel_rfl) ?_
        simp only [List.take_succ_cons, List.take_zero, List.drop_succ_cons, List.drop_zero]
        repeat (first | go_big_quiet_skip | (go_big_quiet_want; go_big_quiet_op; go_big_quiet_on))
        refine wpQuiet_nil ?_
        go_wp2_with fail
        refine (must_any (C0.out _ (bel_drawn Bb.out)) _).mono ?_
        rintro e w4 ⟨⟨h5, rfl⟩ | ⟨h5, rfl⟩, rfl⟩
        case inr => exact ⟨rfl, Gt.no (hne.out (by rw [HK.out, HKK.out, h5]; rfl)) (B0.out.trans ((bel_drawn Bb.out).mono B0.out.size))⟩
        have h8 := hide h5
        clear h5
        go_wp2_with fail
        refine (must_any (C0.out _ (bel_drawn Bb.out)) _).mono ?_
        rintro e w4 ⟨⟨h5, rfl⟩ | ⟨h5, rfl⟩, rfl⟩
        case inr => exact ⟨rfl, Gt.no (hne.out (by rw [HK.out, h5]; simp)) (B0.out.trans ((bel_drawn Bb.out).mono B0.out.size))⟩
        have h6 := hide h5
        clear h5
        go_wp2_with fail
        refine (EN.out _ (bel_drawn (Below.refl _ _))).mono ?_
        intro e w5 hp
        rcases hp.both with ⟨h5, rfl, hb⟩ | ⟨h5, rfl, hb⟩
        case inr => exact ⟨rfl, Gt.no (hne.out (by rw [HK.out, h5]; simp)) (B0.out.trans ((bel_trans (bel_drawn Bb.out) hb).mono B0.out.size))⟩
        have Hb := hide (bel_trans (bel_drawn Bb.out) hb)
        have h7 := hide h5
        clear h5 hb
        go_wp2_with fail
        go_roundw
        case rel => exact ⟨k + 1, by omega, by go_num, hstep.out (by rw [HK.out, HKK.out, h8.out, h6.out, h7.out]; rfl), Hb.out⟩
        case measure => simp [intOf]; omega
    · obtain rfl : k = nF := by omega
      have hr := hide (HY.out hh.out h2.out h3.out hall.out)
      clear hF HY HN4
      go_wp2_with fail
      go_end0
      exact Gt.yes hr.out (B0.out.trans (hbel.out.mono B0.out.size))
end Go.Proofs.YtidjbgemnohbnaaDoor.Ck

/- Package code: a code's instructions. (Written by mk_c.py.) -/
namespace Go.Proofs.YtidjbgemnohbnaaDoor.Ck
open Go.RowKit

set_option maxRecDepth 20000 in
set_option maxHeartbeats 4000000 in
theorem body_any {w : World} {p : List Addr} {vP vC vF vB : Value} {c : Cd} (hc : Ec w p) (h : Cv w vP vC vF vB c) (hs : sizesB c = true) : Calls Tryd.prog 39 #[codeA vP vC vF vB c] w (Gt p w (c.B.all (insG c)) (.tuple #[])) := by
  have B0 := hide (bel_new w (codeO vP vC vF vB c))
  have C0 := hide (fun wz (hb : Below (w.alloc (codeO vP vC vF vB c)).heap.size (w.alloc (codeO vP vC vF vB c)) wz) => hc.bel (bel_trans B0.out hb))
  have V0 := hide (fun wz (hb : Below (w.alloc (codeO vP vC vF vB c)).heap.size (w.alloc (codeO vP vC vF vB c)) wz) => h.bel (bel_trans B0.out hb))
  have X0 := hide (fun wz (hb : Below (w.alloc (codeO vP vC vF vB c)).heap.size (w.alloc (codeO vP vC vF vB c)) wz) => (hb.block w.heap.size (by simp)).trans (show (w.alloc (codeO vP vC vF vB c)).heap[w.heap.size]? = some (codeO vP vC vF vB c) from Go.Deep.blk_alloc_new _ _))
  have SH := hide (shapes_any (V0.out _ (Below.refl _ _)) hs)
  have HI := hide h.L.I
  obtain ⟨aP, cP, rfl, _, hmP⟩ := h.P.form
  obtain ⟨aC, cC, rfl, _, hmC⟩ := h.C.form
  obtain ⟨aF, cF, rfl, _, hmF⟩ := h.F.form
  obtain ⟨aB, cB, rfl, _, hmB⟩ := h.B.form
  have hB := hide (fun wz (hb : Below (w.alloc (.cells #[.slice aP c.P.length cP, .int .i64 c.M, .int .i64 c.A, .slice aC c.C.length cC, .slice aF c.F.length cF, .int .i64 c.mn, .slice aB c.B.length cB] 27)).heap.size (w.alloc (.cells #[.slice aP c.P.length cP, .int .i64 c.M, .int .i64 c.A, .slice aC c.C.length cC, .slice aF c.F.length cF, .int .i64 c.mn, .slice aB c.B.length cB] 27)) wz) i (hi : i < c.B.length) => (by
    obtain ⟨a, cp, e, _, _, h⟩ := (V0.out wz hb).B
    cases e
    exact h i hi : ∃ b off, aB = some ⟨b, off, none⟩ ∧ b < _ ∧ _))
  have hP := hide (fun wz (hb : Below (w.alloc (.cells #[.slice aP c.P.length cP, .int .i64 c.M, .int .i64 c.A, .slice aC c.C.length cC, .slice aF c.F.length cF, .int .i64 c.mn, .slice aB c.B.length cB] 27)).heap.size (w.alloc (.cells #[.slice aP c.P.length cP, .int .i64 c.M, .int .i64 c.A, .slice aC c.C.length cC, .slice aF c.F.length cF, .int .i64 c.mn, .slice aB c.B.length cB] 27)) wz) => (V0.out wz hb).P)
  have s1 : c.P.length ≤ 128 := by
    simp only [sizesB, Bool.and_eq_true, decide_eq_true_eq] at hs
    exact hs.1.1.1.1.1
  have s8 : c.B.length ≤ 8192 := by
    simp only [sizesB, Bool.and_eq_true, decide_eq_true_eq] at hs
    exact hs.2
  obtain ⟨r, hr⟩ : ∃ r, c.B.all (insG c) = r := ⟨_, rfl⟩
  rw [hr]
  have HY := hide (fun (h : ∀ k, k < c.B.length → insG c (c.B.getD k zI) = true) => (show r = true by rw [← hr]; exact all_yes h))
  have HN := hide (fun k (hk : k < c.B.length) (h1 : insG c (c.B.getD k zI) = false) => (show r = false by rw [← hr]; exact all_not k hk h1))
  have HW := hide (fun k (hk : k < c.B.length) => (show InX (c.B.getD k zI) by
    refine HI.out _ ?_
    rw [List.getD_eq_getElem?_getD, List.getElem?_eq_getElem hk]
    exact List.getElem_mem hk))
  clear hr hc h hmP hmC hmF hmB hs V0 HI
  unfold codeA codeO at *
  go_enter Tryd.func39, Tryd.ntmps39
  go_wp2_with fail
  refine SH.out.mono ?_
  rintro e w2 ⟨mb, rfl, hM, hb2⟩
  have B2 := hide hb2
  have M2 := hide hM
  clear hb2 hM SH
  have g6 : w2.cell? ⟨w.heap.size, 6, none⟩ = some (.slice aB c.B.length cB) := blk_cell (X0.out _ B2.out) 6 _ rfl
  go_wp2_with fail
  generalize w.alloc (.cells #[.slice aP c.P.length cP, .int .i64 c.M, .int .i64 c.A, .slice aC c.C.length cC, .slice aF c.F.length cF, .int .i64 c.mn, .slice aB c.B.length cB] 27) = W1 at *
  generalize hnB : c.B.length = nB at *
  clear hnB g6
  have BB : Hid (∀ wz, Below w2.heap.size w2 wz → Below w.heap.size w wz) := hide (fun wz hb => B0.out.trans ((bel_trans B2.out hb).mono B0.out.size))
  go_loopw [4, 5, 6, 12] (fun u4 u5 u6 i wr => ∃ k : Nat, k ≤ nB ∧ i = .int .i64 k ∧ Hid (∀ j, j < k → insG c (c.B.getD j zI) = true) ∧ Hid (Below w2.heap.size w2 wr)) (fun u4 u5 u6 i _ => nB - (intOf i).toNat)
  case atStart => exact ⟨0, Nat.zero_le _, rfl, fun j hj => absurd hj (Nat.not_lt_zero _), Below.refl _ _⟩
  case round =>
    obtain ⟨k, hk, rfl, hall, hbel⟩ := hrel
    by_cases hlt : k < nB
    · have h1 : (k : Int) < (nB : Int) := by omega
      obtain ⟨b1, o1, rfl, hbk, f1, f2, f3, f4, f5⟩ := hB.out _ (bel_trans B2.out hbel.out) k hlt
      have hne := hide (HN.out k hlt)
      have hstep : Hid (insG c (c.B.getD k zI) = true → ∀ j, j < k + 1 → insG c (c.B.getD j zI) = true) := fun e j hj => by
        by_cases ej : j = k
        · rw [ej]; exact e
        · exact hall.out j (by omega)
      have hx := HW.out k hlt
      generalize c.B.getD k zI = x at *
      obtain ⟨op, a, b, bits, at_⟩ := x
      have Bb := hide (bel_trans hbel.out (bel_new wr (.cells #[.int .i64 op, .int .i64 a, .int .i64 b, .int .u64 bits, .int .i64 at_] 44)))
      have LK := (M2.out.bel Bb.out).look op (wf_int hx.2.1 hx.2.2)
      have Cn := hide (fun wz (hb : Below w2.heap.size w2 wz) => C0.out wz (bel_trans B2.out hb))
      have hP2 := hide (fun wz (hb : Below w2.heap.size w2 wz) => hP.out wz (bel_trans B2.out hb))
      have gP := hide (fun wz (hb : Below w2.heap.size w2 wz) => (show wz.cell? ⟨w.heap.size, 0, none⟩ = some (.slice aP c.P.length cP) from blk_cell (X0.out _ (bel_trans B2.out hb)) 0 _ rfl))
      obtain ⟨IG, hIG⟩ : ∃ ig, insG c ⟨op, a, b, bits, at_⟩ = ig := ⟨_, rfl⟩
      rw [hIG] at hne hstep
      simp only [insG] at hIG
      have f1' : wr.cell? ⟨b1, o1 + k * 5, none⟩ = some (.int .i64 op) := f1
      have f2' : wr.cell? ⟨b1, o1 + k * 5 + 1, none⟩ = some (.int .i64 a) := f2
      have f3' : wr.cell? ⟨b1, o1 + k * 5 + 2, none⟩ = some (.int .i64 b) := f3
      have f4' : wr.cell? ⟨b1, o1 + k * 5 + 3, none⟩ = some (.int .u64 bits) := f4
      have f5' : wr.cell? ⟨b1, o1 + k * 5 + 4, none⟩ = some (.int .i64 at_) := f5
      have HIG := hide hIG
      clear hIG f1 f2 f3 f4 f5 hall hB HY HN HW M2 X0 C0 hP
      cases hsh : shF c op with
      | none =>
        rw [hsh] at LK HIG
        simp only [Option.isSome_none, Option.getD_none, shZ] at LK
        go_wp2_with fail
        refine (must_no (Cn.out _ (bel_trans Bb.out (bel_new _ _)))).mono ?_
        rintro e w4 ⟨rfl, rfl⟩
        exact ⟨rfl, Gt.no (hne.out (by rw [← HIG.out]; rfl)) (BB.out _ (bel_trans Bb.out (bel_new _ _)))⟩
      | some s =>
        rw [hsh] at LK HIG
        obtain ⟨a0, a1, c0, c1, bt⟩ := s
        simp only [Option.isSome_some, Option.getD_some, Bool.true_and] at LK HIG
        have HSH := hide hsh
        clear hsh
        go_wp2_with fail
        have D5 := hide (bel_trans Bb.out (bel_new _ (.cells #[.int .i64 a0, .int .i64 a1, .int .i64 c0, .int .i64 c1, .int .u64 bt] 103)))
        have k5 : ((wr.alloc (.cells #[.int .i64 op, .int .i64 a, .int .i64 b, .int .u64 bits, .int .i64 at_] 44)).alloc (.cells #[.int .i64 a0, .int .i64 a1, .int .i64 c0, .int .i64 c1, .int .u64 bt] 103)).heap[wr.heap.size]? = some (.cells #[.int .i64 op, .int .i64 a, .int .i64 b, .int .u64 bits, .int .i64 at_] 44) := ((bel_new _ (.cells #[.int .i64 a0, .int .i64 a1, .int .i64 c0, .int .i64 c1, .int .u64 bt] 103)).block _ (by simp)).trans (Go.Deep.blk_alloc_new _ _)
        have k6 : ((wr.alloc (.cells #[.int .i64 op, .int .i64 a, .int .i64 b, .int .u64 bits, .int .i64 at_] 44)).alloc (.cells #[.int .i64 a0, .int .i64 a1, .int .i64 c0, .int .i64 c1, .int .u64 bt] 103)).heap[wr.heap.size + 1]? = some (.cells #[.int .i64 a0, .int .i64 a1, .int .i64 c0, .int .i64 c1, .int .u64 bt] 103) := by have e := Go.Deep.blk_alloc_new (wr.alloc (.cells #[.int .i64 op, .int .i64 a, .int .i64 b, .int .u64 bits, .int .i64 at_] 44)) (.cells #[.int .i64 a0, .int .i64 a1, .int .i64 c0, .int .i64 c1, .int .u64 bt] 103); simpa using e
        have FI : Hid (∀ wz, Below ((wr.alloc (.cells #[.int .i64 op, .int .i64 a, .int .i64 b, .int .u64 bits, .int .i64 at_] 44)).alloc (.cells #[.int .i64 a0, .int .i64 a1, .int .i64 c0, .int .i64 c1, .int .u64 bt] 103)).heap.size ((wr.alloc (.cells #[.int .i64 op, .int .i64 a, .int .i64 b, .int .u64 bits, .int .i64 at_] 44)).alloc (.cells #[.int .i64 a0, .int .i64 a1, .int .i64 c0, .int .i64 c1, .int .u64 bt] 103)) wz → wz.cell? ⟨wr.heap.size, 0, none⟩ = some (.int .i64 op) ∧ wz.cell? ⟨wr.heap.size, 1, none⟩ = some (.int .i64 a) ∧ wz.cell? ⟨wr.heap.size, 2, none⟩ = some (.int .i64 b) ∧ wz.cell? ⟨wr.heap.size, 3, none⟩ = some (.int .u64 bits) ∧ wz.cell? ⟨wr.heap.size, 4, none⟩ = some (.int .i64 at_) ∧ wz.cell? ⟨wr.heap.size + 1, 2, none⟩ = some (.int .i64 c0) ∧ wz.cell? ⟨wr.heap.size + 1, 3, none⟩ = some (.int .i64 c1) ∧ wz.cell? ⟨wr.heap.size + 1, 4, none⟩ = some (.int .u64 bt)) := hide (fun wz hb => by
          have e5 := (hb.block _ (lt_of_blk k5)).trans k5
          have e6 := (hb.block _ (lt_of_blk k6)).trans k6
          exact ⟨blk_cell e5 0 _ rfl, blk_cell e5 1 _ rfl, blk_cell e5 2 _ rfl, blk_cell e5 3 _ rfl, blk_cell e5 4 _ rfl, blk_cell e6 2 _ rfl, blk_cell e6 3 _ rfl, blk_cell e6 4 _ rfl⟩)
        clear k5 k6
        refine (has_any _ _ _ _).mono ?_
        rintro e w4 ⟨rfl, hb4⟩
        have D4 := hide (bel_trans D5.out hb4)
        cases hA : hasB a0 a1 a with
        | false =>
          go_wp2_with fail
          refine (must_no (Cn.out _ D4.out)).mono ?_
          rintro e w9 ⟨rfl, rfl⟩
          exact ⟨rfl, Gt.no (hne.out (by rw [← HIG.out, hA]; rfl)) (BB.out _ D4.out)⟩
        | true =>
          obtain ⟨j0, j1, j2, j3, j4, t2, t3, t4⟩ := FI.out w4 hb4
          have HA := hide hA
          rw [hA] at HIG
          clear hA
          go_wp2_with fail
          refine (has_any _ _ _ _).mono ?_
          rintro e w6 ⟨rfl, hb6⟩
          have D6 := hide (bel_trans D4.out hb6)
          have hb46 := bel_trans hb4 hb6
          clear j0 j1 j2 j3 j4 t2 t3 t4
          cases hC : hasB c0 c1 b with
          | false =>
            go_wp2_with fail
            refine (must_no (Cn.out _ D6.out)).mono ?_
            rintro e w9 ⟨rfl, rfl⟩
            exact ⟨rfl, Gt.no (hne.out (by rw [← HIG.out, hC]; rfl)) (BB.out _ D6.out)⟩
          | true =>
            obtain ⟨j0, j1, j2, j3, j4, t2, t3, t4⟩ := FI.out w6 hb46
            have HC := hide hC
            rw [hC] at HIG
            clear hC hb4 hb6 hb46 FI D4
            go_wp2_with fail
            refine (must_any (Cn.out _ D6.out) _).mono ?_
            rintro e w7 ⟨⟨h5, rfl⟩ | ⟨h5, rfl⟩, rfl⟩
            case inr => exact ⟨rfl, Gt.no (hne.out (by rw [← HIG.out, h5]; rfl)) (BB.out _ D6.out)⟩
            have HD := hide h5
            rw [h5] at HIG
            clear h5
            by_cases hat : 0 ≤ at_
            case neg =>
              have hat' : decide (0 ≤ at_) = false := decide_eq_false hat
              go_wp2_with fail
              refine (must_no (Cn.out _ D6.out)).mono ?_
              rintro e w9 ⟨rfl, rfl⟩
              exact ⟨rfl, Gt.no (hne.out (by rw [← HIG.out, hat']; rfl)) (BB.out _ D6.out)⟩
            rw [decide_eq_true hat] at HIG
            go_wp2_with fail
            refine (must_any (Cn.out _ D6.out) _).mono ?_
            rintro e w7 ⟨⟨h5, rfl⟩ | ⟨h5, rfl⟩, rfl⟩
            case inr => exact ⟨rfl, Gt.no (hne.out (by rw [← HIG.out, h5]; rfl)) (BB.out _ D6.out)⟩
            rw [h5] at HIG
            clear h5 hat
            by_cases ho : op = 8 ∨ op = 9
            · have hshape : a0 = 0 ∧ a1 = (c.P.length : Int) - 1 ∧ c0 = 1 ∧ c1 = 64 := by
                have := HSH.out
                rcases ho with rfl | rfl
                · cases this; exact ⟨rfl, rfl, rfl, rfl⟩
                · cases this; exact ⟨rfl, rfl, rfl, rfl⟩
              obtain ⟨rfl, rfl, rfl, rfl⟩ := hshape
              have hA := HA.out
              have hC := HC.out
              simp only [hasB, Bool.and_eq_true, decide_eq_true_eq] at hA hC
              obtain ⟨an, rfl⟩ : ∃ n : Nat, a = n := ⟨a.toNat, by omega⟩
              obtain ⟨bn, rfl⟩ : ∃ n : Nat, b = n := ⟨b.toNat, by omega⟩
              have RW := hide (row_any an bn (Cn.out _ D6.out) (hP2.out _ D6.out) (by omega) (by omega) s1)
              have g0 := gP.out _ D6.out
              rw [if_pos ho] at HIG
              simp only [Int.toNat_natCast] at HIG
              clear hA hC HA HC HSH
              rcases ho with rfl | rfl
              all_goals
                go_wp2_with fail
                refine RW.out.mono ?_
                intro e w8 hp
                rcases hp.both with ⟨h5, rfl, hb⟩ | ⟨h5, rfl, hb⟩
                · have Hb := hide (bel_trans D6.out hb)
                  rw [h5] at HIG
                  clear h5 hb RW
                  go_wp2_with fail
                  go_roundw
                  case rel => exact ⟨k + 1, by omega, by go_num, hstep.out HIG.out.symm, Hb.out⟩
                  case measure => simp [intOf]; omega
                · exact ⟨rfl, Gt.no (hne.out (by rw [← HIG.out, h5]; rfl)) (BB.out _ (bel_trans D6.out hb))⟩
            · have o8 : (op == 8) = false := beq_false_of_ne (fun e => ho (.inl e))
              have o9 : (op == 9) = false := beq_false_of_ne (fun e => ho (.inr e))
              rw [if_neg ho] at HIG
              clear ho
              go_wp2_with fail
              go_roundw
              case rel => exact ⟨k + 1, by omega, by go_num, hstep.out HIG.out.symm, D6.out⟩
              case measure => simp [intOf]; omega
    · obtain rfl : k = nB := by omega
      have hr := hide (HY.out hall.out)
      clear hB HY HN HW M2
      go_wp2_with fail
      go_end0
      exact Gt.yes hr.out (BB.out _ hbel.out)
end Go.Proofs.YtidjbgemnohbnaaDoor.Ck

/- Package code: a code's form. (Written by mk_c.py.) -/
namespace Go.Proofs.YtidjbgemnohbnaaDoor.Ck
open Go.RowKit

theorem cells7 {w : World} {g : Nat} {v0 v1 v2 v3 v4 v5 v6 : Value} {T : TypeId} (h : w.heap[g]? = some (.cells #[v0, v1, v2, v3, v4, v5, v6] T (0, 0))) :
    w.cell? ⟨g, 0, none⟩ = some v0 ∧ w.cell? ⟨g, 1, none⟩ = some v1 ∧ w.cell? ⟨g, 2, none⟩ = some v2 ∧ w.cell? ⟨g, 3, none⟩ = some v3 ∧ w.cell? ⟨g, 4, none⟩ = some v4 ∧ w.cell? ⟨g, 5, none⟩ = some v5 ∧ w.cell? ⟨g, 6, none⟩ = some v6 :=
  ⟨blk_cell h 0 _ rfl, blk_cell h 1 _ rfl, blk_cell h 2 _ rfl, blk_cell h 3 _ rfl, blk_cell h 4 _ rfl, blk_cell h 5 _ rfl, blk_cell h 6 _ rfl⟩

/-- the package's way of asking for the form -/
def formG (c : Cd) : Bool := sizesB c && (c.P.all typB && (c.C.all chB && (funsB c && c.B.all (insG c))))
theorem sl_one (w : World) (t : Int) (h : -9223372036854775808 ≤ t ∧ t ≤ 9223372036854775807) : Sl (w.alloc (.cells #[.int .i64 t] 3)) (.slice (some ⟨w.heap.size, 0, none⟩) 1 1) [t] := by
  refine Sl.of_row (t := 3) (zs := [t]) (n := 1) (f := fun _ => .int .i64 t) ⟨_, Go.Deep.blk_alloc_new _ _, by simp, fun i hi => ?_⟩ (by simp) (by unfold maxLen; omega) (fun z hz => by simp at hz; omega) (fun i hi => ?_)
  · obtain rfl : i = 0 := by omega
    rfl
  · have : i = 0 := by simpa using hi
    subst this
    rfl
set_option maxRecDepth 20000 in
set_option maxHeartbeats 4000000 in
theorem form_any {w : World} {p : List Addr} {vP vC vF vB : Value} {c : Cd} (hc : Ec w p) (h : Cv w vP vC vF vB c) : Calls Tryd.prog 31 #[codeA vP vC vF vB c] w (Gt p w (formG c) (.tuple #[])) := by
  have B0 := hide (bel_new w (codeO vP vC vF vB c))
  have C0 := hide (fun wz (hb : Below (w.alloc (codeO vP vC vF vB c)).heap.size (w.alloc (codeO vP vC vF vB c)) wz) => hc.bel (bel_trans B0.out hb))
  have V0 := hide (fun wz (hb : Below (w.alloc (codeO vP vC vF vB c)).heap.size (w.alloc (codeO vP vC vF vB c)) wz) => h.bel (bel_trans B0.out hb))
  have X0 := hide (fun wz (hb : Below (w.alloc (codeO vP vC vF vB c)).heap.size (w.alloc (codeO vP vC vF vB c)) wz) => (hb.block w.heap.size (by simp)).trans (show (w.alloc (codeO vP vC vF vB c)).heap[w.heap.size]? = some (codeO vP vC vF vB c) from Go.Deep.blk_alloc_new _ _))
  have S0 := hide (sizes_any (C0.out _ (Below.refl _ _)) (V0.out _ (Below.refl _ _)))
  obtain ⟨aP, cP, rfl, _, hmP⟩ := h.P.form
  obtain ⟨aC, cC, rfl, _, hmC⟩ := h.C.form
  obtain ⟨aF, cF, rfl, _, hmF⟩ := h.F.form
  obtain ⟨aB, cB, rfl, _, hmB⟩ := h.B.form
  obtain ⟨r, hr⟩ : ∃ r, formG c = r := ⟨_, rfl⟩
  rw [hr]
  have HR := hide hr
  unfold formG at HR
  have HC64 := hide (fun k (hk : k < c.C.length) => (show -9223372036854775808 ≤ (c.C.getD k z2).1 ∧ (c.C.getD k z2).1 ≤ 9223372036854775807 by
    refine h.L.K _ ?_
    rw [List.getD_eq_getElem?_getD, List.getElem?_eq_getElem hk]
    exact List.getElem_mem hk))
  clear hr hc h hmP hmC hmF hmB
  have BB : Hid (∀ wz, Below (w.alloc (.cells #[.slice aP c.P.length cP, .int .i64 c.M, .int .i64 c.A, .slice aC c.C.length cC, .slice aF c.F.length cF, .int .i64 c.mn, .slice aB c.B.length cB] 27)).heap.size (w.alloc (.cells #[.slice aP c.P.length cP, .int .i64 c.M, .int .i64 c.A, .slice aC c.C.length cC, .slice aF c.F.length cF, .int .i64 c.mn, .slice aB c.B.length cB] 27)) wz → Below w.heap.size w wz) := hide (fun wz hb => bel_trans B0.out hb)
  unfold codeA codeO at *
  go_enter Tryd.func31, Tryd.ntmps31
  go_wp2_with fail
  refine S0.out.mono ?_
  intro e w2 hp
  generalize w.alloc (.cells #[.slice aP c.P.length cP, .int .i64 c.M, .int .i64 c.A, .slice aC c.C.length cC, .slice aF c.F.length cF, .int .i64 c.mn, .slice aB c.B.length cB] 27) = W1 at *
  rcases hp.both with ⟨h1, rfl, hb⟩ | ⟨h1, rfl, hb⟩
  case inr => exact ⟨rfl, Gt.no (by rw [← HR.out, h1]; rfl) (BB.out _ hb)⟩
  have B2 := hide hb
  have HS := hide h1
  rw [h1] at HR
  clear hb h1 S0 hp
  have g0 : w2.cell? ⟨w.heap.size, 0, none⟩ = some (.slice aP c.P.length cP) := blk_cell (X0.out _ B2.out) 0 _ rfl
  go_wp2_with fail
  refine (types_any (C0.out _ B2.out) (V0.out _ B2.out).P).mono ?_
  intro e w3 hp
  rcases hp.both with ⟨h1, rfl, hb⟩ | ⟨h1, rfl, hb⟩
  case inr => exact ⟨rfl, Gt.no (by rw [← HR.out, h1]; rfl) (BB.out _ (bel_trans B2.out hb))⟩
  have B3 := hide (bel_trans B2.out hb)
  rw [h1] at HR
  clear hb h1 hp B2 g0
  have g3 : w3.cell? ⟨w.heap.size, 3, none⟩ = some (.slice aC c.C.length cC) := blk_cell (X0.out _ B3.out) 3 _ rfl
  have hC := hide (fun wz (hb : Below W1.heap.size W1 wz) i (hi : i < c.C.length) => (by
    obtain ⟨a, cp, e, _, _, h⟩ := (V0.out wz hb).C
    cases e
    exact h i hi : ∃ b off, aC = some ⟨b, off, none⟩ ∧ b < _ ∧ _))
  have HY := hide (fun (h : ∀ k, k < c.C.length → chB (c.C.getD k z2) = true) => (show c.C.all chB = true from all_yes h))
  have HN := hide (fun k (hk : k < c.C.length) (h1 : chB (c.C.getD k z2) = false) => (show r = false by rw [← HR.out, all_not k hk h1]; simp))
  have s6 : c.C.length ≤ 32 := by
    have := HS.out
    simp only [sizesB, Bool.and_eq_true, decide_eq_true_eq] at this
    omega
  go_wp2_with fail
  generalize hnC : c.C.length = nC at *
  clear hnC g3
  go_loopw [3, 12] (fun u3 i wr => ∃ k : Nat, k ≤ nC ∧ i = .int .i64 k ∧ Hid (∀ j, j < k → chB (c.C.getD j z2) = true) ∧ Hid (Below W1.heap.size W1 wr)) (fun u3 i _ => nC - (intOf i).toNat)
  case atStart => exact ⟨0, Nat.zero_le _, rfl, fun j hj => absurd hj (Nat.not_lt_zero _), B3.out⟩
  case round =>
    obtain ⟨k, hk, rfl, hall, hbel⟩ := hrel
    clear B3
    by_cases hlt : k < nC
    · have h1 : (k : Int) < (nC : Int) := by omega
      obtain ⟨b1, o1, rfl, hbk, f1, f2⟩ := hC.out _ hbel.out k hlt
      have hne := hide (HN.out k hlt)
      have hstep : Hid (chB (c.C.getD k z2) = true → ∀ j, j < k + 1 → chB (c.C.getD j z2) = true) := fun e j hj => by
        by_cases ej : j = k
        · rw [ej]; exact e
        · exact hall.out j (by omega)
      have hr64 : -9223372036854775808 ≤ (c.C.getD k z2).1 ∧ (c.C.getD k z2).1 ≤ 9223372036854775807 := HC64.out k hlt
      generalize c.C.getD k z2 = x at *
      obtain ⟨t, rm⟩ := x
      have f1' : wr.cell? ⟨b1, o1 + k * 2, none⟩ = some (.int .i64 t) := f1
      have f2' : wr.cell? ⟨b1, o1 + k * 2 + 1, none⟩ = some (.int .i64 rm) := f2
      clear f1 f2
      have Bb := hide (bel_trans hbel.out (bel_new wr (.cells #[.int .i64 t, .int .i64 rm] 65)))
      have D5 := hide (bel_trans Bb.out (bel_new _ (.cells #[.int .i64 t] 3)))
      have TY := hide (types_any (C0.out _ D5.out) (sl_one (wr.alloc (.cells #[.int .i64 t, .int .i64 rm] 65)) t hr64))
      have e0 : (wr.alloc (.cells #[.int .i64 t, .int .i64 rm] 65)).heap.size = wr.heap.size + 1 := by simp
      rw [e0] at TY
      have KI : Hid (∀ wz, Below ((wr.alloc (.cells #[.int .i64 t, .int .i64 rm] 65)).alloc (.cells #[.int .i64 t] 3)).heap.size ((wr.alloc (.cells #[.int .i64 t, .int .i64 rm] 65)).alloc (.cells #[.int .i64 t] 3)) wz → wz.cell? ⟨wr.heap.size, 1, none⟩ = some (.int .i64 rm)) := hide (fun wz hb =>
        blk_cell ((hb.block wr.heap.size (by simp; omega)).trans (((bel_new _ (.cells #[.int .i64 t] 3)).block wr.heap.size (by simp)).trans (Go.Deep.blk_alloc_new wr (.cells #[.int .i64 t, .int .i64 rm] 65)))) 1 _ rfl)
      clear hall hC HY HN hr64 e0
      go_wp2_with fail
      refine TY.out.mono ?_
      intro e w4 hp
      rcases hp.both with ⟨h5, rfl, hb⟩ | ⟨h5, rfl, hb⟩
      case inr => exact ⟨rfl, Gt.no (hne.out (by simp at h5; unfold chB; rw [h5]; rfl)) (BB.out _ (bel_trans D5.out hb))⟩
      have j1 := KI.out _ hb
      have D6 := hide (bel_trans D5.out hb)
      have ht : Hid (typB t = true) := hide (by simpa using h5)
      clear h5 hb hp KI TY
      by_cases h0 : 0 ≤ rm
      case neg =>
        have h0' : decide (0 ≤ rm) = false := decide_eq_false h0
        go_wp2_with fail
        refine (must_no (C0.out _ D6.out)).mono ?_
        rintro e w9 ⟨rfl, rfl⟩
        exact ⟨rfl, Gt.no (hne.out (by unfold chB; simp only; rw [h0', ht.out]; rfl)) (BB.out _ D6.out)⟩
      go_wp2_with fail
      refine (must_any (C0.out _ D6.out) _).mono ?_
      rintro e w7 ⟨⟨h5, rfl⟩ | ⟨h5, rfl⟩, rfl⟩
      case inr => exact ⟨rfl, Gt.no (hne.out (by unfold chB; simp only; rw [h5]; simp)) (BB.out _ D6.out)⟩
      have h6 := hide h5
      have h7 := hide h0
      clear h5 h0
      go_wp2_with fail
      go_roundw
      case rel => exact ⟨k + 1, by omega, by go_num, hstep.out (by unfold chB; simp only; rw [ht.out, decide_eq_true h7.out, h6.out]; rfl), D6.out⟩
      case measure => simp [intOf]; omega
    · obtain rfl : k = nC := by omega
      have hrC := HY.out hall.out
      rw [hrC] at HR
      have s7 : c.F.length ≤ 16 := by
        have := HS.out
        simp only [sizesB, Bool.and_eq_true, decide_eq_true_eq] at this
        exact this.1.2
      have FN := hide (functions_any (C0.out _ hbel.out) (V0.out _ hbel.out) s7)
      have VF := hide (fun wz (hb : Below W1.heap.size W1 wz) => body_any (C0.out _ hb) (V0.out _ hb) HS.out)
      have G7 : ∀ wz, Below W1.heap.size W1 wz → wz.heap[w.heap.size]? = some (.cells #[.slice aP c.P.length cP, .int .i64 c.M, .int .i64 c.A, .slice aC k cC, .slice aF c.F.length cF, .int .i64 c.mn, .slice aB c.B.length cB] 27) := fun wz hb => X0.out wz hb
      have HG := hide G7
      obtain ⟨g0, g1, g2, g3, g4, g5, g6⟩ := cells7 (G7 _ hbel.out)
      clear hrC hC HY HN G7
      unfold codeA at FN VF
      go_wp2_with fail
      refine FN.out.mono ?_
      intro e w4 hp
      rcases hp.both with ⟨h5, rfl, hb⟩ | ⟨h5, rfl, hb⟩
      case inr => exact ⟨rfl, Gt.no (by rw [← HR.out, h5]; rfl) (BB.out _ (bel_trans hbel.out hb))⟩
      have D6 := hide (bel_trans hbel.out hb)
      rw [h5] at HR
      clear g0 g1 g2 g3 g4 g5 g6 h5 hb hp FN
      obtain ⟨g0, g1, g2, g3, g4, g5, g6⟩ := cells7 (HG.out _ D6.out)
      go_wp2_with fail
      refine (VF.out _ D6.out).mono ?_
      intro e w5 hp
      rcases hp.both with ⟨h5, rfl, hb⟩ | ⟨h5, rfl, hb⟩
      case inr => exact ⟨rfl, Gt.no (by rw [← HR.out, h5]; rfl) (BB.out _ (bel_trans D6.out hb))⟩
      have D7 := hide (bel_trans D6.out hb)
      rw [h5] at HR
      clear h5 hb hp
      go_wp2_with fail
      go_end0
      exact Gt.yes HR.out.symm (BB.out _ D7.out)
end Go.Proofs.YtidjbgemnohbnaaDoor.Ck

/- Package code: its way of asking for the form is the document's; Check. -/
namespace Go.Proofs.YtidjbgemnohbnaaDoor.Ck
open Go.RowKit

theorem stB_iff : ∀ (l : List Fn3) (p : Int), stB p l = true ↔ ∀ i, i < l.length → (if i = 0 then p else (l.getD (i - 1) zF).st) < (l.getD i zF).st
  | [], p => ⟨fun _ i hi => absurd hi (Nat.not_lt_zero _), fun _ => rfl⟩
  | f :: l, p => by
    simp only [stB, Bool.and_eq_true, decide_eq_true_eq]
    rw [stB_iff l f.st]
    constructor
    · rintro ⟨h1, h2⟩ i hi
      cases i with
      | zero => exact h1
      | succ i =>
        have h3 := h2 i (by simpa using hi)
        rw [if_neg (by omega)]
        cases i with
        | zero => exact h3
        | succ i =>
          rw [if_neg (by omega)] at h3
          exact h3
    · intro h
      refine ⟨h 0 (by simp), fun i hi => ?_⟩
      have h3 := h (i + 1) (by simpa using hi)
      rw [if_neg (by omega)] at h3
      cases i with
      | zero => exact h3
      | succ i =>
        rw [if_neg (by omega)]
        exact h3
theorem get_mem {F : List Fn3} {i : Nat} (h : i < F.length) : F.getD i zF ∈ F := by
  rw [List.getD_eq_getElem?_getD, List.getElem?_eq_getElem h]
  exact List.getElem_mem h
theorem funs_eq (c : Cd) : funsB c = (mainB c && (c.F.all (fnB c.B.length) && (match c.F with | [] => true | f :: l => f.st == 0 && stB 0 l))) := by
  rw [Bool.eq_iff_iff]
  simp only [Bool.and_eq_true, funsB, has_inN, inN, decide_eq_true_eq, beq_iff_eq, List.all_eq_true, List.mem_range]
  have hmain : mainB c = true ↔ (0 ≤ c.mn ∧ c.mn < (c.F.length : Int)) ∧ (c.F.getD c.mn.toNat zF).pa = 0 := by
    unfold mainB
    by_cases h0 : 0 ≤ c.mn
    · rw [if_pos h0]
      by_cases h1 : c.mn.toNat < c.F.length
      · rw [List.getElem?_eq_getElem h1, List.getD_eq_getElem?_getD, List.getElem?_eq_getElem h1]
        simp only [Option.getD_some, beq_iff_eq]
        exact ⟨fun h => ⟨⟨h0, by omega⟩, h⟩, fun h => h.2⟩
      · rw [List.getElem?_eq_none (by omega)]
        exact ⟨fun h => (by cases h), fun h => (by omega)⟩
    · rw [if_neg h0]
      exact ⟨fun h => (by cases h), fun h => absurd h.1.1 h0⟩
  rw [hmain]
  have hent : ∀ f, fnB c.B.length f = true ↔ (0 ≤ f.st ∧ f.st < (c.B.length : Int)) ∧ entB f = true := fun f => by
    simp only [fnB, entB, inN, Bool.and_eq_true, decide_eq_true_eq]
    constructor
    · rintro ⟨h1, h2, h3, h4, h5, h6⟩
      exact ⟨h1, ⟨h2, h3⟩, ⟨h4, h5⟩, h6⟩
    · rintro ⟨h1, ⟨h2, h3⟩, ⟨h4, h5⟩, h6⟩
      exact ⟨h1, h2, h3, h4, h5, h6⟩
  have hrnd : ∀ i, rnd c i = true ↔ (i = 0 ∨ (c.F.getD (i - 1) zF).st < (c.F.getD i zF).st) ∧ (c.F.getD i zF).st < (c.B.length : Int) ∧ entB (c.F.getD i zF) = true := fun i => by
    simp only [rnd, Bool.and_eq_true, Bool.or_eq_true, decide_eq_true_eq, beq_iff_eq]
  simp only [hrnd, hent]
  constructor
  · rintro ⟨h1, h2, h3, h4⟩
    have hst : ∀ i, i < c.F.length → 0 ≤ (c.F.getD i zF).st := fun i => by
      induction i with
      | zero => intro _; omega
      | succ i ih =>
        intro hi
        have h5 := (h4 (i + 1) hi).1
        have h6 := ih (by omega)
        rcases h5 with h5 | h5
        · omega
        · rw [Nat.add_sub_cancel] at h5
          omega
    refine ⟨⟨h1, h2⟩, fun f hf => ?_, ?_⟩
    · obtain ⟨i, hi, rfl⟩ := List.mem_iff_getElem.1 hf
      have e : c.F.getD i zF = c.F[i] := by rw [List.getD_eq_getElem?_getD, List.getElem?_eq_getElem hi]; rfl
      have h5 := h4 i hi
      have h6 := hst i hi
      rw [e] at h5 h6
      exact ⟨⟨h6, h5.2.1⟩, h5.2.2⟩
    · cases hF : c.F with
      | nil => rfl
      | cons f l =>
        rw [hF] at h3 h4
        simp only [Bool.and_eq_true, beq_iff_eq]
        refine ⟨h3, (stB_iff l 0).2 fun i hi => ?_⟩
        have h5 := (h4 (i + 1) (by simpa using hi)).1
        rcases h5 with h5 | h5
        · omega
        · rw [Nat.add_sub_cancel] at h5
          cases i with
          | zero =>
            have h6 : f.st = 0 := h3
            have h7 : f.st < (l.getD 0 zF).st := h5
            rw [if_pos rfl]
            omega
          | succ i => rw [if_neg (by omega)]; exact h5
  · rintro ⟨⟨h1, h2⟩, h3, h4⟩
    have hne : 0 < c.F.length := by omega
    cases hF : c.F with
    | nil => rw [hF] at hne; exact absurd hne (by simp)
    | cons f l =>
      rw [hF] at h4
      simp only [Bool.and_eq_true, beq_iff_eq] at h4
      rw [hF] at h1 h2 h3
      refine ⟨h1, h2, h4.1, fun i hi => ?_⟩
      have h5 := h3 _ (get_mem hi)
      refine ⟨?_, h5.1.2, h5.2⟩
      cases i with
      | zero => exact .inl rfl
      | succ i =>
        right
        have h6 := (stB_iff l 0).1 h4.2 i (by simpa using hi)
        rw [Nat.add_sub_cancel]
        cases i with
        | zero =>
          rw [if_pos rfl] at h6
          have h7 : f.st = 0 := h4.1
          show f.st < (l.getD 0 zF).st
          omega
        | succ i => rw [if_neg (by omega)] at h6; exact h6
theorem formG_eq (c : Cd) (hi : ∀ x ∈ c.B, InX x) : formG c = formB c := by
  have e : c.B.all (insG c) = c.B.all (insB c) := by
    rw [Bool.eq_iff_iff]
    simp only [List.all_eq_true]
    exact ⟨fun h x hx => by rw [← insG_eq c x (hi x hx).1 (by have := (hi x hx).1.1; omega)]; exact h x hx, fun h x hx => by rw [insG_eq c x (hi x hx).1 (by have := (hi x hx).1.1; omega)]; exact h x hx⟩
  unfold formG formB
  rw [e, funs_eq]
  rw [Bool.eq_iff_iff]
  simp only [Bool.and_eq_true, sizesB, decide_eq_true_eq]
  constructor
  · rintro ⟨⟨⟨⟨⟨⟨s1, s2, s3⟩, s4, s5⟩, s6⟩, s7⟩, s8⟩, hp, hc, ⟨hm, hf, ht⟩, hb⟩
    exact ⟨⟨⟨⟨⟨⟨⟨s1, s2⟩, s4⟩, s6⟩, s7⟩, s8⟩, hm⟩, ⟨⟨⟨hp, hc⟩, hf⟩, ht⟩, hb⟩
  · rintro ⟨⟨⟨⟨⟨⟨⟨s1, s2⟩, s4⟩, s6⟩, s7⟩, s8⟩, hm⟩, ⟨⟨⟨hp, hc⟩, hf⟩, ht⟩, hb⟩
    exact ⟨⟨⟨⟨⟨⟨s1, s2, by omega⟩, s4, by omega⟩, s6⟩, s7⟩, s8⟩, hp, hc, ⟨hm, hf, ht⟩, hb⟩
end Go.Proofs.YtidjbgemnohbnaaDoor.Ck

/- Package code: what gives up is caught (caught); Check. -/
namespace Go.Proofs.YtidjbgemnohbnaaDoor.Ck
open Go.RowKit

theorem assert_err (p : List Addr) (i : Nat) (w : World) : (Instr.typeAssert (errV p i) 20 32 false).run Tryd.prog w = .ok (errV p i) w := by
  unfold errV
  first
  | kernel_rfl
  | simp [Instr.typeAssert, run_underlying Tryd.underlying32, go_sem, Result.andThen]
theorem catchC_idle (a : Addr) (w : World) :
    CallsD Tryd.prog 34 #[.pointer (some a)] .returning w fun e u' w' => e = .returned (.tuple #[]) ∧ u' = .returning ∧ w' = w := by
  refine callsD_of_wpS Tryd.func34 rfl fun c₀ cs hu => ?_
  apply wpS_seq
  apply wpS_region
  simp [wpOpsS, go_sem, recoverD, hu, Tryd.ntmps34, Exit.thenS]
  apply wpS_seq
  refine wpS_of_wp ?_
  go_wp2_with fail
  refine wpS_cond (t := false) (by simp [Act.eval, Array.replicate]) ?_
  simp only [Bool.false_eq_true, if_false]
  refine wpS_of_wp (wp_skip ?_)
  cases c₀
  simp_all [bodyPostS, results, Tryd.results34]
theorem catchC_stop (b : Nat) (v0 : Value) (p : List Addr) (w : World) (hB : w.heap[b]? = some (.cells #[v0] 32 (0, 0))) :
    CallsD Tryd.prog 34 #[.pointer (some ⟨b, 0, none⟩)] (.panicking [{ v := errV p 8, recovered := false }]) w fun e u' w' =>
      e = .returned (.tuple #[]) ∧ u' = .panicking [{ v := errV p 8, recovered := true }] ∧ w'.heap[b]? = some (.cells #[errV p 8] 32 (0, 0)) ∧ ∀ B, B ≤ b → Below B w w' := by
  have f0 := blk_frz hB 0
  have c0 := blk_cell hB 0 _ rfl
  have ha := assert_err
  unfold errV at *
  refine callsD_of_wpS Tryd.func34 rfl fun c₀ cs hu => ?_
  apply wpS_seq
  apply wpS_region
  simp [wpOpsS, go_sem, recoverD, hu, Tryd.ntmps34, Exit.thenS]
  apply wpS_seq
  refine wpS_of_wp ?_
  go_wp2_with fail
  refine wpS_cond (t := true) (by simp [Act.eval, Array.replicate]) ?_
  simp only [if_true]
  refine wpS_of_wp ?_
  change Code.wp _ _ _ { tmps := #[.pointer (some ⟨b, 0, none⟩), .iface 114 (.pointer (some (adr p 8))), .iface 114 (.pointer (some (adr p 8))), .iface 114 (.pointer (some (adr p 8))), .bool true, undef, undef], defers := [] } _
  go_wp2_with fail
  obtain ⟨k1, t1⟩ := set1 hB 0 (.iface 114 (.pointer (some (adr p 8))))
  have hlt := lt_of_blk hB
  exact ⟨rfl, _, rfl, _, results_none rfl _ _ _, rfl, rfl, k1, fun B h1 => t1.bel h1 (by omega)⟩
theorem results_caught {tmps : Array Value} {b : Nat} {w : World} {v : Value} (h2 : tmps.getD 2 undef = .pointer (some ⟨b, 0, none⟩)) (hB : w.heap[b]? = some (.cells #[v] 32 (0, 0))) :
    (results Tryd.f29 tmps).run Tryd.prog w = .ok v w := by
  have h2' : tmps[2]?.getD undef = .pointer (some ⟨b, 0, none⟩) := by simpa using h2
  have c0 := blk_cell hB 0 _ rfl
  simp [results, Tryd.results29, h2', go_sem, c0]
theorem doorC_stop {R : Ending → World → Prop} {tmps : Array Value} {b : Nat} {w : World} {v0 : Value} {p : List Addr} (h2 : tmps.getD 2 undef = .pointer (some ⟨b, 0, none⟩)) (hB : w.heap[b]? = some (.cells #[v0] 32 (0, 0)))
    (hR : ∀ w', (∀ B, B ≤ b → Below B w w') → R (.returned (errV p 8)) w') :
    Leaves Tryd.prog Tryd.f29 tmps R [{ target := .fn (.func 34) #[.pointer (some ⟨b, 0, none⟩)], args := #[] }] (.panicking [{ v := errV p 8, recovered := false }]) w := by
  refine leaves_cons (f := 34) (args := #[.pointer (some ⟨b, 0, none⟩)]) (by simp) (by simp [go_sem]) ?_
  refine (catchC_stop b v0 p w hB).mono ?_
  rintro e u' w' ⟨rfl, rfl, k1, hb⟩
  exact ⟨_, results_caught h2 k1, hR w' hb⟩
theorem doorC_end {R : Ending → World → Prop} {tmps : Array Value} {b : Nat} {w : World} {v : Value} (h2 : tmps.getD 2 undef = .pointer (some ⟨b, 0, none⟩)) (hB : w.heap[b]? = some (.cells #[v] 32 (0, 0)))
    (hR : R (.returned v) w) :
    Leaves Tryd.prog Tryd.f29 tmps R [{ target := .fn (.func 34) #[.pointer (some ⟨b, 0, none⟩)], args := #[] }] .returning w := by
  refine leaves_cons (f := 34) (args := #[.pointer (some ⟨b, 0, none⟩)]) (by simp) (by simp [go_sem]) ?_
  refine (catchC_idle _ w).mono ?_
  rintro e u' w' ⟨rfl, rfl, rfl⟩
  exact ⟨_, results_caught h2 hB, hR⟩
/-- no error, or the one that package code gives up with -/
def erK (p : List Addr) (ok : Bool) : Value := if ok = true then .nilIface else errV p 8
set_option maxRecDepth 20000 in
set_option maxHeartbeats 1000000 in
theorem check1_any {w : World} {p : List Addr} {b : Nat} {vP vC vF vB : Value} {c : Cd} (hc : Ec w p) (h : Cv w vP vC vF vB c) (hb : w.heap[b]? = some (.cells #[vP, .int .i64 c.M, .int .i64 c.A, vC, vF, .int .i64 c.mn, vB] 27 (0, 0))) :
    Calls Tryd.prog 30 #[.pointer (some ⟨b, 0, none⟩)] w (Gt p w (formG c) (.tuple #[])) := by
  have FO := hide (form_any hc h)
  unfold codeA at FO
  obtain ⟨g0, g1, g2, g3, g4, g5, g6⟩ := cells7 hb
  clear hb hc h
  go_enter Tryd.func30, Tryd.ntmps30
  go_wp2_with fail
  refine FO.out.mono ?_
  intro e w2 hp
  rcases hp.both with ⟨h1, rfl, hb⟩ | ⟨h1, rfl, hb⟩
  case inr => exact ⟨rfl, Gt.no h1 hb⟩
  go_wp2_with fail
  go_end0
  exact Gt.yes h1 hb
set_option maxRecDepth 20000 in
set_option maxHeartbeats 1000000 in
theorem caughtK_any {w : World} {p : List Addr} {b : Nat} {vP vC vF vB : Value} {c : Cd} (hc : Ec w p) (h : Cv w vP vC vF vB c) (hb : w.heap[b]? = some (.cells #[vP, .int .i64 c.M, .int .i64 c.A, vC, vF, .int .i64 c.mn, vB] 27 (0, 0))) :
    Calls Tryd.prog 29 #[.func (.func 30) #[] #[.pointer (some ⟨b, 0, none⟩)]] w fun e w' => e = .returned (erK p (formG c)) ∧ Below w.heap.size w w' := by
  have hmf : ∀ (fn : Fn) (first cap : Array Value) (w : World), (Instr.makeFunc fn first cap).run Tryd.prog w = .ok (.func fn first cap) w := fun _ _ _ _ => rfl
  have B0 := hide (bel_new w (.cells #[.nilIface] 32))
  have K0 := hide (show (w.alloc (.cells #[.nilIface] 32)).heap[w.heap.size]? = some (.cells #[.nilIface] 32 (0, 0)) from Go.Deep.blk_alloc_new _ _)
  have CH := hide (check1_any (hc.bel B0.out) (h.bel B0.out) ((B0.out.block b (lt_of_blk hb)).trans hb))
  have hsz : (w.alloc (.cells #[.nilIface] 32)).heap.size = w.heap.size + 1 := by simp
  have HSZ := hide hsz
  clear hb hc h hsz
  go_enter_defers Tryd.func29, Tryd.ntmps29
  go_wp2_with fail
  refine CH.out.mono ?_
  intro e w2 hp
  generalize w.alloc (.cells #[.nilIface] 32) = W1 at *
  have HG := hide hp
  rcases hp.both with ⟨h1, rfl, hb⟩ | ⟨h1, rfl, hb⟩
  · have K2 := (hb.block w.heap.size (by have := HSZ.out; omega)).trans K0.out
    have c0 := blk_cell K2 0 _ rfl
    have f0 := blk_frz K2 0
    obtain ⟨k3, t3⟩ := set1 K2 0 .nilIface
    have hb2 := hide (bel_trans B0.out hb)
    have K3 := hide k3
    have T3 := hide t3
    have H1 := hide h1
    clear k3 t3 h1 hb HG CH B0 K0 K2 hp
    go_wp2_with fail
    refine doorC_end rfl K3.out ?_
    exact ⟨by rw [H1.out]; rfl, hb2.out.trans (T3.out.bel (Nat.le_refl _) hb2.out.size)⟩
  · have K2 := (hb.block w.heap.size (by have := HSZ.out; omega)).trans K0.out
    have hb2 := bel_trans B0.out hb
    refine doorC_stop rfl K2 (fun w' hB => ?_)
    exact ⟨by rw [h1]; rfl, hb2.trans (hB _ (Nat.le_refl _))⟩
set_option maxRecDepth 20000 in
set_option maxHeartbeats 1000000 in
theorem check_any {w : World} {p : List Addr} {vP vC vF vB : Value} {c : Cd} (hc : Ec w p) (h : Cv w vP vC vF vB c) :
    Calls Tryd.prog 22 #[codeA vP vC vF vB c] w fun e w' => e = .returned (erK p (formB c)) ∧ Below w.heap.size w w' := by
  have hmf : ∀ (fn : Fn) (first cap : Array Value) (w : World), (Instr.makeFunc fn first cap).run Tryd.prog w = .ok (.func fn first cap) w := fun _ _ _ _ => rfl
  rw [← formG_eq c h.L.I]
  have B0 := hide (bel_new w (codeO vP vC vF vB c))
  have CK := hide (caughtK_any (hc.bel B0.out) (h.bel B0.out) (Go.Deep.blk_alloc_new w (codeO vP vC vF vB c)))
  obtain ⟨r, hr⟩ : ∃ r, erK p (formG c) = r := ⟨_, rfl⟩
  rw [hr] at CK ⊢
  clear hr hc h
  unfold codeA codeO at *
  go_enter Tryd.func22, Tryd.ntmps22
  go_wp2_with fail
  refine CK.out.mono ?_
  rintro e w2 ⟨rfl, hb⟩
  have hb2 := hide (bel_trans B0.out hb)
  clear hb CK B0
  go_wp2_with fail
  go_ret
  exact ⟨rfl, hb2.out⟩
end Go.Proofs.YtidjbgemnohbnaaDoor.Ck

/- Package code: the operators and their numbers. -/
namespace Go.Proofs.YtidjbgemnohbnaaDoor.Ck
open Go.RowKit

def ops10 : List ByteArray := [⟨#[45]⟩, ⟨#[33]⟩, ⟨#[105, 110, 116]⟩, ⟨#[102, 108, 111, 97, 116]⟩]
def ops11 : List ByteArray := [⟨#[43]⟩, ⟨#[45]⟩, ⟨#[42]⟩, ⟨#[47]⟩, ⟨#[37]⟩, ⟨#[61, 61]⟩, ⟨#[33, 61]⟩, ⟨#[60]⟩, ⟨#[60, 61]⟩, ⟨#[62]⟩, ⟨#[62, 61]⟩]
def opsL (op : Int) : List ByteArray := if op = 10 then ops10 else if op = 11 then ops11 else []
/-- a slice of texts -/
def SlS (w : World) (v : Value) (l : List ByteArray) : Prop := ∃ a cap, v = .slice a l.length cap ∧ l.length ≤ cap ∧ ∀ i, i < l.length → ∃ b off, a = some ⟨b, off, none⟩ ∧ w.cell? ⟨b, off + i, none⟩ = some (.string (l.getD i ⟨#[]⟩))
theorem SlS.new (w : World) (l : List ByteArray) : SlS (w.alloc (.cells (l.map Value.string).toArray 9)) (.slice (some ⟨w.heap.size, 0, none⟩) l.length l.length) l := by
  refine ⟨_, _, rfl, Nat.le_refl _, fun i hi => ⟨_, _, rfl, ?_⟩⟩
  rw [Nat.zero_add]
  refine blk_cell (Go.Deep.blk_alloc_new _ _) i _ ?_
  rw [List.getElem?_toArray, List.getElem?_map, List.getD_eq_getElem?_getD, List.getElem?_eq_getElem hi]
  rfl
/-- the number of a text among some: 0 where it is none of them -/
def numF : List ByteArray → ByteArray → Nat → Int
  | [], _, _ => 0
  | x :: l, s, k => if s.toList = x.toList then (k : Int) + 1 else numF l s (k + 1)
theorem numF_at : ∀ (l : List ByteArray) (s : ByteArray) (m k : Nat), k < l.length → (∀ j, j < k → s.toList ≠ (l.getD j ⟨#[]⟩).toList) → s.toList = (l.getD k ⟨#[]⟩).toList → numF l s m = (m : Int) + k + 1
  | [], _, _, k, h, _, _ => absurd h (Nat.not_lt_zero _)
  | x :: l, s, m, 0, _, _, h => by
    unfold numF
    rw [if_pos (show s.toList = x.toList from h)]
    omega
  | x :: l, s, m, k + 1, h, h1, h2 => by
    unfold numF
    rw [if_neg (show ¬ s.toList = x.toList from h1 0 (by omega)), numF_at l s (m + 1) k (by simpa using h) (fun j hj => h1 (j + 1) (by omega)) h2]
    omega
theorem numF_none : ∀ (l : List ByteArray) (s : ByteArray) (m : Nat), (∀ j, j < l.length → s.toList ≠ (l.getD j ⟨#[]⟩).toList) → numF l s m = 0
  | [], _, _, _ => rfl
  | x :: l, s, m, h => by
    unfold numF
    rw [if_neg (show ¬ s.toList = x.toList from h 0 (by simp)), numF_none l s (m + 1) (fun j hj => h (j + 1) (by simpa using hj))]
theorem numF_rng : ∀ (l : List ByteArray) (s : ByteArray) (m : Nat), 0 ≤ numF l s m ∧ numF l s m ≤ (m : Int) + l.length
  | [], _, _ => by simp [numF]
  | x :: l, s, m => by
    have h := numF_rng l s (m + 1)
    unfold numF
    split
    · simp; omega
    · simp at h ⊢; omega
theorem opsL_len (op : Int) : (opsL op).length ≤ 11 := by
  unfold opsL
  split
  · decide
  · split <;> decide
set_option maxRecDepth 20000 in
theorem operators_any (op : Int) (w : World) : Calls Tryd.prog 57 #[.int .i64 op] w fun e w' => ∃ v, e = .returned v ∧ SlS w' v (opsL op) ∧ Below w.heap.size w w' := by
  by_cases h1 : op = 10
  · subst h1
    go_enter Tryd.func57, Tryd.ntmps57
    go_wp2_with fail
    go_ret
    exact ⟨_, rfl, SlS.new w ops10, bel_new _ _⟩
  by_cases h2 : op = 11
  · subst h2
    clear h1
    go_enter Tryd.func57, Tryd.ntmps57
    go_wp2_with fail
    go_ret
    exact ⟨_, rfl, SlS.new w ops11, bel_new _ _⟩
  · have e : opsL op = [] := by unfold opsL; rw [if_neg h1, if_neg h2]
    rw [e]
    have e1 : (op == 10) = false := beq_false_of_ne h1
    have e2 : (op == 11) = false := beq_false_of_ne h2
    clear h1 h2 e
    go_enter Tryd.func57, Tryd.ntmps57
    go_wp2_with fail
    go_ret
    exact ⟨_, rfl, ⟨none, 0, rfl, Nat.le_refl _, fun i hi => absurd hi (Nat.not_lt_zero _)⟩, Below.refl _ _⟩
/-- the operator of a number -/
def opN (op a : Int) : ByteArray := if 1 ≤ a ∧ a ≤ ((opsL op).length : Int) then (opsL op).getD (a - 1).toNat ⟨#[]⟩ else ⟨#[]⟩
set_option maxRecDepth 20000 in
theorem operator_any (op a : Int) (w : World) : Calls Tryd.prog 55 #[.int .i64 op, .int .i64 a] w (Vb w (.string (opN op a))) := by
  have hl := opsL_len op
  obtain ⟨r, hr⟩ : ∃ r, r = opN op a := ⟨_, rfl⟩
  rw [← hr]
  unfold opN at hr
  have HR := hide hr
  clear hr
  go_enter Tryd.func55, Tryd.ntmps55
  go_wp2_with fail
  refine (operators_any op w).mono ?_
  rintro e w2 ⟨v, rfl, hs, hb⟩
  have HB := hide hb
  obtain ⟨ad, cap, rfl, hcap, hcs⟩ := hs
  generalize opsL op = l at *
  obtain ⟨n, hn⟩ : ∃ n, n = l.length := ⟨_, rfl⟩
  rw [← hn] at HR hl hcs hcap ⊢
  clear hb hn
  by_cases h1 : 1 ≤ a
  · have h1' : decide (a < 1) = false := decide_eq_false (by omega)
    by_cases h2 : a ≤ (n : Int)
    · have h2' : decide ((n : Int) < a) = false := decide_eq_false (by omega)
      obtain ⟨k, hk⟩ : ∃ k : Nat, a - 1 = k := ⟨(a - 1).toNat, by omega⟩
      obtain ⟨b, off, rfl, hc⟩ := hcs k (by omega)
      have e1 : wrap64 (a - 1) = (k : Int) := by unfold wrap64; omega
      have hkn : (k : Int) < (n : Int) := by omega
      rw [if_pos ⟨h1, h2⟩, hk, Int.toNat_natCast] at HR
      rw [← HR.out] at hc
      clear hcs h1 h2 hk HR
      go_wp2_with fail
      go_ret
      exact ⟨rfl, HB.out⟩
    · have h2' : decide ((n : Int) < a) = true := decide_eq_true (by omega)
      rw [if_neg (fun h => h2 h.2)] at HR
      have hr := HR.out
      subst hr
      clear hcs h1 h2 HR
      go_wp2_with fail
      go_ret
      exact ⟨rfl, HB.out⟩
  · have h1' : decide (a < 1) = true := decide_eq_true (by omega)
    rw [if_neg (fun h => h1 h.1)] at HR
    have hr := HR.out
    subst hr
    clear hcs h1 HR
    go_wp2_with fail
    go_ret
    exact ⟨rfl, HB.out⟩
end Go.Proofs.YtidjbgemnohbnaaDoor.Ck
