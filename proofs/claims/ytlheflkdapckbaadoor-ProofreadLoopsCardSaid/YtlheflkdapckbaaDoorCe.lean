/- Package code: a code's functions. (Written by mk_c.py.) -/
import Derived.Test.YtlheflkdapckbaaDoorCd
import Derived.Test.YtlheflkdapckbaaDoorHold
namespace Go.Proofs.YtlheflkdapckbaaDoor.Ck
open Go.RowKit

def rnd (c : Cd) (i : Nat) : Bool := (i == 0 || decide ((c.F.getD (i - 1) zF).st < (c.F.getD i zF).st)) && (decide ((c.F.getD i zF).st < (c.B.length : Int)) && entB (c.F.getD i zF))
def funsB (c : Cd) : Bool := hasB 0 ((c.F.length : Int) - 1) c.mn && ((c.F.getD c.mn.toNat zF).pa == 0 && ((c.F.getD 0 zF).st == 0 && (List.range c.F.length).all (rnd c)))
theorem range_no {n k : Nat} {f : Nat → Bool} (hk : k < n) (h : f k = false) : (List.range n).all f = false := by
  rw [List.all_eq_false]
  exact ⟨k, by simpa using hk, by simp [h]⟩
theorem range_yes {n : Nat} {f : Nat → Bool} (h : ∀ k, k < n → f k = true) : (List.range n).all f = true := by
  rw [List.all_eq_true]
  intro k hk
  exact h k (by simpa using hk)
set_option maxRecDepth 20000 in
set_option maxHeartbeats 4000000 in
theorem functions_any {w : World} {p : List Addr} {vP vC vF vB : Value} {c : Cd} (hc : Ec w p) (h : Cv w vP vC vF vB c) (hF16 : c.F.length ≤ 16) : Calls Tryd.prog 40 #[codeA vP vC vF vB c] w (Gt p w (funsB c) (.tuple #[])) := by
  have B0 := hide (bel_new w (codeO vP vC vF vB c))
  have C0 := hide (fun wz (hb : Below (w.alloc (codeO vP vC vF vB c)).heap.size (w.alloc (codeO vP vC vF vB c)) wz) => hc.bel (bel_trans B0.out hb))
  have X0 := hide (fun wz (hb : Below (w.alloc (codeO vP vC vF vB c)).heap.size (w.alloc (codeO vP vC vF vB c)) wz) => (hb.block w.heap.size (by simp)).trans (show (w.alloc (codeO vP vC vF vB c)).heap[w.heap.size]? = some (codeO vP vC vF vB c) from Go.Deep.blk_alloc_new _ _))
  obtain ⟨aP, cP, rfl, _, hmP⟩ := h.P.form
  obtain ⟨aC, cC, rfl, _, hmC⟩ := h.C.form
  obtain ⟨aF, cF, rfl, _, hmF⟩ := h.F.form
  obtain ⟨aB, cB, rfl, _, hmB⟩ := h.B.form
  have hF := hide (fun wz (hb : Below (w.alloc (.cells #[.slice aP c.P.length cP, .int .i64 c.M, .int .i64 c.A, .slice aC c.C.length cC, .slice aF c.F.length cF, .int .i64 c.mn, .slice aB c.B.length cB] 27)).heap.size (w.alloc (.cells #[.slice aP c.P.length cP, .int .i64 c.M, .int .i64 c.A, .slice aC c.C.length cC, .slice aF c.F.length cF, .int .i64 c.mn, .slice aB c.B.length cB] 27)) wz) i (hi : i < c.F.length) => (by
    obtain ⟨a, cp, e, _, _, h⟩ := (h.bel (bel_trans B0.out hb)).F
    cases e
    exact h i hi : ∃ b off vl, aF = some ⟨b, off, none⟩ ∧ b < _ ∧ _))
  obtain ⟨r, hr⟩ : ∃ r, funsB c = r := ⟨_, rfl⟩
  rw [hr]
  have HR := hide hr
  have HY := hide (fun (h1 : hasB 0 ((c.F.length : Int) - 1) c.mn = true) (h2 : ((c.F.getD c.mn.toNat zF).pa == 0) = true) (h3 : ((c.F.getD 0 zF).st == 0) = true) (h : ∀ k, k < c.F.length → rnd c k = true) => (show r = true by rw [← hr]; unfold funsB; rw [h1, h2, h3, range_yes h]; rfl))
  have HN1 := hide (fun (h1 : hasB 0 ((c.F.length : Int) - 1) c.mn = false) => (show r = false by rw [← hr]; unfold funsB; rw [h1]; rfl))
  have HN2 := hide (fun (h1 : ((c.F.getD c.mn.toNat zF).pa == 0) = false) => (show r = false by rw [← hr]; unfold funsB; rw [h1]; simp))
  have HN3 := hide (fun (h1 : ((c.F.getD 0 zF).st == 0) = false) => (show r = false by rw [← hr]; unfold funsB; rw [h1]; simp))
  have HN4 := hide (fun k (hk : k < c.F.length) (h1 : rnd c k = false) => (show r = false by rw [← hr]; unfold funsB; rw [range_no hk h1]; simp))
  clear hr hc h hmP hmC hmF hmB HR
  unfold codeA codeO at *
  go_enter Tryd.func40, Tryd.ntmps40
  go_wp2_with fail
  generalize w.alloc (.cells #[.slice aP c.P.length cP, .int .i64 c.M, .int .i64 c.A, .slice aC c.C.length cC, .slice aF c.F.length cF, .int .i64 c.mn, .slice aB c.B.length cB] 27) = W1 at *
  generalize c.P.length = nP at *
  generalize c.C.length = nC at *
  generalize hnF : c.F.length = nF at *
  generalize hnB : c.B.length = nB at *
  generalize c.M = M at *
  generalize c.A = A at *
  generalize c.mn = mn at *
  have HnB := hide hnB
  clear hnF hnB
  have X1 := hide (X0.out _ (bel_drawn (Below.refl _ _)))
  refine wp_region_T (S := fun wz => wz.heap[w.heap.size]? = some (.cells #[.slice aP nP cP, .int .i64 M, .int .i64 A, .slice aC nC cC, .slice aF nF cF, .int .i64 mn, .slice aB nB cB] 27)) (fun _ => true) mixed X1.out (fun hH => ?_)
  refine T_move (i := 0) (v := ?_) rfl (by kernel_rfl) (by kernel_rfl) (by kernel_rfl) (fun _ _ _ h => h) (Or.inl ⟨by rfl, ?_⟩) ?_
  rotate_left 1
  · (intro w _; go_simp <;> with_reducible rfl)
  simp only [Act.put, List.getElem_toArray, List.getElem_cons_zero, List.setIfInBounds_toArray, List.set_cons_zero, List.set_cons_succ]
  refine T_take (i := 1) (v := ?_) rfl (by kernel_rfl) (by kernel_rfl) (by kernel_rfl) (by kernel_rfl) (fun _ _ _ h => h) (Or.inl ⟨by rfl, ?_⟩) hH ?_
  rotate_left 1
  · (intro w hSw; have c4 := blk_cell hSw 4 _ rfl; clear hSw; go_simp <;> with_reducible rfl)
  simp only [Act.put, List.getElem_toArray, List.getElem_cons_zero, List.getElem_cons_succ, List.setIfInBounds_toArray, List.set_cons_zero, List.set_cons_succ]
  refine T_move (i := 2) (v := ?_) rfl (by kernel_rfl) (by kernel_rfl) (by kernel_rfl) (fun _ _ _ h => h) (Or.inl ⟨by rfl, ?_⟩) ?_
  rotate_left 1
  · (intro w _; go_simp <;> with_reducible rfl)
  simp only [Act.put, List.getElem_toArray, List.getElem_cons_zero, List.getElem_cons_succ, List.setIfInBounds_toArray, List.set_cons_zero, List.set_cons_succ]
  refine T_move (i := 4) (v := ?_) rfl (by kernel_rfl) (by kernel_rfl) (by kernel_rfl) (fun _ _ _ h => h) (Or.inl ⟨by rfl, ?_⟩) ?_
  rotate_left 1
  · (intro w _; go_simp <;> with_reducible rfl)
  simp only [Act.put, List.getElem_toArray, List.getElem_cons_zero, List.getElem_cons_succ, List.setIfInBounds_toArray, List.set_cons_zero, List.set_cons_succ]
  refine T_take (i := 5) (v := ?_) rfl (by kernel_rfl) (by kernel_rfl) (by kernel_rfl) (by kernel_rfl) (fun _ _ _ h => h) (Or.inl ⟨by rfl, ?_⟩) hH ?_
  rotate_left 1
  · (intro w hSw; have c5 := blk_cell hSw 5 _ rfl; clear hSw; go_simp <;> with_reducible rfl)
  simp only [Act.put, List.getElem_toArray, List.getElem_cons_zero, List.getElem_cons_succ, List.setIfInBounds_toArray, List.set_cons_zero, List.set_cons_succ]
  refine T_ready (rs := [3]) (by kernel_rfl) (by decide) ?_
  refine AllReadyT.cons rfl (fun K1 hK1 => ?_) AllReadyT.nil
  go_simp
  refine (oneOf_any _ _ (by omega) (by omega)).mono ?_
  rintro e w2 ⟨rfl, hb2⟩
  have B2 := hide ((bel_drawn (Below.refl W1.heap.size W1)).trans hb2)
  refine hK1.out _ _ (fun _ => X0.out _ B2.out) (fun _ => ?_)
  clear hK1 K1 hb2
  refine T_ready (rs := [6]) (by kernel_rfl) (by decide) ?_
  refine AllReadyT.cons rfl (fun K1 hK1 => ?_) AllReadyT.nil
  go_simp
  refine (has_any _ _ _ _).mono ?_
  rintro e w3 ⟨rfl, hb3⟩
  have B3 := hide (B2.out.trans (hb3.mono B2.out.size))
  refine hK1.out _ _ (fun _ => X0.out _ B3.out) (fun _ => ?_)
  clear hK1 K1 hb3 B2
  refine T_ready (rs := [7]) (by kernel_rfl) (by decide) ?_
  refine AllReadyT.cons rfl (fun K1 hK1 => ?_) AllReadyT.nil
  go_simp
  refine (must_any (C0.out _ B3.out) _).mono ?_
  rintro e w4 ⟨⟨h1, rfl⟩ | ⟨h1, rfl⟩, rfl⟩
  case inr => exact ⟨rfl, Gt.no (HN1.out h1) (B0.out.trans (B3.out.mono B0.out.size))⟩
  have hh := hide h1
  refine hK1.out _ _ (fun _ => X0.out _ B3.out) (fun _ => ?_)
  clear hK1 K1 h1
  refine T_done (by kernel_rfl) ?_ _
  clear hH X1
  have hmn0 : 0 ≤ mn ∧ mn ≤ (nF : Int) - 1 := by have := hh.out; simp [hasB] at this; exact this
  obtain ⟨m, rfl⟩ : ∃ m : Nat, mn = m := ⟨mn.toNat, by omega⟩
  have hm1 : (m : Int) < (nF : Int) := by omega
  have hmF : m < nF := by omega
  obtain ⟨bF, oF, vl, rfl, hbl, f1, f2, f3, f4⟩ := hF.out _ B3.out m hmF
  have g4 : w3.cell? ⟨w.heap.size, 4, none⟩ = some (.slice (some ⟨bF, oF, none⟩) nF cF) := blk_cell (X0.out _ B3.out) 4 _ rfl
  have g5 : w3.cell? ⟨w.heap.size, 5, none⟩ = some (.int .i64 m) := blk_cell (X0.out _ B3.out) 5 _ rfl
  clear f1 f3 f4
  rw [Int.toNat_natCast] at HN2 HY
  generalize (c.F.getD m zF).pa = y at *
  go_wp2_with fail
  refine (must_any (C0.out _ B3.out) _).mono ?_
  rintro e w4 ⟨⟨h1, rfl⟩ | ⟨h1, rfl⟩, rfl⟩
  case inr => exact ⟨rfl, Gt.no (HN2.out h1) (B0.out.trans (B3.out.mono B0.out.size))⟩
  have h2 := hide h1
  clear h1 HN1 HN2 f2 g5
  have hF0 : 0 < nF := by omega
  obtain ⟨b0, o0, vl0, e0, hbl0, f1, f2, f3, f4⟩ := hF.out _ B3.out 0 hF0
  cases e0
  rw [Nat.zero_mul, Nat.add_zero] at f1
  have hF0' : (0 : Int) < (nF : Int) := by omega
  clear f2 f3 f4
  generalize (c.F.getD 0 zF).st = y0 at *
  go_wp2_with fail
  refine (must_any (C0.out _ B3.out) _).mono ?_
  rintro e w4 ⟨⟨h1, rfl⟩ | ⟨h1, rfl⟩, rfl⟩
  case inr => exact ⟨rfl, Gt.no (HN3.out h1) (B0.out.trans (B3.out.mono B0.out.size))⟩
  have h3 := hide h1
  clear h1 HN3 f1
  go_wp2_with fail
  go_loopw [2, 3, 31] (fun u2 u3 i wr => ∃ k : Nat, k ≤ nF ∧ i = .int .i64 k ∧ Hid (∀ j, j < k → rnd c j = true) ∧ Hid (Below W1.heap.size W1 wr)) (fun u2 u3 i _ => nF - (intOf i).toNat)
  case atStart => exact ⟨0, Nat.zero_le _, rfl, fun j hj => absurd hj (Nat.not_lt_zero _), B3.out⟩
  case round =>
    obtain ⟨k, hk, rfl, hall, hbel⟩ := hrel
    clear B3 g4
    by_cases hlt : k < nF
    · have h1 : (k : Int) < (nF : Int) := by omega
      obtain ⟨b1, o1, vk, e1, hbk, f1, f2, f3, f4⟩ := hF.out _ hbel.out k hlt
      cases e1
      have hne := hide (HN4.out k hlt)
      have hstep : Hid (rnd c k = true → ∀ j, j < k + 1 → rnd c j = true) := fun e j hj => by
        by_cases ej : j = k
        · rw [ej]; exact e
        · exact hall.out j (by omega)
      obtain ⟨f, hf⟩ : ∃ f, f = c.F.getD k zF := ⟨_, rfl⟩
      rw [← hf] at f1 f2 f4
      obtain ⟨ak, ck, rfl, _, _⟩ := f4.form
      obtain ⟨nk, hnk⟩ : ∃ nk, f.lo.length = nk := ⟨_, rfl⟩
      rw [hnk] at f3 f4
      have HNK := hide hnk
      clear hnk
      obtain ⟨ps, hps⟩ : ∃ ps, ps = (c.F.getD (k - 1) zF).st := ⟨_, rfl⟩
      have HK := hide (show rnd c k = ((k == 0 || decide (ps < f.st)) && (decide (f.st < (nB : Int)) && entB f)) by unfold rnd; rw [← hf, ← hps, HnB.out])
      have Bb := hide (bel_trans hbel.out (bel_new wr (.cells #[.int .i64 f.st, .int .i64 f.pa, .slice ak nk ck] 46)))
      have g4 : (wr.alloc (.cells #[.int .i64 f.st, .int .i64 f.pa, .slice ak nk ck] 46)).cell? ⟨w.heap.size, 4, none⟩ = some (.slice (some ⟨bF, oF, none⟩) nF cF) := blk_cell (X0.out _ Bb.out) 4 _ rfl
      have g6 : (wr.alloc (.cells #[.int .i64 f.st, .int .i64 f.pa, .slice ak nk ck] 46)).cell? ⟨w.heap.size, 6, none⟩ = some (.slice aB nB cB) := blk_cell (X0.out _ Bb.out) 6 _ rfl
      have EN := hide (fun wz (hb : Below (wr.alloc (.cells #[.int .i64 f.st, .int .i64 f.pa, .slice ak nk ck] 46)).heap.size (wr.alloc (.cells #[.int .i64 f.st, .int .i64 f.pa, .slice ak nk ck] 46)) wz) => entry_any f (C0.out _ (bel_trans Bb.out hb)) ((f4.bel (bel_new _ _)).bel hb))
      have PV : Hid (0 < k → (wr.alloc (.cells #[.int .i64 f.st, .int .i64 f.pa, .slice ak nk ck] 46)).cell? ⟨bF, oF + (k - 1) * 3, none⟩ = some (.int .i64 ps)) := fun h0 => by
        obtain ⟨b2, o2, v2, e2, _, q1, _⟩ := hF.out _ Bb.out (k - 1) (by omega)
        cases e2
        rw [hps]
        exact q1
      clear f4 hf hps HnB
      generalize f.st = st at *
      generalize f.pa = pa at *
      generalize entB f = eb at *
      by_cases hk0 : k = 0
      · have hk1 : ((k : Int) == 0) = true := by simp [hk0]
        have HK0 := hide hk0
        clear hk0 PV
        go_wp2_with fail
        refine wp_quiet_tail 14 mixed (by kernel_rfl) ?_
        simp only [List.take_succ_cons, List.take_zero, List.drop_succ_cons, List.drop_zero]
        repeat (first | go_big_quiet_skip | (go_big_quiet_want; go_big_quiet_op; go_big_quiet_on))
        refine wpQuiet_nil ?_
        go_wp2_with fail
        refine (must_yes _).mono ?_
        rintro e w4 ⟨rfl, rfl⟩
        go_wp2_with fail
        refine (must_any (C0.out _ (bel_drawn Bb.out)) _).mono ?_
        rintro e w4 ⟨⟨h5, rfl⟩ | ⟨h5, rfl⟩, rfl⟩
        case inr => exact ⟨rfl, Gt.no (hne.out (by rw [HK.out, h5]; simp)) (B0.out.trans ((bel_drawn Bb.out).mono B0.out.size))⟩
        have h6 := hide h5
        clear h5
        go_wp2_with fail
        refine (EN.out _ (bel_drawn (Below.refl _ _))).mono ?_
        intro e w5 hp
        rcases hp.both with ⟨h5, rfl, hb⟩ | ⟨h5, rfl, hb⟩
        case inr => exact ⟨rfl, Gt.no (hne.out (by rw [HK.out, h5]; simp)) (B0.out.trans ((bel_trans (bel_drawn Bb.out) hb).mono B0.out.size))⟩
        have Hb := hide (bel_trans (bel_drawn Bb.out) hb)
        have h7 := hide h5
        clear h5 hb
        go_wp2_with fail
        go_roundw
        case rel => exact ⟨k + 1, by omega, by go_num, hstep.out (by rw [HK.out, h6.out, h7.out]; simp [HK0.out]), Hb.out⟩
        case measure => simp [intOf]; omega
      · have hk1 : ((k : Int) == 0) = false := by simp [hk0]
        obtain ⟨j, hj⟩ : ∃ j, k = j + 1 := ⟨k - 1, by omega⟩
        have pv := PV.out (by omega)
        have hj1 : (k : Int) - 1 = (j : Int) := by omega
        have hj2 : k - 1 = j := by omega
        have hj3 : (j : Int) < (nF : Int) := by omega
        rw [hj2] at pv
        have hkk : (k == 0) = false := by simp [hk0]
        have HKK := hide hkk
        clear PV hj hj2 hk0 hkk
        go_wp2_with fail
        refine wp_quiet_tail 14 mixed (by kernel_rfl) ?_
        simp only [List.take_succ_cons, List.take_zero, List.drop_succ_cons, List.drop_zero]
        repeat (first | go_big_quiet_skip | (go_big_quiet_want; go_big_quiet_op; go_big_quiet_on))
        refine wpQuiet_nil ?_
        go_wp2_with fail
        refine (must_any (C0.out _ (bel_drawn Bb.out)) _).mono ?_
        rintro e w4 ⟨⟨h5, rfl⟩ | ⟨h5, rfl⟩, rfl⟩
        case inr => exact ⟨rfl, Gt.no (hne.out (by rw [HK.out, HKK.out, h5]; rfl)) (B0.out.trans ((bel_drawn Bb.out).mono B0.out.size))⟩
        have h8 := hide h5
        clear h5
        go_wp2_with fail
        refine (must_any (C0.out _ (bel_drawn Bb.out)) _).mono ?_
        rintro e w4 ⟨⟨h5, rfl⟩ | ⟨h5, rfl⟩, rfl⟩
        case inr => exact ⟨rfl, Gt.no (hne.out (by rw [HK.out, h5]; simp)) (B0.out.trans ((bel_drawn Bb.out).mono B0.out.size))⟩
        have h6 := hide h5
        clear h5
        go_wp2_with fail
        refine (EN.out _ (bel_drawn (Below.refl _ _))).mono ?_
        intro e w5 hp
        rcases hp.both with ⟨h5, rfl, hb⟩ | ⟨h5, rfl, hb⟩
        case inr => exact ⟨rfl, Gt.no (hne.out (by rw [HK.out, h5]; simp)) (B0.out.trans ((bel_trans (bel_drawn Bb.out) hb).mono B0.out.size))⟩
        have Hb := hide (bel_trans (bel_drawn Bb.out) hb)
        have h7 := hide h5
        clear h5 hb
        go_wp2_with fail
        go_roundw
        case rel => exact ⟨k + 1, by omega, by go_num, hstep.out (by rw [HK.out, HKK.out, h8.out, h6.out, h7.out]; rfl), Hb.out⟩
        case measure => simp [intOf]; omega
    · obtain rfl : k = nF := by omega
      have hr := hide (HY.out hh.out h2.out h3.out hall.out)
      clear hF HY HN4
      go_wp2_with fail
      go_end0
      exact Gt.yes hr.out (B0.out.trans (hbel.out.mono B0.out.size))
end Go.Proofs.YtlheflkdapckbaaDoor.Ck
