/- The document's package of layer 16: Step. (Written by mk_w.py.) -/
import Derived.Test.YtaccdblbnogigaaDoorGq14
namespace Go.Proofs.YtaccdblbnogigaaDoor.Ck
open Go.RowKit

set_option maxRecDepth 20000 in
set_option maxHeartbeats 1000000 in
theorem rstep_22 {w : World} {vP vC vF vB vLo v : Value} {c : Cd} {f : Fn3} {x : In5} {s : List Int} (h : Cv w vP vC vF vB c) (hlo : Sl w vLo f.lo) (hs : Sl w v s) (hx : insB c x = true) (hl : s.length ≤ 64) (ty : Ty3 s) (hop : x.op = 22) (T : TyC c) : Calls Tryd.prog 17 #[codeA vP vC vF vB c, .agg #[.int .i64 f.st, .int .i64 f.pa, vLo], .agg #[.int .i64 x.op, .int .i64 x.a, .int .i64 x.b, .int .u64 x.bits, .int .i64 x.at_], v] w (StpP w v s (stepD c f.lo x s)) := by
  obtain ⟨o, ho⟩ : ∃ o, stepD c f.lo x s = o := ⟨_, rfl⟩
  rw [ho]
  have EM : Hid (o = if (s.length : Int) < (c.F.getD x.a.toNat zF).pa then none else if s.drop (s.length - (c.F.getD x.a.toNat zF).pa.toNat) = parT c x.a then capD (withM s (c.F.getD x.a.toNat zF).pa.toNat 0) else none) := hide (by rw [← ho]; unfold stepD; simp [hop])
  clear ho
  obtain ⟨q4, q6, q8, q10, q11, _, _, q17, q22, _⟩ := insB_at (show insB c ⟨x.op, x.a, x.b, x.bits, x.at_⟩ = true from hx)
  obtain ⟨aP, cP, aC, cC, aF, cF, aB, cB, eP, eC, eF, eB⟩ := h.form
  subst eP eC eF eB
  obtain ⟨aS, cS, rfl, hS1, hS2⟩ := hs.form
  obtain ⟨aL, cL, rfl, _⟩ := hlo.form
  rw [hop]
  obtain ⟨m, hm, hmF⟩ := in_of (q22 (.inl hop))
  rw [hm]
  obtain ⟨w1, h1⟩ : ∃ q, q = w.alloc (.cells #[.slice aP c.P.length cP, .int .i64 c.M, .int .i64 c.A, .slice aC c.C.length cC, .slice aF c.F.length cF, .int .i64 c.mn, .slice aB c.B.length cB] 27) := ⟨_, rfl⟩
  obtain ⟨w2, h2⟩ : ∃ q, q = w1.alloc (.cells #[.int .i64 f.st, .int .i64 f.pa, .slice aL f.lo.length cL] 46) := ⟨_, rfl⟩
  obtain ⟨w3, h3⟩ : ∃ q, q = w2.alloc (.cells #[.int .i64 22, .int .i64 ((m : Nat) : Int), .int .i64 x.b, .int .u64 x.bits, .int .i64 x.at_] 44) := ⟨_, rfl⟩
  have s1 : w1.heap.size = w.heap.size + 1 := by rw [h1]; simp
  have s2 : w2.heap.size = w.heap.size + 1 + 1 := by rw [h2]; simp [s1]
  have b1 : Below w.heap.size w w1 := by rw [h1]; exact bel_new _ _
  have b2 : Below w1.heap.size w1 w2 := by rw [h2]; exact bel_new _ _
  have b3 : Below w2.heap.size w2 w3 := by rw [h3]; exact bel_new _ _
  have k1 := Go.Deep.blk_alloc_new w (.cells #[.slice aP c.P.length cP, .int .i64 c.M, .int .i64 c.A, .slice aC c.C.length cC, .slice aF c.F.length cF, .int .i64 c.mn, .slice aB c.B.length cB] 27)
  rw [← h1] at k1
  have k2 := Go.Deep.blk_alloc_new w1 (.cells #[.int .i64 f.st, .int .i64 f.pa, .slice aL f.lo.length cL] 46)
  rw [← h2] at k2
  have k3 := Go.Deep.blk_alloc_new w2 (.cells #[.int .i64 22, .int .i64 ((m : Nat) : Int), .int .i64 x.b, .int .u64 x.bits, .int .i64 x.at_] 44)
  rw [← h3] at k3
  have k1 := ((b3.mono (by omega : w.heap.size + 1 ≤ w2.heap.size)).block w.heap.size (by omega)).trans ((b2.block w.heap.size (by omega)).trans k1)
  have k2 := (b3.block w1.heap.size (by omega)).trans k2
  rw [s1] at k2
  rw [s2] at k3
  have B3 := hide (b1.trans ((b2.mono b1.size).trans (b3.mono (Nat.le_trans b1.size b2.size))))
  have HV := hide (h.bel (B3.out))
  have HS := hide (hs.bel B3.out)
  have HLO := hide (hlo.bel B3.out)
  have y0 : w3.cell? ⟨w.heap.size, 0, none⟩ = some (.slice aP c.P.length cP) := blk_cell k1 0 _ rfl
  have y3 : w3.cell? ⟨w.heap.size, 3, none⟩ = some (.slice aC c.C.length cC) := blk_cell k1 3 _ rfl
  have y4 : w3.cell? ⟨w.heap.size, 4, none⟩ = some (.slice aF c.F.length cF) := blk_cell k1 4 _ rfl
  have e2 : w3.cell? ⟨w.heap.size + 1, 2, none⟩ = some (.slice aL f.lo.length cL) := blk_cell k2 2 _ rfl
  have z0 : w3.cell? ⟨w.heap.size + 1 + 1, 0, none⟩ = some (.int .i64 22) := blk_cell k3 0 _ rfl
  have z1 : w3.cell? ⟨w.heap.size + 1 + 1, 1, none⟩ = some (.int .i64 ((m : Nat) : Int)) := blk_cell k3 1 _ rfl
  obtain ⟨ns, hns⟩ : ∃ q, q = s.length := ⟨_, rfl⟩
  have NS := hide hns
  have HL := hide hl
  have TYS := hide ty
  have WW := hide (fun (d : Nat) (t : Int) (hd : d ≤ s.length) => rwith_any HS.out (by have := HL.out; omega) hd t)
  have W0 := hide (fun (t : Int) => (show Calls Tryd.prog 26 #[.slice aS s.length cS, .int .i64 0, .int .i64 t] w3 (WithP w3 (withM s 0 t)) from WW.out 0 t (Nat.zero_le _)))
  have W1 := hide (fun (t : Int) (h : 1 ≤ s.length) => (show Calls Tryd.prog 26 #[.slice aS s.length cS, .int .i64 1, .int .i64 t] w3 (WithP w3 (withM s 1 t)) from WW.out 1 t h))
  have W2 := hide (fun (t : Int) (h : 2 ≤ s.length) => (show Calls Tryd.prog 26 #[.slice aS s.length cS, .int .i64 2, .int .i64 t] w3 (WithP w3 (withM s 2 t)) from WW.out 2 t h))
  rw [← hns] at W0 W1 W2 WW ⊢
  have hns64 : ns ≤ 64 := by omega
  obtain ⟨tp, htp⟩ : ∃ q, q = topD s := ⟨_, rfl⟩
  obtain ⟨bl, hbl⟩ : ∃ q, q = belD s := ⟨_, rfl⟩
  have TP := hide htp
  have BL := hide hbl
  have RT : Hid (0 < ns → ∃ b o, aS = some ⟨b, o, none⟩ ∧ w3.cell? ⟨b, o + (ns - 1), none⟩ = some (.int .i64 tp)) := hide (fun hn => by
    have hs' := HS.out
    rw [← NS.out] at hs'
    obtain ⟨b, o, e, _, q⟩ := hs'.at (ns - 1) (by omega)
    exact ⟨b, o, e, by rw [q, htp, topD_at hns]⟩)
  have RB : Hid (1 < ns → ∃ b o, aS = some ⟨b, o, none⟩ ∧ w3.cell? ⟨b, o + (ns - 2), none⟩ = some (.int .i64 bl)) := hide (fun hn => by
    have hs' := HS.out
    rw [← NS.out] at hs'
    obtain ⟨b, o, e, _, q⟩ := hs'.at (ns - 2) (by omega)
    exact ⟨b, o, e, by rw [q, hbl, belD_at hns hn]⟩)
  have T0 : Hid (ns = 0 → tp = 0) := hide (fun e => by rw [htp, List.eq_nil_of_length_eq_zero (hns.symm.trans e)]; rfl)
  have B0 : Hid (¬ 1 < ns → bl = 0) := hide (fun e => by rw [hbl]; exact belD_no (by rw [← hns]; exact e))
  have HM := hide hm
  obtain ⟨bF, oF, vG, rfl, _, f0, f1, f2, sG⟩ := HV.out.F.at m hmF
  have hmF' : (m : Int) < (c.F.length : Int) := by omega
  have hTF := T.F m hmF
  obtain ⟨k, hk⟩ : ∃ k : Nat, (c.F.getD m zF).pa = k := ⟨_, (Int.toNat_of_nonneg hTF.1).symm⟩
  obtain ⟨fs, hfs⟩ : ∃ q, q = (c.F.getD m zF).st := ⟨_, rfl⟩
  obtain ⟨G, hG⟩ : ∃ q, q = (c.F.getD m zF).lo := ⟨_, rfl⟩
  have hkG : k ≤ G.length := by rw [hG]; have := hTF.2.1; omega
  have EM2 : Hid (o = if ns < k then none else if s.drop (ns - k) = G.take k then capD (withM s k 0) else none) := hide (by
    rw [EM.out, hm, Int.toNat_natCast, hk, Int.toNat_natCast, hns]
    have e : parT c (m : Int) = G.take k := by unfold parT; rw [Int.toNat_natCast, hk, Int.toNat_natCast, hG]
    rw [e]
    by_cases h9 : s.length < k
    · rw [if_pos (by omega), if_pos h9]
    · rw [if_neg (by omega), if_neg h9])
  rw [hk] at f1
  rw [← hfs] at f0
  rw [← hG] at sG
  obtain ⟨aG, cG, rfl, hG1, hG2⟩ := sG.form
  have SG := hide sG
  have KK := hide (And.intro hkG (And.intro hG1 hG2))
  have CC := hide (And.intro hS1 hS2)
  have WK := hide (fun (t : Int) (h : k ≤ ns) => WW.out k t h)
  clear hTF hk hfs hG sG T EM hkG
  clear h hlo hs hx hl ty b1 b2 b3 k1 k2 k3 s1 s2 hS1 hS2 hns htp hbl q4 q6 q8 q10 q11 q17 q22
  unfold codeA
  go_enter Tryd.func17, Tryd.ntmps17
  go_upto_if 20 with fail
  rw [← h1, ← h2, ← h3]
  clear h1 h2 h3
  rcases Nat.lt_or_ge 0 ns with hn | hn
  rotate_left 1
  · obtain rfl : ns = 0 := by omega
    obtain rfl := T0.out rfl
    obtain rfl := B0.out (by omega)
    clear RT RB T0 B0
    go_upto_region 82 with fail
    obtain ⟨w4, h4⟩ : ∃ q, q = w3.alloc (.cells #[.int .i64 fs, .int .i64 k, .slice aG G.length cG] 46) := ⟨_, rfl⟩
    rw [← h4]
    have B4 := hide (show Below w3.heap.size w3 w4 by rw [h4]; exact bel_new _ _)
    have V4 := Go.Deep.blk_alloc_new w3 (.cells #[.int .i64 fs, .int .i64 k, .slice aG G.length cG] 46)
    rw [← h4] at V4
    have g1 : w4.cell? ⟨w3.heap.size, 1, none⟩ = some (.int .i64 k) := blk_cell V4 1 _ rfl
    have g2 : w4.cell? ⟨w3.heap.size, 2, none⟩ = some (.slice aG G.length cG) := blk_cell V4 2 _ rfl
    clear h4 V4 WW W0 W1 W2
    have BB := hide (B3.out.trans (B4.out.mono B3.out.size))
    by_cases hkn : 0 < k
    · skip
      have hkn' : (0 : Int) < (k : Int) := by omega
      have E2 : Hid (o = none) := hide (by rw [EM2.out, if_pos hkn])
      clear EM2
      go_quiet (fail)
      go_wp2_with fail
      go_ret2
      exact stp_no E2.out (below_drewN BB.out _)
    · skip
      have hkn' : (k : Int) ≤ (0 : Int) := by omega
      have hkn2 : k ≤ 0 := by omega
      have hjn : 0 - k ≤ 0 := by omega
      have hjc : 0 - k ≤ cS := by have := CC.out; have := NS.out; omega
      have hnc : 0 ≤ cS := by have := CC.out; have := NS.out; omega
      have hkG : k ≤ cG := by have := KK.out; omega
      have hkG2 : k ≤ G.length := by have := KK.out; omega
      obtain rfl : k = 0 := by omega
      have es : s = [] := List.eq_nil_of_length_eq_zero NS.out.symm
      subst es
      have RSM := hide (fun n => rsame_any (l1 := []) (l2 := []) (HS.out.bel (below_drewN B4.out n)) (show Sl (w4.drewN n) (.slice aG 0 cG) [] from (sl_to SG.out (Nat.zero_le _)).bel (below_drewN B4.out n)) ⟨by simp, by simp⟩)
      have RSM := hide (fun n => by have h9 := RSM.out n; rw [eq_list, decide_eq_true rfl] at h9; exact h9)
      have WQ := hide (fun q => (show Calls Tryd.prog 26 #[.slice aS 0 cS, .int .i64 0, .int .i64 0] (w4.drewN q) _ from rwith_any (drop := 0) (HS.out.bel (below_drewN B4.out q)) (by simp) (Nat.zero_le _) 0))
      have BQ := hide (fun q => below_drewN BB.out q)
      clear WK
      have E2 : Hid (o = capD (withM [] 0 0)) := hide (by rw [EM2.out, if_neg hkn, if_pos (by simp)])
      clear EM2
      go_quiet ((go_at_call 25; exact Calls.quiet_of (RSM.out _)))
      clear RSM
      go_wp2_with fail
      refine (WQ.out _).mono ?_
      rintro e w9 ⟨v9, rfl, o9, b9⟩
      have EE := hide (fun v => stp_with (v := v) (s := []) E2.out (BQ.out _) o9 b9)
      generalize decide ((withM [] 0 0).length ≤ 64) = dd at *
      clear o9 b9 E2 WQ
      go_wp2_with fail
      go_ret2
      exact EE.out _
  rcases Nat.lt_or_ge 1 ns with hm | hm
  rotate_left 1
  · skip
    have hn0 : 0 < ns := by omega
    obtain ⟨bb, oo, rfl, hr⟩ := RT.out hn0
    have e1 : ns - 1 = 0 := by omega
    rw [e1, Nat.add_zero] at hr
    clear e1
    have hz1 : (ns : Int) ≤ 1 := by omega
    have hn' : (0 : Int) < (ns : Int) := by omega
    have hw : wrap64 ((ns : Int) - 1) = ((ns - 1 : Nat) : Int) := by unfold wrap64; omega
    have hlt : ns - 1 < ns := by omega
    have hlt' : ((ns - 1 : Nat) : Int) < (ns : Int) := by omega
    obtain rfl := B0.out (by omega)
    clear RT RB T0 B0
    go_upto_region 82 with fail
    clear hz1 hm hr hw hlt hlt' hn'
    obtain ⟨w4, h4⟩ : ∃ q, q = w3.alloc (.cells #[.int .i64 fs, .int .i64 k, .slice aG G.length cG] 46) := ⟨_, rfl⟩
    rw [← h4]
    have B4 := hide (show Below w3.heap.size w3 w4 by rw [h4]; exact bel_new _ _)
    have V4 := Go.Deep.blk_alloc_new w3 (.cells #[.int .i64 fs, .int .i64 k, .slice aG G.length cG] 46)
    rw [← h4] at V4
    have g1 : w4.cell? ⟨w3.heap.size, 1, none⟩ = some (.int .i64 k) := blk_cell V4 1 _ rfl
    have g2 : w4.cell? ⟨w3.heap.size, 2, none⟩ = some (.slice aG G.length cG) := blk_cell V4 2 _ rfl
    clear h4 V4 WW W0 W1 W2
    have BB := hide (B3.out.trans (B4.out.mono B3.out.size))
    by_cases hkn : ns < k
    · skip
      have hkn' : (ns : Int) < (k : Int) := by omega
      have E2 : Hid (o = none) := hide (by rw [EM2.out, if_pos hkn])
      clear EM2
      go_quiet (fail)
      go_wp2_with fail
      go_ret2
      exact stp_no E2.out (below_drewN BB.out _)
    · skip
      have hkn' : (k : Int) ≤ (ns : Int) := by omega
      have hkn2 : k ≤ ns := by omega
      have hjn : ns - k ≤ ns := by omega
      have hjc : ns - k ≤ cS := by have := CC.out; have := NS.out; omega
      have hnc : ns ≤ cS := by have := CC.out; have := NS.out; omega
      have hkG : k ≤ cG := by have := KK.out; omega
      have hkG2 : k ≤ G.length := by have := KK.out; omega
      have hw3 : wrap64 ((ns : Int) - (k : Int)) = ((ns - k : Nat) : Int) := by unfold wrap64; omega
      have RSM := hide (fun n => rsame_any ((sl_suf (by have h9 := HS.out; rw [← NS.out] at h9; exact h9) hjn).bel (below_drewN B4.out n)) ((sl_to SG.out hkG2).bel (below_drewN B4.out n)) ⟨by have := HL.out; rw [List.length_drop]; omega, by rw [List.length_take]; have := HL.out; have := NS.out; omega⟩)
      have WQ := hide (fun q => rwith_any (drop := k) (HS.out.bel (below_drewN B4.out q)) (by have := HL.out; omega) (by rw [← NS.out]; exact hkn2) 0)
      rw [← NS.out] at WQ
      have BQ := hide (fun q => below_drewN BB.out q)
      clear WK
      rcases Nat.eq_zero_or_pos k with hk0 | hk0
      · clear RSM
        have RSM := hide (fun n (a : Option Addr) (cp : Nat) (hc : cp ≤ maxLen) => by have h9 := rsame_any (w := w4.drewN n) (l1 := []) (l2 := []) (sl_zero (w := w4.drewN n) (a := a) (n := ns - (ns - k)) (by omega) hc) (sl_zero (w := w4.drewN n) (a := aG) (n := k) hk0 KK.out.2.2) ⟨by simp, by simp⟩; rw [eq_list, decide_eq_true rfl] at h9; exact h9)
        have E2 : Hid (o = capD (withM s k 0)) := hide (by rw [EM2.out, if_neg hkn, if_pos (by have h9 := NS.out; rw [hk0, Nat.sub_zero, h9, List.drop_length]; rfl)])
        have hcm : cS ≤ maxLen := by have := CC.out; omega
        clear EM2 hk0
        by_cases hcs : cS = ns - k
        · go_quiet ((go_at_call 25; exact Calls.quiet_of (RSM.out _ _ _ (by omega))))
          clear RSM hcs
          go_wp2_with fail
          refine (WQ.out _).mono ?_
          rintro e w9 ⟨v9, rfl, o9, b9⟩
          have EE := hide (fun v => stp_with (v := v) (s := s) E2.out (BQ.out _) o9 b9)
          generalize decide ((withM s k 0).length ≤ 64) = dd at *
          clear o9 b9 E2 WQ
          go_wp2_with fail
          go_ret2
          exact EE.out _
        · go_quiet ((go_at_call 25; exact Calls.quiet_of (RSM.out _ _ _ (by omega))))
          clear RSM hcs
          go_wp2_with fail
          refine (WQ.out _).mono ?_
          rintro e w9 ⟨v9, rfl, o9, b9⟩
          have EE := hide (fun v => stp_with (v := v) (s := s) E2.out (BQ.out _) o9 b9)
          generalize decide ((withM s k 0).length ≤ 64) = dd at *
          clear o9 b9 E2 WQ
          go_wp2_with fail
          go_ret2
          exact EE.out _
      have hcs : ¬ cS = ns - k := by omega
      simp only [if_neg hcs] at RSM
      by_cases he : s.drop (ns - k) = G.take k
      · have E2 : Hid (o = capD (withM s k 0)) := hide (by rw [EM2.out, if_neg hkn, if_pos he])
        have RSM := hide (fun n => by have h9 := RSM.out n; rw [eq_list, decide_eq_true he] at h9; exact h9)
        clear he EM2
        go_quiet ((go_at_call 25; exact Calls.quiet_of (RSM.out _)))
        clear RSM
        go_wp2_with fail
        refine (WQ.out _).mono ?_
        rintro e w9 ⟨v9, rfl, o9, b9⟩
        have EE := hide (fun v => stp_with (v := v) (s := s) E2.out (BQ.out _) o9 b9)
        generalize decide ((withM s k 0).length ≤ 64) = dd at *
        clear o9 b9 E2 WQ
        go_wp2_with fail
        go_ret2
        exact EE.out _
      · have E2 : Hid (o = none) := hide (by rw [EM2.out, if_neg hkn, if_neg he])
        have RSM := hide (fun n => by have h9 := RSM.out n; rw [eq_list, decide_eq_false he] at h9; exact h9)
        clear he EM2
        go_quiet ((go_at_call 25; exact Calls.quiet_of (RSM.out _)))
        clear RSM
        go_wp2_with fail
        go_ret2
        exact stp_no E2.out (BQ.out _)
  · skip
    have hn0 : 0 < ns := by omega
    obtain ⟨bb, oo, rfl, hr⟩ := RT.out hn0
    have hn' : (0 : Int) < (ns : Int) := by omega
    have hw : wrap64 ((ns : Int) - 1) = ((ns - 1 : Nat) : Int) := by unfold wrap64; omega
    have hlt : ns - 1 < ns := by omega
    have hlt' : ((ns - 1 : Nat) : Int) < (ns : Int) := by omega
    obtain ⟨b2, o2, e2', hr2⟩ := RB.out (by omega)
    cases e2'
    have hn2 : (1 : Int) < (ns : Int) := by omega
    have hw2 : wrap64 ((ns : Int) - 2) = ((ns - 2 : Nat) : Int) := by unfold wrap64; omega
    have hlt2 : ns - 2 < ns := by omega
    have hlt2' : ((ns - 2 : Nat) : Int) < (ns : Int) := by omega
    clear RT RB T0 B0
    go_upto_region 82 with fail
    obtain ⟨w4, h4⟩ : ∃ q, q = w3.alloc (.cells #[.int .i64 fs, .int .i64 k, .slice aG G.length cG] 46) := ⟨_, rfl⟩
    rw [← h4]
    have B4 := hide (show Below w3.heap.size w3 w4 by rw [h4]; exact bel_new _ _)
    have V4 := Go.Deep.blk_alloc_new w3 (.cells #[.int .i64 fs, .int .i64 k, .slice aG G.length cG] 46)
    rw [← h4] at V4
    have g1 : w4.cell? ⟨w3.heap.size, 1, none⟩ = some (.int .i64 k) := blk_cell V4 1 _ rfl
    have g2 : w4.cell? ⟨w3.heap.size, 2, none⟩ = some (.slice aG G.length cG) := blk_cell V4 2 _ rfl
    clear h4 V4 WW W0 W1 W2
    have BB := hide (B3.out.trans (B4.out.mono B3.out.size))
    by_cases hkn : ns < k
    · skip
      have hkn' : (ns : Int) < (k : Int) := by omega
      have E2 : Hid (o = none) := hide (by rw [EM2.out, if_pos hkn])
      clear EM2
      go_quiet (fail)
      go_wp2_with fail
      go_ret2
      exact stp_no E2.out (below_drewN BB.out _)
    · skip
      have hkn' : (k : Int) ≤ (ns : Int) := by omega
      have hkn2 : k ≤ ns := by omega
      have hjn : ns - k ≤ ns := by omega
      have hjc : ns - k ≤ cS := by have := CC.out; have := NS.out; omega
      have hnc : ns ≤ cS := by have := CC.out; have := NS.out; omega
      have hkG : k ≤ cG := by have := KK.out; omega
      have hkG2 : k ≤ G.length := by have := KK.out; omega
      have hw3 : wrap64 ((ns : Int) - (k : Int)) = ((ns - k : Nat) : Int) := by unfold wrap64; omega
      have RSM := hide (fun n => rsame_any ((sl_suf (by have h9 := HS.out; rw [← NS.out] at h9; exact h9) hjn).bel (below_drewN B4.out n)) ((sl_to SG.out hkG2).bel (below_drewN B4.out n)) ⟨by have := HL.out; rw [List.length_drop]; omega, by rw [List.length_take]; have := HL.out; have := NS.out; omega⟩)
      have WQ := hide (fun q => rwith_any (drop := k) (HS.out.bel (below_drewN B4.out q)) (by have := HL.out; omega) (by rw [← NS.out]; exact hkn2) 0)
      rw [← NS.out] at WQ
      have BQ := hide (fun q => below_drewN BB.out q)
      clear WK
      rcases Nat.eq_zero_or_pos k with hk0 | hk0
      · clear RSM
        have RSM := hide (fun n (a : Option Addr) (cp : Nat) (hc : cp ≤ maxLen) => by have h9 := rsame_any (w := w4.drewN n) (l1 := []) (l2 := []) (sl_zero (w := w4.drewN n) (a := a) (n := ns - (ns - k)) (by omega) hc) (sl_zero (w := w4.drewN n) (a := aG) (n := k) hk0 KK.out.2.2) ⟨by simp, by simp⟩; rw [eq_list, decide_eq_true rfl] at h9; exact h9)
        have E2 : Hid (o = capD (withM s k 0)) := hide (by rw [EM2.out, if_neg hkn, if_pos (by have h9 := NS.out; rw [hk0, Nat.sub_zero, h9, List.drop_length]; rfl)])
        have hcm : cS ≤ maxLen := by have := CC.out; omega
        clear EM2 hk0
        by_cases hcs : cS = ns - k
        · go_quiet ((go_at_call 25; exact Calls.quiet_of (RSM.out _ _ _ (by omega))))
          clear RSM hcs
          go_wp2_with fail
          refine (WQ.out _).mono ?_
          rintro e w9 ⟨v9, rfl, o9, b9⟩
          have EE := hide (fun v => stp_with (v := v) (s := s) E2.out (BQ.out _) o9 b9)
          generalize decide ((withM s k 0).length ≤ 64) = dd at *
          clear o9 b9 E2 WQ
          go_wp2_with fail
          go_ret2
          exact EE.out _
        · go_quiet ((go_at_call 25; exact Calls.quiet_of (RSM.out _ _ _ (by omega))))
          clear RSM hcs
          go_wp2_with fail
          refine (WQ.out _).mono ?_
          rintro e w9 ⟨v9, rfl, o9, b9⟩
          have EE := hide (fun v => stp_with (v := v) (s := s) E2.out (BQ.out _) o9 b9)
          generalize decide ((withM s k 0).length ≤ 64) = dd at *
          clear o9 b9 E2 WQ
          go_wp2_with fail
          go_ret2
          exact EE.out _
      have hcs : ¬ cS = ns - k := by omega
      simp only [if_neg hcs] at RSM
      by_cases he : s.drop (ns - k) = G.take k
      · have E2 : Hid (o = capD (withM s k 0)) := hide (by rw [EM2.out, if_neg hkn, if_pos he])
        have RSM := hide (fun n => by have h9 := RSM.out n; rw [eq_list, decide_eq_true he] at h9; exact h9)
        clear he EM2
        go_quiet ((go_at_call 25; exact Calls.quiet_of (RSM.out _)))
        clear RSM
        go_wp2_with fail
        refine (WQ.out _).mono ?_
        rintro e w9 ⟨v9, rfl, o9, b9⟩
        have EE := hide (fun v => stp_with (v := v) (s := s) E2.out (BQ.out _) o9 b9)
        generalize decide ((withM s k 0).length ≤ 64) = dd at *
        clear o9 b9 E2 WQ
        go_wp2_with fail
        go_ret2
        exact EE.out _
      · have E2 : Hid (o = none) := hide (by rw [EM2.out, if_neg hkn, if_neg he])
        have RSM := hide (fun n => by have h9 := RSM.out n; rw [eq_list, decide_eq_false he] at h9; exact h9)
        clear he EM2
        go_quiet ((go_at_call 25; exact Calls.quiet_of (RSM.out _)))
        clear RSM
        go_wp2_with fail
        go_ret2
        exact stp_no E2.out (BQ.out _)
end Go.Proofs.YtaccdblbnogigaaDoor.Ck
