/- The document's package of layer 16: Step. (Written by mk_w.py.) -/
import Derived.Test.YtaccdblbnogigaaDoorGq14
namespace Go.Proofs.YtaccdblbnogigaaDoor.Ck
open Go.RowKit

set_option maxRecDepth 20000 in
set_option maxHeartbeats 4000000 in
theorem rstep_11_3 {w : World} {vP vC vF vB vLo v : Value} {c : Cd} {f : Fn3} {x : In5} {s : List Int} (h : Cv w vP vC vF vB c) (hlo : Sl w vLo f.lo) (hs : Sl w v s) (hx : insB c x = true) (hl : s.length ≤ 64) (ty : Ty3 s) (hop : x.op = 11) (ha : x.a = 3) : Calls Tryd.prog 17 #[codeA vP vC vF vB c, .agg #[.int .i64 f.st, .int .i64 f.pa, vLo], .agg #[.int .i64 x.op, .int .i64 x.a, .int .i64 x.b, .int .u64 x.bits, .int .i64 x.at_], v] w (StpP w v s (stepD c f.lo x s)) := by
  obtain ⟨o, ho⟩ : ∃ o, stepD c f.lo x s = o := ⟨_, rfl⟩
  rw [ho]
  have EM : Hid (o = if biT x.a (topD s) (belD s) = 0 then none else capD (withM s 2 (biT x.a (topD s) (belD s)))) := hide (by rw [← ho]; unfold stepD; simp [hop])
  clear ho
  obtain ⟨q4, q6, q8, q10, q11, _, _, q17, q22, _⟩ := insB_at (show insB c ⟨x.op, x.a, x.b, x.bits, x.at_⟩ = true from hx)
  obtain ⟨aP, cP, aC, cC, aF, cF, aB, cB, eP, eC, eF, eB⟩ := h.form
  subst eP eC eF eB
  obtain ⟨aS, cS, rfl, hS1, hS2⟩ := hs.form
  obtain ⟨aL, cL, rfl, _⟩ := hlo.form
  rw [hop]
  rw [ha]
  obtain ⟨w1, h1⟩ : ∃ q, q = w.alloc (.cells #[.slice aP c.P.length cP, .int .i64 c.M, .int .i64 c.A, .slice aC c.C.length cC, .slice aF c.F.length cF, .int .i64 c.mn, .slice aB c.B.length cB] 27) := ⟨_, rfl⟩
  obtain ⟨w2, h2⟩ : ∃ q, q = w1.alloc (.cells #[.int .i64 f.st, .int .i64 f.pa, .slice aL f.lo.length cL] 46) := ⟨_, rfl⟩
  obtain ⟨w3, h3⟩ : ∃ q, q = w2.alloc (.cells #[.int .i64 11, .int .i64 3, .int .i64 x.b, .int .u64 x.bits, .int .i64 x.at_] 44) := ⟨_, rfl⟩
  have s1 : w1.heap.size = w.heap.size + 1 := by rw [h1]; simp
  have s2 : w2.heap.size = w.heap.size + 1 + 1 := by rw [h2]; simp [s1]
  have b1 : Below w.heap.size w w1 := by rw [h1]; exact bel_new _ _
  have b2 : Below w1.heap.size w1 w2 := by rw [h2]; exact bel_new _ _
  have b3 : Below w2.heap.size w2 w3 := by rw [h3]; exact bel_new _ _
  have k1 := Go.Deep.blk_alloc_new w (.cells #[.slice aP c.P.length cP, .int .i64 c.M, .int .i64 c.A, .slice aC c.C.length cC, .slice aF c.F.length cF, .int .i64 c.mn, .slice aB c.B.length cB] 27)
  rw [← h1] at k1
  have k2 := Go.Deep.blk_alloc_new w1 (.cells #[.int .i64 f.st, .int .i64 f.pa, .slice aL f.lo.length cL] 46)
  rw [← h2] at k2
  have k3 := Go.Deep.blk_alloc_new w2 (.cells #[.int .i64 11, .int .i64 3, .int .i64 x.b, .int .u64 x.bits, .int .i64 x.at_] 44)
  rw [← h3] at k3
  have k1 := ((b3.mono (by omega : w.heap.size + 1 ≤ w2.heap.size)).block w.heap.size (by omega)).trans ((b2.block w.heap.size (by omega)).trans k1)
  have k2 := (b3.block w1.heap.size (by omega)).trans k2
  rw [s1] at k2
  rw [s2] at k3
  have B3 := hide (b1.trans ((b2.mono b1.size).trans (b3.mono (Nat.le_trans b1.size b2.size))))
  have HV := hide (h.bel (B3.out))
  have HS := hide (hs.bel B3.out)
  have HLO := hide (hlo.bel B3.out)
  have y0 : w3.cell? ⟨w.heap.size, 0, none⟩ = some (.slice aP c.P.length cP) := blk_cell k1 0 _ rfl
  have y3 : w3.cell? ⟨w.heap.size, 3, none⟩ = some (.slice aC c.C.length cC) := blk_cell k1 3 _ rfl
  have y4 : w3.cell? ⟨w.heap.size, 4, none⟩ = some (.slice aF c.F.length cF) := blk_cell k1 4 _ rfl
  have e2 : w3.cell? ⟨w.heap.size + 1, 2, none⟩ = some (.slice aL f.lo.length cL) := blk_cell k2 2 _ rfl
  have z0 : w3.cell? ⟨w.heap.size + 1 + 1, 0, none⟩ = some (.int .i64 11) := blk_cell k3 0 _ rfl
  have z1 : w3.cell? ⟨w.heap.size + 1 + 1, 1, none⟩ = some (.int .i64 3) := blk_cell k3 1 _ rfl
  obtain ⟨ns, hns⟩ : ∃ q, q = s.length := ⟨_, rfl⟩
  have NS := hide hns
  have HL := hide hl
  have TYS := hide ty
  have WW := hide (fun (d : Nat) (t : Int) (hd : d ≤ s.length) => rwith_any HS.out (by have := HL.out; omega) hd t)
  have W0 := hide (fun (t : Int) => (show Calls Tryd.prog 26 #[.slice aS s.length cS, .int .i64 0, .int .i64 t] w3 (WithP w3 (withM s 0 t)) from WW.out 0 t (Nat.zero_le _)))
  have W1 := hide (fun (t : Int) (h : 1 ≤ s.length) => (show Calls Tryd.prog 26 #[.slice aS s.length cS, .int .i64 1, .int .i64 t] w3 (WithP w3 (withM s 1 t)) from WW.out 1 t h))
  have W2 := hide (fun (t : Int) (h : 2 ≤ s.length) => (show Calls Tryd.prog 26 #[.slice aS s.length cS, .int .i64 2, .int .i64 t] w3 (WithP w3 (withM s 2 t)) from WW.out 2 t h))
  rw [← hns] at W0 W1 W2 WW ⊢
  have hns64 : ns ≤ 64 := by omega
  obtain ⟨tp, htp⟩ : ∃ q, q = topD s := ⟨_, rfl⟩
  obtain ⟨bl, hbl⟩ : ∃ q, q = belD s := ⟨_, rfl⟩
  have TP := hide htp
  have BL := hide hbl
  have RT : Hid (0 < ns → ∃ b o, aS = some ⟨b, o, none⟩ ∧ w3.cell? ⟨b, o + (ns - 1), none⟩ = some (.int .i64 tp)) := hide (fun hn => by
    have hs' := HS.out
    rw [← NS.out] at hs'
    obtain ⟨b, o, e, _, q⟩ := hs'.at (ns - 1) (by omega)
    exact ⟨b, o, e, by rw [q, htp, topD_at hns]⟩)
  have RB : Hid (1 < ns → ∃ b o, aS = some ⟨b, o, none⟩ ∧ w3.cell? ⟨b, o + (ns - 2), none⟩ = some (.int .i64 bl)) := hide (fun hn => by
    have hs' := HS.out
    rw [← NS.out] at hs'
    obtain ⟨b, o, e, _, q⟩ := hs'.at (ns - 2) (by omega)
    exact ⟨b, o, e, by rw [q, hbl, belD_at hns hn]⟩)
  have T0 : Hid (ns = 0 → tp = 0) := hide (fun e => by rw [htp, List.eq_nil_of_length_eq_zero (hns.symm.trans e)]; rfl)
  have B0 : Hid (¬ 1 < ns → bl = 0) := hide (fun e => by rw [hbl]; exact belD_no (by rw [← hns]; exact e))
  have TT := hide (ty_top ty)
  have HA := hide ha
  clear h hlo hs hx hl ty b1 b2 b3 k1 k2 k3 s1 s2 hS1 hS2 hns htp hbl q4 q6 q8 q10 q11 q17 q22
  unfold codeA
  go_enter Tryd.func17, Tryd.ntmps17
  go_upto_if 20 with fail
  rw [← h1, ← h2, ← h3]
  clear h1 h2 h3
  rcases Nat.lt_or_ge 0 ns with hn | hn
  rotate_left 1
  · obtain rfl : ns = 0 := by omega
    obtain rfl := T0.out rfl
    obtain rfl := B0.out (by omega)
    clear RT RB T0 B0
    have E2 : Hid (o = none) := hide (EM.out.trans (by rw [HA.out, ← TP.out, ← BL.out]; rfl))
    clear WW W0 W1 W2 EM
    go_wp2_with fail
    go_ret2
    exact stp_no E2.out B3.out
  rcases Nat.lt_or_ge 1 ns with hm | hm
  rotate_left 1
  · skip
    obtain rfl : ns = 1 := by omega
    have hn0 : 0 < 1 := by omega
    obtain ⟨bb, oo, rfl, hr⟩ := RT.out hn0
    have hr : w3.cell? ⟨bb, oo, none⟩ = some (.int .i64 tp) := hr
    obtain rfl := B0.out (by omega)
    clear RT RB T0 B0
    rcases (by have h3 := TT.out; rw [← TP.out] at h3; exact h3 : tp = 0 ∨ tp = 1 ∨ tp = 2 ∨ tp = 3) with hc | hc | hc | hc
    · subst hc
      have E2 : Hid (o = none) := hide (EM.out.trans (by rw [HA.out, ← TP.out, ← BL.out]; rfl))
      clear WW W0 W1 W2 EM
      go_wp2_with fail
      go_ret2
      exact stp_no E2.out B3.out
    · subst hc
      have E2 : Hid (o = none) := hide (EM.out.trans (by rw [HA.out, ← TP.out, ← BL.out]; rfl))
      clear WW W0 W1 W2 EM
      go_wp2_with fail
      go_ret2
      exact stp_no E2.out B3.out
    · subst hc
      have E2 : Hid (o = none) := hide (EM.out.trans (by rw [HA.out, ← TP.out, ← BL.out]; rfl))
      clear WW W0 W1 W2 EM
      go_wp2_with fail
      go_ret2
      exact stp_no E2.out B3.out
    · subst hc
      have E2 : Hid (o = none) := hide (EM.out.trans (by rw [HA.out, ← TP.out, ← BL.out]; rfl))
      clear WW W0 W1 W2 EM
      go_wp2_with fail
      go_ret2
      exact stp_no E2.out B3.out
  · skip
    have hn0 : 0 < ns := by omega
    obtain ⟨bb, oo, rfl, hr⟩ := RT.out hn0
    have hn' : (0 : Int) < (ns : Int) := by omega
    have hw : wrap64 ((ns : Int) - 1) = ((ns - 1 : Nat) : Int) := by unfold wrap64; omega
    have hlt : ns - 1 < ns := by omega
    have hlt' : ((ns - 1 : Nat) : Int) < (ns : Int) := by omega
    obtain ⟨b2, o2, e2', hr2⟩ := RB.out (by omega)
    cases e2'
    have hn2 : (1 : Int) < (ns : Int) := by omega
    have hw2 : wrap64 ((ns : Int) - 2) = ((ns - 2 : Nat) : Int) := by unfold wrap64; omega
    have hlt2 : ns - 2 < ns := by omega
    have hlt2' : ((ns - 2 : Nat) : Int) < (ns : Int) := by omega
    clear RT RB T0 B0
    have hm2 : 2 ≤ ns := hm
    rcases (by have h3 := TT.out; rw [← TP.out] at h3; exact h3 : tp = 0 ∨ tp = 1 ∨ tp = 2 ∨ tp = 3) with hc | hc | hc | hc
    · subst hc
      by_cases hd : bl = 0
      · subst hd
        have E2 : Hid (o = none) := hide (EM.out.trans (by rw [HA.out, ← TP.out, ← BL.out]; rfl))
        clear WW W0 W1 W2 EM
        go_wp2_with fail
        go_ret2
        exact stp_no E2.out B3.out
      · skip
        have hb : ((0 : Int) != bl) = true := by simp; omega
        have E2 : Hid (o = none) := hide (EM.out.trans (by rw [HA.out, ← TP.out, ← BL.out, if_pos (by unfold biT; rw [if_pos (.inl (fun e => hd e.symm))])]))
        clear WW W0 W1 W2 EM
        go_wp2_with fail
        go_ret2
        exact stp_no E2.out B3.out
    · subst hc
      by_cases hd : bl = 1
      · subst hd
        have W := hide (W2.out (1) hm2)
        have E2 : Hid (o = capD (withM s 2 (1))) := hide (EM.out.trans (by rw [HA.out, ← TP.out, ← BL.out]; rfl))
        clear WW W0 W1 W2 EM
        go_wp2_with fail
        refine W.out.mono ?_
        rintro e w9 ⟨v9, rfl, o9, b9⟩
        have EE := hide (fun v => stp_with (v := v) (s := s) E2.out B3.out o9 b9)
        generalize decide ((withM s 2 (1)).length ≤ 64) = dd at *
        clear o9 b9 E2 W
        go_wp2_with fail
        go_ret2
        exact EE.out _
      · skip
        have hb : ((1 : Int) != bl) = true := by simp; omega
        have E2 : Hid (o = none) := hide (EM.out.trans (by rw [HA.out, ← TP.out, ← BL.out, if_pos (by unfold biT; rw [if_pos (.inl (fun e => hd e.symm))])]))
        clear WW W0 W1 W2 EM
        go_wp2_with fail
        go_ret2
        exact stp_no E2.out B3.out
    · subst hc
      by_cases hd : bl = 2
      · subst hd
        have W := hide (W2.out (2) hm2)
        have E2 : Hid (o = capD (withM s 2 (2))) := hide (EM.out.trans (by rw [HA.out, ← TP.out, ← BL.out]; rfl))
        clear WW W0 W1 W2 EM
        go_wp2_with fail
        refine W.out.mono ?_
        rintro e w9 ⟨v9, rfl, o9, b9⟩
        have EE := hide (fun v => stp_with (v := v) (s := s) E2.out B3.out o9 b9)
        generalize decide ((withM s 2 (2)).length ≤ 64) = dd at *
        clear o9 b9 E2 W
        go_wp2_with fail
        go_ret2
        exact EE.out _
      · skip
        have hb : ((2 : Int) != bl) = true := by simp; omega
        have E2 : Hid (o = none) := hide (EM.out.trans (by rw [HA.out, ← TP.out, ← BL.out, if_pos (by unfold biT; rw [if_pos (.inl (fun e => hd e.symm))])]))
        clear WW W0 W1 W2 EM
        go_wp2_with fail
        go_ret2
        exact stp_no E2.out B3.out
    · subst hc
      by_cases hd : bl = 3
      · subst hd
        have E2 : Hid (o = none) := hide (EM.out.trans (by rw [HA.out, ← TP.out, ← BL.out]; rfl))
        clear WW W0 W1 W2 EM
        go_wp2_with fail
        go_ret2
        exact stp_no E2.out B3.out
      · skip
        have hb : ((3 : Int) != bl) = true := by simp; omega
        have E2 : Hid (o = none) := hide (EM.out.trans (by rw [HA.out, ← TP.out, ← BL.out, if_pos (by unfold biT; rw [if_pos (.inl (fun e => hd e.symm))])]))
        clear WW W0 W1 W2 EM
        go_wp2_with fail
        go_ret2
        exact stp_no E2.out B3.out
set_option maxRecDepth 20000 in
set_option maxHeartbeats 4000000 in
theorem rstep_11_4 {w : World} {vP vC vF vB vLo v : Value} {c : Cd} {f : Fn3} {x : In5} {s : List Int} (h : Cv w vP vC vF vB c) (hlo : Sl w vLo f.lo) (hs : Sl w v s) (hx : insB c x = true) (hl : s.length ≤ 64) (ty : Ty3 s) (hop : x.op = 11) (ha : x.a = 4) : Calls Tryd.prog 17 #[codeA vP vC vF vB c, .agg #[.int .i64 f.st, .int .i64 f.pa, vLo], .agg #[.int .i64 x.op, .int .i64 x.a, .int .i64 x.b, .int .u64 x.bits, .int .i64 x.at_], v] w (StpP w v s (stepD c f.lo x s)) := by
  obtain ⟨o, ho⟩ : ∃ o, stepD c f.lo x s = o := ⟨_, rfl⟩
  rw [ho]
  have EM : Hid (o = if biT x.a (topD s) (belD s) = 0 then none else capD (withM s 2 (biT x.a (topD s) (belD s)))) := hide (by rw [← ho]; unfold stepD; simp [hop])
  clear ho
  obtain ⟨q4, q6, q8, q10, q11, _, _, q17, q22, _⟩ := insB_at (show insB c ⟨x.op, x.a, x.b, x.bits, x.at_⟩ = true from hx)
  obtain ⟨aP, cP, aC, cC, aF, cF, aB, cB, eP, eC, eF, eB⟩ := h.form
  subst eP eC eF eB
  obtain ⟨aS, cS, rfl, hS1, hS2⟩ := hs.form
  obtain ⟨aL, cL, rfl, _⟩ := hlo.form
  rw [hop]
  rw [ha]
  obtain ⟨w1, h1⟩ : ∃ q, q = w.alloc (.cells #[.slice aP c.P.length cP, .int .i64 c.M, .int .i64 c.A, .slice aC c.C.length cC, .slice aF c.F.length cF, .int .i64 c.mn, .slice aB c.B.length cB] 27) := ⟨_, rfl⟩
  obtain ⟨w2, h2⟩ : ∃ q, q = w1.alloc (.cells #[.int .i64 f.st, .int .i64 f.pa, .slice aL f.lo.length cL] 46) := ⟨_, rfl⟩
  obtain ⟨w3, h3⟩ : ∃ q, q = w2.alloc (.cells #[.int .i64 11, .int .i64 4, .int .i64 x.b, .int .u64 x.bits, .int .i64 x.at_] 44) := ⟨_, rfl⟩
  have s1 : w1.heap.size = w.heap.size + 1 := by rw [h1]; simp
  have s2 : w2.heap.size = w.heap.size + 1 + 1 := by rw [h2]; simp [s1]
  have b1 : Below w.heap.size w w1 := by rw [h1]; exact bel_new _ _
  have b2 : Below w1.heap.size w1 w2 := by rw [h2]; exact bel_new _ _
  have b3 : Below w2.heap.size w2 w3 := by rw [h3]; exact bel_new _ _
  have k1 := Go.Deep.blk_alloc_new w (.cells #[.slice aP c.P.length cP, .int .i64 c.M, .int .i64 c.A, .slice aC c.C.length cC, .slice aF c.F.length cF, .int .i64 c.mn, .slice aB c.B.length cB] 27)
  rw [← h1] at k1
  have k2 := Go.Deep.blk_alloc_new w1 (.cells #[.int .i64 f.st, .int .i64 f.pa, .slice aL f.lo.length cL] 46)
  rw [← h2] at k2
  have k3 := Go.Deep.blk_alloc_new w2 (.cells #[.int .i64 11, .int .i64 4, .int .i64 x.b, .int .u64 x.bits, .int .i64 x.at_] 44)
  rw [← h3] at k3
  have k1 := ((b3.mono (by omega : w.heap.size + 1 ≤ w2.heap.size)).block w.heap.size (by omega)).trans ((b2.block w.heap.size (by omega)).trans k1)
  have k2 := (b3.block w1.heap.size (by omega)).trans k2
  rw [s1] at k2
  rw [s2] at k3
  have B3 := hide (b1.trans ((b2.mono b1.size).trans (b3.mono (Nat.le_trans b1.size b2.size))))
  have HV := hide (h.bel (B3.out))
  have HS := hide (hs.bel B3.out)
  have HLO := hide (hlo.bel B3.out)
  have y0 : w3.cell? ⟨w.heap.size, 0, none⟩ = some (.slice aP c.P.length cP) := blk_cell k1 0 _ rfl
  have y3 : w3.cell? ⟨w.heap.size, 3, none⟩ = some (.slice aC c.C.length cC) := blk_cell k1 3 _ rfl
  have y4 : w3.cell? ⟨w.heap.size, 4, none⟩ = some (.slice aF c.F.length cF) := blk_cell k1 4 _ rfl
  have e2 : w3.cell? ⟨w.heap.size + 1, 2, none⟩ = some (.slice aL f.lo.length cL) := blk_cell k2 2 _ rfl
  have z0 : w3.cell? ⟨w.heap.size + 1 + 1, 0, none⟩ = some (.int .i64 11) := blk_cell k3 0 _ rfl
  have z1 : w3.cell? ⟨w.heap.size + 1 + 1, 1, none⟩ = some (.int .i64 4) := blk_cell k3 1 _ rfl
  obtain ⟨ns, hns⟩ : ∃ q, q = s.length := ⟨_, rfl⟩
  have NS := hide hns
  have HL := hide hl
  have TYS := hide ty
  have WW := hide (fun (d : Nat) (t : Int) (hd : d ≤ s.length) => rwith_any HS.out (by have := HL.out; omega) hd t)
  have W0 := hide (fun (t : Int) => (show Calls Tryd.prog 26 #[.slice aS s.length cS, .int .i64 0, .int .i64 t] w3 (WithP w3 (withM s 0 t)) from WW.out 0 t (Nat.zero_le _)))
  have W1 := hide (fun (t : Int) (h : 1 ≤ s.length) => (show Calls Tryd.prog 26 #[.slice aS s.length cS, .int .i64 1, .int .i64 t] w3 (WithP w3 (withM s 1 t)) from WW.out 1 t h))
  have W2 := hide (fun (t : Int) (h : 2 ≤ s.length) => (show Calls Tryd.prog 26 #[.slice aS s.length cS, .int .i64 2, .int .i64 t] w3 (WithP w3 (withM s 2 t)) from WW.out 2 t h))
  rw [← hns] at W0 W1 W2 WW ⊢
  have hns64 : ns ≤ 64 := by omega
  obtain ⟨tp, htp⟩ : ∃ q, q = topD s := ⟨_, rfl⟩
  obtain ⟨bl, hbl⟩ : ∃ q, q = belD s := ⟨_, rfl⟩
  have TP := hide htp
  have BL := hide hbl
  have RT : Hid (0 < ns → ∃ b o, aS = some ⟨b, o, none⟩ ∧ w3.cell? ⟨b, o + (ns - 1), none⟩ = some (.int .i64 tp)) := hide (fun hn => by
    have hs' := HS.out
    rw [← NS.out] at hs'
    obtain ⟨b, o, e, _, q⟩ := hs'.at (ns - 1) (by omega)
    exact ⟨b, o, e, by rw [q, htp, topD_at hns]⟩)
  have RB : Hid (1 < ns → ∃ b o, aS = some ⟨b, o, none⟩ ∧ w3.cell? ⟨b, o + (ns - 2), none⟩ = some (.int .i64 bl)) := hide (fun hn => by
    have hs' := HS.out
    rw [← NS.out] at hs'
    obtain ⟨b, o, e, _, q⟩ := hs'.at (ns - 2) (by omega)
    exact ⟨b, o, e, by rw [q, hbl, belD_at hns hn]⟩)
  have T0 : Hid (ns = 0 → tp = 0) := hide (fun e => by rw [htp, List.eq_nil_of_length_eq_zero (hns.symm.trans e)]; rfl)
  have B0 : Hid (¬ 1 < ns → bl = 0) := hide (fun e => by rw [hbl]; exact belD_no (by rw [← hns]; exact e))
  have TT := hide (ty_top ty)
  have HA := hide ha
  clear h hlo hs hx hl ty b1 b2 b3 k1 k2 k3 s1 s2 hS1 hS2 hns htp hbl q4 q6 q8 q10 q11 q17 q22
  unfold codeA
  go_enter Tryd.func17, Tryd.ntmps17
  go_upto_if 20 with fail
  rw [← h1, ← h2, ← h3]
  clear h1 h2 h3
  rcases Nat.lt_or_ge 0 ns with hn | hn
  rotate_left 1
  · obtain rfl : ns = 0 := by omega
    obtain rfl := T0.out rfl
    obtain rfl := B0.out (by omega)
    clear RT RB T0 B0
    have E2 : Hid (o = none) := hide (EM.out.trans (by rw [HA.out, ← TP.out, ← BL.out]; rfl))
    clear WW W0 W1 W2 EM
    go_wp2_with fail
    go_ret2
    exact stp_no E2.out B3.out
  rcases Nat.lt_or_ge 1 ns with hm | hm
  rotate_left 1
  · skip
    obtain rfl : ns = 1 := by omega
    have hn0 : 0 < 1 := by omega
    obtain ⟨bb, oo, rfl, hr⟩ := RT.out hn0
    have hr : w3.cell? ⟨bb, oo, none⟩ = some (.int .i64 tp) := hr
    obtain rfl := B0.out (by omega)
    clear RT RB T0 B0
    rcases (by have h3 := TT.out; rw [← TP.out] at h3; exact h3 : tp = 0 ∨ tp = 1 ∨ tp = 2 ∨ tp = 3) with hc | hc | hc | hc
    · subst hc
      have E2 : Hid (o = none) := hide (EM.out.trans (by rw [HA.out, ← TP.out, ← BL.out]; rfl))
      clear WW W0 W1 W2 EM
      go_wp2_with fail
      go_ret2
      exact stp_no E2.out B3.out
    · subst hc
      have E2 : Hid (o = none) := hide (EM.out.trans (by rw [HA.out, ← TP.out, ← BL.out]; rfl))
      clear WW W0 W1 W2 EM
      go_wp2_with fail
      go_ret2
      exact stp_no E2.out B3.out
    · subst hc
      have E2 : Hid (o = none) := hide (EM.out.trans (by rw [HA.out, ← TP.out, ← BL.out]; rfl))
      clear WW W0 W1 W2 EM
      go_wp2_with fail
      go_ret2
      exact stp_no E2.out B3.out
    · subst hc
      have E2 : Hid (o = none) := hide (EM.out.trans (by rw [HA.out, ← TP.out, ← BL.out]; rfl))
      clear WW W0 W1 W2 EM
      go_wp2_with fail
      go_ret2
      exact stp_no E2.out B3.out
  · skip
    have hn0 : 0 < ns := by omega
    obtain ⟨bb, oo, rfl, hr⟩ := RT.out hn0
    have hn' : (0 : Int) < (ns : Int) := by omega
    have hw : wrap64 ((ns : Int) - 1) = ((ns - 1 : Nat) : Int) := by unfold wrap64; omega
    have hlt : ns - 1 < ns := by omega
    have hlt' : ((ns - 1 : Nat) : Int) < (ns : Int) := by omega
    obtain ⟨b2, o2, e2', hr2⟩ := RB.out (by omega)
    cases e2'
    have hn2 : (1 : Int) < (ns : Int) := by omega
    have hw2 : wrap64 ((ns : Int) - 2) = ((ns - 2 : Nat) : Int) := by unfold wrap64; omega
    have hlt2 : ns - 2 < ns := by omega
    have hlt2' : ((ns - 2 : Nat) : Int) < (ns : Int) := by omega
    clear RT RB T0 B0
    have hm2 : 2 ≤ ns := hm
    rcases (by have h3 := TT.out; rw [← TP.out] at h3; exact h3 : tp = 0 ∨ tp = 1 ∨ tp = 2 ∨ tp = 3) with hc | hc | hc | hc
    · subst hc
      by_cases hd : bl = 0
      · subst hd
        have E2 : Hid (o = none) := hide (EM.out.trans (by rw [HA.out, ← TP.out, ← BL.out]; rfl))
        clear WW W0 W1 W2 EM
        go_wp2_with fail
        go_ret2
        exact stp_no E2.out B3.out
      · skip
        have hb : ((0 : Int) != bl) = true := by simp; omega
        have E2 : Hid (o = none) := hide (EM.out.trans (by rw [HA.out, ← TP.out, ← BL.out, if_pos (by unfold biT; rw [if_pos (.inl (fun e => hd e.symm))])]))
        clear WW W0 W1 W2 EM
        go_wp2_with fail
        go_ret2
        exact stp_no E2.out B3.out
    · subst hc
      by_cases hd : bl = 1
      · subst hd
        have W := hide (W2.out (1) hm2)
        have E2 : Hid (o = capD (withM s 2 (1))) := hide (EM.out.trans (by rw [HA.out, ← TP.out, ← BL.out]; rfl))
        clear WW W0 W1 W2 EM
        go_wp2_with fail
        refine W.out.mono ?_
        rintro e w9 ⟨v9, rfl, o9, b9⟩
        have EE := hide (fun v => stp_with (v := v) (s := s) E2.out B3.out o9 b9)
        generalize decide ((withM s 2 (1)).length ≤ 64) = dd at *
        clear o9 b9 E2 W
        go_wp2_with fail
        go_ret2
        exact EE.out _
      · skip
        have hb : ((1 : Int) != bl) = true := by simp; omega
        have E2 : Hid (o = none) := hide (EM.out.trans (by rw [HA.out, ← TP.out, ← BL.out, if_pos (by unfold biT; rw [if_pos (.inl (fun e => hd e.symm))])]))
        clear WW W0 W1 W2 EM
        go_wp2_with fail
        go_ret2
        exact stp_no E2.out B3.out
    · subst hc
      by_cases hd : bl = 2
      · subst hd
        have W := hide (W2.out (2) hm2)
        have E2 : Hid (o = capD (withM s 2 (2))) := hide (EM.out.trans (by rw [HA.out, ← TP.out, ← BL.out]; rfl))
        clear WW W0 W1 W2 EM
        go_wp2_with fail
        refine W.out.mono ?_
        rintro e w9 ⟨v9, rfl, o9, b9⟩
        have EE := hide (fun v => stp_with (v := v) (s := s) E2.out B3.out o9 b9)
        generalize decide ((withM s 2 (2)).length ≤ 64) = dd at *
        clear o9 b9 E2 W
        go_wp2_with fail
        go_ret2
        exact EE.out _
      · skip
        have hb : ((2 : Int) != bl) = true := by simp; omega
        have E2 : Hid (o = none) := hide (EM.out.trans (by rw [HA.out, ← TP.out, ← BL.out, if_pos (by unfold biT; rw [if_pos (.inl (fun e => hd e.symm))])]))
        clear WW W0 W1 W2 EM
        go_wp2_with fail
        go_ret2
        exact stp_no E2.out B3.out
    · subst hc
      by_cases hd : bl = 3
      · subst hd
        have E2 : Hid (o = none) := hide (EM.out.trans (by rw [HA.out, ← TP.out, ← BL.out]; rfl))
        clear WW W0 W1 W2 EM
        go_wp2_with fail
        go_ret2
        exact stp_no E2.out B3.out
      · skip
        have hb : ((3 : Int) != bl) = true := by simp; omega
        have E2 : Hid (o = none) := hide (EM.out.trans (by rw [HA.out, ← TP.out, ← BL.out, if_pos (by unfold biT; rw [if_pos (.inl (fun e => hd e.symm))])]))
        clear WW W0 W1 W2 EM
        go_wp2_with fail
        go_ret2
        exact stp_no E2.out B3.out
end Go.Proofs.YtaccdblbnogigaaDoor.Ck
