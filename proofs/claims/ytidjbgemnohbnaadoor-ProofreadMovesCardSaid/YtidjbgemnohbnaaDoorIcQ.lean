/- The document: InForm. (Written by mk_g.py.) -/
import Derived.Test.YtidjbgemnohbnaaDoorGq23
namespace Go.Proofs.YtidjbgemnohbnaaDoor.Ck
open Go.RowKit

set_option maxRecDepth 20000 in
set_option maxHeartbeats 8000000 in
theorem rform_any {w : World} {vP vC vF vB : Value} {c : Cd} (h : Cv w vP vC vF vB c) (hs : Sml c) : Calls Tryd.prog 13 #[codeA vP vC vF vB c] w (Vb w (.bool (formB c))) := by
  obtain ⟨aP, cP, aC, cC, aF, cF, aB, cB, eP, eC, eF, eB⟩ := h.form
  subst eP eC eF eB
  have V0 := hide h
  have HSm := hide hs
  have B0 := hide (bel_new w (.cells #[.slice aP c.P.length cP, .int .i64 c.M, .int .i64 c.A, .slice aC c.C.length cC, .slice aF c.F.length cF, .int .i64 c.mn, .slice aB c.B.length cB] 27))
  have KC := hide (show (w.alloc (.cells #[.slice aP c.P.length cP, .int .i64 c.M, .int .i64 c.A, .slice aC c.C.length cC, .slice aF c.F.length cF, .int .i64 c.mn, .slice aB c.B.length cB] 27)).heap[w.heap.size]? = some (.cells #[.slice aP c.P.length cP, .int .i64 c.M, .int .i64 c.A, .slice aC c.C.length cC, .slice aF c.F.length cF, .int .i64 c.mn, .slice aB c.B.length cB] 27 (0, 0)) from Go.Deep.blk_alloc_new _ _)
  have HE := hide (form_parts c)
  generalize formB c = res at *
  clear h hs
  unfold codeA
  go_enter Tryd.func13, Tryd.ntmps13
  simp only [List.append_eq, List.cons_append, List.nil_append]
  obtain ⟨w0, hw0⟩ : ∃ w0, w.alloc (.cells #[.slice aP c.P.length cP, .int .i64 c.M, .int .i64 c.A, .slice aC c.C.length cC, .slice aF c.F.length cF, .int .i64 c.mn, .slice aB c.B.length cB] 27) = w0 := ⟨_, rfl⟩
  rw [hw0] at B0 KC
  obtain ⟨g0, g1, g2, g3, g4, g5, g6⟩ := cells7 KC.out
  by_cases q1 : c.P.length ≤ 128
  case neg =>
    have d1 : decide (128 < c.P.length) = true := decide_eq_true (by omega)
    have d1' : decide ((128 : Int) < (c.P.length : Int)) = true := decide_eq_true (by omega)
    rw [show z0B c = false from z0_no (fun hz => by obtain ⟨h1, h2, h3, h4, h5, h6, h7⟩ := z0_spec hz; omega)] at HE
    have he : res = false := by rw [HE.out]; simp
    subst he
    clear HE
    go_wp2_with fail
    go_ret
    exact ⟨rfl, B0.out⟩
  have d1 : decide (128 < c.P.length) = false := decide_eq_false (by omega)
  have d1' : decide ((128 : Int) < (c.P.length : Int)) = false := decide_eq_false (by omega)
  by_cases q2 : 0 ≤ c.M
  case neg =>
    have d2 : decide (c.M < 0) = true := decide_eq_true (by omega)
    rw [show z0B c = false from z0_no (fun hz => by obtain ⟨h1, h2, h3, h4, h5, h6, h7⟩ := z0_spec hz; omega)] at HE
    have he : res = false := by rw [HE.out]; simp
    subst he
    clear HE
    go_wp2_with fail
    go_ret
    exact ⟨rfl, B0.out⟩
  have d2 : decide (c.M < 0) = false := decide_eq_false (by omega)
  by_cases q3 : c.M ≤ 32
  case neg =>
    have d3 : decide (32 < c.M) = true := decide_eq_true (by omega)
    rw [show z0B c = false from z0_no (fun hz => by obtain ⟨h1, h2, h3, h4, h5, h6, h7⟩ := z0_spec hz; omega)] at HE
    have he : res = false := by rw [HE.out]; simp
    subst he
    clear HE
    go_wp2_with fail
    go_ret
    exact ⟨rfl, B0.out⟩
  have d3 : decide (32 < c.M) = false := decide_eq_false (by omega)
  by_cases q4 : 0 ≤ c.A
  case neg =>
    have d4 : decide (c.A < 0) = true := decide_eq_true (by omega)
    rw [show z0B c = false from z0_no (fun hz => by obtain ⟨h1, h2, h3, h4, h5, h6, h7⟩ := z0_spec hz; omega)] at HE
    have he : res = false := by rw [HE.out]; simp
    subst he
    clear HE
    go_wp2_with fail
    go_ret
    exact ⟨rfl, B0.out⟩
  have d4 : decide (c.A < 0) = false := decide_eq_false (by omega)
  by_cases q5 : c.A ≤ 32
  case neg =>
    have d5 : decide (32 < c.A) = true := decide_eq_true (by omega)
    rw [show z0B c = false from z0_no (fun hz => by obtain ⟨h1, h2, h3, h4, h5, h6, h7⟩ := z0_spec hz; omega)] at HE
    have he : res = false := by rw [HE.out]; simp
    subst he
    clear HE
    go_wp2_with fail
    go_ret
    exact ⟨rfl, B0.out⟩
  have d5 : decide (32 < c.A) = false := decide_eq_false (by omega)
  have ws1 : wrap64 (c.M + c.A) = c.M + c.A := by unfold wrap64; omega
  have hsC := HSm.out.C
  have ws2 : wrap64 (c.M + c.A + (c.C.length : Int)) = c.M + c.A + (c.C.length : Int) := by unfold wrap64; omega
  by_cases q6 : c.M + c.A + (c.C.length : Int) ≤ 32
  case neg =>
    have d6 : decide (32 < c.M + c.A + (c.C.length : Int)) = true := decide_eq_true (by omega)
    rw [show z0B c = false from z0_no (fun hz => by obtain ⟨h1, h2, h3, h4, h5, h6, h7⟩ := z0_spec hz; omega)] at HE
    have he : res = false := by rw [HE.out]; simp
    subst he
    clear HE
    go_wp2_with fail
    go_ret
    exact ⟨rfl, B0.out⟩
  have d6 : decide (32 < c.M + c.A + (c.C.length : Int)) = false := decide_eq_false (by omega)
  by_cases q7 : c.F.length ≤ 16
  case neg =>
    have d7 : decide (16 < c.F.length) = true := decide_eq_true (by omega)
    have d7' : decide ((16 : Int) < (c.F.length : Int)) = true := decide_eq_true (by omega)
    rw [show z0B c = false from z0_no (fun hz => by obtain ⟨h1, h2, h3, h4, h5, h6, h7⟩ := z0_spec hz; omega)] at HE
    have he : res = false := by rw [HE.out]; simp
    subst he
    clear HE
    go_wp2_with fail
    go_ret
    exact ⟨rfl, B0.out⟩
  have d7 : decide (16 < c.F.length) = false := decide_eq_false (by omega)
  have d7' : decide ((16 : Int) < (c.F.length : Int)) = false := decide_eq_false (by omega)
  by_cases q8 : c.B.length ≤ 8192
  case neg =>
    have d8 : decide (8192 < c.B.length) = true := decide_eq_true (by omega)
    have d8' : decide ((8192 : Int) < (c.B.length : Int)) = true := decide_eq_true (by omega)
    rw [show z0B c = false from z0_no (fun hz => by obtain ⟨h1, h2, h3, h4, h5, h6, h7⟩ := z0_spec hz; omega)] at HE
    have he : res = false := by rw [HE.out]; simp
    subst he
    clear HE
    go_wp2_with fail
    go_ret
    exact ⟨rfl, B0.out⟩
  have d8 : decide (8192 < c.B.length) = false := decide_eq_false (by omega)
  have d8' : decide ((8192 : Int) < (c.B.length : Int)) = false := decide_eq_false (by omega)
  by_cases q9 : 0 ≤ c.mn ∧ c.mn < (c.F.length : Int)
  case neg =>
    have hi : inI c.mn (c.F.length : Int) = false := by unfold inI; simp only [Bool.and_eq_false_iff, decide_eq_false_iff_not]; omega
    have hz : z0B c = false := z0_no (fun hz => q9 (by have := main_spec.1 (z0_spec hz).2.2.2.2.2.2; exact ⟨this.1, this.2.1⟩))
    rw [hz] at HE
    have he : res = false := by rw [HE.out]; simp
    subst he
    clear HE hz
    go_wp2_with fail
    refine (rin_any _ _ _).mono ?_
    rintro e w2 ⟨rfl, rfl⟩
    rw [hi]
    go_wp2_with fail
    go_ret
    exact ⟨rfl, B0.out⟩
  obtain ⟨m, hm⟩ : ∃ m : Nat, c.mn = m := ⟨c.mn.toNat, by omega⟩
  have hmF : m < c.F.length := by omega
  have hi : inI (m : Int) (c.F.length : Int) = true := by unfold inI; simp; omega
  obtain ⟨bF, oF, vl, eaF, hbF, f1, f2, f3, f4⟩ := (by
    obtain ⟨_, _, e, _, _, hh⟩ := V0.out.F
    cases e
    exact hh m hmF : ∃ b off vl, aF = some ⟨b, off, none⟩ ∧ b < w.heap.size ∧ w.cell? ⟨b, off + m * 3, none⟩ = some (.int .i64 (c.F.getD m zF).st) ∧ w.cell? ⟨b, off + m * 3 + 1, none⟩ = some (.int .i64 (c.F.getD m zF).pa) ∧ w.cell? ⟨b, off + m * 3 + 2, none⟩ = some vl ∧ Sl w vl (c.F.getD m zF).lo)
  have ff := (B0.out.cell (p := ⟨bF, oF + m * 3 + 1, none⟩) hbF).trans f2
  have hbF' : bF < w0.heap.size := Nat.lt_of_lt_of_le hbF B0.out.size
  have g4' := g4
  rw [eaF] at g4'
  rw [hm] at g5
  have EAF := hide eaF
  have HMN := hide hm
  clear f1 f2 f3 f4 eaF hbF g4 hm q9
  cases q10 : ((c.F.getD m zF).pa == 0) with
  | false =>
    have d10 : ((c.F.getD m zF).pa != 0) = true := by rw [bne, q10]; rfl
    have hz : z0B c = false := z0_no (fun hz => by have := main_spec.1 (z0_spec hz).2.2.2.2.2.2; rw [HMN.out, Int.toNat_natCast] at this; rw [beq_eq_false_iff_ne] at q10; exact q10 this.2.2)
    rw [hz] at HE
    have he : res = false := by rw [HE.out]; simp
    subst he
    clear HE hz
    generalize (c.F.getD m zF).pa = y at *
    go_wp2_with fail
    refine (rin_any _ _ _).mono ?_
    rintro e w2 ⟨rfl, rfl⟩
    rw [hi]
    go_wp2_with fail
    go_ret
    exact ⟨rfl, B0.out⟩
  | true =>
  have d10 : ((c.F.getD m zF).pa != 0) = false := by rw [bne, q10]; rfl
  have hz : z0B c = true := z0_yes q1 q2 q4 q6 q7 q8 (main_spec.2 ⟨by rw [HMN.out]; omega, by rw [HMN.out]; omega, by rw [HMN.out, Int.toNat_natCast]; exact eq_of_beq q10⟩)
  rw [hz] at HE
  have HQ7 := hide q7
  have HQ8 := hide q8
  clear hz q10
  generalize (c.F.getD m zF).pa = y at *
  go_wp2_with fail
  refine (rin_any _ _ _).mono ?_
  rintro e w2 ⟨rfl, rfl⟩
  rw [hi]
  go_wp2_with fail
  clear g0 g1 g2 g3 g4' g5 g6 d1 d1' d2 d3 d4 d5 d6 d7 d7' d8 d8' d10 ws1 ws2 ff hbF' hi q1 q2 q3 q4 q5 q6 q7 q8 hsC
  have HP := hide (fun wz (hb : Below w.heap.size w wz) => (V0.out.bel hb).P)
  obtain ⟨nP, hnP⟩ : ∃ n, n = c.P.length := ⟨_, rfl⟩
  have HNP := hide hnP
  have hnm : nP ≤ 100000 := by rw [hnP]; exact HSm.out.P
  rw [← hnP]
  rw [← hnP] at KC
  clear hnP
  go_loopw [4, 83] (fun x0 i wr => ∃ k : Nat, k ≤ nP ∧ i = .int .i64 k ∧ Hid (∀ j, j < k → (fun j => typB (c.P.getD j 0)) j = true) ∧ Hid (Below w.heap.size w wr ∧ wr.heap[w.heap.size]? = some (.cells #[.slice aP nP cP, .int .i64 c.M, .int .i64 c.A, .slice aC c.C.length cC, .slice aF c.F.length cF, .int .i64 c.mn, .slice aB c.B.length cB] 27 (0, 0)))) (fun x0 i _ => nP - (intOf i).toNat)
  case atStart => exact ⟨0, Nat.zero_le _, rfl, fun j hj => absurd hj (Nat.not_lt_zero _), hide ⟨B0.out, KC.out⟩⟩
  case round =>
    obtain ⟨k, hk, rfl, hall, hbk⟩ := hrel
    by_cases hlt : k < nP
    · have hlt' : (k : Int) < (nP : Int) := by omega
      obtain ⟨b1, o1, eaP, hb1, r1⟩ := (by
        obtain ⟨_, _, _, e, _, _, hh⟩ := HP.out wr hbk.out.1
        cases e
        exact hh k (by rw [← HNP.out]; exact hlt) : ∃ b off, aP = some ⟨b, off, none⟩ ∧ b < wr.heap.size ∧ wr.cell? ⟨b, off + k, none⟩ = some (.int .i64 (c.P.getD k 0)))
      subst eaP
      obtain ⟨y, hyv⟩ : ∃ y, y = c.P.getD k 0 := ⟨_, rfl⟩
      rw [← hyv] at r1
      have HYV := hide hyv
      clear hyv
      go_wp2_with fail
      refine (rtyp_any _ _).mono ?_
      rintro e w2 ⟨rfl, rfl⟩
      have XB := hbk
      cases hy : typB y with
      | false =>
        rw [all_not (d := 0) k (by rw [← HNP.out]; exact hlt) (by rw [← HYV.out]; exact hy)] at HE
        have he : res = false := by rw [HE.out]; simp
        subst he
        clear HE
        go_wp2_with fail
        go_ret
        exact ⟨rfl, hbk.out.1⟩
      | true =>
        go_wp2_with fail
        go_roundw
        case rel => exact ⟨k + 1, by omega, by go_num, hide (fun j hj => by
          by_cases ej : j = k
          · rw [ej]; show typB (c.P.getD k 0) = true; rw [← HYV.out]; exact hy
          · exact hall.out j (by omega)), XB⟩
        case measure => simp [intOf]; omega
    · obtain rfl : k = nP := by omega
      have hz : c.P.all typB = true := all_yes (d := 0) (fun j hj => hall.out j (by rw [HNP.out]; exact hj))
      rw [hz] at HE
      have B1 := hide hbk.out.1
      have KC1 := hide hbk.out.2
      clear hz hall hbk KC B0
      have KC := KC1
      have B0 := B1
      clear KC1 B1
      rw [HNP.out] at KC ⊢
      generalize wr = w1 at *
      obtain ⟨g0, g1, g2, g3, g4, g5, g6⟩ := cells7 KC.out
      go_wp2_with fail
      clear g0 g1 g2 g3 g4 g5 g6
      have HC := hide (fun wz (hb : Below w.heap.size w wz) => (V0.out.bel hb).C)
      obtain ⟨nC, hnC⟩ : ∃ n, n = c.C.length := ⟨_, rfl⟩
      have HNC := hide hnC
      have hnm : nC ≤ 100000 := by rw [hnC]; exact HSm.out.C
      rw [← hnC]
      rw [← hnC] at KC
      clear hnC
      go_loopw [6, 94] (fun x0 i wr => ∃ k : Nat, k ≤ nC ∧ i = .int .i64 k ∧ Hid (∀ j, j < k → (fun j => chB (c.C.getD j z2)) j = true) ∧ Hid (Below w.heap.size w wr ∧ wr.heap[w.heap.size]? = some (.cells #[.slice aP c.P.length cP, .int .i64 c.M, .int .i64 c.A, .slice aC nC cC, .slice aF c.F.length cF, .int .i64 c.mn, .slice aB c.B.length cB] 27 (0, 0)))) (fun x0 i _ => nC - (intOf i).toNat)
      case atStart => exact ⟨0, Nat.zero_le _, rfl, fun j hj => absurd hj (Nat.not_lt_zero _), hide ⟨B0.out, KC.out⟩⟩
      case round =>
        obtain ⟨k, hk, rfl, hall, hbk⟩ := hrel
        by_cases hlt : k < nC
        · have hlt' : (k : Int) < (nC : Int) := by omega
          obtain ⟨b1, o1, eaC, hb1, r1, r2⟩ := (by
            obtain ⟨_, _, e, _, _, hh⟩ := HC.out wr hbk.out.1
            cases e
            exact hh k (by rw [← HNC.out]; exact hlt) : ∃ b off, aC = some ⟨b, off, none⟩ ∧ b < wr.heap.size ∧ wr.cell? ⟨b, off + k * 2, none⟩ = some (.int .i64 (c.C.getD k z2).1) ∧ wr.cell? ⟨b, off + k * 2 + 1, none⟩ = some (.int .i64 (c.C.getD k z2).2))
          subst eaC
          obtain ⟨y, hyv⟩ : ∃ y, y = c.C.getD k z2 := ⟨_, rfl⟩
          rw [← hyv] at r1 r2
          have HYV := hide hyv
          clear hyv
          have nb := bel_new wr (.cells #[.int .i64 y.1, .int .i64 y.2] 65)
          have XB := hide (And.intro (bel_trans hbk.out.1 nb) ((nb.block _ (lt_of_blk hbk.out.2)).trans hbk.out.2))
          clear nb
          go_wp2_with fail
          refine (rtyp_any _ _).mono ?_
          rintro e w2 ⟨rfl, rfl⟩
          cases hy : typB y.1 with
          | false =>
            rw [all_not (d := z2) k (by rw [← HNC.out]; exact hlt) (by rw [← HYV.out]; unfold chB; rw [hy]; rfl)] at HE
            have he : res = false := by rw [HE.out]; simp
            subst he
            clear HE
            go_wp2_with fail
            go_ret
            exact ⟨rfl, XB.out.1⟩
          | true =>
          by_cases p1 : 0 ≤ y.2
          case neg =>
            have e1 : decide (y.2 < 0) = true := decide_eq_true (by omega)
            rw [all_not (d := z2) k (by rw [← HNC.out]; exact hlt) (by rw [← HYV.out]; unfold chB; rw [hy, decide_eq_false p1]; rfl)] at HE
            have he : res = false := by rw [HE.out]; simp
            subst he
            clear HE
            go_wp2_with fail
            go_ret
            exact ⟨rfl, XB.out.1⟩
          have e1 : decide (y.2 < 0) = false := decide_eq_false (by omega)
          by_cases p2 : y.2 ≤ 8
          case neg =>
            have e2 : decide (8 < y.2) = true := decide_eq_true (by omega)
            rw [all_not (d := z2) k (by rw [← HNC.out]; exact hlt) (by rw [← HYV.out]; unfold chB; rw [hy, decide_eq_true p1, decide_eq_false p2]; rfl)] at HE
            have he : res = false := by rw [HE.out]; simp
            subst he
            clear HE
            go_wp2_with fail
            go_ret
            exact ⟨rfl, XB.out.1⟩
          have e2 : decide (8 < y.2) = false := decide_eq_false (by omega)
          go_wp2_with fail
          go_roundw
          case rel => exact ⟨k + 1, by omega, by go_num, hide (fun j hj => by
            by_cases ej : j = k
            · rw [ej]; show chB (c.C.getD k z2) = true; rw [← HYV.out]; unfold chB; rw [hy, decide_eq_true p1, decide_eq_true p2]; rfl
            · exact hall.out j (by omega)), XB⟩
          case measure => simp [intOf]; omega
        · obtain rfl : k = nC := by omega
          have hz : c.C.all chB = true := all_yes (d := z2) (fun j hj => hall.out j (by rw [HNC.out]; exact hj))
          rw [hz] at HE
          have B1 := hide hbk.out.1
          have KC1 := hide hbk.out.2
          clear hz hall hbk KC B0
          have KC := KC1
          have B0 := B1
          clear KC1 B1
          rw [HNC.out] at KC ⊢
          generalize wr = w1 at *
          obtain ⟨g0, g1, g2, g3, g4, g5, g6⟩ := cells7 KC.out
          go_wp2_with fail
          clear g0 g1 g2 g3 g4 g5 g6
          have HF := hide (fun wz (hb : Below w.heap.size w wz) => (V0.out.bel hb).F)
          obtain ⟨nF, hnF⟩ : ∃ n, n = c.F.length := ⟨_, rfl⟩
          have HNF := hide hnF
          have hnm : nF ≤ 100000 := by rw [hnF]; exact HSm.out.F
          rw [← hnF]
          rw [← hnF] at KC
          clear hnF
          go_loopw [7, 8, 10, 116] (fun x0 x1 x2 i wr => ∃ k : Nat, k ≤ nF ∧ i = .int .i64 k ∧ Hid (∀ j, j < k → (fun j => okF c j) j = true) ∧ Hid (Below w.heap.size w wr ∧ wr.heap[w.heap.size]? = some (.cells #[.slice aP c.P.length cP, .int .i64 c.M, .int .i64 c.A, .slice aC c.C.length cC, .slice aF nF cF, .int .i64 c.mn, .slice aB c.B.length cB] 27 (0, 0)))) (fun x0 x1 x2 i _ => nF - (intOf i).toNat)
          case atStart => exact ⟨0, Nat.zero_le _, rfl, fun j hj => absurd hj (Nat.not_lt_zero _), hide ⟨B0.out, KC.out⟩⟩
          case round =>
            obtain ⟨k, hk, rfl, hall, hbk⟩ := hrel
            by_cases hlt : k < nF
            · have hlt' : (k : Int) < (nF : Int) := by omega
              obtain ⟨b1, o1, vl, eaF, hb1, r1, r2, r3, r4⟩ := (by
                obtain ⟨_, _, e, _, _, hh⟩ := HF.out wr hbk.out.1
                cases e
                exact hh k (by rw [← HNF.out]; exact hlt) : ∃ b off vl, aF = some ⟨b, off, none⟩ ∧ b < wr.heap.size ∧ wr.cell? ⟨b, off + k * 3, none⟩ = some (.int .i64 (c.F.getD k zF).st) ∧ wr.cell? ⟨b, off + k * 3 + 1, none⟩ = some (.int .i64 (c.F.getD k zF).pa) ∧ wr.cell? ⟨b, off + k * 3 + 2, none⟩ = some vl ∧ Sl wr vl (c.F.getD k zF).lo)
              have HPV := hide (show 0 < k → wr.cell? ⟨b1, o1 + (k - 1) * 3, none⟩ = some (.int .i64 (c.F.getD (k - 1) zF).st) from fun h0 => by
                obtain ⟨_, _, e, _, _, hh⟩ := HF.out wr hbk.out.1
                cases e
                obtain ⟨b, off, vl', e', _, h1, _⟩ := hh (k - 1) (by have := HNF.out; omega)
                rw [eaF] at e'
                cases e'
                exact h1)
              subst eaF
              obtain ⟨y, hyv⟩ : ∃ y, y = c.F.getD k zF := ⟨_, rfl⟩
              have hylo : y.lo.length ≤ 100000 := by rw [hyv, List.getD_eq_getElem?_getD, List.getElem?_eq_getElem (by rw [← HNF.out]; exact hlt)]; exact HSm.out.L _ (List.getElem_mem _)
              rw [← hyv] at r1 r2 r4
              have HYV := hide hyv
              clear hyv
              obtain ⟨aL, cL, evl, hL1, hL2⟩ := r4.form
              subst evl
              have R4 := hide r4
              obtain ⟨nL, hnL⟩ : ∃ n, n = y.lo.length := ⟨_, rfl⟩
              rw [← hnL] at r3 hL1 hylo R4
              have HNL := hide hnL
              clear hnL r4
              have nb := bel_new wr (.cells #[.int .i64 y.st, .int .i64 y.pa, .slice aL nL cL] 46)
              have KF := hide (show (wr.alloc (.cells #[.int .i64 y.st, .int .i64 y.pa, .slice aL nL cL] 46)).heap[wr.heap.size]? = some (.cells #[.int .i64 y.st, .int .i64 y.pa, .slice aL nL cL] 46 (0, 0)) from Go.Deep.blk_alloc_new _ _)
              have XB := hide (And.intro (bel_trans hbk.out.1 nb) ((nb.block _ (lt_of_blk hbk.out.2)).trans hbk.out.2))
              have PV1 := hide (fun h0 => (nb.cell (p := ⟨b1, o1 + (k - 1) * 3, none⟩) hb1).trans (HPV.out h0))
              have RL := hide (R4.out.bel nb)
              have HB1 := hide (Nat.lt_of_lt_of_le hb1 nb.size)
              clear nb HPV R4
              go_upto_region 18 with fail
              generalize wr.alloc (.cells #[.int .i64 y.st, .int .i64 y.pa, .slice aL nL cL] 46) = w1 at *
              clear r1 r2 r3 hb1
              have f0 := blk_cell KF.out 0 _ rfl
              have f1 := blk_cell KF.out 1 _ rfl
              have f2 := blk_cell KF.out 2 _ rfl
              obtain ⟨g0, g1, g2, g3, g4, g5, g6⟩ := cells7 XB.out.2
              clear g0 g1 g2 g3 g5
              have hwe : w.heap.size < w1.heap.size := lt_of_blk XB.out.2
              have hb1 := HB1.out
              by_cases hk0 : 0 < k
              case neg =>
                obtain rfl : k = 0 := by omega
                have RI := hide (fun wz => rin_any y.st (c.B.length : Int) wz)
                cases hi : inI y.st (c.B.length : Int) with
                | false =>
                  rw [hi] at RI
                  rw [rng_not 0 (by rw [← HNF.out]; exact hlt) (okF_no HYV.out (fun hq => by rw [hi] at hq; exact absurd hq.1.1 (by simp)))] at HE
                  have he : res = false := by rw [HE.out]; simp
                  subst he
                  clear HE
                  go_quiet (first | (go_at_call 19; exact Calls.quiet_of_same ((RI.out _).mono (fun _ _ h => ⟨h.1, h.2.symm⟩))))
                  go_wp2_with fail
                  go_ret
                  exact ⟨rfl, below_drewN XB.out.1 _⟩
                | true =>
                rw [hi] at RI
                cases p1 : (y.st == 0) with
                | false =>
                  have e1 : (y.st != 0) = true := by rw [bne, p1]; rfl
                  rw [rng_not 0 (by rw [← HNF.out]; exact hlt) (okF_no HYV.out (fun hq => by rw [beq_eq_false_iff_ne] at p1; exact p1 (hq.2.1 rfl)))] at HE
                  have he : res = false := by rw [HE.out]; simp
                  subst he
                  clear HE
                  go_quiet (first | (go_at_call 19; exact Calls.quiet_of_same ((RI.out _).mono (fun _ _ h => ⟨h.1, h.2.symm⟩))))
                  go_wp2_with fail
                  go_ret
                  exact ⟨rfl, below_drewN XB.out.1 _⟩
                | true =>
                have e1 : (y.st != 0) = false := by rw [bne, p1]; rfl
                by_cases p2 : 0 ≤ y.pa
                case neg =>
                  have ep2 : decide (y.pa < 0) = true := decide_eq_true (by omega)
                  rw [rng_not 0 (by rw [← HNF.out]; exact hlt) (okF_no HYV.out (fun hq => p2 hq.1.2.1))] at HE
                  have he : res = false := by rw [HE.out]; simp
                  subst he
                  clear HE
                  go_quiet (first | (go_at_call 19; exact Calls.quiet_of_same ((RI.out _).mono (fun _ _ h => ⟨h.1, h.2.symm⟩))))
                  go_wp2_with fail
                  go_ret
                  exact ⟨rfl, below_drewN XB.out.1 _⟩
                have ep2 : decide (y.pa < 0) = false := decide_eq_false (by omega)
                by_cases p3 : y.pa ≤ 4
                case neg =>
                  have ep3 : decide (4 < y.pa) = true := decide_eq_true (by omega)
                  rw [rng_not 0 (by rw [← HNF.out]; exact hlt) (okF_no HYV.out (fun hq => p3 hq.1.2.2.1))] at HE
                  have he : res = false := by rw [HE.out]; simp
                  subst he
                  clear HE
                  go_quiet (first | (go_at_call 19; exact Calls.quiet_of_same ((RI.out _).mono (fun _ _ h => ⟨h.1, h.2.symm⟩))))
                  go_wp2_with fail
                  go_ret
                  exact ⟨rfl, below_drewN XB.out.1 _⟩
                have ep3 : decide (4 < y.pa) = false := decide_eq_false (by omega)
                by_cases p4 : y.pa ≤ (nL : Int)
                case neg =>
                  have ep4 : decide ((nL : Int) < y.pa) = true := decide_eq_true (by omega)
                  rw [rng_not 0 (by rw [← HNF.out]; exact hlt) (okF_no HYV.out (fun hq => p4 (by rw [HNL.out]; exact hq.1.2.2.2.1)))] at HE
                  have he : res = false := by rw [HE.out]; simp
                  subst he
                  clear HE
                  go_quiet (first | (go_at_call 19; exact Calls.quiet_of_same ((RI.out _).mono (fun _ _ h => ⟨h.1, h.2.symm⟩))))
                  go_wp2_with fail
                  go_ret
                  exact ⟨rfl, below_drewN XB.out.1 _⟩
                have ep4 : decide ((nL : Int) < y.pa) = false := decide_eq_false (by omega)
                by_cases p5 : (nL : Int) ≤ 32
                case neg =>
                  have ep5 : decide ((32 : Int) < (nL : Int)) = true := decide_eq_true (by omega)
                  rw [rng_not 0 (by rw [← HNF.out]; exact hlt) (okF_no HYV.out (fun hq => p5 (by have := hq.1.2.2.2.2.1; rw [HNL.out]; omega)))] at HE
                  have he : res = false := by rw [HE.out]; simp
                  subst he
                  clear HE
                  go_quiet (first | (go_at_call 19; exact Calls.quiet_of_same ((RI.out _).mono (fun _ _ h => ⟨h.1, h.2.symm⟩))))
                  go_wp2_with fail
                  go_ret
                  exact ⟨rfl, below_drewN XB.out.1 _⟩
                have ep5 : decide ((32 : Int) < (nL : Int)) = false := decide_eq_false (by omega)
                go_quiet (first | (go_at_call 19; exact Calls.quiet_of_same ((RI.out _).mono (fun _ _ h => ⟨h.1, h.2.symm⟩))))
                have HG := hide (show y.lo.all typB = true → okF c 0 = true from fun ha => (okF_iff HYV.out).2 ⟨⟨hi, p2, p3, by rw [← HNL.out]; exact p4, by have := HNL.out; omega, ha⟩, fun _ => eq_of_beq p1, fun h => absurd h (by omega)⟩)
                have X2 : Hid (Below w.heap.size w (w1.drewN nq) ∧ (w1.drewN nq).heap[w.heap.size]? = some (.cells #[.slice aP c.P.length cP, .int .i64 c.M, .int .i64 c.A, .slice aC c.C.length cC, .slice (some ⟨b1, o1, none⟩) nF cF, .int .i64 c.mn, .slice aB c.B.length cB] 27 (0, 0))) := hide ⟨below_drewN XB.out.1 _, XB.out.2⟩
                have KF2 : Hid ((w1.drewN nq).heap[wr.heap.size]? = some (.cells #[.int .i64 y.st, .int .i64 y.pa, .slice aL nL cL] 46 (0, 0))) := hide KF.out
                have RL2 : Hid (Sl (w1.drewN nq) (.slice aL nL cL) y.lo) := hide (Sl.bel RL.out (below_drewN (Below.refl _ _) _))
                have hwr : wr.heap.size < (w1.drewN nq).heap.size := lt_of_blk KF2.out
                clear XB KF RL f0 f1 f2 g4 g6 hb1 HB1 PV1 hwe RI hi p2 p3 p4 p5 ep2 ep3 ep4 ep5 p1 e1
                generalize w1.drewN nq = w2 at *
                have f2 := blk_cell KF2.out 2 _ rfl
                obtain ⟨wo, rfl⟩ : ∃ wo : World, wo = wr := ⟨_, rfl⟩
                go_wp2_with fail
                go_loopw [10, 180] (fun x0 i wr => ∃ j : Nat, j ≤ nL ∧ i = .int .i64 j ∧ Hid (∀ t, t < j → typB (y.lo.getD t 0) = true) ∧ wr = w2) (fun x0 i _ => nL - (intOf i).toNat)
                case atStart => exact ⟨0, Nat.zero_le _, rfl, fun j hj => absurd hj (Nat.not_lt_zero _), rfl⟩
                case round =>
                  obtain ⟨j, hj, rfl, halj, rfl⟩ := hrel
                  by_cases hjt : j < nL
                  · have hjt' : (j : Int) < (nL : Int) := by omega
                    obtain ⟨b2, o2, eaL, hb2, t1⟩ := (by
                      obtain ⟨_, _, _, e, _, _, hh⟩ := RL2.out
                      cases e
                      exact hh j (by rw [← HNL.out]; exact hjt) : ∃ b off, aL = some ⟨b, off, none⟩ ∧ b < wr.heap.size ∧ wr.cell? ⟨b, off + j, none⟩ = some (.int .i64 (y.lo.getD j 0)))
                    subst eaL
                    obtain ⟨t, htv⟩ : ∃ t, t = y.lo.getD j 0 := ⟨_, rfl⟩
                    rw [← htv] at t1
                    have HTV := hide htv
                    clear htv
                    go_wp2_with fail
                    refine (rtyp_any _ _).mono ?_
                    rintro e w3 ⟨rfl, rfl⟩
                    cases hy : typB t with
                    | false =>
                      rw [rng_not 0 (by rw [← HNF.out]; exact hlt) (okF_no HYV.out (fun hq => by rw [all_not (d := 0) j (by rw [← HNL.out]; exact hjt) (by rw [← HTV.out]; exact hy)] at hq; exact absurd hq.1.2.2.2.2.2 (by simp)))] at HE
                      have he : res = false := by rw [HE.out]; simp
                      subst he
                      clear HE
                      go_wp2_with fail
                      go_ret
                      exact ⟨rfl, X2.out.1⟩
                    | true =>
                      go_wp2_with fail
                      go_roundw
                      case rel => exact ⟨j + 1, by omega, by go_num, hide (fun s hs => by
                        by_cases ej : s = j
                        · rw [ej, ← HTV.out]; exact hy
                        · exact halj.out s (by omega)), trivial⟩
                      case measure => simp [intOf]; omega
                  · obtain rfl : j = nL := by omega
                    have hok := HG.out (all_yes (d := 0) (fun s hs => halj.out s (by rw [HNL.out]; exact hs)))
                    go_wp2_with fail
                    go_roundw
                    case rel => exact ⟨0 + 1, by omega, by go_num, hide (fun s hs => by
                      by_cases ej : s = 0
                      · rw [ej]; exact hok
                      · exact hall.out s (by omega)), X2⟩
                    case measure => simp [intOf]; omega
              have RI := hide (fun wz => rin_any y.st (c.B.length : Int) wz)
              cases hi : inI y.st (c.B.length : Int) with
              | false =>
                rw [hi] at RI
                rw [rng_not k (by rw [← HNF.out]; exact hlt) (okF_no HYV.out (fun hq => by rw [hi] at hq; exact absurd hq.1.1 (by simp)))] at HE
                have he : res = false := by rw [HE.out]; simp
                subst he
                clear HE
                go_quiet (first | (go_at_call 19; exact Calls.quiet_of_same ((RI.out _).mono (fun _ _ h => ⟨h.1, h.2.symm⟩))))
                go_wp2_with fail
                go_ret
                exact ⟨rfl, below_drewN XB.out.1 _⟩
              | true =>
              rw [hi] at RI
              have k1 : ((k : Int) == 0) = false := by rw [beq_eq_false_iff_ne]; omega
              have k2 : decide ((0 : Int) < (k : Int)) = true := decide_eq_true (by omega)
              have k3 : wrap64 ((k : Int) - 1) = ((k - 1 : Nat) : Int) := by unfold wrap64; omega
              have k4 : k - 1 < nF := by omega
              have pv := PV1.out hk0
              obtain ⟨z, hz⟩ : ∃ z, z = (c.F.getD (k - 1) zF).st := ⟨_, rfl⟩
              rw [← hz] at pv
              have HZ := hide hz
              clear hz
              by_cases p1 : z < y.st
              case neg =>
                have e1 : decide (y.st ≤ z) = true := decide_eq_true (by omega)
                rw [rng_not k (by rw [← HNF.out]; exact hlt) (okF_no HYV.out (fun hq => by have := hq.2.2 hk0; rw [← HZ.out] at this; exact p1 this))] at HE
                have he : res = false := by rw [HE.out]; simp
                subst he
                clear HE
                go_quiet (first | (go_at_call 19; exact Calls.quiet_of_same ((RI.out _).mono (fun _ _ h => ⟨h.1, h.2.symm⟩))))
                go_wp2_with fail
                go_ret
                exact ⟨rfl, below_drewN XB.out.1 _⟩
              have e1 : decide (y.st ≤ z) = false := decide_eq_false (by omega)
              by_cases p2 : 0 ≤ y.pa
              case neg =>
                have ep2 : decide (y.pa < 0) = true := decide_eq_true (by omega)
                rw [rng_not k (by rw [← HNF.out]; exact hlt) (okF_no HYV.out (fun hq => p2 hq.1.2.1))] at HE
                have he : res = false := by rw [HE.out]; simp
                subst he
                clear HE
                go_quiet (first | (go_at_call 19; exact Calls.quiet_of_same ((RI.out _).mono (fun _ _ h => ⟨h.1, h.2.symm⟩))))
                go_wp2_with fail
                go_ret
                exact ⟨rfl, below_drewN XB.out.1 _⟩
              have ep2 : decide (y.pa < 0) = false := decide_eq_false (by omega)
              by_cases p3 : y.pa ≤ 4
              case neg =>
                have ep3 : decide (4 < y.pa) = true := decide_eq_true (by omega)
                rw [rng_not k (by rw [← HNF.out]; exact hlt) (okF_no HYV.out (fun hq => p3 hq.1.2.2.1))] at HE
                have he : res = false := by rw [HE.out]; simp
                subst he
                clear HE
                go_quiet (first | (go_at_call 19; exact Calls.quiet_of_same ((RI.out _).mono (fun _ _ h => ⟨h.1, h.2.symm⟩))))
                go_wp2_with fail
                go_ret
                exact ⟨rfl, below_drewN XB.out.1 _⟩
              have ep3 : decide (4 < y.pa) = false := decide_eq_false (by omega)
              by_cases p4 : y.pa ≤ (nL : Int)
              case neg =>
                have ep4 : decide ((nL : Int) < y.pa) = true := decide_eq_true (by omega)
                rw [rng_not k (by rw [← HNF.out]; exact hlt) (okF_no HYV.out (fun hq => p4 (by rw [HNL.out]; exact hq.1.2.2.2.1)))] at HE
                have he : res = false := by rw [HE.out]; simp
                subst he
                clear HE
                go_quiet (first | (go_at_call 19; exact Calls.quiet_of_same ((RI.out _).mono (fun _ _ h => ⟨h.1, h.2.symm⟩))))
                go_wp2_with fail
                go_ret
                exact ⟨rfl, below_drewN XB.out.1 _⟩
              have ep4 : decide ((nL : Int) < y.pa) = false := decide_eq_false (by omega)
              by_cases p5 : (nL : Int) ≤ 32
              case neg =>
                have ep5 : decide ((32 : Int) < (nL : Int)) = true := decide_eq_true (by omega)
                rw [rng_not k (by rw [← HNF.out]; exact hlt) (okF_no HYV.out (fun hq => p5 (by have := hq.1.2.2.2.2.1; rw [HNL.out]; omega)))] at HE
                have he : res = false := by rw [HE.out]; simp
                subst he
                clear HE
                go_quiet (first | (go_at_call 19; exact Calls.quiet_of_same ((RI.out _).mono (fun _ _ h => ⟨h.1, h.2.symm⟩))))
                go_wp2_with fail
                go_ret
                exact ⟨rfl, below_drewN XB.out.1 _⟩
              have ep5 : decide ((32 : Int) < (nL : Int)) = false := decide_eq_false (by omega)
              go_quiet (first | (go_at_call 19; exact Calls.quiet_of_same ((RI.out _).mono (fun _ _ h => ⟨h.1, h.2.symm⟩))))
              have HG := hide (show y.lo.all typB = true → okF c k = true from fun ha => (okF_iff HYV.out).2 ⟨⟨hi, p2, p3, by rw [← HNL.out]; exact p4, by have := HNL.out; omega, ha⟩, fun e => absurd e (by omega), fun _ => by rw [← HZ.out]; exact p1⟩)
              have X2 : Hid (Below w.heap.size w (w1.drewN nq) ∧ (w1.drewN nq).heap[w.heap.size]? = some (.cells #[.slice aP c.P.length cP, .int .i64 c.M, .int .i64 c.A, .slice aC c.C.length cC, .slice (some ⟨b1, o1, none⟩) nF cF, .int .i64 c.mn, .slice aB c.B.length cB] 27 (0, 0))) := hide ⟨below_drewN XB.out.1 _, XB.out.2⟩
              have KF2 : Hid ((w1.drewN nq).heap[wr.heap.size]? = some (.cells #[.int .i64 y.st, .int .i64 y.pa, .slice aL nL cL] 46 (0, 0))) := hide KF.out
              have RL2 : Hid (Sl (w1.drewN nq) (.slice aL nL cL) y.lo) := hide (Sl.bel RL.out (below_drewN (Below.refl _ _) _))
              have hwr : wr.heap.size < (w1.drewN nq).heap.size := lt_of_blk KF2.out
              clear XB KF RL f0 f1 f2 g4 g6 hb1 HB1 PV1 hwe RI hi p2 p3 p4 p5 ep2 ep3 ep4 ep5 p1 e1 k1 k2 k3 k4 pv HZ
              generalize w1.drewN nq = w2 at *
              have f2 := blk_cell KF2.out 2 _ rfl
              obtain ⟨wo, rfl⟩ : ∃ wo : World, wo = wr := ⟨_, rfl⟩
              go_wp2_with fail
              go_loopw [10, 180] (fun x0 i wr => ∃ j : Nat, j ≤ nL ∧ i = .int .i64 j ∧ Hid (∀ t, t < j → typB (y.lo.getD t 0) = true) ∧ wr = w2) (fun x0 i _ => nL - (intOf i).toNat)
              case atStart => exact ⟨0, Nat.zero_le _, rfl, fun j hj => absurd hj (Nat.not_lt_zero _), rfl⟩
              case round =>
                obtain ⟨j, hj, rfl, halj, rfl⟩ := hrel
                by_cases hjt : j < nL
                · have hjt' : (j : Int) < (nL : Int) := by omega
                  obtain ⟨b2, o2, eaL, hb2, t1⟩ := (by
                    obtain ⟨_, _, _, e, _, _, hh⟩ := RL2.out
                    cases e
                    exact hh j (by rw [← HNL.out]; exact hjt) : ∃ b off, aL = some ⟨b, off, none⟩ ∧ b < wr.heap.size ∧ wr.cell? ⟨b, off + j, none⟩ = some (.int .i64 (y.lo.getD j 0)))
                  subst eaL
                  obtain ⟨t, htv⟩ : ∃ t, t = y.lo.getD j 0 := ⟨_, rfl⟩
                  rw [← htv] at t1
                  have HTV := hide htv
                  clear htv
                  go_wp2_with fail
                  refine (rtyp_any _ _).mono ?_
                  rintro e w3 ⟨rfl, rfl⟩
                  cases hy : typB t with
                  | false =>
                    rw [rng_not k (by rw [← HNF.out]; exact hlt) (okF_no HYV.out (fun hq => by rw [all_not (d := 0) j (by rw [← HNL.out]; exact hjt) (by rw [← HTV.out]; exact hy)] at hq; exact absurd hq.1.2.2.2.2.2 (by simp)))] at HE
                    have he : res = false := by rw [HE.out]; simp
                    subst he
                    clear HE
                    go_wp2_with fail
                    go_ret
                    exact ⟨rfl, X2.out.1⟩
                  | true =>
                    go_wp2_with fail
                    go_roundw
                    case rel => exact ⟨j + 1, by omega, by go_num, hide (fun s hs => by
                      by_cases ej : s = j
                      · rw [ej, ← HTV.out]; exact hy
                      · exact halj.out s (by omega)), trivial⟩
                    case measure => simp [intOf]; omega
                · obtain rfl : j = nL := by omega
                  have hok := HG.out (all_yes (d := 0) (fun s hs => halj.out s (by rw [HNL.out]; exact hs)))
                  go_wp2_with fail
                  go_roundw
                  case rel => exact ⟨k + 1, by omega, by go_num, hide (fun s hs => by
                    by_cases ej : s = k
                    · rw [ej]; exact hok
                    · exact hall.out s (by omega)), X2⟩
                  case measure => simp [intOf]; omega
            · obtain rfl : k = nF := by omega
              have hz : (List.range c.F.length).all (okF c) = true := rng_yes (fun j hj => hall.out j (by rw [HNF.out]; exact hj))
              rw [hz] at HE
              have B1 := hide hbk.out.1
              have KC1 := hide hbk.out.2
              clear hz hall hbk KC B0
              have KC := KC1
              have B0 := B1
              clear KC1 B1
              rw [HNF.out] at KC ⊢
              generalize wr = w1 at *
              obtain ⟨g0, g1, g2, g3, g4, g5, g6⟩ := cells7 KC.out
              go_wp2_with fail
              clear g0 g1 g2 g3 g4 g5 g6
              have HB := hide (fun wz (hb : Below w.heap.size w wz) => (V0.out.bel hb).B)
              obtain ⟨nB, hnB⟩ : ∃ n, n = c.B.length := ⟨_, rfl⟩
              have HNB := hide hnB
              have hnm : nB ≤ 100000 := by rw [hnB]; exact HSm.out.B
              rw [← hnB]
              rw [← hnB] at KC
              clear hnB
              go_loopw [12, 192] (fun x0 i wr => ∃ k : Nat, k ≤ nB ∧ i = .int .i64 k ∧ Hid (∀ j, j < k → (fun j => insB c (c.B.getD j zI)) j = true) ∧ Hid (Below w.heap.size w wr ∧ wr.heap[w.heap.size]? = some (.cells #[.slice aP c.P.length cP, .int .i64 c.M, .int .i64 c.A, .slice aC c.C.length cC, .slice aF c.F.length cF, .int .i64 c.mn, .slice aB nB cB] 27 (0, 0)))) (fun x0 i _ => nB - (intOf i).toNat)
              case atStart => exact ⟨0, Nat.zero_le _, rfl, fun j hj => absurd hj (Nat.not_lt_zero _), hide ⟨B0.out, KC.out⟩⟩
              case round =>
                obtain ⟨k, hk, rfl, hall, hbk⟩ := hrel
                by_cases hlt : k < nB
                · have hlt' : (k : Int) < (nB : Int) := by omega
                  obtain ⟨b1, o1, eaB, hb1, r1, r2, r3, r4, r5⟩ := (by
                    obtain ⟨_, _, e, _, _, hh⟩ := HB.out wr hbk.out.1
                    cases e
                    exact hh k (by rw [← HNB.out]; exact hlt) : ∃ b off, aB = some ⟨b, off, none⟩ ∧ b < wr.heap.size ∧ wr.cell? ⟨b, off + k * 5, none⟩ = some (.int .i64 (c.B.getD k zI).op) ∧ wr.cell? ⟨b, off + k * 5 + 1, none⟩ = some (.int .i64 (c.B.getD k zI).a) ∧ wr.cell? ⟨b, off + k * 5 + 2, none⟩ = some (.int .i64 (c.B.getD k zI).b) ∧ wr.cell? ⟨b, off + k * 5 + 3, none⟩ = some (.int .u64 (c.B.getD k zI).bits) ∧ wr.cell? ⟨b, off + k * 5 + 4, none⟩ = some (.int .i64 (c.B.getD k zI).at_))
                  subst eaB
                  obtain ⟨y, hyv⟩ : ∃ y, y = c.B.getD k zI := ⟨_, rfl⟩
                  have IX := hide (show InX y from by rw [hyv, List.getD_eq_getElem?_getD, List.getElem?_eq_getElem (by rw [← HNB.out]; exact hlt)]; exact V0.out.L.I _ (List.getElem_mem _))
                  rw [← hyv] at r1 r2 r3 r4 r5
                  have HYV := hide hyv
                  clear hyv
                  have nb := bel_new wr (.cells #[.int .i64 y.op, .int .i64 y.a, .int .i64 y.b, .int .u64 y.bits, .int .i64 y.at_] 44)
                  have KI := hide (show (wr.alloc (.cells #[.int .i64 y.op, .int .i64 y.a, .int .i64 y.b, .int .u64 y.bits, .int .i64 y.at_] 44)).heap[wr.heap.size]? = some (.cells #[.int .i64 y.op, .int .i64 y.a, .int .i64 y.b, .int .u64 y.bits, .int .i64 y.at_] 44 (0, 0)) from Go.Deep.blk_alloc_new _ _)
                  have XB := hide (And.intro (bel_trans hbk.out.1 nb) ((nb.block _ (lt_of_blk hbk.out.2)).trans hbk.out.2))
                  have RI := hide (dinstr_any (V0.out.bel XB.out.1) HSm.out y IX.out)
                  unfold codeA at RI
                  rw [← HNB.out] at RI
                  clear nb
                  go_upto_region 30 with fail
                  generalize wr.alloc (.cells #[.int .i64 y.op, .int .i64 y.a, .int .i64 y.b, .int .u64 y.bits, .int .i64 y.at_] 44) = w1 at *
                  clear r1 r2 r3 r4 r5 hb1
                  obtain ⟨g0, g1, g2, g3, g4, g5, g6⟩ := cells7 XB.out.2
                  have i0 := blk_cell KI.out 0 _ rfl
                  have i1 := blk_cell KI.out 1 _ rfl
                  have i2 := blk_cell KI.out 2 _ rfl
                  have i3 := blk_cell KI.out 3 _ rfl
                  have i4 := blk_cell KI.out 4 _ rfl
                  go_wp2_with fail
                  refine RI.out.mono ?_
                  rintro e w3 ⟨rfl, b3⟩
                  have X3 : Hid (Below w.heap.size w w3 ∧ w3.heap[w.heap.size]? = some (.cells #[.slice aP c.P.length cP, .int .i64 c.M, .int .i64 c.A, .slice aC c.C.length cC, .slice aF c.F.length cF, .int .i64 c.mn, .slice (some ⟨b1, o1, none⟩) nB cB] 27 (0, 0))) := hide ⟨bel_trans XB.out.1 b3, (b3.block _ (lt_of_blk XB.out.2)).trans XB.out.2⟩
                  clear b3 XB KI RI g0 g1 g2 g3 g4 g5 g6 i0 i1 i2 i3 i4
                  cases hy : insB c y with
                  | false =>
                    rw [all_not (d := zI) k (by rw [← HNB.out]; exact hlt) (by rw [← HYV.out]; exact hy)] at HE
                    have he : res = false := by rw [HE.out]; simp
                    subst he
                    clear HE
                    go_wp2_with fail
                    go_ret
                    exact ⟨rfl, X3.out.1⟩
                  | true =>
                    go_wp2_with fail
                    go_roundw
                    case rel => exact ⟨k + 1, by omega, by go_num, hide (fun j hj => by
                      by_cases ej : j = k
                      · rw [ej]; show insB c (c.B.getD k zI) = true; rw [← HYV.out]; exact hy
                      · exact hall.out j (by omega)), X3⟩
                    case measure => simp [intOf]; omega
                · obtain rfl : k = nB := by omega
                  have hz : c.B.all (insB c) = true := all_yes (d := zI) (fun j hj => hall.out j (by rw [HNB.out]; exact hj))
                  rw [hz] at HE
                  have he : res = true := by rw [HE.out]; rfl
                  subst he
                  clear HE
                  go_wp2_with fail
                  go_ret
                  exact ⟨rfl, hbk.out.1⟩
end Go.Proofs.YtidjbgemnohbnaaDoor.Ck
