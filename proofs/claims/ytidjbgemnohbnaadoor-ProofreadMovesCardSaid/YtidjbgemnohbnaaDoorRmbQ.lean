/- The statement ProofreadMoves. -/
import Derived.Test.YtidjbgemnohbnaaDoorGq15
import Derived.Test.YtidjbgemnohbnaaDoorQw0Q
import Derived.Deep.LoopGhost
namespace Go.Proofs.YtidjbgemnohbnaaDoor.Ck
open Go.RowKit

set_option maxRecDepth 20000 in
set_option maxHeartbeats 8000000 in
theorem moves_main {w : World} {p : List Addr} (ev : Errs17 w p) {vP vC vF vB : Value} {c : Cd} (h : Cv w vP vC vF vB c) : Calls Tryd.prog 4 #[codeA vP vC vF vB c] w (Vb w (.bool true)) := by
  obtain ⟨aP, cP, aC, cC, aF, cF, aB, cB, eP, eC, eF, eB⟩ := h.form
  subst eP eC eF eB
  have B0 := hide (bel_new w (codeO (.slice aP c.P.length cP) (.slice aC c.C.length cC) (.slice aF c.F.length cF) (.slice aB c.B.length cB) c))
  have AL := hide (alive16_any (ev.below (Nat.le_refl _) B0.out))
  have V0 := Go.Deep.blk_alloc_new w (codeO (.slice aP c.P.length cP) (.slice aC c.C.length cC) (.slice aF c.F.length cF) (.slice aB c.B.length cB) c)
  have K0 := hide V0
  have HV := hide h
  have HE := hide ev
  obtain ⟨g0, g1, g2, g3, g4, g5, g6⟩ := cells7 V0
  have LG := hide (fun wz (b : Below w.heap.size w wz) => long3_any (h.bel b))
  have PS := hide (fun wz (b : Below w.heap.size w wz) => pstacks_any (p := p) ((show Ec w p from ev.cell 8 (by omega)).bel b) (h.bel b))
  obtain ⟨bz, hbz⟩ : ∃ b, b = w.heap.size := ⟨_, rfl⟩
  unfold codeO at *
  unfold codeA at LG PS ⊢
  clear h ev V0
  go_enter Tryd.func4, Tryd.ntmps4
  go_wp2_with fail
  refine AL.out.mono ?_
  rintro e w2 ⟨rfl, b2⟩
  have B2 := hide (bel_trans B0.out b2)
  have K2 := hide ((b2.block _ (lt_of_blk K0.out)).trans K0.out)
  clear b2 AL g0 g1 g2 g3 g4 g5 g6 K0
  obtain ⟨g0, g1, g2, g3, g4, g5, g6⟩ := cells7 K2.out
  go_wp2_with fail
  refine (LG.out _ B2.out).mono ?_
  rintro e w3 ⟨rfl, b3⟩
  have B3 := hide (bel_trans B2.out b3)
  have K3 := hide ((b3.block _ (lt_of_blk K2.out)).trans K2.out)
  clear b3 LG g0 g1 g2 g3 g4 g5 g6 K2 B2
  obtain ⟨g0, g1, g2, g3, g4, g5, g6⟩ := cells7 K3.out
  cases hl : lon3B c with
  | true =>
    go_wp2_with fail
    go_ret
    exact ⟨rfl, B3.out⟩
  | false =>
    have SM := hide (sml3 hl)
    clear hl
    go_wp2_with fail
    refine (PS.out _ B3.out).mono ?_
    intro e w4 hp4
    obtain ⟨b4, hp4⟩ := hp4
    have B4 := hide (bel_trans B3.out b4)
    have K4 := hide ((b4.block _ (lt_of_blk K3.out)).trans K3.out)
    obtain ⟨l0, l1, l2, l3, l4, l5, l6⟩ := cells7 K4.out
    cases hr : readM c with
    | none =>
      rw [hr] at hp4
      subst hp4
      clear b4 PS g0 g1 g2 g3 g4 g5 g6 K3 B3 hr
      go_wp2_with fail
      go_ret
      exact ⟨rfl, B4.out⟩
    | some st =>
      rw [hr] at hp4
      obtain ⟨v, vs, rfl, hst, hv, hrow⟩ := hp4
      have HST := hide hst
      have OV := hide hv
      have OR := hide hrow
      obtain ⟨av, cv, rfl, _⟩ := own_slice hv
      have HR := hide hr
      clear b4 g0 g1 g2 g3 g4 g5 g6 K3 B3 hr hst hv hrow
      by_cases hN : c.B.length < 8192
      rotate_left 1
      · have hN' : (8192 : Int) ≤ (c.B.length : Int) := by omega
        go_wp2_with fail
        go_ret
        exact ⟨rfl, B4.out⟩
      have hN' : decide ((8192 : Int) ≤ (c.B.length : Int)) = false := decide_eq_false (by omega)
      have HN := hide hN
      clear hN
      go_upto_region 9 with fail
      have VD := Go.Deep.blk_alloc_new w4 (.cells #[.slice aP c.P.length cP, .int .i64 c.M, .int .i64 c.A, .slice aC c.C.length cC, .slice aF c.F.length cF, .int .i64 c.mn, .slice aB c.B.length cB] 27)
      have BD := bel_new w4 (.cells #[.slice aP c.P.length cP, .int .i64 c.M, .int .i64 c.A, .slice aC c.C.length cC, .slice aF c.F.length cF, .int .i64 c.mn, .slice aB c.B.length cB] 27)
      obtain ⟨w5, h5⟩ : ∃ q, q = w4.alloc (.cells #[.slice aP c.P.length cP, .int .i64 c.M, .int .i64 c.A, .slice aC c.C.length cC, .slice aF c.F.length cF, .int .i64 c.mn, .slice aB c.B.length cB] 27) := ⟨_, rfl⟩
      rw [← h5] at VD BD ⊢
      have hs5 : w5.heap.size = w4.heap.size + 1 := by rw [h5]; simp
      have k6 := blk_cell VD 6 _ rfl
      have f6 := blk_frz VD 6
      have M1 := hide (MG.first VD BD hs5)
      have dlt := lt_of_blk VD
      clear VD BD h5
      go_upto_region 10 with fail
      generalize (w5.setCell ⟨w4.heap.size, 6, none⟩ (.slice (some ⟨w4.heap.size + 1, 0, none⟩) 1 1)).alloc (.cells #[.int .i64 24, .int .i64 0, .int .i64 0, .int .u64 0, .int .i64 0] 44) = w6 at *
      clear k6 f6 dlt hs5
      obtain ⟨dz, hdz⟩ : ∃ q, q = w4.heap.size := ⟨_, rfl⟩
      rw [← hdz] at M1 ⊢
      have K6 := hide ((M1.out.bel.block _ (lt_of_blk K4.out)).trans K4.out)
      obtain ⟨g0, g1, g2, g3, g4, g5, g6⟩ := cells7 K6.out
      obtain ⟨n, hn⟩ : ∃ q, q = c.B.length := ⟨_, rfl⟩
      have NN := hide hn
      have BB := HV.out.B
      clear l0 l1 l2 l3 l4 l5 l6 hdz
      go_wp2_with fail
      go_loopg [35] (c.B.length) (fun gh x35 wr => ∃ k : Nat, gh = c.B.length - k ∧ k ≤ c.B.length ∧ x35 = .int .i64 (k : Nat) ∧ Hid (∃ v, MG w4 wr dz (.slice aP c.P.length cP) (.int .i64 c.M) (.int .i64 c.A) (.slice aC c.C.length cC) (.slice aF c.F.length cF) (.int .i64 c.mn) v (i24 :: (c.B.take k).map movI)))
      case atStart => exact ⟨0, rfl, Nat.zero_le _, rfl, hide ⟨_, M1.out⟩⟩
      case round =>
        obtain ⟨k, rfl, hk, rfl, hM⟩ := hrel
        obtain ⟨v, hv⟩ := hM.out
        have M := hide hv
        by_cases hlt : k < c.B.length
        · skip
          have BW := hide (show Below w.heap.size w wr from B4.out.trans (M.out.bel.mono B4.out.size))
          obtain ⟨aB', cB', eB', _, _, hI⟩ := BB
          injection eB' with i1 i2 i3
          obtain ⟨b1, o1, e1, hb1, p0, p1, p2, p3, p4⟩ := hI k hlt
          rw [e1] at i1
          subst i1
          obtain ⟨X, hX⟩ : ∃ q, q = c.B.getD k zI := ⟨_, rfl⟩
          rw [← hX] at p0 p1 p2 p3 p4
          have r0 := (BW.out.cell (p := ⟨b1, o1 + k * 5, none⟩) hb1).trans p0
          have r1 := (BW.out.cell (p := ⟨b1, o1 + k * 5 + 1, none⟩) hb1).trans p1
          have r2 := (BW.out.cell (p := ⟨b1, o1 + k * 5 + 2, none⟩) hb1).trans p2
          have r3 := (BW.out.cell (p := ⟨b1, o1 + k * 5 + 3, none⟩) hb1).trans p3
          have r4 := (BW.out.cell (p := ⟨b1, o1 + k * 5 + 4, none⟩) hb1).trans p4
          have FX : Hid (insB c X = true) := hide (by
            rw [hX, List.getD_eq_getElem?_getD, List.getElem?_eq_getElem hlt]
            exact body_of (form_of_read HR.out) _ (List.getElem_mem hlt))
          have NX : Hid (i24 :: (c.B.take (k + 1)).map movI = (i24 :: (c.B.take k).map movI) ++ [movI X]) := hide (by
            have hx2 : X = c.B[k] := (by rw [hX, List.getD_eq_getElem?_getD, List.getElem?_eq_getElem hlt]; rfl)
            rw [List.take_add_one, List.getElem?_eq_getElem hlt, hx2, List.map_append]
            rfl)
          have KL := hide hlt
          have HWK := hide (show wrap64 ((k : Int) + 1) = ((k + 1 : Nat) : Int) by unfold wrap64; have := HN.out; omega)
          have LL : Hid ((i24 :: (c.B.take k).map movI).length = k + 1) := hide (by simp [List.length_take]; omega)
          have MS : Hid (c.B.length - (k + 1) < c.B.length - k) := hide (by omega)
          have hlt' : (k : Int) < (c.B.length : Int) := by omega
          obtain ⟨a, cc, rfl, _⟩ := own_lenB M.out.own
          have y6 := blk_cell M.out.at_ 6 _ rfl
          have dlt := lt_of_blk M.out.at_
          have hLL := LL.out
          rw [hLL] at M y6
          clear hLL
          clear hI i2 i3 e1 hX p0 p1 p2 p3 p4 hM hv hb1
          by_cases h1 : 12 ≤ X.op
          rotate_left 1
          · have hm : movI X = X := by unfold movI; rw [if_neg (fun e => h1 e.1)]
            have h1' : X.op < 12 := by omega
            have PU := hide (fun ty => M.out.app (bel_new wr (.cells #[.int .i64 X.op, .int .i64 X.a, .int .i64 X.b, .int .u64 X.bits, .int .i64 X.at_] 44)) ⟨X.op, X.a, X.b, X.bits, X.at_⟩ (by rw [LL.out]; have := HN.out; omega) ty)
            rw [show (wr.alloc (.cells #[.int .i64 X.op, .int .i64 X.a, .int .i64 X.b, .int .u64 X.bits, .int .i64 X.at_] 44)).heap.size = wr.heap.size + 1 by simp] at PU
            have hwk := HWK.out
            go_wp2_with (first | (at_builtin; refine wpList_appB (.tmp 52) (.tmp 54) _ _ _ PU.out rfl rfl rfl rfl ?_; rintro v9 w9 ⟨⟨a9, k9, c9, rfl⟩, s9, x9, f9⟩; have R9 := hide s9; clear s9))
            go_roundg (c.B.length - (k + 1))
            case measure => exact MS.out
            case rel => exact ⟨k + 1, rfl, KL.out, by first | rfl | go_num, hide ⟨_, by rw [NX.out, hm]; exact R9.out⟩⟩
          by_cases h2 : X.op ≤ 14
          rotate_left 1
          · have hm : movI X = X := by unfold movI; rw [if_neg (fun e => h2 e.2)]
            have h2' : 14 < X.op := by omega
            have PU := hide (fun ty => M.out.app (bel_new wr (.cells #[.int .i64 X.op, .int .i64 X.a, .int .i64 X.b, .int .u64 X.bits, .int .i64 X.at_] 44)) ⟨X.op, X.a, X.b, X.bits, X.at_⟩ (by rw [LL.out]; have := HN.out; omega) ty)
            rw [show (wr.alloc (.cells #[.int .i64 X.op, .int .i64 X.a, .int .i64 X.b, .int .u64 X.bits, .int .i64 X.at_] 44)).heap.size = wr.heap.size + 1 by simp] at PU
            have hwk := HWK.out
            go_wp2_with (first | (at_builtin; refine wpList_appB (.tmp 52) (.tmp 54) _ _ _ PU.out rfl rfl rfl rfl ?_; rintro v9 w9 ⟨⟨a9, k9, c9, rfl⟩, s9, x9, f9⟩; have R9 := hide s9; clear s9))
            go_roundg (c.B.length - (k + 1))
            case measure => exact MS.out
            case rel => exact ⟨k + 1, rfl, KL.out, by first | rfl | go_num, hide ⟨_, by rw [NX.out, hm]; exact R9.out⟩⟩
          obtain ⟨kt, hkt, hkl⟩ : ∃ kt : Nat, X.a = kt ∧ kt < c.B.length := by
            obtain ⟨_, _, _, _, _, j12, j13, _⟩ := insB_at (show insB c ⟨X.op, X.a, X.b, X.bits, X.at_⟩ = true from FX.out)
            by_cases e : X.op = 12
            · exact in_of (j12 e)
            · exact in_of (j13 (by omega))
          have hm : movI X = ⟨X.op, ((kt + 1 : Nat) : Int), X.b, X.bits, X.at_⟩ := by unfold movI; rw [if_pos ⟨h1, h2⟩, hkt]; rfl
          have HW := hide (show wrap64 ((kt : Int) + 1) = ((kt + 1 : Nat) : Int) by unfold wrap64; have := HN.out; omega)
          rw [hkt] at r1
          have PU := hide (fun ty => M.out.app (bel_new wr (.cells #[.int .i64 X.op, .int .i64 ((kt + 1 : Nat) : Int), .int .i64 X.b, .int .u64 X.bits, .int .i64 X.at_] 44)) ⟨X.op, ((kt + 1 : Nat) : Int), X.b, X.bits, X.at_⟩ (by rw [LL.out]; have := HN.out; omega) ty)
          rw [show (wr.alloc (.cells #[.int .i64 X.op, .int .i64 ((kt + 1 : Nat) : Int), .int .i64 X.b, .int .u64 X.bits, .int .i64 X.at_] 44)).heap.size = wr.heap.size + 1 by simp] at PU
          have hwk := HWK.out
          have hw := HW.out
          go_wp2_with (first | (at_builtin; refine wpList_appB (.tmp 52) (.tmp 54) _ _ _ PU.out rfl rfl rfl rfl ?_; rintro v9 w9 ⟨⟨a9, k9, c9, rfl⟩, s9, x9, f9⟩; have R9 := hide s9; clear s9))
          go_roundg (c.B.length - (k + 1))
          case measure => exact MS.out
          case rel => exact ⟨k + 1, rfl, KL.out, by first | rfl | go_num, hide ⟨_, by rw [NX.out, hm]; exact R9.out⟩⟩
        · obtain rfl : k = c.B.length := by omega
          obtain ⟨a, cc, rfl, _⟩ := own_lenB M.out.own
          have BW := hide (show Below w.heap.size w wr from B4.out.trans (M.out.bel.mono B4.out.size))
          have KW := hide ((M.out.bel.block _ (lt_of_blk K4.out)).trans K4.out)
          obtain ⟨g0, g1, g2, g3, g4, g5, g6⟩ := cells7 KW.out
          have AE := hide (fun ty => app_ent HV.out.F BW.out (by have := SM.out.F; omega) ty)
          have ML : Hid (c.B.take c.B.length = c.B) := hide (List.take_length)
          rw [ML.out] at M
          have y4 := blk_cell M.out.at_ 4 _ rfl
          have f4 := blk_frz M.out.at_ 4
          have x4 : (wr.alloc (.cells #[] 46)).cell? ⟨w.heap.size, 4, none⟩ = some (.slice aF c.F.length cF) := cell_new g4 _
          have dlt := lt_of_blk M.out.at_
          clear hM hv BB
          go_upto_region 18 with (first | (at_builtin; refine wpList_appV (TS := 24) rfl (.tmp 58) (.tmp 60) rfl _ _ rfl rfl _ (AE.out _) ?_; rintro v9 w9 ⟨⟨a9, c9, rfl⟩, vs9, s9, bb9⟩; have R9 := hide s9; have Z9 := hide bb9; have q4 := (bb9.block dz dlt).trans M.out.at_; have k9 := blk_cell q4 4 _ rfl; have f9 := blk_frz q4 4; clear s9 q4 bb9))
          have M2 := hide (M.out.fns Z9.out (x := .slice a9 c.F.length c9))
          have OE := hide (R9.out.other (b := dz) (own_at R9.out.row ((Z9.out.block dz dlt).trans M.out.at_) (by decide)) (by have h1 := M.out.eq; have h2 := B4.out.size; omega) 4 (.slice a9 c.F.length c9))
          obtain ⟨bq, hbq⟩ : ∃ q, q = wr.heap.size := ⟨_, rfl⟩
          have LB : Hid (dz < bq) := hide (by rw [hbq]; exact dlt)
          rw [← hbq] at OE
          clear k9 f9 R9 Z9 AE y4 f4 x4 dlt g0 g1 g2 g3 g4 g5 g6
          generalize w9.setCell ⟨dz, 4, none⟩ (.slice a9 c.F.length c9) = wA at *
          have y4 := blk_cell M2.out.at_ 4 _ rfl
          have FL : Hid (c.F.length ≤ 100000) := hide SM.out.F
          clear M BW KW ML
          go_wp2_with fail
          clear y4
          go_loopg [66] (c.F.length) (fun gh x66 wq => ∃ k : Nat, gh = c.F.length - k ∧ k ≤ c.F.length ∧ x66 = .int .i64 (k : Nat) ∧ Hid (MG w4 wq dz (.slice aP c.P.length cP) (.int .i64 c.M) (.int .i64 c.A) (.slice aC c.C.length cC) (.slice a9 c.F.length c9) (.int .i64 c.mn) (.slice a ((i24 :: c.B.map movI).length) cc) (i24 :: c.B.map movI) ∧ OwnE w wq bq (.slice a9 c.F.length c9) (movK c.F k) vs9))
          case atStart => exact ⟨0, rfl, Nat.zero_le _, rfl, hide ⟨M2.out, OE.out⟩⟩
          case round =>
            obtain ⟨k, rfl, hk, rfl, hI⟩ := hrel
            have M3 := hide hI.out.1
            have O3 := hide hI.out.2
            have y4 := blk_cell M3.out.at_ 4 _ rfl
            clear hI M2 OE
            by_cases hlt : k < c.F.length
            · have hlt' : (k : Int) < (c.F.length : Int) := by omega
              have KL := hide hlt
              have MS : Hid (c.F.length - (k + 1) < c.F.length - k) := hide (by omega)
              have HWK := hide (show wrap64 ((k : Int) + 1) = ((k + 1 : Nat) : Int) by unfold wrap64; have := FL.out; omega)
              by_cases h0 : k = 0
              · subst h0
                have hwk := HWK.out
                go_wp2_with fail
                go_roundg (c.F.length - (0 + 1))
                case measure => exact MS.out
                case rel => exact ⟨0 + 1, rfl, KL.out, by first | rfl | go_num, hide ⟨M3.out, by rw [show movK c.F (0 + 1) = movK c.F 0 from by unfold movK; rw [if_pos rfl]; rfl]; exact O3.out⟩⟩
              · have hk0 : 0 < k := by omega
                have hF : k < (movK c.F k).length := by rw [movK_len]; exact hlt
                obtain ⟨b9, c9', e9, _⟩ := own_some O3.out.row (by omega)
                injection e9 with q1 q2 q3
                subst q1 q3
                clear q2
                obtain ⟨sk, hsk⟩ : ∃ q, q = ((movK c.F k).getD k zF).st := ⟨_, rfl⟩
                have z0 := own_cell O3.out.row (k * 3) _ (enL_at _ vs9 k hF).1
                rw [← hsk] at z0
                obtain ⟨z1, z2⟩ := z0
                have hst : 0 ≤ sk ∧ sk < c.B.length := by
                  rw [hsk, movK_at c.F k (by omega) k, if_neg (by omega)]
                  exact fn_of (form_of_read HR.out) hlt
                have HW := hide (show wrap64 (sk + 1) = sk + 1 by unfold wrap64; have := HN.out; omega)
                have M4 := hide (M3.out.turn (own_type O3.out.row (k := b9) rfl).2.2.choose_spec rfl (by have h1 := (own_type O3.out.row (k := b9) rfl).1; have := LB.out; omega) (k * 3) (.int .i64 (sk + 1)))
                have O4 := hide (O3.out.add hF (sk + 1))
                have NK : Hid (movK c.F (k + 1) = (movK c.F k).set k { (movK c.F k).getD k zF with st := sk + 1 }) := hide (by rw [hsk]; exact movK_succ _ h0)
                have hwk := HWK.out
                have hw := HW.out
                clear hsk hst hF M3 O3
                go_wp2_with fail
                go_roundg (c.F.length - (k + 1))
                case measure => exact MS.out
                case rel => exact ⟨k + 1, rfl, KL.out, by first | rfl | go_num, hide ⟨M4.out, by rw [NK.out]; exact O4.out⟩⟩
            · obtain rfl : k = c.F.length := by omega
              obtain ⟨wq, hwq⟩ : ∃ q, q = wr := ⟨_, rfl⟩
              subst hwq
              have LB2 : (i24 :: c.B.map movI).length = c.B.length + 1 := by simp
              have BQ := hide (show Below w.heap.size w wq from B4.out.trans (M3.out.bel.mono B4.out.size))
              have CVQ := hide (show Cv wq (.slice aP c.P.length cP) (.slice aC c.C.length cC) (.slice a9 c.F.length c9) (.slice a ((i24 :: c.B.map movI).length) cc) (movC c) from mov_cv HV.out (form_of_read HR.out) BQ.out (by have := O3.out.sl; rw [movK_all] at this; exact this) (M3.out.own.sl (by have := HN.out; omega)))
              have MR := hide (mov_read HR.out HN.out)
              have SQ : Hid (Sml (movC c)) := hide (by
                refine ⟨SM.out.P, SM.out.C, by rw [movF_len]; exact SM.out.F, by rw [movB_len]; have := HN.out; omega, fun f hm => ?_⟩
                have hL := SM.out.L
                unfold movC at hm
                cases hc : c.F with
                | nil => rw [hc] at hm; cases hm
                | cons g l =>
                  rw [hc] at hm hL
                  simp only [List.mem_cons, List.mem_map] at hm
                  rcases hm with rfl | ⟨g', hg', rfl⟩
                  · exact hL f (by simp)
                  · exact hL g' (by simp [hg']))
              have PQ := hide (show Calls Tryd.prog 7 #[.agg #[.slice aP c.P.length cP, .int .i64 c.M, .int .i64 c.A, .slice aC c.C.length cC, .slice a9 c.F.length c9, .int .i64 c.mn, .slice a ((i24 :: c.B.map movI).length) cc]] wq (StP p wq (movC c)) from pstacks_any (p := p) ((show Ec w p from HE.out.cell 8 (by omega)).bel BQ.out) CVQ.out)
              have RQ := hide (fun wz (b : Below wq.heap.size wq wz) => (show Calls Tryd.prog 13 #[.agg #[.slice aP c.P.length cP, .int .i64 c.M, .int .i64 c.A, .slice aC c.C.length cC, .slice a9 c.F.length c9, .int .i64 c.mn, .slice a ((i24 :: c.B.map movI).length) cc]] wz (Vb wz (.bool true)) from by
                have h := rform_any (CVQ.out.bel b) SQ.out
                rw [MR.out.1] at h
                exact h))
              obtain ⟨nb, hnb⟩ : ∃ q, q = (i24 :: c.B.map movI).length := ⟨_, rfl⟩
              have MA := hide M3.out.at_
              rw [← hnb] at PQ RQ MA
              have MB := hide M3.out.bel
              obtain ⟨n, hn⟩ : ∃ q, q = st.length := ⟨_, rfl⟩
              have HNN := hide hn
              rw [← hn] at OV ⊢
              obtain ⟨y0, y1, y2, y3, y4', y5, y6⟩ := cells7 MA.out
              clear hk hlt M3 O3 y4 hn LB2 hnb CVQ
              go_wp2_with fail
              with_reducible refine PQ.out.mono ?_
              intro e w6 hp6
              obtain ⟨b6, hp6⟩ := hp6
              have B6 := hide b6
              rw [MR.out.2] at hp6
              obtain ⟨v2, vs2, rfl, hst2, hv2, hrow2⟩ := hp6
              rw [show ([] :: st).length = n + 1 by rw [HNN.out]; rfl] at hv2
              have hv2' := hv2
              obtain ⟨b2, c2, rfl, _⟩ := own_some hv2 (by omega)
              obtain ⟨x0, hx0⟩ : ∃ x, vs2[0]? = some x := ⟨_, List.getElem?_eq_getElem (by have := hv2.1; omega)⟩
              obtain ⟨r1, r2, r3⟩ := hrow2 0 [] x0 rfl hx0
              obtain ⟨a0, c0, e0, _⟩ := own_slice r1
              subst e0
              have z0 := (own_cell hv2 0 _ hx0).1
              have hn9 : n ≤ 8192 := by have h1 := HNN.out; have h2 := HST.out; omega
              have HNE : Hid ((((n + 1 : Nat) : Int) != wrap64 ((n : Int) + 1)) = false) := hide (by rw [show wrap64 ((n : Int) + 1) = ((n + 1 : Nat) : Int) by unfold wrap64; omega]; simp)
              have OV2 := hide hv2
              have OR2 := hide hrow2
              have C6 := hide (show Below w4.heap.size w4 w6 from MB.out.trans (b6.mono MB.out.size))
              clear hv2 hv2' hrow2 hst2 r1 r2 r3 hx0 b6 PQ y0 y1 y2 y3 y4' y5 y6
              have AT := hide (fun (q : Nat) (k : Nat) (hk : k < n) => (show ∃ b1 x1 y1, av = some ⟨b1, 0, none⟩ ∧ w6.cell? ⟨b1, k, none⟩ = some x1 ∧ w6.cell? ⟨b2, k + 1, none⟩ = some y1 ∧ ∀ m, Calls Tryd.prog 12 #[x1, y1] ((w6.drewN q).drewN m) (Dr ((w6.drewN q).drewN m) (.bool true)) from by
                obtain ⟨b1, c1, e1, _⟩ := own_some OV.out (by omega)
                injection e1 with e1 _ _
                have OV3 := OV.out
                rw [e1] at OV3
                have hks : k < st.length := by rw [← HNN.out]; exact hk
                obtain ⟨x1, hx1⟩ : ∃ x, vs[k]? = some x := ⟨_, List.getElem?_eq_getElem (by have := OV.out.1; omega)⟩
                obtain ⟨y1, hy1⟩ : ∃ x, vs2[k + 1]? = some x := ⟨_, List.getElem?_eq_getElem (by have := OV2.out.1; omega)⟩
                have hs : st[k]? = some (st.getD k []) := by rw [List.getD_eq_getElem?_getD, List.getElem?_eq_getElem hks]; rfl
                obtain ⟨r1, r2, r3⟩ := OR.out k _ x1 hs hx1
                obtain ⟨t1, t2, t3⟩ := OR2.out (k + 1) (st.getD k []) y1 (by rw [List.getElem?_cons_succ]; exact hs) hy1
                have z1 := (own_cell OV3 k x1 hx1).1
                have z2 := (own_cell OV2.out (k + 1) y1 hy1).1
                refine ⟨b1, x1, y1, e1, (C6.out.cell (p := ⟨b1, k, none⟩) (own_type OV3 (k := b1) rfl).2.1).trans z1, z2, fun m => ?_⟩
                have s1 : Sl ((w6.drewN q).drewN m) x1 (st.getD k []) := (row_sl (own_keep r1 (fun z hz => C6.out.block z (own_type r1 hz).2.1)) r2).bel (below_drewN (below_drewN (Below.refl _ _) q) m)
                have s2 : Sl ((w6.drewN q).drewN m) y1 (st.getD k []) := (row_sl t1 t2).bel (below_drewN (below_drewN (Below.refl _ _) q) m)
                have h9 := sameInts_any s1 s2 ⟨by omega, by omega⟩
                rw [eq_list, decide_eq_true rfl] at h9
                exact h9))
              have hne := HNE.out
              clear HNE
              go_wp2_with fail
              clear hne
              go_loopg [105] n (fun gh x105 wr => ∃ k q : Nat, gh = n - k ∧ k ≤ n ∧ x105 = .int .i64 (k : Nat) ∧ Hid (wr = w6.drewN q))
              case atStart => exact ⟨0, 0, rfl, Nat.zero_le _, rfl, hide rfl⟩
              case round =>
                obtain ⟨k, q, rfl, hk, rfl, hw⟩ := hrel
                have hwr := hw.out
                have HWR := hide hwr
                clear hw
                by_cases hlt : k < n
                · have hlt' : (k : Int) < (n : Int) := by omega
                  obtain ⟨b1, x1, y1, e1, z1, z2, cc⟩ := AT.out q k hlt
                  subst e1
                  have z1 : wr.cell? ⟨b1, k, none⟩ = some x1 := by rw [hwr]; exact z1
                  have z2 : wr.cell? ⟨b2, k + 1, none⟩ = some y1 := by rw [hwr]; exact z2
                  rw [← hwr] at cc
                  have CC := hide cc
                  have MS : Hid (n - (k + 1) < n - k) := hide (by omega)
                  have KL := hide hlt
                  have hk8 : k ≤ 8192 := by omega
                  have hlt2 : ((k + 1 : Nat) : Int) < ((n + 1 : Nat) : Int) := by omega
                  clear AT cc hwr z0
                  go_wp2_with fail
                  go_quiet ((go_at_call 12; exact Calls.quiet_of (CC.out _)))
                  clear CC
                  go_wp2_with fail
                  go_roundg (n - (k + 1))
                  case measure => exact MS.out
                  case rel => exact ⟨k + 1, _, rfl, KL.out, by first | rfl | go_num, hide (by rw [HWR.out]; exact World.drewN_drewN _ _ _)⟩
                · obtain rfl : k = n := by omega
                  have BW := hide (show Below wq.heap.size wq wr by rw [hwr]; exact below_drewN B6.out _)
                  have KD := hide ((BW.out.block dz (lt_of_blk MA.out)).trans MA.out)
                  obtain ⟨y0, y1, y2, y3, y4, y5, y6⟩ := cells7 KD.out
                  clear AT hwr z0
                  go_wp2_with fail
                  with_reducible refine (RQ.out _ BW.out).mono ?_
                  rintro e wx ⟨rfl, bx⟩
                  have BX := hide (show Below w.heap.size w wx from BQ.out.trans ((BW.out.trans (bx.mono BW.out.size)).mono BQ.out.size))
                  clear bx
                  go_wp2_with fail
                  go_ret
                  exact ⟨rfl, BX.out⟩
end Go.Proofs.YtidjbgemnohbnaaDoor.Ck
