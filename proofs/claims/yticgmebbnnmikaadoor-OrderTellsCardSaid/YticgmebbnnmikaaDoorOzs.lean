/- The statement OrderTells. -/
import Derived.Test.YticgmebbnnmikaaDoorOzr
import Derived.Test.YticgmebbnnmikaaDoorOzl
import Derived.Test.YticgmebbnnmikaaDoorNum
namespace Go.Proofs.YticgmebbnnmikaaDoor.Ck
open Go.RowKit

set_option maxRecDepth 20000 in
set_option maxHeartbeats 2000000 in
theorem before_bad {w : World} {vT vR x : Value} {t : TypeId} {T : List Ev} (hT : SlE w vT T) (hE : Er w (.iface t x)) (hF : formT T = false) (hn : T.length ≤ 100000) (A B : Int) : Calls Tryd.prog 8 #[vT, vR, .int .i64 A, .int .i64 B] w (Vb w (.tuple #[.bool false, .iface t x])) := by
  have CK := hide (check_any hT hE hn)
  rw [hF, show erF (.iface t x) false = .iface t x from rfl] at CK
  clear hT hE hF
  go_enter Tryd.func8, Tryd.ntmps8
  go_wp2_with fail
  refine CK.out.mono ?_
  rintro e w1 ⟨rfl, b1⟩
  have B1 := hide b1
  clear b1 CK
  go_wp2_with fail
  go_ret2
  exact ⟨rfl, B1.out⟩
set_option maxRecDepth 20000 in
set_option maxHeartbeats 2000000 in
theorem before_out {w : World} {vT vR x : Value} {t : TypeId} {T : List Ev} (hT : SlE w vT T) (hE : Er w (.iface t x)) (hF : formT T = true) (hn : T.length ≤ 100000) (A B : Int) (hAB : A < 0 ∨ B < 0 ∨ (T.length : Int) ≤ A ∨ (T.length : Int) ≤ B) : Calls Tryd.prog 8 #[vT, vR, .int .i64 A, .int .i64 B] w (Vb w (.tuple #[.bool false, .iface t x])) := by
  obtain ⟨aT, cT, rfl, hcT, _⟩ := hT.form
  have CK := hide (check_any hT hE hn)
  rw [hF, show erF (.iface t x) true = .nilIface from rfl] at CK
  have HE := hide hE
  clear hT hE hF
  go_enter Tryd.func8, Tryd.ntmps8
  go_wp2_with fail
  refine CK.out.mono ?_
  rintro e w1 ⟨rfl, b1⟩
  have B1 := hide b1
  have e1 : w1.cell? ⟨0, 0, none⟩ = some (.iface t x) := HE.out.bel b1
  clear b1 CK HE
  go_upto_region 4 with fail
  go_cut [34] from 12 (fun x34 wz => x34 = .bool true ∧ wz = w1)
  case first =>
    by_cases c1 : A < 0
    · go_wp2_with fail
      go_meet
      case rel => exact ⟨by simp, rfl⟩
    · by_cases c2 : B < 0
      · go_wp2_with fail
        go_meet
        case rel => exact ⟨by simp, rfl⟩
      · by_cases c3 : (T.length : Int) ≤ A
        · go_wp2_with fail
          go_meet
          case rel => exact ⟨by simp, rfl⟩
        · have c4 : (T.length : Int) ≤ B := by omega
          go_wp2_with fail
          go_meet
          case rel => exact ⟨by simp, rfl⟩
  case rest =>
    obtain ⟨rfl, rfl⟩ := hcut
    go_upto_region 5 with fail
    go_quiet (fail)
    have B2 := hide (below_drewN B1.out nq)
    go_wp2_with fail
    go_ret2
    exact ⟨rfl, B2.out⟩
set_option maxRecDepth 20000 in
set_option maxHeartbeats 8000000 in
theorem tells_main {w : World} {vT vR : Value} {p : List Addr} {T : List Ev} {R : List Int} {A B : Int} (h17 : Errs17 w p) (hT : SlE w vT T) (hR : Sl w vR R) (hW : ∀ k, k < T.length → wfI (T.getD k zE).o) : Calls Tryd.prog 3 #[.agg #[vT, vR, .int .i64 A, .int .i64 B]] w (Vb w (.bool true)) := by
  obtain ⟨aT, cT, rfl, hcT, hcT2⟩ := hT.form
  obtain ⟨aR, cR, rfl, hcR, _⟩ := hR.form
  have hE : Er w (errV p 0) := h17.cell 0 (by omega)
  have B0 := hide (bel_new w (.cells #[.slice aT T.length cT, .slice aR R.length cR, .int .i64 A, .int .i64 B] 25))
  have V0 := hide (Go.Deep.blk_alloc_new w (.cells #[.slice aT T.length cT, .slice aR R.length cR, .int .i64 A, .int .i64 B] 25))
  have HE := hide hE
  have H17 := hide h17
  have HT := hide hT
  have HR := hide hR
  have HW := hide hW
  clear hE hT hR hW h17
  go_enter Tryd.func3, Tryd.ntmps3
  go_upto_region 1 with fail
  generalize w.alloc (.cells #[.slice aT T.length cT, .slice aR R.length cR, .int .i64 A, .int .i64 B] 25) = w1 at *
  have v0 := blk_cell V0.out 0 _ rfl
  have v1 := blk_cell V0.out 1 _ rfl
  have v2 := blk_cell V0.out 2 _ rfl
  have v3 := blk_cell V0.out 3 _ rfl
  go_quiet (fail)
  have B1 := hide (below_drewN B0.out nq)
  generalize w1.drewN nq = w2 at *
  clear v0 v1 v2 v3 V0 B0
  have AL := hide (alive18_any (HE.out.bel B1.out))
  go_wp2_with fail
  refine AL.out.mono ?_
  rintro e w3 ⟨rfl, b3⟩
  have B3 := hide (bel_trans B1.out b3)
  clear b3 AL B1
  by_cases h2 : 60 < T.length
  · have h2' : (60 : Int) < (T.length : Int) := by omega
    go_wp2_with fail
    go_ret
    exact ⟨rfl, B3.out⟩
  have h2' : ¬ (60 : Int) < (T.length : Int) := by omega
  by_cases h3 : 100 < R.length
  · have h3' : (100 : Int) < (R.length : Int) := by omega
    go_wp2_with fail
    go_ret
    exact ⟨rfl, B3.out⟩
  have h3' : ¬ (100 : Int) < (R.length : Int) := by omega
  cases hF : formT T with
  | false =>
    have CB := hide (clocks_bad (vR := .slice aR R.length cR) (HT.out.bel B3.out) (HE.out.bel B3.out) hF (by omega))
    have BB := hide (fun wz (hz : Below w.heap.size w wz) => before_bad (vR := .slice aR R.length cR) (HT.out.bel hz) (HE.out.bel hz) hF (by omega) A B)
    have CK := hide (fun wz (hz : Below w.heap.size w wz) => check_any (HT.out.bel hz) (HE.out.bel hz) (by omega))
    have FM := hide (fun wz (hz : Below w.heap.size w wz) => rform18_any (HT.out.bel hz) (by omega))
    have NM := hide (fun wz (hz : Below w.heap.size w wz) => num_err p 0 wz (H17.out.below (Nat.le_refl _) hz) (by omega))
    rw [hF, show erF (errV p 0) false = errV p 0 from rfl] at CK
    rw [hF] at FM
    rw [show (((0 : Nat) : Int) + 1) = 1 from rfl] at NM
    go_wp2_with (first | (go_at_call 7; refine CB.out.mono ?_; rintro e w4 ⟨rfl, b4⟩; have B4 := hide (bel_trans B3.out b4); clear b4) | (go_at_call 8; refine (BB.out _ B4.out).mono ?_; rintro e w5 ⟨rfl, b5⟩; have B5 := hide (bel_trans B4.out b5); clear b5) | (go_at_call 9; refine (CK.out _ B5.out).mono ?_; rintro e w6 ⟨rfl, b6⟩; have B6 := hide (bel_trans B5.out b6); clear b6) | (go_at_call 10; refine (FM.out _ B6.out).mono ?_; rintro e w7 ⟨rfl, b7⟩; have B7 := hide (bel_trans B6.out b7); clear b7))
    refine (NM.out _ B7.out).mono ?_
    rintro e w8 ⟨rfl, b8⟩
    have B8 := hide (bel_trans B7.out b8)
    clear b8
    go_wp2_with fail
    refine (NM.out _ B8.out).mono ?_
    rintro e w9 ⟨rfl, b9⟩
    have B9 := hide (bel_trans B8.out b9)
    clear b9
    go_wp2_with fail
    refine (NM.out _ B9.out).mono ?_
    rintro e w10 ⟨rfl, b10⟩
    have B10 := hide (bel_trans B9.out b10)
    clear b10
    go_wp2_with fail
    go_ret
    exact ⟨rfl, B10.out⟩
  | true =>
    have HF := hide hF
    have C1 := hide (clocks_any (HT.out.bel B3.out) (HR.out.bel B3.out) (HE.out.bel B3.out) hF HW.out (by omega) (know_bd R hF (by omega)))
    have CK := hide (fun wz (hz : Below w.heap.size w wz) => check_any (HT.out.bel hz) (HE.out.bel hz) (by omega))
    have FM := hide (fun wz (hz : Below w.heap.size w wz) => rform18_any (HT.out.bel hz) (by omega))
    have BD := hide (fun wz (hz : Below w.heap.size w wz) => before_doc (HT.out.bel hz) (HR.out.bel hz) (by omega))
    have CD := hide (fun wz q B (hz : Below w.heap.size w wz) hM j hj => clock_doc (q := q) (B := B) (R := R) (HT.out.bel hz) hM hF (by omega) j hj)
    rw [hF, show erF (errV p 0) true = .nilIface from rfl] at CK
    rw [hF] at FM
    have N1 : Hid ((clkM (pastsM R T)).length = T.length) := hide (by simp [clkM, pastsM_len])
    have AT : Hid (∀ j, j < T.length → (clkM (pastsM R T)).getD j [] = clM (knowM R T j) ∧ (clM (knowM R T j)).length ≤ 8) := hide (fun j hj => ⟨clk_at _ j (by rw [pastsM_len]; exact hj), clM_le _⟩)
    generalize clkM (pastsM R T) = P1 at *
    -- what Before answers
    obtain ⟨vb, vx, hvb⟩ : ∃ (vb : Bool) (vx : Value), (∀ a b : Nat, A = a → B = b → a < T.length → b < T.length → vx = .nilIface ∧ vb = hbM T R b a) ∧ ((¬ ∃ a b : Nat, A = a ∧ B = b ∧ a < T.length ∧ b < T.length) → vx = errV p 0 ∧ vb = false) ∧ ∀ wz, Below w.heap.size w wz → Calls Tryd.prog 8 #[.slice aT T.length cT, .slice aR R.length cR, .int .i64 A, .int .i64 B] wz (Vb wz (.tuple #[.bool vb, vx])) := by
      by_cases hin : ∃ a b : Nat, A = a ∧ B = b ∧ a < T.length ∧ b < T.length
      · obtain ⟨a, b, rfl, rfl, ha, hb⟩ := hin
        refine ⟨hbM T R b a, .nilIface, fun c d h1 h2 _ _ => by
          obtain rfl : a = c := by omega
          obtain rfl : b = d := by omega
          exact ⟨rfl, rfl⟩, fun h => absurd ⟨a, b, rfl, rfl, ha, hb⟩ h, fun wz hz => ?_⟩
        rw [← bef_hb R hF (by omega) ha hb]
        exact before_any (HT.out.bel hz) (HR.out.bel hz) (HE.out.bel hz) hF HW.out (by omega) a b ha hb
      · refine ⟨false, errV p 0, fun a b h1 h2 h3 h4 => absurd ⟨a, b, h1, h2, h3, h4⟩ hin, fun _ => ⟨rfl, rfl⟩, fun wz hz => before_out (HT.out.bel hz) (HE.out.bel hz) hF (by omega) A B ?_⟩
        by_cases c1 : A < 0
        · exact .inl c1
        · by_cases c2 : B < 0
          · exact .inr (.inl c2)
          · by_cases c3 : (T.length : Int) ≤ A
            · exact .inr (.inr (.inl c3))
            · by_cases c4 : (T.length : Int) ≤ B
              · exact .inr (.inr (.inr c4))
              · exact absurd ⟨A.toNat, B.toNat, by omega, by omega, by omega, by omega⟩ hin
    have BC := hide hvb
    clear hvb
    go_wp2_with (first | (go_at_call 7; refine C1.out.mono ?_; rintro e w4 ⟨v1, rfl, b4, s4⟩; obtain ⟨a4, c4, e4, _⟩ := s4.form; rw [N1.out] at e4; subst e4; have S4 := hide s4; have B4 := hide (bel_trans B3.out b4); clear b4 s4) | (go_at_call 8; refine (BC.out.2.2 _ B4.out).mono ?_; rintro e w5 ⟨rfl, b5⟩; have B5 := hide (bel_trans B4.out b5); have S5 := hide (S4.out.bel b5); clear b5) | (go_at_call 9; refine (CK.out _ B5.out).mono ?_; rintro e w6 ⟨rfl, b6⟩; have B6 := hide (bel_trans B5.out b6); have S6 := hide (S5.out.bel b6); clear b6) | (go_at_call 10; refine (FM.out _ B6.out).mono ?_; rintro e w7 ⟨rfl, b7⟩; have B7 := hide (bel_trans B6.out b7); have S7 := hide (S6.out.bel b7); clear b7) | (go_at_call 12; refine (BD.out _ B7.out).mono ?_; rintro e w8 ⟨q, BB, rfl, b8, m8⟩; have B8 := hide (bel_trans B7.out b8); have S8 := hide (S7.out.bel b8); have M8 := hide m8; clear b8 m8))
    clear C1 CK FM BD S4 S5 S6 S7
    go_loopw [91] (fun x91 wr => ∃ j : Nat, j ≤ T.length ∧ x91 = .int .i64 (j : Nat) ∧ Hid (Below w8.heap.size w8 wr)) (fun x91 _ => T.length - (intOf x91).toNat)
    case atStart => exact ⟨0, Nat.zero_le _, rfl, hide (Below.refl _ _)⟩
    case round =>
      obtain ⟨j, hj, rfl, hI⟩ := hrel
      by_cases hlt : j < T.length
      · have hlt' : (j : Int) < (T.length : Int) := by omega
        obtain ⟨bA, oA, uA, rfl, hbA, cA, sA⟩ := (S8.out.bel hI.out).at j (by rw [N1.out]; omega)
        rw [(AT.out j hlt).1] at sA
        have L8 := (AT.out j hlt).2
        have CJ := hide (fun wz (hz : Below w8.heap.size w8 wz) => CD.out wz q BB (bel_trans B8.out hz) (M8.out.bel hz) j hlt)
        generalize clM (knowM R T j) = L at *
        have SA2 := hide sA
        have CA := hide (fun wz (hz : Below wr.heap.size wr wz) => (hz.cell (p := ⟨bA, oA + j, none⟩) hbA).trans cA)
        have hI2 := hI
        clear sA cA hI
        go_upto_region 17 with fail
        refine wp_region_T (S := fun wz => Below wr.heap.size wr wz) (fun _ => true) mixed (Below.refl _ _).drew (fun hH => ?_)
        refine Tm 0 ?_
        simp only [Act.put, SA]
        refine Tm 1 ?_
        simp only [Act.put, SA]
        refine Tm 2 ?_
        simp only [Act.put, SA]
        refine Tl 3 (v := uA) ?_ hH ?_
        · (intro wy hSw; have q := CA.out wy hSw; clear hSw; go_simp <;> with_reducible rfl)
        simp only [Act.put, SA]
        refine Tm 4 ?_
        simp only [Act.put, SA]
        refine Tm 5 ?_
        simp only [Act.put, SA]
        refine Tm 6 ?_
        simp only [Act.put, SA]
        refine Tr 7 (fun K1 hK1 => ?_)
        go_simp
        refine (CJ.out _ (hI2.out.trans (hH.mono hI2.out.size))).mono ?_
        rintro e w9 ⟨v9, rfl, b9, s9⟩
        have X9 := hide (bel_trans hH b9)
        refine hK1.out _ _ (fun _ => X9.out) (fun _ => ?_)
        have S9 := hide s9
        clear hK1 K1 b9 hH s9
        refine Tr 8 (fun K1 hK1 => ?_)
        go_simp
        refine (sameInts_any (SA2.out.bel X9.out) S9.out (by omega)).mono ?_
        rintro e w10 ⟨rfl, b10⟩
        have X10 := hide (bel_trans X9.out b10)
        refine hK1.out _ _ (fun _ => X10.out) (fun _ => ?_)
        clear hK1 K1 b10 X9 S9
        refine Tm 9 ?_
        simp only [Act.put, SA]
        refine T_done (by kernel_rfl) ?_ _
        have B9 := hide (hI2.out.trans (X10.out.mono hI2.out.size))
        go_wp2_with fail
        go_roundw
        case rel => exact ⟨j + 1, by omega, by go_num, B9⟩
        case measure => simp [intOf]; omega
      · obtain rfl : j = T.length := by omega
        have B9 := hide (bel_trans B8.out hI.out)
        have M9 := hide (M8.out.bel hI.out)
        clear hI S8 M8 AT N1 CD
        by_cases hin : ∃ a b : Nat, A = a ∧ B = b ∧ a < T.length ∧ b < T.length
        · obtain ⟨a, b, rfl, rfl, ha, hb⟩ := hin
          have ha' : (a : Int) < (T.length : Int) := by omega
          have hb' : (b : Int) < (T.length : Int) := by omega
          obtain ⟨EX, EV⟩ := BC.out.1 a b rfl rfl ha hb
          subst EX EV
          clear BC
          have r0 := M9.out.top b hb
          have r1 := M9.out.row b hb a ha
          generalize hbM T R b a = vb at *
          go_wp2_with fail
          go_ret
          exact ⟨by simp, B9.out⟩
        · have EX := BC.out.2.1 hin
          obtain ⟨rfl, rfl⟩ := EX
          have NM := hide (num_err p 0 wr (H17.out.below (Nat.le_refl _) B9.out) (by omega))
          rw [show (((0 : Nat) : Int) + 1) = 1 from rfl] at NM
          clear BC
          go_upto_region 20 with fail
          go_cut [122] from 14 (fun x122 wz => x122 = .bool true ∧ wz = wr)
          case first =>
            by_cases c1 : A < 0
            · go_wp2_with fail
              go_meet
              case rel => exact ⟨by simp, rfl⟩
            · by_cases c2 : B < 0
              · go_wp2_with fail
                go_meet
                case rel => exact ⟨by simp, rfl⟩
              · by_cases c3 : (T.length : Int) ≤ A
                · go_wp2_with fail
                  go_meet
                  case rel => exact ⟨by simp, rfl⟩
                · have c4 : (T.length : Int) ≤ B := by
                    by_cases c4 : (T.length : Int) ≤ B
                    · exact c4
                    · exact absurd ⟨A.toNat, B.toNat, by omega, by omega, by omega, by omega⟩ hin
                  go_wp2_with fail
                  go_meet
                  case rel => exact ⟨by simp, rfl⟩
          case rest =>
            obtain ⟨rfl, rfl⟩ := hcut
            go_wp2_with fail
            refine NM.out.mono ?_
            rintro e w11 ⟨rfl, b11⟩
            have B11 := hide (bel_trans B9.out b11)
            clear b11 NM
            go_wp2_with fail
            go_ret
            exact ⟨rfl, B11.out⟩
end Go.Proofs.YticgmebbnnmikaaDoor.Ck
