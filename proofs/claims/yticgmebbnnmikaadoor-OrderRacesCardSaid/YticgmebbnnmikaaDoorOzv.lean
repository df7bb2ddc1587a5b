/- The statement OrderRaces. -/
import Derived.Test.YticgmebbnnmikaaDoorOzu
import Derived.Test.YticgmebbnnmikaaDoorNum
import Derived.Test.YticgmebbnnmikaaDoorOx
import Derived.Test.YticgmebbnnmikaaDoorOzf
namespace Go.Proofs.YticgmebbnnmikaaDoor.Ck
open Go.RowKit

set_option maxRecDepth 20000 in
set_option maxHeartbeats 2000000 in
theorem same_ref18Same {w : World} {v u : Value} {l : List Rc} (hv : SlR w v l) (hu : SlR w u l) (hn : l.length ≤ 100000) : Calls Tryd.prog 17 #[v, u] w (Vb w (.bool true)) := by
  obtain ⟨a, c, rfl, _⟩ := hv.form
  obtain ⟨a', c', rfl, _⟩ := hu.form
  have HV := hide hv
  have HU := hide hu
  clear hv hu
  go_enter Tryd.func17, Tryd.ntmps17
  go_wp2_with fail
  go_loopw [13] (fun x13 wr => ∃ k : Nat, k ≤ l.length ∧ x13 = .int .i64 (k : Nat) ∧ Hid (Below w.heap.size w wr)) (fun x13 _ => l.length - (intOf x13).toNat)
  case atStart => exact ⟨0, Nat.zero_le _, rfl, hide (Below.refl _ _)⟩
  case round =>
    obtain ⟨k, hk, rfl, hI⟩ := hrel
    by_cases hlt : k < l.length
    · have hlt' : (k : Int) < (l.length : Int) := by omega
      obtain ⟨b, o, rfl, _, s0, s1, s2, s3, s4⟩ := (HV.out.bel hI.out).at k hlt
      obtain ⟨b', o', rfl, _, t0, t1, t2, t3, t4⟩ := (HU.out.bel hI.out).at k hlt
      generalize l.getD k ⟨0, 0, 0, false, false⟩ = x at *
      obtain ⟨xp, xf, xs, xfw, xsw⟩ := x
      simp only at s0 s1 s2 s3 s4 t0 t1 t2 t3 t4
      have EQ : ∀ w, (binOp .neq 54 (.agg #[.int .i64 xp, .int .i64 xf, .int .i64 xs, .bool xfw, .bool xsw]) (.agg #[.int .i64 xp, .int .i64 xf, .int .i64 xs, .bool xfw, .bool xsw])).run Tryd.prog w = .ok (.bool false) w := fun w => by
        rw [neq_rc]
        simp
      go_upto_region 6 with fail
      go_quiet (fail)
      have B2 := hide (below_drewN hI.out nq)
      go_wp2_with fail
      go_roundw
      case rel => exact ⟨k + 1, by omega, by go_num, B2⟩
      case measure => simp [intOf]; omega
    · obtain rfl : k = l.length := by omega
      have B2 := hide hI.out
      clear hI
      go_wp2_with fail
      go_ret
      exact ⟨rfl, B2.out⟩
set_option maxRecDepth 20000 in
set_option maxHeartbeats 2000000 in
theorem same_slicesEqualapiRaceapiRace {w : World} {v u : Value} {l : List Rc} (hv : SlR w v l) (hu : SlR w u l) (hn : l.length ≤ 100000) : Calls Tryd.prog 28 #[v, u] w (Vb w (.bool true)) := by
  obtain ⟨a, c, rfl, _⟩ := hv.form
  obtain ⟨a', c', rfl, _⟩ := hu.form
  have HV := hide hv
  have HU := hide hu
  clear hv hu
  go_enter Tryd.func28, Tryd.ntmps28
  go_wp2_with fail
  go_loopw [13] (fun x13 wr => ∃ k : Nat, k ≤ l.length ∧ x13 = .int .i64 (k : Nat) ∧ Hid (Below w.heap.size w wr)) (fun x13 _ => l.length - (intOf x13).toNat)
  case atStart => exact ⟨0, Nat.zero_le _, rfl, hide (Below.refl _ _)⟩
  case round =>
    obtain ⟨k, hk, rfl, hI⟩ := hrel
    by_cases hlt : k < l.length
    · have hlt' : (k : Int) < (l.length : Int) := by omega
      obtain ⟨b, o, rfl, _, s0, s1, s2, s3, s4⟩ := (HV.out.bel hI.out).at k hlt
      obtain ⟨b', o', rfl, _, t0, t1, t2, t3, t4⟩ := (HU.out.bel hI.out).at k hlt
      generalize l.getD k ⟨0, 0, 0, false, false⟩ = x at *
      obtain ⟨xp, xf, xs, xfw, xsw⟩ := x
      simp only at s0 s1 s2 s3 s4 t0 t1 t2 t3 t4
      have EQ : ∀ w, (binOp .neq 54 (.agg #[.int .i64 xp, .int .i64 xf, .int .i64 xs, .bool xfw, .bool xsw]) (.agg #[.int .i64 xp, .int .i64 xf, .int .i64 xs, .bool xfw, .bool xsw])).run Tryd.prog w = .ok (.bool false) w := fun w => by
        rw [neq_rc]
        simp
      go_upto_region 6 with fail
      go_quiet (fail)
      have B2 := hide (below_drewN hI.out nq)
      go_wp2_with fail
      go_roundw
      case rel => exact ⟨k + 1, by omega, by go_num, B2⟩
      case measure => simp [intOf]; omega
    · obtain rfl : k = l.length := by omega
      have B2 := hide hI.out
      clear hI
      go_wp2_with fail
      go_ret
      exact ⟨rfl, B2.out⟩
theorem orderSame_any {w : World} {v u : Value} {l : List Rc} (hv : SlR w v l) (hu : SlR w u l) (hn : l.length ≤ 100000) : Calls Tryd.prog 18 #[v, u] w (Vb w (.bool true)) := by
  have S := hide (same_slicesEqualapiRaceapiRace hv hu hn)
  clear hv hu
  go_enter Tryd.func18, Tryd.ntmps18
  go_wp2_with fail
  refine S.out.mono ?_
  rintro e w1 ⟨rfl, b1⟩
  have B1 := hide b1
  clear b1 S
  go_wp2_with fail
  go_ret
  exact ⟨rfl, B1.out⟩
set_option maxRecDepth 20000 in
set_option maxHeartbeats 2000000 in
theorem races_bad {w : World} {vT vR x : Value} {t : TypeId} {T : List Ev} (hT : SlE w vT T) (hE : Er w (.iface t x)) (hF : formT T = false) (hn : T.length ≤ 100000) : Calls Tryd.prog 15 #[vT, vR] w (Vb w (.tuple #[.slice none 0 0, .iface t x])) := by
  have CK := hide (check_any hT hE hn)
  rw [hF, show erF (.iface t x) false = .iface t x from rfl] at CK
  clear hT hE hF
  go_enter Tryd.func15, Tryd.ntmps15
  go_wp2_with fail
  refine CK.out.mono ?_
  rintro e w1 ⟨rfl, b1⟩
  have B1 := hide b1
  clear b1 CK
  go_wp2_with fail
  go_ret2
  exact ⟨rfl, B1.out⟩
theorem own_nil (w0 w : World) (hb : Below w0.heap.size w0 w) : Below w0.heap.size w0 (w.alloc (.cells #[] 47)) ∧ (w.alloc (.cells #[] 47)).ownsRow w0.heap.size 47 4 (.slice (some ⟨w.heap.size, 0, none⟩) 0 0) 0 [] :=
  ⟨bel_al hb _, rfl, .inr ⟨w.heap.size, 0, #[], rfl, hb.size, Go.Deep.blk_alloc_new w _, Nat.le_refl _, by unfold maxLen; omega, rfl, rfl⟩⟩
set_option maxRecDepth 20000 in
set_option maxHeartbeats 8000000 in
theorem races_main {w : World} {vT vR : Value} {p : List Addr} {T : List Ev} {R : List Int} (h17 : Errs17 w p) (hT : SlE w vT T) (hR : Sl w vR R) (hW : ∀ k, k < T.length → wfI (T.getD k zE).o) : Calls Tryd.prog 4 #[vT, vR] w (Vb w (.bool true)) := by
  obtain ⟨aT, cT, rfl, hcT, hcT2⟩ := hT.form
  obtain ⟨aR, cR, rfl, hcR, _⟩ := hR.form
  have hE : Er w (errV p 0) := h17.cell 0 (by omega)
  have AL := hide (alive18_any hE)
  have HE := hide hE
  have H17 := hide h17
  have HT := hide hT
  have HR := hide hR
  have HW := hide hW
  clear hE hT hR hW h17
  go_enter Tryd.func4, Tryd.ntmps4
  go_wp2_with fail
  refine AL.out.mono ?_
  rintro e w3 ⟨rfl, b3⟩
  have B3 := hide b3
  clear b3 AL
  by_cases h2 : 60 < T.length
  · have h2' : (60 : Int) < (T.length : Int) := by omega
    go_wp2_with fail
    go_ret
    exact ⟨rfl, B3.out⟩
  have h2' : ¬ (60 : Int) < (T.length : Int) := by omega
  by_cases h3 : 100 < R.length
  · have h3' : (100 : Int) < (R.length : Int) := by omega
    go_wp2_with fail
    go_ret
    exact ⟨rfl, B3.out⟩
  have h3' : ¬ (100 : Int) < (R.length : Int) := by omega
  go_upto_region 5 with fail
  have RN := hide (own_nil w w3 B3.out)
  have AP := hide (fun ty => append_any (HT.out.bel RN.out.1) RN.out.1 RN.out.2 (by omega) ty)
  clear RN
  go_upto_region 6 with (first | (at_builtin; refine wpList_appG (TS := 22) (.tmp 20) (.tmp 21) _ _ _ AP.out rfl rfl rfl rfl ?_; rintro u w4 ⟨bU, cU, rfl, m4⟩; have M4 := hide m4; clear m4 AP))
  have TI := hide (SlE.own M4.out.row)
  have B4 := hide M4.out.bel
  clear M4 B3
  cases hF : formT T with
  | false =>
    have CB := hide (races_bad (vR := .slice aR R.length cR) TI.out (HE.out.bel B4.out) hF (by omega))
    go_wp2_with (first | (go_at_call 15; refine CB.out.mono ?_; rintro e w5 ⟨rfl, b5⟩; have B45 := hide b5; have B5 := hide (bel_trans B4.out b5); clear b5 CB))
    go_loopw [31] (fun x31 wr => ∃ k : Nat, k ≤ T.length ∧ x31 = .int .i64 (k : Nat) ∧ Hid (Below w5.heap.size w5 wr)) (fun x31 _ => T.length - (intOf x31).toNat)
    case atStart => exact ⟨0, Nat.zero_le _, rfl, hide (Below.refl _ _)⟩
    case round =>
      obtain ⟨k, hk, rfl, hI⟩ := hrel
      by_cases hlt : k < T.length
      · have hlt' : (k : Int) < (T.length : Int) := by omega
        obtain ⟨b, o, eU, _, s0, s1, s2, s3⟩ := (TI.out.bel (bel_trans B45.out hI.out)).at k hlt
        injection eU with eU
        injection eU with eU1 eU2 _
        subst eU1 eU2
        obtain ⟨b', o', rfl, _, t0, t1, t2, t3⟩ := (HT.out.bel (bel_trans B5.out hI.out)).at k hlt
        generalize T.getD k zE = x at *
        obtain ⟨xg, xk, xo, xa⟩ := x
        simp only [Nat.zero_add] at s0 s1 s2 s3 t0 t1 t2 t3
        have EQ : ∀ w, (binOp .neq 47 (.agg #[.int .i64 xg, .int .i64 xk, .int .i64 xo, .int .i64 xa]) (.agg #[.int .i64 xg, .int .i64 xk, .int .i64 xo, .int .i64 xa])).run Tryd.prog w = .ok (.bool false) w := fun w => by
          rw [neq_ev]
          simp
        go_upto_region 10 with fail
        go_quiet (fail)
        have B2 := hide (below_drewN hI.out nq)
        go_wp2_with fail
        go_roundw
        case rel => exact ⟨k + 1, by omega, by go_num, B2⟩
        case measure => simp [intOf]; omega
      · obtain rfl : k = T.length := by omega
        have B6 := hide (bel_trans B5.out hI.out)
        have FM := hide (rform18_any (HT.out.bel B6.out) (by omega))
        rw [hF] at FM
        have NM := hide (fun wz (hz : Below w.heap.size w wz) => num_err p 0 wz (H17.out.below (Nat.le_refl _) hz) (by omega))
        rw [show (((0 : Nat) : Int) + 1) = 1 from rfl] at NM
        clear hI
        go_wp2_with (first | (go_at_call 10; refine FM.out.mono ?_; rintro e w7 ⟨rfl, b7⟩; have B7 := hide (bel_trans B6.out b7); clear b7))
        refine (NM.out _ B7.out).mono ?_
        rintro e w8 ⟨rfl, b8⟩
        have B8 := hide (bel_trans B7.out b8)
        clear b8
        go_wp2_with fail
        go_ret
        exact ⟨rfl, B8.out⟩
  | true =>
    have CB := hide (races_any TI.out (HR.out.bel B4.out) (HE.out.bel B4.out) hF HW.out (by omega))
    have RL := hide (race_len T (pastsM R T) T.length)
    rw [show (raceF T (pastsM R T) T.length).1 = racesM R T from rfl] at RL
    go_wp2_with (first | (go_at_call 15; refine CB.out.mono ?_; rintro e w5 ⟨v5, rfl, b5, l5, ⟨p5, r5⟩, o5⟩; obtain ⟨a5, c5, rfl, _⟩ := own_slice o5; have S5 := hide (SlR.own o5); have L5 := hide (races_doc R hF (by omega) p5 r5); have N5 := hide p5.length_eq; have B45 := hide b5; have B5 := hide (bel_trans B4.out b5); clear b5 CB p5 r5 o5))
    go_loopw [31] (fun x31 wr => ∃ k : Nat, k ≤ T.length ∧ x31 = .int .i64 (k : Nat) ∧ Hid (Below w5.heap.size w5 wr)) (fun x31 _ => T.length - (intOf x31).toNat)
    case atStart => exact ⟨0, Nat.zero_le _, rfl, hide (Below.refl _ _)⟩
    case round =>
      obtain ⟨k, hk, rfl, hI⟩ := hrel
      by_cases hlt : k < T.length
      · have hlt' : (k : Int) < (T.length : Int) := by omega
        obtain ⟨b, o, eU, _, s0, s1, s2, s3⟩ := (TI.out.bel (bel_trans B45.out hI.out)).at k hlt
        injection eU with eU
        injection eU with eU1 eU2 _
        subst eU1 eU2
        obtain ⟨b', o', rfl, _, t0, t1, t2, t3⟩ := (HT.out.bel (bel_trans B5.out hI.out)).at k hlt
        generalize T.getD k zE = x at *
        obtain ⟨xg, xk, xo, xa⟩ := x
        simp only [Nat.zero_add] at s0 s1 s2 s3 t0 t1 t2 t3
        have EQ : ∀ w, (binOp .neq 47 (.agg #[.int .i64 xg, .int .i64 xk, .int .i64 xo, .int .i64 xa]) (.agg #[.int .i64 xg, .int .i64 xk, .int .i64 xo, .int .i64 xa])).run Tryd.prog w = .ok (.bool false) w := fun w => by
          rw [neq_ev]
          simp
        go_upto_region 10 with fail
        go_quiet (fail)
        have B2 := hide (below_drewN hI.out nq)
        go_wp2_with fail
        go_roundw
        case rel => exact ⟨k + 1, by omega, by go_num, B2⟩
        case measure => simp [intOf]; omega
      · obtain rfl : k = T.length := by omega
        have B6 := hide (bel_trans B5.out hI.out)
        have S6 := hide (S5.out.bel hI.out)
        have FM := hide (rform18_any (HT.out.bel B6.out) (by omega))
        rw [hF] at FM
        have BD := hide (fun wz (hz : Below w.heap.size w wz) => before_doc (HT.out.bel hz) (HR.out.bel hz) (by omega))
        have l8 : l5.length ≤ 100000 := by
          have h1 := N5.out
          have h2 := RL.out
          omega
        clear hI S5
        go_wp2_with (first | (go_at_call 10; refine FM.out.mono ?_; rintro e w7 ⟨rfl, b7⟩; have B7 := hide (bel_trans B6.out b7); have S7 := hide (S6.out.bel b7); clear b7) | (go_at_call 12; refine (BD.out _ B7.out).mono ?_; rintro e w8 ⟨q, BB, rfl, b8, m8⟩; have B8 := hide (bel_trans B7.out b8); have S8 := hide (S7.out.bel b8); have M8 := hide m8; clear b8 m8) | (go_at_call 16; refine (rraces_any (HT.out.bel B8.out) M8.out HW.out (by omega)).mono ?_; rintro e w9 ⟨v9, rfl, b9, s9⟩; obtain ⟨a9, c9, e9, _⟩ := s9.form; rw [← L5.out] at e9 s9; subst e9; have B9 := hide (bel_trans B8.out b9); have S9 := hide (S8.out.bel b9); have X9 := hide s9; clear b9 s9) | (go_at_call 17; refine (same_ref18Same S9.out X9.out l8).mono ?_; rintro e w10 ⟨rfl, b10⟩; have B10 := hide (bel_trans B9.out b10); have S10 := hide (S9.out.bel b10); have X10 := hide (X9.out.bel b10); clear b10) | (go_at_call 18; refine (orderSame_any S10.out X10.out l8).mono ?_; rintro e w11 ⟨rfl, b11⟩; have B11 := hide (bel_trans B10.out b11); clear b11))
        go_ret
        exact ⟨rfl, B11.out⟩
end Go.Proofs.YticgmebbnnmikaaDoor.Ck
