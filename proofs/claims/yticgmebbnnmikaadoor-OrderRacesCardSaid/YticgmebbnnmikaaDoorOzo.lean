/- The document's nth, which, atomic. -/
import Derived.Test.YticgmebbnnmikaaDoorOzi
import Derived.Test.YticgmebbnnmikaaDoorOw
import Derived.Deep.QuietTactic
import Derived.BigQuiet
namespace Go.Proofs.YticgmebbnnmikaaDoor.Ck
open Go.RowKit

theorem nthF_step (T : List Ev) (kd o : Int) (m n : Nat) (hn : n < T.length) : nthF T kd o m (T.length - n) = if (kOf T n = kd ∧ oOf T n = o) ∧ cntE T kd o n = m then (n : Int) else nthF T kd o m (T.length - (n + 1)) := by
  obtain ⟨r, hr⟩ : ∃ r, T.length - n = r + 1 := ⟨T.length - n - 1, by omega⟩
  rw [hr, show T.length - (n + 1) = r by omega, nthF, show T.length - (r + 1) = n by omega]
theorem cntE_yes {T : List Ev} {kd o : Int} {n : Nat} (h : kOf T n = kd ∧ oOf T n = o) : cntE T kd o (n + 1) = cntE T kd o n + 1 := by rw [cntE, if_pos h]
theorem cntE_no {T : List Ev} {kd o : Int} {n : Nat} (h : ¬ (kOf T n = kd ∧ oOf T n = o)) : cntE T kd o (n + 1) = cntE T kd o n := by rw [cntE, if_neg h]
set_option maxRecDepth 20000 in
set_option maxHeartbeats 2000000 in
theorem nth_any {w : World} {vT : Value} {T : List Ev} (hT : SlE w vT T) (hnT : T.length ≤ 100000) (kd o : Int) (m : Nat) (hm : m ≤ 100000) : Calls Tryd.prog 38 #[vT, .int .i64 kd, .int .i64 o, .int .i64 (m : Nat)] w (Vb w (.int .i64 (nthM T kd o m))) := by
  obtain ⟨aT, cT, rfl, _, _⟩ := hT.form
  have HT := hide hT
  clear hT
  go_enter Tryd.func38, Tryd.ntmps38
  go_wp2_with fail
  go_loopw [3, 13] (fun x3 x13 wr => ∃ n c : Nat, n ≤ T.length ∧ c ≤ m ∧ x3 = .int .i64 ((m - c : Nat) : Int) ∧ x13 = .int .i64 (n : Nat) ∧ Hid (Below w.heap.size w wr) ∧ Hid (c = cntE T kd o n ∧ nthF T kd o m (T.length - n) = nthM T kd o m)) (fun _ x13 _ => T.length - (intOf x13).toNat)
  case atStart => exact ⟨0, 0, Nat.zero_le _, Nat.zero_le _, rfl, rfl, hide (Below.refl _ _), hide ⟨rfl, rfl⟩⟩
  case round =>
    obtain ⟨n, c, hn, hc, rfl, rfl, hB, hI⟩ := hrel
    by_cases hlt : n < T.length
    · have hlt' : (n : Int) < (T.length : Int) := by omega
      obtain ⟨b, off, rfl, hb, t0, t1, t2, t3⟩ := (HT.out.bel hB.out).at n hlt
      have hN := nthF_step T kd o m n hlt
      rw [← hI.out.1, hI.out.2] at hN
      have YC := hide (fun h => (cntE_yes (T := T) (kd := kd) (o := o) (n := n) h))
      have NC := hide (fun h => (cntE_no (T := T) (kd := kd) (o := o) (n := n) h))
      rw [← hI.out.1] at YC NC
      have HN := hide hN
      clear hN hI
      unfold kOf oOf at HN YC NC
      obtain ⟨e, he⟩ : ∃ q, q = T.getD n zE := ⟨_, rfl⟩
      rw [← he] at t0 t1 t2 t3 HN YC NC
      obtain ⟨eg, ek, eo, ea⟩ := e
      simp only at t0 t1 t2 t3 HN YC NC
      clear he
      have B1 := hide (bel_al hB.out (.cells #[.int .i64 eg, .int .i64 ek, .int .i64 eo, .int .i64 ea] 47))
      have X1 := hide (Go.Deep.blk_alloc_new wr (.cells #[.int .i64 eg, .int .i64 ek, .int .i64 eo, .int .i64 ea] 47))
      go_upto_region 4 with fail
      generalize wr.alloc (.cells #[.int .i64 eg, .int .i64 ek, .int .i64 eo, .int .i64 ea] 47) = w1 at *
      have z1 : w1.cell? ⟨wr.heap.size, 1, none⟩ = some (.int .i64 ek) := blk_cell X1.out 1 _ rfl
      have z2 : w1.cell? ⟨wr.heap.size, 2, none⟩ = some (.int .i64 eo) := blk_cell X1.out 2 _ rfl
      clear t0 t1 t2 t3 hb hB
      by_cases hk : ek = kd
      · by_cases ho : eo = o
        · subst hk ho
          by_cases hcm : c = m
          · subst hcm
            have E := hide (HN.out.trans (if_pos ⟨⟨rfl, rfl⟩, rfl⟩))
            have e0 : (((c - c : Nat) : Int) == 0) = true := by simp
            go_wp2_with fail
            go_ret
            rw [← E.out]
            exact ⟨rfl, B1.out⟩
          · have E := hide (HN.out.trans (if_neg (fun h => hcm h.2)))
            have C := hide (YC.out ⟨rfl, rfl⟩)
            have e0 : (((m - c : Nat) : Int) == 0) = false := by rw [beq_eq_false_iff_ne]; omega
            go_wp2_with fail
            go_roundw
            case rel => exact ⟨n + 1, c + 1, by omega, by omega, by rw [show ((m - c : Nat) : Int) - 1 = ((m - (c + 1) : Nat) : Int) by omega], by go_num, B1, hide ⟨C.out.symm, E.out.symm⟩⟩
            case measure => simp [intOf]; omega
        · have E := hide (HN.out.trans (if_neg (fun h => ho h.1.2)))
          have C := hide (NC.out (fun h => ho h.2))
          have o0 : (eo == o) = false := by simpa using ho
          subst hk
          go_wp2_with fail
          go_roundw
          case rel => exact ⟨n + 1, c, by omega, by omega, rfl, by go_num, B1, hide ⟨C.out.symm, E.out.symm⟩⟩
          case measure => simp [intOf]; omega
      · have E := hide (HN.out.trans (if_neg (fun h => hk h.1.1)))
        have C := hide (NC.out (fun h => hk h.1))
        have k0 : (ek == kd) = false := by simpa using hk
        go_wp2_with fail
        go_roundw
        case rel => exact ⟨n + 1, c, by omega, by omega, rfl, by go_num, B1, hide ⟨C.out.symm, E.out.symm⟩⟩
        case measure => simp [intOf]; omega
    · obtain rfl : n = T.length := by omega
      have E := hI.out.2
      rw [Nat.sub_self] at E
      have E := hide E
      have B1 := hide hB.out
      clear hI hB HT
      go_wp2_with fail
      go_ret
      rw [← E.out]
      exact ⟨rfl, B1.out⟩
set_option maxRecDepth 20000 in
set_option maxHeartbeats 2000000 in
theorem which_any {w : World} {vT : Value} {T : List Ev} (hT : SlE w vT T) (i : Nat) (hi : i < T.length) (hn : T.length ≤ 100000) : Calls Tryd.prog 39 #[vT, .int .i64 (i : Nat)] w (Vb w (.int .i64 (whM T i : Nat))) := by
  obtain ⟨aT, cT, rfl, _, _⟩ := hT.form
  have HT := hide hT
  clear hT
  go_enter Tryd.func39, Tryd.ntmps39
  go_wp2_with fail
  go_loopw [5, 6] (fun x5 x6 wr => ∃ n : Nat, n ≤ i ∧ x5 = .int .i64 ((cntE T (kOf T i) (oOf T i) n : Nat) : Int) ∧ x6 = .int .i64 (n : Nat) ∧ Hid (Below w.heap.size w wr)) (fun _ x6 _ => i - (intOf x6).toNat)
  case atStart => exact ⟨0, Nat.zero_le _, rfl, rfl, hide (Below.refl _ _)⟩
  case round =>
    obtain ⟨n, hn2, rfl, rfl, hB⟩ := hrel
    by_cases hlt : n < i
    · have hlt' : (n : Int) < (i : Int) := by omega
      have hnT : (n : Int) < (T.length : Int) := by omega
      have hiT : (i : Int) < (T.length : Int) := by omega
      obtain ⟨b, off, rfl, hb, _, t1, t2, _⟩ := (HT.out.bel hB.out).at n (by omega)
      obtain ⟨b', off', e', hb', _, s1, s2, _⟩ := (HT.out.bel hB.out).at i hi
      injection e' with e'
      injection e' with e1 e2 _
      subst e1 e2
      have hc := cntE_self T (kOf T i) (oOf T i) n
      have YC := hide (fun h => (cntE_yes (T := T) (kd := kOf T i) (o := oOf T i) (n := n) h))
      have NC := hide (fun h => (cntE_no (T := T) (kd := kOf T i) (o := oOf T i) (n := n) h))
      generalize cntE T (kOf T i) (oOf T i) n = c at *
      have f1 : (T.getD n zE).k = kOf T n := rfl
      have f2 : (T.getD n zE).o = oOf T n := rfl
      have f3 : (T.getD i zE).k = kOf T i := rfl
      have f4 : (T.getD i zE).o = oOf T i := rfl
      rw [f1] at t1
      rw [f2] at t2
      rw [f3] at s1
      rw [f4] at s2
      clear f1 f2 f3 f4
      by_cases hk : kOf T n = kOf T i
      · by_cases ho : oOf T n = oOf T i
        · have C := hide (YC.out ⟨hk, ho⟩)
          rw [hk] at t1
          rw [ho] at t2
          go_upto_region 5 with fail
          go_quiet (fail)
          have B2 := hide (below_drewN hB.out nq)
          go_wp2_with fail
          go_roundw
          case rel => exact ⟨n + 1, by omega, by rw [C.out]; go_num, by go_num, B2⟩
          case measure => simp [intOf]; omega
        · have C := hide (NC.out (fun h => ho h.2))
          have o0 : (oOf T n == oOf T i) = false := by simpa using ho
          rw [hk] at t1
          go_upto_region 5 with fail
          go_quiet (fail)
          have B2 := hide (below_drewN hB.out nq)
          go_wp2_with fail
          go_roundw
          case rel => exact ⟨n + 1, by omega, by rw [C.out], by go_num, B2⟩
          case measure => simp [intOf]; omega
      · have C := hide (NC.out (fun h => hk h.1))
        have k0 : (kOf T n == kOf T i) = false := by simpa using hk
        go_upto_region 5 with fail
        go_quiet (fail)
        have B2 := hide (below_drewN hB.out nq)
        go_wp2_with fail
        go_roundw
        case rel => exact ⟨n + 1, by omega, by rw [C.out], by go_num, B2⟩
        case measure => simp [intOf]; omega
    · obtain rfl : n = i := by omega
      have B1 := hide hB.out
      clear hB HT
      go_wp2_with fail
      go_ret
      exact ⟨rfl, B1.out⟩
theorem atomic_any (k : Int) (w : World) : Calls Tryd.prog 40 #[.int .i64 k] w (fun e w' => e = .returned (.bool (atB k)) ∧ w' = w) := by
  go_enter Tryd.func40, Tryd.ntmps40
  by_cases h7 : k = 7
  · subst h7
    go_wp2_with fail
    go_ret
    exact ⟨rfl, rfl⟩
  · have e7 : (k == 7) = false := by simpa using h7
    by_cases h8 : k = 8
    · subst h8
      go_wp2_with fail
      go_ret
      exact ⟨rfl, rfl⟩
    · have e8 : (k == 8) = false := by simpa using h8
      have e : atB k = (k == 9) := by unfold atB; rw [e7, e8]; simp
      rw [e]
      go_wp2_with fail
      go_ret
      exact ⟨rfl, rfl⟩
end Go.Proofs.YticgmebbnnmikaaDoor.Ck
