/- The document's package of layer 18: is a trace in form (Form). -/
import Derived.Test.YticgmebbnnmikaaDoorOs
namespace Go.Proofs.YticgmebbnnmikaaDoor.Ck
open Go.RowKit

set_option maxRecDepth 20000 in
set_option maxHeartbeats 4000000 in
theorem rform18_any {w : World} {vT : Value} {T : List Ev} (hT : SlE w vT T) (hn : T.length ≤ 100000) : Calls Tryd.prog 10 #[vT] w (Vb w (.bool (formT T))) := by
  obtain ⟨aT, cT, rfl, hcT, _⟩ := hT.form
  have HT := hide hT
  have HN := hide hn
  clear hT hn
  go_enter Tryd.func10, Tryd.ntmps10
  go_wp2_with fail
  go_loopw [7] (fun x7 wr => ∃ k : Nat, k ≤ T.length ∧ x7 = .int .i64 (k : Nat) ∧ Hid (Below w.heap.size w wr ∧ ∀ j, j < k → evB (T.getD j zE) = true)) (fun x7 _ => T.length - (intOf x7).toNat)
  case atStart => exact ⟨0, Nat.zero_le _, rfl, hide ⟨Below.refl _ _, fun j hj => absurd hj (Nat.not_lt_zero _)⟩⟩
  case round =>
    obtain ⟨k, hk, rfl, hI⟩ := hrel
    by_cases hlt : k < T.length
    · have hlt' : (k : Int) < (T.length : Int) := by omega
      have BW := hide hI.out.1
      have PV := hide hI.out.2
      obtain ⟨bT, off, rfl, hbT, t0, t1, t2, t3⟩ := (HT.out.bel BW.out).at k hlt
      obtain ⟨e, he⟩ : ∃ q, q = T.getD k zE := ⟨_, rfl⟩
      have FN : Hid (evB e = false → formT T = false) := hide (fun h => formT_not hlt (by rw [← he]; exact h))
      have FY : Hid (evB e = true → ∀ j, j < k + 1 → evB (T.getD j zE) = true) := hide (fun h j hj => by
        by_cases q : j = k
        · subst q
          rw [← he]
          exact h
        · exact PV.out j (by omega))
      rw [← he] at t0 t1 t2 t3
      have hk8 : k ≤ 100000 := by have := HN.out; omega
      obtain ⟨eg, ek, eo, ea⟩ := e
      simp only at t0 t1 t2 t3
      have B3 := hide (bel_al BW.out (.cells #[.int .i64 eg, .int .i64 ek, .int .i64 eo, .int .i64 ea] 47))
      have NO : Hid ((eg < 0 ∨ 7 < eg ∨ ek < 1 ∨ 12 < ek ∨ (ek = 10 ∧ (eo < 0 ∨ 7 < eo))) → formT T = false) := hide (fun h => FN.out (by
        cases hb : evB ⟨eg, ek, eo, ea⟩ with
        | false => rfl
        | true =>
          have := evB_out hb
          simp only at this
          omega))
      have YES : Hid (¬ (eg < 0 ∨ 7 < eg ∨ ek < 1 ∨ 12 < ek ∨ (ek = 10 ∧ (eo < 0 ∨ 7 < eo))) → ∀ j, j < k + 1 → evB (T.getD j zE) = true) := hide (fun h => FY.out (by
        unfold evB
        simp only [Bool.and_eq_true, Bool.or_eq_true, Bool.not_eq_true', decide_eq_true_eq, beq_eq_false_iff_ne]
        omega))
      clear hI he HT PV hk FN FY
      by_cases c1 : eg < 0
      · have Y := hide (NO.out (by omega))
        go_wp2_with fail
        go_ret
        rw [Y.out]
        exact ⟨rfl, B3.out⟩
      by_cases c2 : 7 < eg
      · have Y := hide (NO.out (by omega))
        go_wp2_with fail
        go_ret
        rw [Y.out]
        exact ⟨rfl, B3.out⟩
      by_cases c3 : ek < 1
      · have Y := hide (NO.out (by omega))
        go_wp2_with fail
        go_ret
        rw [Y.out]
        exact ⟨rfl, B3.out⟩
      by_cases c4 : 12 < ek
      · have Y := hide (NO.out (by omega))
        go_wp2_with fail
        go_ret
        rw [Y.out]
        exact ⟨rfl, B3.out⟩
      by_cases c5 : ek = 10
      · subst c5
        by_cases c6 : eo < 0
        · have Y := hide (NO.out (by omega))
          go_wp2_with fail
          go_ret
          rw [Y.out]
          exact ⟨rfl, B3.out⟩
        by_cases c7 : 7 < eo
        · have Y := hide (NO.out (by omega))
          go_wp2_with fail
          go_ret
          rw [Y.out]
          exact ⟨rfl, B3.out⟩
        have Y := hide (YES.out (by omega))
        clear NO YES
        go_wp2_with fail
        go_roundw
        case rel => exact ⟨k + 1, by omega, by first | rfl | go_num, hide ⟨B3.out, Y.out⟩⟩
        case measure => simp [intOf]; omega
      · have c5' : (ek == 10) = false := by simpa using c5
        have Y := hide (YES.out (by omega))
        clear NO YES
        go_wp2_with fail
        go_roundw
        case rel => exact ⟨k + 1, by omega, by first | rfl | go_num, hide ⟨B3.out, Y.out⟩⟩
        case measure => simp [intOf]; omega
    · obtain rfl : k = T.length := by omega
      have BW := hide hI.out.1
      have Y := hide (formT_all hI.out.2)
      clear hI HT
      go_wp2_with fail
      go_ret
      rw [Y.out]
      exact ⟨rfl, BW.out⟩
end Go.Proofs.YticgmebbnnmikaaDoor.Ck
