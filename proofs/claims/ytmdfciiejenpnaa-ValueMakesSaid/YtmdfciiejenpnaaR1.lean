/- The document's package: which values are in form; NaNs. -/
import Derived.Test.YtmdfciiejenpnaaV9
import Derived.Laws.BitsAllLaws
namespace Go.Proofs.Ytmdfciiejenpnaa.Ck
open Go.RowKit

set_option maxRecDepth 20000 in
set_option maxHeartbeats 1000000 in
theorem form_any (t n b : Int) (w : World) : Calls Try.prog 16 #[.agg #[.int .i64 t, .int .i64 n, .int .u64 b]] w (Vb w (.bool (goodB t n b))) := by
  have HB := hide (bel_new w (.cells #[.int .i64 t, .int .i64 n, .int .u64 b] 24))
  obtain ⟨g, hg⟩ : ∃ g, goodB t n b = g := ⟨_, rfl⟩
  rw [hg]
  have HG := hide hg
  clear hg
  by_cases h1 : t = 1
  · subst h1
    by_cases h2 : b = 0
    · subst h2
      go_enter Try.func16, Try.ntmps16
      go_wp2_with fail
      go_ret
      exact Vb.mk (congrArg Value.bool (by rw [← HG.out]; simp [goodB])) HB.out
    go_enter Try.func16, Try.ntmps16
    go_wp2_with fail
    go_ret
    exact Vb.mk (congrArg Value.bool (by rw [← HG.out]; simp [goodB] <;> omega)) HB.out
  by_cases h2 : t = 2
  · subst h2
    by_cases h3 : n = 0
    · subst h3
      go_enter Try.func16, Try.ntmps16
      go_wp2_with fail
      go_ret
      exact Vb.mk (congrArg Value.bool (by rw [← HG.out]; simp [goodB])) HB.out
    go_enter Try.func16, Try.ntmps16
    go_wp2_with fail
    go_ret
    exact Vb.mk (congrArg Value.bool (by rw [← HG.out]; simp [goodB] <;> omega)) HB.out
  by_cases h3 : t = 3
  · subst h3
    by_cases h4 : b = 0
    · subst h4
      by_cases h5 : n < 0
      · go_enter Try.func16, Try.ntmps16
        go_wp2_with fail
        go_ret
        exact Vb.mk (congrArg Value.bool (by rw [← HG.out]; simp [goodB]; omega)) HB.out
      by_cases h6 : 1 < n
      · have d6 : decide (n ≤ 1) = false := decide_eq_false (by omega)
        have d7 : goodB 3 n 0 = false := by simp [goodB]; omega
        rw [d7] at HG
        go_enter Try.func16, Try.ntmps16
        go_wp2_with fail
        go_ret
        exact Vb.mk (congrArg Value.bool (by rw [← HG.out])) HB.out
      have h7 : n = 0 ∨ n = 1 := by omega
      rcases h7 with rfl | rfl
      all_goals
        go_enter Try.func16, Try.ntmps16
        go_wp2_with fail
        go_ret
        exact Vb.mk (congrArg Value.bool (by rw [← HG.out]; simp [goodB])) HB.out
    go_enter Try.func16, Try.ntmps16
    go_wp2_with fail
    go_ret
    exact Vb.mk (congrArg Value.bool (by rw [← HG.out]; simp [goodB, h4])) HB.out
  go_enter Try.func16, Try.ntmps16
  go_wp2_with fail
  all_goals
    go_ret
    exact Vb.mk (congrArg Value.bool (by rw [← HG.out]; simp [goodB, h1, h2, h3])) HB.out

set_option maxRecDepth 20000 in
theorem nan_any (u : Nat) (w : World) : Calls Try.prog 25 #[.int .u64 (u : Nat)] w fun e w' => e = .returned (.bool (nanB u)) ∧ w = w' := by
  go_enter Try.func25, Try.ntmps25
  go_wp2_with fail
  go_ret
  refine ⟨congrArg Ending.returned (congrArg Value.bool ?_), rfl⟩
  unfold nanB
  congr 1
  rw [eq_iff_iff]
  unfold IntKind.wrap
  simp only [IntKind.signed, IntKind.bits]
  simp
  omega
set_option maxRecDepth 20000 in
theorem number_any (n : Int) (w : World) : Calls Try.prog 29 #[.int .i64 n] w (Vv w 1 n 0) := by
  go_enter Try.func29, Try.ntmps29
  go_wp2_with fail
  exact ret_v w.heap.size rfl rfl (Val.new w _ _ _) rfl (Vv.mk ⟨rfl, rfl, rfl⟩ (bel_new _ _))
set_option maxRecDepth 20000 in
theorem truth_any (b : Bool) (w : World) : Calls Try.prog 31 #[.bool b] w (Vv w 3 b.toInt 0) := by
  cases b
  all_goals
    go_enter Try.func31, Try.ntmps31
    go_wp2_with fail
    exact ret_v w.heap.size rfl rfl (Val.new w _ _ _) rfl (Vv.mk ⟨rfl, rfl, rfl⟩ (bel_new _ _))
theorem in_less {u : Nat} (h : u % 9223372036854775808 < 4890909195324358656) : inB u = true := by
  have h1 : nanB u = false := by unfold nanB; apply decide_eq_false; omega
  have h2 : -4890909195324358656 ≤ srB u ∧ srB u < 4890909195324358656 := by
    unfold srB
    split <;> omega
  unfold inB
  rw [h1, decide_eq_true h2.1, decide_eq_true h2.2]
  rfl
theorem in_more {u : Nat} (hu : u < 18446744073709551616) (h : ¬ u % 9223372036854775808 < 4890909195324358656) : inB u = (u == 14114281232179134464) := by
  rw [Bool.eq_iff_iff, beq_iff_eq]
  constructor
  · intro hi
    rcases inB_cases hu hi with h1 | h1
    · exact absurd h1 h
    · exact h1
  · rintro rfl
    decide +kernel
theorem and2047 (n : Int) : bits .and .i64 n 2047 = n % 2048 := by
  have hc : (BitVec.ofInt 64 2047).toNat = 2 ^ 11 - 1 := by decide
  show IntKind.i64.wrap ((BitVec.ofInt 64 n &&& BitVec.ofInt 64 2047).toNat : Nat) = n % 2048
  rw [BitVec.toNat_and, BitVec.toNat_ofInt, hc, Nat.and_two_pow_sub_one_eq_mod, IntKind.wrap_i64]
  omega
theorem field_e (u : Nat) : bits .and .i64 ((u : Int) / 4503599627370496) 2047 = ((u / 4503599627370496 % 2048 : Nat) : Int) := by
  rw [and2047]
  omega
theorem field_m (u : Nat) (hu : u < 18446744073709551616) : bits .or .u64 (bits .and .u64 (u : Int) 4503599627370495) 4503599627370496 = ((u % 4503599627370496 + 4503599627370496 : Nat) : Int) := by
  have h := u64_and_nat u 4503599627370495 hu (by decide)
  have h1 : (u &&& 4503599627370495) = u % 4503599627370496 := Nat.and_two_pow_sub_one_eq_mod _ 52
  have e : bits .and .u64 (u : Int) 4503599627370495 = ((u % 4503599627370496 : Nat) : Int) := by rw [← h1]; exact h
  rw [e]
  have h2 := u64_or_nat (u % 4503599627370496) 4503599627370496 (by omega) (by decide)
  refine h2.trans ?_
  congr 1
  have h3 := Nat.two_pow_add_eq_or_of_lt (i := 52) (b := u % 4503599627370496) (by omega) 1
  rw [show (2 ^ 52 * 1 : Nat) = 4503599627370496 by decide] at h3
  rw [Nat.or_comm, ← h3, Nat.add_comm]
theorem wr_in (n : Int) (h : -9223372036854775808 ≤ n ∧ n ≤ 9223372036854775807) : wrap64 n = n := by
  unfold wrap64
  omega
def Tw (w : World) (n : Int) (b : Bool) (e : Ending) (w' : World) : Prop := e = .returned (.tuple #[.int .i64 n, .bool b]) ∧ w = w'
theorem Tw.mk {w : World} {n n' : Int} {b b' : Bool} (h : n = n') (h2 : b = b') : Tw w n' b' (.returned (.tuple #[.int .i64 n, .bool b])) w := ⟨by rw [h, h2], rfl⟩
set_option maxRecDepth 20000 in
set_option maxHeartbeats 2000000 in
theorem trunc_any (u : Nat) (hu : u < 18446744073709551616) (w : World) : Calls Try.prog 32 #[.int .u64 (u : Nat)] w (Tw w (wholeN u) (inB u)) := by
  have hE := field_e u
  have hM := field_m u hu
  obtain ⟨e, he⟩ : ∃ e, u / 4503599627370496 % 2048 = e := ⟨_, rfl⟩
  obtain ⟨m, hm⟩ : ∃ m, u % 4503599627370496 + 4503599627370496 = m := ⟨_, rfl⟩
  rw [he] at hE
  rw [hm] at hM
  have hml : m < 9007199254740992 := by omega
  have hel : e < 2048 := by omega
  obtain ⟨W_, hw⟩ : ∃ n, wholeN u = n := ⟨_, rfl⟩
  obtain ⟨I_, hi⟩ : ∃ n, inB u = n := ⟨_, rfl⟩
  rw [hw, hi]
  have HT : Hid (truncN u = if e < 1023 then 0 else if e < 1075 then m / 2 ^ (1075 - e) else m * 2 ^ (e - 1075)) := by
    show truncN u = _
    unfold truncN
    simp only [he, hm]
  have HE := hide he
  have HM := hide hm
  have HW := hide hw
  have HI := hide hi
  clear he hm hw hi
  by_cases c4 : e < 1086
  case neg =>
    have hr : ¬ u % 9223372036854775808 < 4890909195324358656 := by have := HE.out; omega
    have q1 : Hid (W_ = -9223372036854775808) := by show _ = _; rw [← HW.out, wholeN, if_neg hr]
    have q2 : Hid (I_ = (u == 14114281232179134464)) := by show _ = _; rw [← HI.out, in_more hu hr]
    clear hr
    go_enter Try.func32, Try.ntmps32
    go_wp2_with fail
    all_goals
      go_ret2
      refine Tw.mk q1.out.symm ?_
      rw [q2.out]
      first | (rw [Bool.eq_iff_iff, beq_iff_eq, beq_iff_eq]; omega) | (symm; simp; omega)
  have hr : u % 9223372036854775808 < 4890909195324358656 := by have := HE.out; omega
  have q2 : Hid (I_ = true) := by show _ = _; rw [← HI.out, in_less hr]
  have q1 : Hid (W_ = sgnI (negB u) (truncN u)) := by show _ = _; rw [← HW.out, wholeN, if_pos hr]
  have q3 : Hid (truncN u < 9223372036854775808) := (toInt_small hr).2
  clear hr
  by_cases c1 : e < 1023
  · have q4 : Hid (truncN u = 0) := by show _ = _; rw [HT.out, if_pos c1]
    go_enter Try.func32, Try.ntmps32
    go_wp2_with fail
    all_goals
      go_ret2
      refine Tw.mk ?_ q2.out.symm
      rw [q1.out, q4.out]
      cases negB u <;> rfl
  have ns : Hid (negB u = decide ((u : Int) / 9223372036854775808 = 1)) := by
    show _ = _
    unfold negB
    rw [Bool.eq_iff_iff, beq_iff_eq, decide_eq_true_eq]
    omega
  by_cases c2 : e < 1075
  · have q4 : Hid ((m : Int) / 2 ^ (1075 - e) = ((truncN u : Nat) : Int)) := by
      show _ = _
      rw [HT.out, if_neg c1, if_pos c2]
      simp
    by_cases sg : (u : Int) / 9223372036854775808 = 1
    · rw [decide_eq_true sg] at ns
      go_enter Try.func32, Try.ntmps32
      go_wp2_with fail
      go_ret2
      refine Tw.mk ?_ q2.out.symm
      have h3 := q3.out
      rw [q1.out, ns.out, q4.out]
      generalize truncN u = T at *
      show wrap64 (-wrap64 (T : Int)) = -(T : Int)
      rw [wr_in (T : Int) (by omega), wr_in (-(T : Int)) (by omega)]
    · rw [decide_eq_false sg] at ns
      go_enter Try.func32, Try.ntmps32
      go_wp2_with fail
      go_ret2
      refine Tw.mk ?_ q2.out.symm
      have h3 := q3.out
      rw [q1.out, ns.out, q4.out]
      generalize truncN u = T at *
      show wrap64 (T : Int) = (T : Int)
      rw [wr_in (T : Int) (by omega)]
  have q4 : Hid ((m : Int) * 2 ^ (e - 1023 - 52) = ((truncN u : Nat) : Int)) := by
    show _ = _
    rw [HT.out, if_neg c1, if_neg c2, show e - 1023 - 52 = e - 1075 by omega]
    simp
  by_cases sg : (u : Int) / 9223372036854775808 = 1
  · rw [decide_eq_true sg] at ns
    go_enter Try.func32, Try.ntmps32
    go_wp2_with fail
    go_ret2
    refine Tw.mk ?_ q2.out.symm
    have h3 := q3.out
    rw [q1.out, ns.out, q4.out, IntKind.wrap_u64]
    generalize truncN u = T at *
    rw [show (T : Int) % 18446744073709551616 = T by omega]
    show wrap64 (-wrap64 (T : Int)) = -(T : Int)
    rw [wr_in (T : Int) (by omega), wr_in (-(T : Int)) (by omega)]
  · rw [decide_eq_false sg] at ns
    go_enter Try.func32, Try.ntmps32
    go_wp2_with fail
    go_ret2
    refine Tw.mk ?_ q2.out.symm
    have h3 := q3.out
    rw [q1.out, ns.out, q4.out, IntKind.wrap_u64]
    generalize truncN u = T at *
    rw [show (T : Int) % 18446744073709551616 = T by omega]
    show wrap64 (T : Int) = (T : Int)
    rw [wr_in (T : Int) (by omega)]
end Go.Proofs.Ytmdfciiejenpnaa.Ck
