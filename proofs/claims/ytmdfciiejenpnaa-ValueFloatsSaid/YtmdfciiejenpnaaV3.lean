/- Package value: unary operators. -/
import Derived.Test.YtmdfciiejenpnaaV2
namespace Go.Proofs.Ytmdfciiejenpnaa.Ck
open Go.RowKit

/-- a float that comes of an operation -/
def outU (u : Nat) : Nat := if nanB u then 9221120237041090561 else u
set_option maxRecDepth 20000 in
theorem outcome_any (u : Nat) (w : World) : Calls Try.prog 37 #[.float .f64 u] w (Vv w 2 0 (outU u)) := by
  have h1 := callFrom
  have V1 := hide (Val.new w 0 0 0)
  have B1 := hide (bel_new w (.cells #[.int .i64 0, .int .i64 0, .int .u64 0] 24))
  obtain ⟨o, ho⟩ : ∃ o, outU u = o := ⟨_, rfl⟩
  rw [ho]
  have HO := hide ho
  clear ho
  cases hn : nanB u
  · have IN := fun w => isNaN_any u w
    rw [hn] at IN
    have HN := hide hn
    clear hn
    go_enter Try.func37, Try.ntmps37
    go_wp2_with fail
    refine (IN _).mono ?_
    rintro e w1 ⟨rfl, rfl⟩
    go_wp2_with fail
    refine (float_any _ _).mono ?_
    rintro e w2 ⟨rfl, hb⟩
    have V2 := V1.out.al hb
    have B2 := hide (bel_trans B1.out hb)
    obtain ⟨⟨f0, f1, f2⟩, c0, c1, c2⟩ := V2.all
    have V3 := hide (V2.set 2 0 u)
    clear V2 hb IN
    go_wp2_with fail
    refine ret_v w.heap.size rfl rfl V3.out rfl (Vv.mk ⟨rfl, rfl, ?_⟩ (bel_set B2.out (Nat.le_refl _) _ _ _))
    rw [← HO.out, outU, HN.out]
    rfl
  · have IN := fun w => isNaN_any u w
    rw [hn] at IN
    have HN := hide hn
    clear hn
    go_enter Try.func37, Try.ntmps37
    go_wp2_with fail
    refine (IN _).mono ?_
    rintro e w1 ⟨rfl, rfl⟩
    go_wp2_with fail
    refine (float_any _ _).mono ?_
    rintro e w2 ⟨rfl, hb⟩
    have V2 := V1.out.al hb
    have B2 := hide (bel_trans B1.out hb)
    obtain ⟨⟨f0, f1, f2⟩, c0, c1, c2⟩ := V2.all
    have V3 := hide (V2.set 2 0 9221120237041090561)
    clear V2 hb IN
    go_wp2_with fail
    refine ret_v w.heap.size rfl rfl V3.out rfl (Vv.mk ⟨rfl, rfl, ?_⟩ (bel_set B2.out (Nat.le_refl _) _ _ _))
    rw [← HO.out, outU, HN.out]
    rfl

/-- does a float64 lie within the ints? -/
def inB (u : Nat) : Bool := !nanB u && (decide (-4890909195324358656 ≤ srB u) && decide (srB u < 4890909195324358656))
/-- its whole part -/
def wholeN (u : Nat) : Int := if u % 9223372036854775808 < 4890909195324358656 then sgnI (negB u) (truncN u) else -9223372036854775808
theorem geq_eq (u : Nat) : (FloatKind.f64.format.order u 14114281232179134464 == some .gt || FloatKind.f64.format.order u 14114281232179134464 == some .eq) = (!nanB u && decide (-4890909195324358656 ≤ srB u)) := by
  show (Ieee.double.order u 14114281232179134464 == some .gt || Ieee.double.order u 14114281232179134464 == some .eq) = _
  rw [order_eq, show nanB 14114281232179134464 = false by decide, show srB 14114281232179134464 = -4890909195324358656 by decide, Bool.or_false]
  cases nanB u
  · rcases Int.lt_trichotomy (srB u) (-4890909195324358656) with h | h | h
    · rw [Int.compare_eq_lt.2 h, decide_eq_false (by omega)]; rfl
    · rw [Int.compare_eq_eq.2 h, decide_eq_true (by omega)]; rfl
    · rw [Int.compare_eq_gt.2 h, decide_eq_true (by omega)]; rfl
  · rfl
theorem lss_eq (u : Nat) : (FloatKind.f64.format.order u 4890909195324358656 == some .lt) = (!nanB u && decide (srB u < 4890909195324358656)) := by
  show (Ieee.double.order u 4890909195324358656 == some .lt) = _
  rw [order_eq, show nanB 4890909195324358656 = false by decide, show srB 4890909195324358656 = 4890909195324358656 by decide, Bool.or_false]
  cases nanB u
  · rcases Int.lt_trichotomy (srB u) 4890909195324358656 with h | h | h
    · rw [Int.compare_eq_lt.2 h, decide_eq_true (by omega)]; rfl
    · rw [Int.compare_eq_eq.2 h, decide_eq_false (by omega)]; rfl
    · rw [Int.compare_eq_gt.2 h, decide_eq_false (by omega)]; rfl
  · rfl
theorem inB_cases {u : Nat} (hu : u < 18446744073709551616) (h : inB u = true) : u % 9223372036854775808 < 4890909195324358656 ∨ u = 14114281232179134464 := by
  unfold inB at h
  simp only [Bool.and_eq_true, decide_eq_true_eq] at h
  have h1 := h.2.1
  have h2 := h.2.2
  unfold srB at h1 h2
  by_cases hs : u / 9223372036854775808 % 2 = 1
  · rw [if_pos hs] at h1 h2
    by_cases hr : u % 9223372036854775808 < 4890909195324358656
    · exact .inl hr
    · right; omega
  · rw [if_neg hs] at h1 h2
    left; omega
theorem whole_val {u : Nat} (hu : u < 18446744073709551616) (h : inB u = true) : floatToIntVal .f64 u .i64 = some (wholeN u) := by
  unfold floatToIntVal
  show (match (Ieee.double.read u).toInt .zero with | some n => if IntKind.i64.min ≤ n ∧ n ≤ IntKind.i64.max then some n else none | none => none) = _
  rcases inB_cases hu h with h1 | h1
  · obtain ⟨e, hl⟩ := toInt_small h1
    rw [e]
    have h3 : -9223372036854775808 ≤ sgnI (negB u) (truncN u) ∧ sgnI (negB u) (truncN u) ≤ 9223372036854775807 := by
      unfold sgnI
      cases negB u <;> simp <;> omega
    show (if IntKind.i64.min ≤ _ ∧ _ ≤ IntKind.i64.max then _ else _) = _
    rw [if_pos (show IntKind.i64.min ≤ sgnI (negB u) (truncN u) ∧ sgnI (negB u) (truncN u) ≤ IntKind.i64.max from h3), wholeN, if_pos h1]
  · subst h1; decide

set_option maxRecDepth 20000 in
theorem whole_any (u : Nat) (hu : u < 18446744073709551616) (w : World) : Calls Try.prog 38 #[.float .f64 u] w (Vi w (if inB u then 1 else 0) (if inB u then wholeN u else 0) 0 (if inB u then 0 else 3)) := by
  have V1 := hide (Val.new w 0 0 0)
  have B1 := hide (bel_new w (.cells #[.int .i64 0, .int .i64 0, .int .u64 0] 24))
  have h1 := geq_eq u
  have h2 := lss_eq u
  cases hi : inB u
  · show Calls _ _ _ _ (Vi w 0 0 0 3)
    have HI := hide hi
    unfold inB at hi
    cases hn : nanB u
    · rw [hn] at h1 h2 hi
      cases h3 : decide (-4890909195324358656 ≤ srB u)
      · rw [h3] at h1
        have h1' := h1.trans (show (!false && false) = false from rfl)
        clear h1 h2 h3 hi hn
        go_enter Try.func38, Try.ntmps38
        go_wp2_with fail
        exact ret_vi w.heap.size rfl rfl rfl (Val.new w _ _ _) rfl (Vi.mk ⟨rfl, rfl, rfl, rfl⟩ B1.out)
      · rw [h3] at h1 hi
        have h4 : decide (srB u < 4890909195324358656) = false := by simpa using hi
        rw [h4] at h2
        have h1' := h1.trans (show (!false && true) = true from rfl)
        have h2' := h2.trans (show (!false && false) = false from rfl)
        clear h1 h2 h3 hi hn h4
        go_enter Try.func38, Try.ntmps38
        go_wp2_with fail
        exact ret_vi w.heap.size rfl rfl rfl (Val.new w _ _ _) rfl (Vi.mk ⟨rfl, rfl, rfl, rfl⟩ B1.out)
    · rw [hn] at h1
      have h1' := h1.trans (show (!true && _) = false from rfl)
      clear h1 h2 hi hn
      go_enter Try.func38, Try.ntmps38
      go_wp2_with fail
      exact ret_vi w.heap.size rfl rfl rfl (Val.new w _ _ _) rfl (Vi.mk ⟨rfl, rfl, rfl, rfl⟩ B1.out)
  · show Calls _ _ _ _ (Vi w 1 (wholeN u) 0 0)
    have hv := whole_val hu hi
    have hcv : ∀ w, (convert 33 3 (.float .f64 u)).run Try.prog w = .ok (.int .i64 (wholeN u)) w := fun w => run_convert_float_int w 33 3 .f64 .i64 u (wholeN u) (by kernel_rfl) Try.underlying3 hv
    unfold inB at hi
    simp only [Bool.and_eq_true] at hi
    rw [hi.1, hi.2.1] at h1
    rw [hi.1, hi.2.2] at h2
    have h1' := h1.trans (show (true && true) = true from rfl)
    have h2' := h2.trans (show (true && true) = true from rfl)
    clear h1 h2 hi hv
    generalize wholeN u = N at *
    go_enter Try.func38, Try.ntmps38
    go_wp2_with fail
    refine (int_any _ _).mono ?_
    rintro e w2 ⟨rfl, hb⟩
    have V2 := V1.out.al hb
    have B2 := hide (bel_trans B1.out hb)
    obtain ⟨⟨f0, f1, f2⟩, c0, c1, c2⟩ := V2.all
    have V3 := hide (V2.set 1 N 0)
    clear V2 hb
    go_wp2_with fail
    exact ret_vi w.heap.size rfl rfl rfl V3.out rfl (Vi.mk ⟨rfl, rfl, rfl, rfl⟩ (bel_set B2.out (Nat.le_refl _) _ _ _))
end Go.Proofs.Ytmdfciiejenpnaa.Ck
