/- The document's Binary, whole. (Written by mk_r.py.) -/
import Derived.Test.YtmdfciiejenpnaaR4
import Derived.Test.YtmdfciiejenpnaaR6
import Derived.Test.YtmdfciiejenpnaaR7
namespace Go.Proofs.Ytmdfciiejenpnaa.Ck
open Go.RowKit

theorem ordI_eq (a b : Int) : (ordI a b == 0) = (a == b) := by
  unfold ordI
  rw [Bool.eq_iff_iff, beq_iff_eq, beq_iff_eq]
  split
  · omega
  · split <;> omega
theorem ordI_lt (a b : Int) : (ordI a b == -1) = decide (a < b) := by
  unfold ordI
  rw [Bool.eq_iff_iff, beq_iff_eq, decide_eq_true_eq]
  split
  · omega
  · split <;> omega
theorem ordI_gt (a b : Int) : (ordI a b == 1) = decide (a > b) := by
  unfold ordI
  rw [Bool.eq_iff_iff, beq_iff_eq, decide_eq_true_eq]
  split
  · omega
  · split <;> omega
theorem cmpF (u v : Nat) : (nanB u || nanB v) = true ∧ eqF u v = false ∧ ltF u v = false ∧ gtF u v = false ∨ (nanB u || nanB v) = false ∧ ((eqF u v = true ∧ ltF u v = false ∧ gtF u v = false) ∨ (eqF u v = false ∧ ltF u v = true ∧ gtF u v = false) ∨ (eqF u v = false ∧ ltF u v = false ∧ gtF u v = true)) := by
  have h := order_eq u v
  unfold eqF ltF gtF
  rw [show FloatKind.f64.format.order u v = Ieee.double.order u v from rfl, h]
  cases nanB u || nanB v
  · right
    refine ⟨rfl, ?_⟩
    cases compare (srB u) (srB v)
    · right; left; exact ⟨rfl, rfl, rfl⟩
    · left; exact ⟨rfl, rfl, rfl⟩
    · right; right; exact ⟨rfl, rfl, rfl⟩
  · left; exact ⟨rfl, rfl, rfl, rfl⟩
theorem ordU_all (u v : Nat) : (ordU u v == 0) = eqF u v ∧ (ordU u v == -1) = ltF u v ∧ (ordU u v == 1) = gtF u v := by
  unfold ordU
  rcases cmpF u v with ⟨h0, h1, h2, h3⟩ | ⟨h0, ⟨h1, h2, h3⟩ | ⟨h1, h2, h3⟩ | ⟨h1, h2, h3⟩⟩ <;> rw [h0, h1, h2, h3] <;> exact ⟨rfl, rfl, rfl⟩
theorem rbin_int (op : ByteArray) (a b : Int) (ha : -9223372036854775808 ≤ a ∧ a ≤ 9223372036854775807) (hb : -9223372036854775808 ≤ b ∧ b ≤ 9223372036854775807) (w : World) : Calls Try.prog 13 #[.string op, .agg #[.int .i64 1, .int .i64 a, .int .u64 0], .agg #[.int .i64 1, .int .i64 b, .int .u64 0]] w (Vi4 w (ofIntsF op.toList a b)) := by
  have g1 : goodB 1 a 0 = true := by simp [goodB]
  have g2 : goodB 1 b 0 = true := by simp [goodB]
  have HO := fun w => order_int 1 a 0 b 0 1 (by decide) w
  by_cases h1 : op.toList = [61, 61]
  · have hh := rbin_eq op 1 a 0 b 0 (ordI a b) g1 g2 HO h1 w
    rw [ordI_eq] at hh
    rw [show ofIntsF op.toList a b = tr (a == b) by rw [h1]; rfl]
    exact hh
  by_cases h2 : op.toList = [33, 61]
  · have hh := rbin_ne op 1 a 0 b 0 (ordI a b) g1 g2 HO h2 w
    rw [show (ordI a b != 0) = !(ordI a b == 0) from rfl, ordI_eq] at hh
    rw [show ofIntsF op.toList a b = tr (!(a == b)) by rw [h2]; rfl]
    exact hh
  by_cases h3 : op.toList = [60]
  · have hh := rbin_lt op 1 a 0 b 0 (ordI a b) g1 g2 HO h3 (by decide) w
    rw [ordI_lt] at hh
    rw [show ofIntsF op.toList a b = tr (decide (a < b)) by rw [h3]; rfl]
    exact hh
  by_cases h4 : op.toList = [62]
  · have hh := rbin_gt op 1 a 0 b 0 (ordI a b) g1 g2 HO h4 (by decide) w
    rw [ordI_gt] at hh
    rw [show ofIntsF op.toList a b = tr (decide (a > b)) by rw [h4]; rfl]
    exact hh
  by_cases h5 : op.toList = [60, 61]
  · rw [show ofIntsF op.toList a b = tr (decide (a ≤ b)) by rw [h5]; rfl]
    by_cases c : a < b
    · rw [show ordI a b = -1 by unfold ordI; rw [if_pos c]] at HO
      rw [decide_eq_true (by omega)]
      exact rbin_le1 op 1 a 0 b 0 g1 g2 HO h5 (by decide) w
    · have hO : ordI a b ≠ -1 := by unfold ordI; rw [if_neg c]; split <;> decide
      have hh := rbin_le2 op 1 a 0 b 0 (ordI a b) g1 g2 HO h5 (by decide) hO w
      rw [ordI_eq] at hh
      rw [show decide (a ≤ b) = (a == b) by rw [Bool.eq_iff_iff, beq_iff_eq, decide_eq_true_eq]; omega]
      exact hh
  by_cases h6 : op.toList = [62, 61]
  · rw [show ofIntsF op.toList a b = tr (decide (a ≥ b)) by rw [h6]; rfl]
    by_cases c : b < a
    · rw [show ordI a b = 1 by unfold ordI; rw [if_neg (by omega), if_pos c]] at HO
      rw [decide_eq_true (by omega)]
      exact rbin_ge1 op 1 a 0 b 0 g1 g2 HO h6 (by decide) w
    · have hO : ordI a b ≠ 1 := by unfold ordI; rw [if_neg c]; split <;> decide
      have hh := rbin_ge2 op 1 a 0 b 0 (ordI a b) g1 g2 HO h6 (by decide) hO w
      rw [ordI_eq] at hh
      rw [show decide (a ≥ b) = (a == b) by rw [Bool.eq_iff_iff, beq_iff_eq, decide_eq_true_eq]; omega]
      exact hh
  by_cases h7 : op.toList = [43]
  · rw [show ofIntsF op.toList a b = (1, wrap64 (a + b), 0, 0) by rw [h7]; rfl]
    exact rbin_iadd op a b h7 w
  by_cases h8 : op.toList = [45]
  · rw [show ofIntsF op.toList a b = (1, wrap64 (a - b), 0, 0) by rw [h8]; rfl]
    exact rbin_isub op a b h8 w
  by_cases h9 : op.toList = [42]
  · rw [show ofIntsF op.toList a b = (1, wrap64 (a * b), 0, 0) by rw [h9]; rfl]
    exact rbin_imul op a b h9 w
  by_cases h10 : op.toList = [47]
  · by_cases z : b = 0
    · subst z
      rw [show ofIntsF op.toList a 0 = (0, 0, 0, 1) by rw [h10]; rfl]
      exact rbin_quo0 op a h10 w
    rw [show ofIntsF op.toList a b = (1, wrap64 (a.tdiv b), 0, 0) by
        rw [h10]
        show divF [47] a b = _
        rw [divF, if_neg z]
        rfl]
    by_cases s1 : a < 0
    · by_cases s2 : b < 0
      · exact rbin_quo_nn op a b ha hb ⟨s1, s2⟩ h10 w
      · exact rbin_quo_np op a b ha hb ⟨s1, by omega⟩ h10 w
    · by_cases s2 : b < 0
      · exact rbin_quo_pn op a b ha hb ⟨by omega, s2⟩ h10 w
      · exact rbin_quo_pp op a b ha hb ⟨by omega, by omega⟩ h10 w
  by_cases h11 : op.toList = [37]
  · by_cases z : b = 0
    · subst z
      rw [show ofIntsF op.toList a 0 = (0, 0, 0, 1) by rw [h11]; rfl]
      exact rbin_rem0 op a h11 w
    rw [show ofIntsF op.toList a b = (1, a.tmod b, 0, 0) by
        rw [h11]
        show divF [37] a b = _
        rw [divF, if_neg z]
        rfl]
    by_cases s1 : a < 0
    · by_cases s2 : b < 0
      · exact rbin_rem_nn op a b ha hb ⟨s1, s2⟩ h11 w
      · exact rbin_rem_np op a b ha hb ⟨s1, by omega⟩ h11 w
    · by_cases s2 : b < 0
      · exact rbin_rem_pn op a b ha hb ⟨by omega, s2⟩ h11 w
      · exact rbin_rem_pp op a b ha hb ⟨by omega, by omega⟩ h11 w
  have hn : ∀ l, l ∈ [[61, 61], [33, 61], [60], [60, 61], [62], [62, 61], [43], [45], [42], [47], [37]] → op.toList ≠ l := by
    intro l hl
    simp only [List.mem_cons, List.not_mem_nil, or_false] at hl
    rcases hl with rfl | rfl | rfl | rfl | rfl | rfl | rfl | rfl | rfl | rfl | rfl
    · exact h1
    · exact h2
    · exact h3
    · exact h5
    · exact h4
    · exact h6
    · exact h7
    · exact h8
    · exact h9
    · exact h10
    · exact h11
  rw [show ofIntsF op.toList a b = (0, 0, 0, -1) by simp [ofIntsF, compareF, matchF, noneR, h1, h2, h3, h4, h5, h6, h7, h8, h9, h10, h11]]
  exact rbin_ni op a b hn w
theorem rbin_float (op : ByteArray) (u v : Nat) (w : World) : Calls Try.prog 13 #[.string op, .agg #[.int .i64 2, .int .i64 0, .int .u64 (u : Nat)], .agg #[.int .i64 2, .int .i64 0, .int .u64 (v : Nat)]] w (Vi4 w (ofFloatsF op.toList u v)) := by
  have g1 : goodB 2 0 (u : Nat) = true := by simp [goodB]
  have g2 : goodB 2 0 (v : Nat) = true := by simp [goodB]
  have HO := fun w => order_float 0 0 u v w
  obtain ⟨o0, o1, o2⟩ := ordU_all u v
  by_cases h1 : op.toList = [61, 61]
  · have hh := rbin_eq op 2 0 (u : Nat) 0 (v : Nat) (ordU u v) g1 g2 HO h1 w
    rw [o0] at hh
    rw [show ofFloatsF op.toList u v = tr (eqF u v) by rw [h1]; rfl]
    exact hh
  by_cases h2 : op.toList = [33, 61]
  · have hh := rbin_ne op 2 0 (u : Nat) 0 (v : Nat) (ordU u v) g1 g2 HO h2 w
    rw [show (ordU u v != 0) = !(ordU u v == 0) from rfl, o0] at hh
    rw [show ofFloatsF op.toList u v = tr (!eqF u v) by rw [h2]; rfl]
    exact hh
  by_cases h3 : op.toList = [60]
  · have hh := rbin_lt op 2 0 (u : Nat) 0 (v : Nat) (ordU u v) g1 g2 HO h3 (by decide) w
    rw [o1] at hh
    rw [show ofFloatsF op.toList u v = tr (ltF u v) by rw [h3]; rfl]
    exact hh
  by_cases h4 : op.toList = [62]
  · have hh := rbin_gt op 2 0 (u : Nat) 0 (v : Nat) (ordU u v) g1 g2 HO h4 (by decide) w
    rw [o2] at hh
    rw [show ofFloatsF op.toList u v = tr (gtF u v) by rw [h4]; rfl]
    exact hh
  by_cases h5 : op.toList = [60, 61]
  · rw [show ofFloatsF op.toList u v = tr (ltF u v || eqF u v) by rw [h5]; rfl]
    cases c : ltF u v
    · have hO : ordU u v ≠ -1 := by intro e; rw [e, c] at o1; exact absurd o1 (by decide)
      have hh := rbin_le2 op 2 0 (u : Nat) 0 (v : Nat) (ordU u v) g1 g2 HO h5 (by decide) hO w
      rw [o0] at hh
      exact hh
    · rw [c] at o1
      rw [beq_iff_eq.1 o1] at HO
      exact rbin_le1 op 2 0 (u : Nat) 0 (v : Nat) g1 g2 HO h5 (by decide) w
  by_cases h6 : op.toList = [62, 61]
  · rw [show ofFloatsF op.toList u v = tr (gtF u v || eqF u v) by rw [h6]; rfl]
    cases c : gtF u v
    · have hO : ordU u v ≠ 1 := by intro e; rw [e, c] at o2; exact absurd o2 (by decide)
      have hh := rbin_ge2 op 2 0 (u : Nat) 0 (v : Nat) (ordU u v) g1 g2 HO h6 (by decide) hO w
      rw [o0] at hh
      exact hh
    · rw [c] at o2
      rw [beq_iff_eq.1 o2] at HO
      exact rbin_ge1 op 2 0 (u : Nat) 0 (v : Nat) g1 g2 HO h6 (by decide) w
  by_cases h7 : op.toList = [43]
  · rw [show ofFloatsF op.toList u v = (2, 0, ((outR .add u v : Nat) : Int), 0) by rw [h7]; rfl]
    exact rbin_fadd op u v h7 w
  by_cases h8 : op.toList = [45]
  · rw [show ofFloatsF op.toList u v = (2, 0, ((outR .sub u v : Nat) : Int), 0) by rw [h8]; rfl]
    exact rbin_fsub op u v h8 w
  by_cases h9 : op.toList = [42]
  · rw [show ofFloatsF op.toList u v = (2, 0, ((outR .mul u v : Nat) : Int), 0) by rw [h9]; rfl]
    exact rbin_fmul op u v h9 w
  by_cases h10 : op.toList = [47]
  · rw [show ofFloatsF op.toList u v = (2, 0, ((outR .quo u v : Nat) : Int), 0) by rw [h10]; rfl]
    exact rbin_fquo op u v h10 w
  have hn : ∀ l, l ∈ [[61, 61], [33, 61], [60], [60, 61], [62], [62, 61], [43], [45], [42], [47]] → op.toList ≠ l := by
    intro l hl
    simp only [List.mem_cons, List.not_mem_nil, or_false] at hl
    rcases hl with rfl | rfl | rfl | rfl | rfl | rfl | rfl | rfl | rfl | rfl
    · exact h1
    · exact h2
    · exact h3
    · exact h5
    · exact h4
    · exact h6
    · exact h7
    · exact h8
    · exact h9
    · exact h10
  rw [show ofFloatsF op.toList u v = (0, 0, 0, -1) by simp [ofFloatsF, compareF, matchF, noneR, h1, h2, h3, h4, h5, h6, h7, h8, h9, h10]]
  exact rbin_nf op u v hn w
theorem rbin_b00 (op : ByteArray) (w : World) : Calls Try.prog 13 #[.string op, .agg #[.int .i64 3, .int .i64 0, .int .u64 0], .agg #[.int .i64 3, .int .i64 0, .int .u64 0]] w (Vi4 w (ofBoolsF op.toList false false)) := by
  have HO := fun w => order_int 3 0 0 0 0 3 (by decide) w
  by_cases h1 : op.toList = [61, 61]
  · have hh := rbin_eq op 3 0 0 0 0 (ordI 0 0) (by decide) (by decide) HO h1 w
    rw [show ofBoolsF op.toList false false = (3, (ordI 0 0 == 0).toInt, 0, 0) by rw [h1]; decide]
    exact hh
  by_cases h2 : op.toList = [33, 61]
  · have hh := rbin_ne op 3 0 0 0 0 (ordI 0 0) (by decide) (by decide) HO h2 w
    rw [show ofBoolsF op.toList false false = (3, (ordI 0 0 != 0).toInt, 0, 0) by rw [h2]; decide]
    exact hh
  by_cases h3 : op.toList = [38, 38]
  · rw [show ofBoolsF op.toList false false = (3, 0, 0, 0) by rw [h3]; decide]
    exact rbin_and00 op h3 w
  by_cases h4 : op.toList = [124, 124]
  · rw [show ofBoolsF op.toList false false = (3, 0, 0, 0) by rw [h4]; decide]
    exact rbin_or00 op h4 w
  have hn : ∀ l, l ∈ [[61, 61], [33, 61], [38, 38], [124, 124]] → op.toList ≠ l := by
    intro l hl
    simp only [List.mem_cons, List.not_mem_nil, or_false] at hl
    rcases hl with rfl | rfl | rfl | rfl
    · exact h1
    · exact h2
    · exact h3
    · exact h4
  rw [show ofBoolsF op.toList false false = (0, 0, 0, -1) by simp [ofBoolsF, matchF, noneR, h1, h2, h3, h4]]
  exact rbin_nb00 op hn w
theorem rbin_b01 (op : ByteArray) (w : World) : Calls Try.prog 13 #[.string op, .agg #[.int .i64 3, .int .i64 0, .int .u64 0], .agg #[.int .i64 3, .int .i64 1, .int .u64 0]] w (Vi4 w (ofBoolsF op.toList false true)) := by
  have HO := fun w => order_int 3 0 0 1 0 3 (by decide) w
  by_cases h1 : op.toList = [61, 61]
  · have hh := rbin_eq op 3 0 0 1 0 (ordI 0 1) (by decide) (by decide) HO h1 w
    rw [show ofBoolsF op.toList false true = (3, (ordI 0 1 == 0).toInt, 0, 0) by rw [h1]; decide]
    exact hh
  by_cases h2 : op.toList = [33, 61]
  · have hh := rbin_ne op 3 0 0 1 0 (ordI 0 1) (by decide) (by decide) HO h2 w
    rw [show ofBoolsF op.toList false true = (3, (ordI 0 1 != 0).toInt, 0, 0) by rw [h2]; decide]
    exact hh
  by_cases h3 : op.toList = [38, 38]
  · rw [show ofBoolsF op.toList false true = (3, 0, 0, 0) by rw [h3]; decide]
    exact rbin_and01 op h3 w
  by_cases h4 : op.toList = [124, 124]
  · rw [show ofBoolsF op.toList false true = (3, 1, 0, 0) by rw [h4]; decide]
    exact rbin_or01 op h4 w
  have hn : ∀ l, l ∈ [[61, 61], [33, 61], [38, 38], [124, 124]] → op.toList ≠ l := by
    intro l hl
    simp only [List.mem_cons, List.not_mem_nil, or_false] at hl
    rcases hl with rfl | rfl | rfl | rfl
    · exact h1
    · exact h2
    · exact h3
    · exact h4
  rw [show ofBoolsF op.toList false true = (0, 0, 0, -1) by simp [ofBoolsF, matchF, noneR, h1, h2, h3, h4]]
  exact rbin_nb01 op hn w
theorem rbin_b10 (op : ByteArray) (w : World) : Calls Try.prog 13 #[.string op, .agg #[.int .i64 3, .int .i64 1, .int .u64 0], .agg #[.int .i64 3, .int .i64 0, .int .u64 0]] w (Vi4 w (ofBoolsF op.toList true false)) := by
  have HO := fun w => order_int 3 1 0 0 0 3 (by decide) w
  by_cases h1 : op.toList = [61, 61]
  · have hh := rbin_eq op 3 1 0 0 0 (ordI 1 0) (by decide) (by decide) HO h1 w
    rw [show ofBoolsF op.toList true false = (3, (ordI 1 0 == 0).toInt, 0, 0) by rw [h1]; decide]
    exact hh
  by_cases h2 : op.toList = [33, 61]
  · have hh := rbin_ne op 3 1 0 0 0 (ordI 1 0) (by decide) (by decide) HO h2 w
    rw [show ofBoolsF op.toList true false = (3, (ordI 1 0 != 0).toInt, 0, 0) by rw [h2]; decide]
    exact hh
  by_cases h3 : op.toList = [38, 38]
  · rw [show ofBoolsF op.toList true false = (3, 0, 0, 0) by rw [h3]; decide]
    exact rbin_and10 op h3 w
  by_cases h4 : op.toList = [124, 124]
  · rw [show ofBoolsF op.toList true false = (3, 1, 0, 0) by rw [h4]; decide]
    exact rbin_or10 op h4 w
  have hn : ∀ l, l ∈ [[61, 61], [33, 61], [38, 38], [124, 124]] → op.toList ≠ l := by
    intro l hl
    simp only [List.mem_cons, List.not_mem_nil, or_false] at hl
    rcases hl with rfl | rfl | rfl | rfl
    · exact h1
    · exact h2
    · exact h3
    · exact h4
  rw [show ofBoolsF op.toList true false = (0, 0, 0, -1) by simp [ofBoolsF, matchF, noneR, h1, h2, h3, h4]]
  exact rbin_nb10 op hn w
theorem rbin_b11 (op : ByteArray) (w : World) : Calls Try.prog 13 #[.string op, .agg #[.int .i64 3, .int .i64 1, .int .u64 0], .agg #[.int .i64 3, .int .i64 1, .int .u64 0]] w (Vi4 w (ofBoolsF op.toList true true)) := by
  have HO := fun w => order_int 3 1 0 1 0 3 (by decide) w
  by_cases h1 : op.toList = [61, 61]
  · have hh := rbin_eq op 3 1 0 1 0 (ordI 1 1) (by decide) (by decide) HO h1 w
    rw [show ofBoolsF op.toList true true = (3, (ordI 1 1 == 0).toInt, 0, 0) by rw [h1]; decide]
    exact hh
  by_cases h2 : op.toList = [33, 61]
  · have hh := rbin_ne op 3 1 0 1 0 (ordI 1 1) (by decide) (by decide) HO h2 w
    rw [show ofBoolsF op.toList true true = (3, (ordI 1 1 != 0).toInt, 0, 0) by rw [h2]; decide]
    exact hh
  by_cases h3 : op.toList = [38, 38]
  · rw [show ofBoolsF op.toList true true = (3, 1, 0, 0) by rw [h3]; decide]
    exact rbin_and11 op h3 w
  by_cases h4 : op.toList = [124, 124]
  · rw [show ofBoolsF op.toList true true = (3, 1, 0, 0) by rw [h4]; decide]
    exact rbin_or11 op h4 w
  have hn : ∀ l, l ∈ [[61, 61], [33, 61], [38, 38], [124, 124]] → op.toList ≠ l := by
    intro l hl
    simp only [List.mem_cons, List.not_mem_nil, or_false] at hl
    rcases hl with rfl | rfl | rfl | rfl
    · exact h1
    · exact h2
    · exact h3
    · exact h4
  rw [show ofBoolsF op.toList true true = (0, 0, 0, -1) by simp [ofBoolsF, matchF, noneR, h1, h2, h3, h4]]
  exact rbin_nb11 op hn w
theorem rbin_any (op : ByteArray) (t n b t' n' b' : Int) (h1 : -9223372036854775808 ≤ n ∧ n ≤ 9223372036854775807) (h2 : -9223372036854775808 ≤ n' ∧ n' ≤ 9223372036854775807) (h3 : 0 ≤ b ∧ b ≤ 18446744073709551615) (h4 : 0 ≤ b' ∧ b' ≤ 18446744073709551615) (w : World) :
    Calls Try.prog 13 #[.string op, .agg #[.int .i64 t, .int .i64 n, .int .u64 b], .agg #[.int .i64 t', .int .i64 n', .int .u64 b']] w (Vi4 w (binF op.toList t n b t' n' b')) := by
  cases hg : goodB t n b
  · rw [show binF op.toList t n b t' n' b' = (0, 0, 0, -1) by simp [binF, hg, noneR]]
    exact rbin_no1 op t n b t' n' b' hg w
  cases hh : goodB t' n' b'
  · rw [show binF op.toList t n b t' n' b' = (0, 0, 0, -1) by simp [binF, hh, noneR]]
    exact rbin_no2 op t n b t' n' b' hg hh w
  by_cases ht : t = t'
  case neg =>
    rw [show binF op.toList t n b t' n' b' = (0, 0, 0, -1) by simp [binF, ht, noneR]]
    exact rbin_no3 op t n b t' n' b' hg hh ht w
  subst ht
  have e : binF op.toList t n b t n' b' = (if t = 1 then ofIntsF op.toList n n' else if t = 2 then ofFloatsF op.toList b.toNat b'.toNat else ofBoolsF op.toList (t == 3 && n == 1) (t == 3 && n' == 1)) := by
    rw [binF, if_pos ⟨hg, hh, rfl⟩]
  rw [e]
  clear e
  rcases good_cases hg with ⟨rfl, rfl⟩ | ⟨rfl, rfl⟩ | ⟨rfl, rfl, rfl⟩ | ⟨rfl, rfl, rfl⟩
  · rcases good_cases hh with ⟨_, rfl⟩ | ⟨h, _⟩ | ⟨h, _⟩ | ⟨h, _⟩
    · exact rbin_int op n n' h1 h2 w
    all_goals cases h
  · rcases good_cases hh with ⟨h, _⟩ | ⟨_, rfl⟩ | ⟨h, _⟩ | ⟨h, _⟩
    · cases h
    · obtain ⟨u, rfl⟩ : ∃ u : Nat, b = (u : Int) := ⟨b.toNat, by omega⟩
      obtain ⟨v, rfl⟩ : ∃ u : Nat, b' = (u : Int) := ⟨b'.toNat, by omega⟩
      exact rbin_float op u v w
    all_goals cases h
  · rcases good_cases hh with ⟨h, _⟩ | ⟨h, _⟩ | ⟨_, rfl, rfl⟩ | ⟨_, rfl, rfl⟩
    · cases h
    · cases h
    · exact rbin_b00 op w
    · exact rbin_b01 op w
  · rcases good_cases hh with ⟨h, _⟩ | ⟨h, _⟩ | ⟨_, rfl, rfl⟩ | ⟨_, rfl, rfl⟩
    · cases h
    · cases h
    · exact rbin_b10 op w
    · exact rbin_b11 op w
end Go.Proofs.Ytmdfciiejenpnaa.Ck
