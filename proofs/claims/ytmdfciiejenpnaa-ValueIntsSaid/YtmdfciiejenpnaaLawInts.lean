/- The walk of the statement ValueInts: it answers true. (Written by mk_l.py.) -/
import Derived.Test.YtmdfciiejenpnaaV9
namespace Go.Proofs.Ytmdfciiejenpnaa.Ck
open Go.RowKit

theorem bi (op : List UInt8) (a b : Int) : binF op 1 a 0 1 b 0 = ofIntsF op a b := by simp [binF, goodB]
theorem wr64 (n : Int) : (∃ k, wrap64 n = n + 18446744073709551616 * k) ∧ -9223372036854775808 ≤ wrap64 n ∧ wrap64 n ≤ 9223372036854775807 := by
  unfold wrap64
  exact ⟨⟨-((n + 9223372036854775808) / 18446744073709551616), by omega⟩, by omega, by omega⟩
theorem wr_eq {x a : Int} (h : -9223372036854775808 ≤ a ∧ a ≤ 9223372036854775807) (k : Int) (e : x = a + 18446744073709551616 * k) : wrap64 x = a := by
  unfold wrap64
  omega
theorem bi_add (a b : Int) : binF (⟨#[43]⟩ : ByteArray).toList 1 a 0 1 b 0 = (1, wrap64 (a + b), 0, 0) := by rw [bi, show (⟨#[43]⟩ : ByteArray).toList = [43] by decide +kernel]; rfl
theorem bi_sub (a b : Int) : binF (⟨#[45]⟩ : ByteArray).toList 1 a 0 1 b 0 = (1, wrap64 (a - b), 0, 0) := by rw [bi, show (⟨#[45]⟩ : ByteArray).toList = [45] by decide +kernel]; rfl
theorem bi_mul (a b : Int) : binF (⟨#[42]⟩ : ByteArray).toList 1 a 0 1 b 0 = (1, wrap64 (a * b), 0, 0) := by rw [bi, show (⟨#[42]⟩ : ByteArray).toList = [42] by decide +kernel]; rfl
theorem bi_quo (a b : Int) (h : b ≠ 0) : binF (⟨#[47]⟩ : ByteArray).toList 1 a 0 1 b 0 = (1, wrap64 (a.tdiv b), 0, 0) := by
  rw [bi, show (⟨#[47]⟩ : ByteArray).toList = [47] by decide +kernel]
  show divF [47] a b = _
  rw [divF, if_neg h]; rfl
theorem bi_rem (a b : Int) (h : b ≠ 0) : binF (⟨#[37]⟩ : ByteArray).toList 1 a 0 1 b 0 = (1, a.tmod b, 0, 0) := by
  rw [bi, show (⟨#[37]⟩ : ByteArray).toList = [37] by decide +kernel]
  show divF [37] a b = _
  rw [divF, if_neg h]; rfl
theorem bi_quo0 (a : Int) : binF (⟨#[47]⟩ : ByteArray).toList 1 a 0 1 0 0 = (0, 0, 0, 1) := by rw [bi, show (⟨#[47]⟩ : ByteArray).toList = [47] by decide +kernel]; rfl
theorem bi_rem0 (a : Int) : binF (⟨#[37]⟩ : ByteArray).toList 1 a 0 1 0 0 = (0, 0, 0, 1) := by rw [bi, show (⟨#[37]⟩ : ByteArray).toList = [37] by decide +kernel]; rfl
theorem back_add {a : Int} (ha : -9223372036854775808 ≤ a ∧ a ≤ 9223372036854775807) (b : Int) : wrap64 (wrap64 (a + b) - b) = a := by
  obtain ⟨⟨k, e⟩, _⟩ := wr64 (a + b)
  exact wr_eq ha k (by omega)
theorem back_quo {a : Int} (ha : -9223372036854775808 ≤ a ∧ a ≤ 9223372036854775807) (b : Int) : wrap64 (wrap64 (wrap64 (a.tdiv b) * b) + a.tmod b) = a := by
  obtain ⟨⟨k, e⟩, _⟩ := wr64 (a.tdiv b)
  obtain ⟨⟨l, f⟩, _⟩ := wr64 (wrap64 (a.tdiv b) * b)
  refine wr_eq ha (k * b + l) ?_
  rw [f, e]
  have := Int.tdiv_mul_add_tmod a b
  have h2 : (a.tdiv b + 18446744073709551616 * k) * b = a.tdiv b * b + 18446744073709551616 * (k * b) := by rw [Int.add_mul, Int.mul_assoc]
  rw [h2]
  omega
theorem sign_rem (a b : Int) : (a.tmod b == 0 || (decide (a.tmod b < 0) == decide (a < 0))) = true := by
  by_cases ha : a < 0
  · by_cases h : a.tmod b = 0
    · simp [h]
    · have h1 : (-a).tmod b = -(a.tmod b) := Int.neg_tmod a b
      have h2 : 0 ≤ (-a).tmod b := Int.tmod_nonneg b (by omega)
      simp [ha]
      right; omega
  · have h2 : 0 ≤ a.tmod b := Int.tmod_nonneg b (by omega)
    simp [ha]
    right; omega
set_option maxRecDepth 20000 in
set_option maxHeartbeats 2000000 in
theorem ints_zero (a : Int) (ha : -9223372036854775808 ≤ a ∧ a ≤ 9223372036854775807) (w : World) : Calls Try.prog 6 #[.int .i64 a, .int .i64 0] w (Vb w (.bool true)) := by
  obtain ⟨S_, es⟩ : ∃ s, wrap64 (a + 0) = s := ⟨_, rfl⟩
  have H1 : ∀ w, Calls Try.prog 12 #[.string ⟨#[43]⟩, .agg #[.int .i64 1, .int .i64 a, .int .u64 0], .agg #[.int .i64 1, .int .i64 0, .int .u64 0]] w (Vi4 w (1, S_, 0, 0)) := fun w => by
    have h := binary_any ⟨#[43]⟩ 1 a 0 1 0 0 w
    rw [show binF (⟨#[43]⟩ : ByteArray).toList 1 a 0 1 0 0 = (1, S_, 0, 0) from (bi_add a 0).trans (by rw [es])] at h
    exact h
  have H2 : ∀ w, Calls Try.prog 12 #[.string ⟨#[45]⟩, .agg #[.int .i64 1, .int .i64 S_, .int .u64 0], .agg #[.int .i64 1, .int .i64 0, .int .u64 0]] w (Vi4 w (1, a, 0, 0)) := fun w => by
    have h := binary_any ⟨#[45]⟩ 1 S_ 0 1 0 0 w
    rw [show binF (⟨#[45]⟩ : ByteArray).toList 1 S_ 0 1 0 0 = (1, a, 0, 0) from (bi_sub S_ 0).trans (by rw [← es, back_add ha])] at h
    exact h
  have H3 : ∀ w, Calls Try.prog 12 #[.string ⟨#[47]⟩, .agg #[.int .i64 1, .int .i64 a, .int .u64 0], .agg #[.int .i64 1, .int .i64 0, .int .u64 0]] w (Vi4 w (0, 0, 0, 1)) := fun w => by
    have h := binary_any ⟨#[47]⟩ 1 a 0 1 0 0 w
    rw [show binF (⟨#[47]⟩ : ByteArray).toList 1 a 0 1 0 0 = (0, 0, 0, 1) from bi_quo0 a] at h
    exact h
  have H4 : ∀ w, Calls Try.prog 12 #[.string ⟨#[37]⟩, .agg #[.int .i64 1, .int .i64 a, .int .u64 0], .agg #[.int .i64 1, .int .i64 0, .int .u64 0]] w (Vi4 w (0, 0, 0, 1)) := fun w => by
    have h := binary_any ⟨#[37]⟩ 1 a 0 1 0 0 w
    rw [show binF (⟨#[37]⟩ : ByteArray).toList 1 a 0 1 0 0 = (0, 0, 0, 1) from bi_rem0 a] at h
    exact h
  have NV := neq_vv
  have EV := eq_vv
  have HA := hide ha
  clear es ha
  go_enter Try.func6, Try.ntmps6
  go_wp2_with fail
  refine (alive_any _).mono ?_
  rintro e w1 ⟨rfl, hb⟩
  have B : Hid (Below w.heap.size w w1) := hide (hb)
  clear hb
  go_wp2_with fail
  refine (int_any _ _).mono ?_
  rintro e w2 ⟨rfl, hb⟩
  replace B : Hid (Below w.heap.size w w2) := hide (bel_trans B.out hb)
  clear hb
  go_wp2_with fail
  refine (int_any _ _).mono ?_
  rintro e w3 ⟨rfl, hb⟩
  replace B : Hid (Below w.heap.size w w3) := hide (bel_trans B.out hb)
  clear hb
  go_wp2_with fail
  refine (H1 _).mono ?_
  rintro e w4 ⟨rfl, hb⟩
  have X := hide (((Val.new w3 1 a 0).al (bel_new _ _)).al hb)
  have q := (Val.new (w3.alloc (.cells #[.int .i64 1, .int .i64 a, .int .u64 0] 24)) 1 0 0).al hb
  rw [show (w3.alloc (.cells #[.int .i64 1, .int .i64 a, .int .u64 0] 24)).heap.size = w3.heap.size + 1 by simp] at q
  have Y := hide q
  clear q
  replace B : Hid (Below w.heap.size w w4) := hide (bel_trans (bel_al (bel_al B.out _) _) hb)
  clear hb
  obtain ⟨xc0, xc1, xc2⟩ := X.out.all.2
  have xcl := X.out.lt
  obtain ⟨yc0, yc1, yc2⟩ := Y.out.all.2
  have ycl := Y.out.lt
  go_wp2_with fail
  refine (H2 _).mono ?_
  rintro e w5 ⟨rfl, hb⟩
  replace X := hide (X.out.al (bel_trans (bel_new _ _) hb))
  replace Y := hide (Y.out.al (bel_trans (bel_new _ _) hb))
  have S := hide ((Val.new w4 1 S_ 0).al hb)
  replace B : Hid (Below w.heap.size w w5) := hide (bel_trans (bel_al B.out _) hb)
  clear hb xc0 xc1 xc2 xcl yc0 yc1 yc2 ycl
  obtain ⟨xc0, xc1, xc2⟩ := X.out.all.2
  have xcl := X.out.lt
  obtain ⟨yc0, yc1, yc2⟩ := Y.out.all.2
  have ycl := Y.out.lt
  go_wp2_with fail
  refine (H3 _).mono ?_
  rintro e w6 ⟨rfl, hb⟩
  replace X := hide (X.out.al (bel_trans (bel_new _ _) hb))
  replace Y := hide (Y.out.al (bel_trans (bel_new _ _) hb))
  replace S := hide (S.out.al (bel_trans (bel_new _ _) hb))
  have D := hide ((Val.new w5 1 a 0).al hb)
  replace B : Hid (Below w.heap.size w w6) := hide (bel_trans (bel_al B.out _) hb)
  clear hb xc0 xc1 xc2 xcl yc0 yc1 yc2 ycl
  obtain ⟨xc0, xc1, xc2⟩ := X.out.all.2
  have xcl := X.out.lt
  obtain ⟨yc0, yc1, yc2⟩ := Y.out.all.2
  have ycl := Y.out.lt
  go_wp2_with fail
  refine (H4 _).mono ?_
  rintro e w7 ⟨rfl, hb⟩
  replace X := hide (X.out.al (bel_trans (bel_new _ _) hb))
  replace Y := hide (Y.out.al (bel_trans (bel_new _ _) hb))
  replace S := hide (S.out.al (bel_trans (bel_new _ _) hb))
  replace D := hide (D.out.al (bel_trans (bel_new _ _) hb))
  have Q := hide ((Val.new w6 0 0 0).al hb)
  replace B : Hid (Below w.heap.size w w7) := hide (bel_trans (bel_al B.out _) hb)
  clear hb xc0 xc1 xc2 xcl yc0 yc1 yc2 ycl
  go_wp2_with fail
  go_ret
  exact Vb.mk (rfl) (bel_al B.out _)
set_option maxRecDepth 20000 in
set_option maxHeartbeats 2000000 in
theorem ints_some (a b : Int) (ha : -9223372036854775808 ≤ a ∧ a ≤ 9223372036854775807) (hn : b ≠ 0) (w : World) : Calls Try.prog 6 #[.int .i64 a, .int .i64 b] w (Vb w (.bool true)) := by
  obtain ⟨S_, es⟩ : ∃ s, wrap64 (a + b) = s := ⟨_, rfl⟩
  obtain ⟨Q_, eq⟩ : ∃ s, wrap64 (a.tdiv b) = s := ⟨_, rfl⟩
  obtain ⟨R_, er⟩ : ∃ s, a.tmod b = s := ⟨_, rfl⟩
  obtain ⟨P_, ep⟩ : ∃ s, wrap64 (Q_ * b) = s := ⟨_, rfl⟩
  have SR := sign_rem a b
  rw [er] at SR
  have H1 : ∀ w, Calls Try.prog 12 #[.string ⟨#[43]⟩, .agg #[.int .i64 1, .int .i64 a, .int .u64 0], .agg #[.int .i64 1, .int .i64 b, .int .u64 0]] w (Vi4 w (1, S_, 0, 0)) := fun w => by
    have h := binary_any ⟨#[43]⟩ 1 a 0 1 b 0 w
    rw [show binF (⟨#[43]⟩ : ByteArray).toList 1 a 0 1 b 0 = (1, S_, 0, 0) from (bi_add a b).trans (by rw [es])] at h
    exact h
  have H2 : ∀ w, Calls Try.prog 12 #[.string ⟨#[45]⟩, .agg #[.int .i64 1, .int .i64 S_, .int .u64 0], .agg #[.int .i64 1, .int .i64 b, .int .u64 0]] w (Vi4 w (1, a, 0, 0)) := fun w => by
    have h := binary_any ⟨#[45]⟩ 1 S_ 0 1 b 0 w
    rw [show binF (⟨#[45]⟩ : ByteArray).toList 1 S_ 0 1 b 0 = (1, a, 0, 0) from (bi_sub S_ b).trans (by rw [← es, back_add ha])] at h
    exact h
  have H3 : ∀ w, Calls Try.prog 12 #[.string ⟨#[47]⟩, .agg #[.int .i64 1, .int .i64 a, .int .u64 0], .agg #[.int .i64 1, .int .i64 b, .int .u64 0]] w (Vi4 w (1, Q_, 0, 0)) := fun w => by
    have h := binary_any ⟨#[47]⟩ 1 a 0 1 b 0 w
    rw [show binF (⟨#[47]⟩ : ByteArray).toList 1 a 0 1 b 0 = (1, Q_, 0, 0) from (bi_quo a b hn).trans (by rw [eq])] at h
    exact h
  have H4 : ∀ w, Calls Try.prog 12 #[.string ⟨#[37]⟩, .agg #[.int .i64 1, .int .i64 a, .int .u64 0], .agg #[.int .i64 1, .int .i64 b, .int .u64 0]] w (Vi4 w (1, R_, 0, 0)) := fun w => by
    have h := binary_any ⟨#[37]⟩ 1 a 0 1 b 0 w
    rw [show binF (⟨#[37]⟩ : ByteArray).toList 1 a 0 1 b 0 = (1, R_, 0, 0) from (bi_rem a b hn).trans (by rw [er])] at h
    exact h
  have H5 : ∀ w, Calls Try.prog 12 #[.string ⟨#[42]⟩, .agg #[.int .i64 1, .int .i64 Q_, .int .u64 0], .agg #[.int .i64 1, .int .i64 b, .int .u64 0]] w (Vi4 w (1, P_, 0, 0)) := fun w => by
    have h := binary_any ⟨#[42]⟩ 1 Q_ 0 1 b 0 w
    rw [show binF (⟨#[42]⟩ : ByteArray).toList 1 Q_ 0 1 b 0 = (1, P_, 0, 0) from (bi_mul Q_ b).trans (by rw [ep])] at h
    exact h
  have H6 : ∀ w, Calls Try.prog 12 #[.string ⟨#[43]⟩, .agg #[.int .i64 1, .int .i64 P_, .int .u64 0], .agg #[.int .i64 1, .int .i64 R_, .int .u64 0]] w (Vi4 w (1, a, 0, 0)) := fun w => by
    have h := binary_any ⟨#[43]⟩ 1 P_ 0 1 R_ 0 w
    rw [show binF (⟨#[43]⟩ : ByteArray).toList 1 P_ 0 1 R_ 0 = (1, a, 0, 0) from (bi_add P_ R_).trans (by rw [← ep, ← eq, ← er, back_quo ha])] at h
    exact h
  have NV := neq_vv
  have EV := eq_vv
  have HA := hide ha
  have HN := hide hn
  have hn' : (b == 0) = false := by simpa using hn
  have HS := hide SR
  clear es eq er ep ha hn SR
  go_enter Try.func6, Try.ntmps6
  go_wp2_with fail
  refine (alive_any _).mono ?_
  rintro e w1 ⟨rfl, hb⟩
  have B : Hid (Below w.heap.size w w1) := hide (hb)
  clear hb
  go_wp2_with fail
  refine (int_any _ _).mono ?_
  rintro e w2 ⟨rfl, hb⟩
  replace B : Hid (Below w.heap.size w w2) := hide (bel_trans B.out hb)
  clear hb
  go_wp2_with fail
  refine (int_any _ _).mono ?_
  rintro e w3 ⟨rfl, hb⟩
  replace B : Hid (Below w.heap.size w w3) := hide (bel_trans B.out hb)
  clear hb
  go_wp2_with fail
  refine (H1 _).mono ?_
  rintro e w4 ⟨rfl, hb⟩
  have X := hide (((Val.new w3 1 a 0).al (bel_new _ _)).al hb)
  have q := (Val.new (w3.alloc (.cells #[.int .i64 1, .int .i64 a, .int .u64 0] 24)) 1 b 0).al hb
  rw [show (w3.alloc (.cells #[.int .i64 1, .int .i64 a, .int .u64 0] 24)).heap.size = w3.heap.size + 1 by simp] at q
  have Y := hide q
  clear q
  replace B : Hid (Below w.heap.size w w4) := hide (bel_trans (bel_al (bel_al B.out _) _) hb)
  clear hb
  obtain ⟨xc0, xc1, xc2⟩ := X.out.all.2
  have xcl := X.out.lt
  obtain ⟨yc0, yc1, yc2⟩ := Y.out.all.2
  have ycl := Y.out.lt
  go_wp2_with fail
  refine (H2 _).mono ?_
  rintro e w5 ⟨rfl, hb⟩
  replace X := hide (X.out.al (bel_trans (bel_new _ _) hb))
  replace Y := hide (Y.out.al (bel_trans (bel_new _ _) hb))
  have S := hide ((Val.new w4 1 S_ 0).al hb)
  replace B : Hid (Below w.heap.size w w5) := hide (bel_trans (bel_al B.out _) hb)
  clear hb xc0 xc1 xc2 xcl yc0 yc1 yc2 ycl
  obtain ⟨xc0, xc1, xc2⟩ := X.out.all.2
  have xcl := X.out.lt
  obtain ⟨yc0, yc1, yc2⟩ := Y.out.all.2
  have ycl := Y.out.lt
  go_wp2_with fail
  refine (H3 _).mono ?_
  rintro e w6 ⟨rfl, hb⟩
  replace X := hide (X.out.al (bel_trans (bel_new _ _) hb))
  replace Y := hide (Y.out.al (bel_trans (bel_new _ _) hb))
  replace S := hide (S.out.al (bel_trans (bel_new _ _) hb))
  have D := hide ((Val.new w5 1 a 0).al hb)
  replace B : Hid (Below w.heap.size w w6) := hide (bel_trans (bel_al B.out _) hb)
  clear hb xc0 xc1 xc2 xcl yc0 yc1 yc2 ycl
  obtain ⟨xc0, xc1, xc2⟩ := X.out.all.2
  have xcl := X.out.lt
  obtain ⟨yc0, yc1, yc2⟩ := Y.out.all.2
  have ycl := Y.out.lt
  go_wp2_with fail
  refine (H4 _).mono ?_
  rintro e w7 ⟨rfl, hb⟩
  replace X := hide (X.out.al (bel_trans (bel_new _ _) hb))
  replace Y := hide (Y.out.al (bel_trans (bel_new _ _) hb))
  replace S := hide (S.out.al (bel_trans (bel_new _ _) hb))
  replace D := hide (D.out.al (bel_trans (bel_new _ _) hb))
  have Q := hide ((Val.new w6 1 Q_ 0).al hb)
  replace B : Hid (Below w.heap.size w w7) := hide (bel_trans (bel_al B.out _) hb)
  clear hb xc0 xc1 xc2 xcl yc0 yc1 yc2 ycl
  obtain ⟨yc0, yc1, yc2⟩ := Y.out.all.2
  have ycl := Y.out.lt
  obtain ⟨qc0, qc1, qc2⟩ := Q.out.all.2
  have qcl := Q.out.lt
  go_wp2_with fail
  refine (H5 _).mono ?_
  rintro e w8 ⟨rfl, hb⟩
  replace X := hide (X.out.al (bel_trans (bel_new _ _) hb))
  replace Y := hide (Y.out.al (bel_trans (bel_new _ _) hb))
  replace S := hide (S.out.al (bel_trans (bel_new _ _) hb))
  replace D := hide (D.out.al (bel_trans (bel_new _ _) hb))
  replace Q := hide (Q.out.al (bel_trans (bel_new _ _) hb))
  have R := hide ((Val.new w7 1 R_ 0).al hb)
  replace B : Hid (Below w.heap.size w w8) := hide (bel_trans (bel_al B.out _) hb)
  clear hb yc0 yc1 yc2 ycl qc0 qc1 qc2 qcl
  obtain ⟨rc0, rc1, rc2⟩ := R.out.all.2
  have rcl := R.out.lt
  go_wp2_with fail
  refine (H6 _).mono ?_
  rintro e w9 ⟨rfl, hb⟩
  replace X := hide (X.out.al (bel_trans (bel_new _ _) hb))
  replace Y := hide (Y.out.al (bel_trans (bel_new _ _) hb))
  replace S := hide (S.out.al (bel_trans (bel_new _ _) hb))
  replace D := hide (D.out.al (bel_trans (bel_new _ _) hb))
  replace Q := hide (Q.out.al (bel_trans (bel_new _ _) hb))
  replace R := hide (R.out.al (bel_trans (bel_new _ _) hb))
  have P := hide ((Val.new w8 1 P_ 0).al hb)
  replace B : Hid (Below w.heap.size w w9) := hide (bel_trans (bel_al B.out _) hb)
  clear hb rc0 rc1 rc2 rcl
  obtain ⟨xc0, xc1, xc2⟩ := X.out.all.2
  have xcl := X.out.lt
  obtain ⟨rc0, rc1, rc2⟩ := R.out.all.2
  have rcl := R.out.lt
  go_wp2_with fail
  all_goals
    go_ret
    first | exact Vb.mk rfl (bel_al B.out _) | exact Vb.mk (congrArg Value.bool HS.out) (bel_al B.out _)
theorem ints_main (a b : Int) (ha : -9223372036854775808 ≤ a ∧ a ≤ 9223372036854775807) (w : World) : Calls Try.prog 6 #[.int .i64 a, .int .i64 b] w (Vb w (.bool true)) := by
  by_cases h : b = 0
  · subst h; exact ints_zero a ha w
  · exact ints_some a b ha h w
end Go.Proofs.Ytmdfciiejenpnaa.Ck
