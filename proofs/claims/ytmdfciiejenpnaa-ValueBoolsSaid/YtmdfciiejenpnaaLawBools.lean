/- The walk of the statement ValueBools: it answers true. (Written by mk_l.py.) -/
import Derived.Test.YtmdfciiejenpnaaV9
namespace Go.Proofs.Ytmdfciiejenpnaa.Ck
open Go.RowKit

theorem bl0 (a b : Bool) : binF (⟨#[38, 38]⟩ : ByteArray).toList 3 a.toInt 0 3 b.toInt 0 = (3, (a && b).toInt, 0, 0) := by cases a <;> cases b <;> decide +kernel
theorem bl1 (a b : Bool) : binF (⟨#[124, 124]⟩ : ByteArray).toList 3 a.toInt 0 3 b.toInt 0 = (3, (a || b).toInt, 0, 0) := by cases a <;> cases b <;> decide +kernel
theorem bl2 (a b : Bool) : binF (⟨#[61, 61]⟩ : ByteArray).toList 3 a.toInt 0 3 b.toInt 0 = (3, (a == b).toInt, 0, 0) := by cases a <;> cases b <;> decide +kernel
theorem bl3 (a : Bool) : unF (⟨#[33]⟩ : ByteArray).toList 3 a.toInt 0 = (3, (!a).toInt, 0, 0) := by cases a <;> decide +kernel
set_option maxRecDepth 20000 in
set_option maxHeartbeats 2000000 in
theorem bools_00 (w : World) : Calls Try.prog 8 #[.bool false, .bool false] w (Vb w (.bool true)) := by
  have H1 : ∀ w, Calls Try.prog 12 #[.string ⟨#[38, 38]⟩, .agg #[.int .i64 3, .int .i64 0, .int .u64 0], .agg #[.int .i64 3, .int .i64 0, .int .u64 0]] w (Vi4 w (3, 0, 0, 0)) := fun w => by
    have h := binary_any ⟨#[38, 38]⟩ 3 0 0 3 0 0 w
    rw [show binF (⟨#[38, 38]⟩ : ByteArray).toList 3 0 0 3 0 0 = (3, 0, 0, 0) from bl0 false false] at h
    exact h
  have H2 : ∀ w, Calls Try.prog 12 #[.string ⟨#[124, 124]⟩, .agg #[.int .i64 3, .int .i64 0, .int .u64 0], .agg #[.int .i64 3, .int .i64 0, .int .u64 0]] w (Vi4 w (3, 0, 0, 0)) := fun w => by
    have h := binary_any ⟨#[124, 124]⟩ 3 0 0 3 0 0 w
    rw [show binF (⟨#[124, 124]⟩ : ByteArray).toList 3 0 0 3 0 0 = (3, 0, 0, 0) from bl1 false false] at h
    exact h
  have H4 : ∀ w, Calls Try.prog 12 #[.string ⟨#[61, 61]⟩, .agg #[.int .i64 3, .int .i64 0, .int .u64 0], .agg #[.int .i64 3, .int .i64 0, .int .u64 0]] w (Vi4 w (3, 1, 0, 0)) := fun w => by
    have h := binary_any ⟨#[61, 61]⟩ 3 0 0 3 0 0 w
    rw [show binF (⟨#[61, 61]⟩ : ByteArray).toList 3 0 0 3 0 0 = (3, 1, 0, 0) from bl2 false false] at h
    exact h
  have H3 : ∀ w, Calls Try.prog 10 #[.string ⟨#[33]⟩, .agg #[.int .i64 3, .int .i64 0, .int .u64 0]] w (Vi4 w (3, 1, 0, 0)) := fun w => by
    have h := unary_any ⟨#[33]⟩ 3 0 0 (by decide) w
    rw [show unF (⟨#[33]⟩ : ByteArray).toList 3 0 0 = (3, 1, 0, 0) from bl3 false] at h
    exact h
  go_enter Try.func8, Try.ntmps8
  go_wp2_with fail
  refine (alive_any _).mono ?_
  rintro e w1 ⟨rfl, hb⟩
  have B : Hid (Below w.heap.size w w1) := hide (hb)
  clear hb
  go_wp2_with fail
  refine (bool_any _ _).mono ?_
  rintro e w2 ⟨rfl, hb⟩
  replace B : Hid (Below w.heap.size w w2) := hide (bel_trans B.out hb)
  clear hb
  go_wp2_with fail
  refine (bool_any _ _).mono ?_
  rintro e w3 ⟨rfl, hb⟩
  replace B : Hid (Below w.heap.size w w3) := hide (bel_trans B.out hb)
  clear hb
  go_wp2_with fail
  refine (H1 _).mono ?_
  rintro e w4 ⟨rfl, hb⟩
  have X := hide (((Val.new w3 3 0 0).al (bel_new _ _)).al hb)
  have q := (Val.new (w3.alloc (.cells #[.int .i64 3, .int .i64 0, .int .u64 0] 24)) 3 0 0).al hb
  rw [show (w3.alloc (.cells #[.int .i64 3, .int .i64 0, .int .u64 0] 24)).heap.size = w3.heap.size + 1 by simp] at q
  have Y := hide q
  clear q
  replace B : Hid (Below w.heap.size w w4) := hide (bel_trans (bel_al (bel_al B.out _) _) hb)
  clear hb
  obtain ⟨xc0, xc1, xc2⟩ := X.out.all.2
  have xcl := X.out.lt
  obtain ⟨yc0, yc1, yc2⟩ := Y.out.all.2
  have ycl := Y.out.lt
  go_wp2_with fail
  refine (H2 _).mono ?_
  rintro e w5 ⟨rfl, hb⟩
  replace X := hide (X.out.al (bel_trans (bel_new _ _) hb))
  replace Y := hide (Y.out.al (bel_trans (bel_new _ _) hb))
  have An := hide ((Val.new w4 3 0 0).al hb)
  replace B : Hid (Below w.heap.size w w5) := hide (bel_trans (bel_al B.out _) hb)
  clear hb xc0 xc1 xc2 xcl yc0 yc1 yc2 ycl
  obtain ⟨xc0, xc1, xc2⟩ := X.out.all.2
  have xcl := X.out.lt
  obtain ⟨yc0, yc1, yc2⟩ := Y.out.all.2
  have ycl := Y.out.lt
  go_wp2_with fail
  refine (H3 _).mono ?_
  rintro e w6 ⟨rfl, hb⟩
  replace X := hide (X.out.al (bel_trans (bel_new _ _) hb))
  replace Y := hide (Y.out.al (bel_trans (bel_new _ _) hb))
  replace An := hide (An.out.al (bel_trans (bel_new _ _) hb))
  have Or := hide ((Val.new w5 3 0 0).al hb)
  replace B : Hid (Below w.heap.size w w6) := hide (bel_trans (bel_al B.out _) hb)
  clear hb xc0 xc1 xc2 xcl yc0 yc1 yc2 ycl
  obtain ⟨xc0, xc1, xc2⟩ := X.out.all.2
  have xcl := X.out.lt
  obtain ⟨yc0, yc1, yc2⟩ := Y.out.all.2
  have ycl := Y.out.lt
  go_wp2_with fail
  refine (H4 _).mono ?_
  rintro e w7 ⟨rfl, hb⟩
  replace X := hide (X.out.al (bel_trans (bel_new _ _) hb))
  replace Y := hide (Y.out.al (bel_trans (bel_new _ _) hb))
  replace An := hide (An.out.al (bel_trans (bel_new _ _) hb))
  replace Or := hide (Or.out.al (bel_trans (bel_new _ _) hb))
  have No := hide ((Val.new w6 3 1 0).al hb)
  replace B : Hid (Below w.heap.size w w7) := hide (bel_trans (bel_al B.out _) hb)
  clear hb xc0 xc1 xc2 xcl yc0 yc1 yc2 ycl
  obtain ⟨anc0, anc1, anc2⟩ := An.out.all.2
  have ancl := An.out.lt
  go_wp2_with fail
  refine (true_any _ _ _ _).mono ?_
  rintro e w8 ⟨rfl, hb⟩
  replace X := hide (X.out.al (bel_trans (bel_new _ _) hb))
  replace Y := hide (Y.out.al (bel_trans (bel_new _ _) hb))
  replace An := hide (An.out.al (bel_trans (bel_new _ _) hb))
  replace Or := hide (Or.out.al (bel_trans (bel_new _ _) hb))
  replace No := hide (No.out.al (bel_trans (bel_new _ _) hb))
  have Sa := hide ((Val.new w7 3 1 0).al hb)
  replace B : Hid (Below w.heap.size w w8) := hide (bel_trans (bel_al B.out _) hb)
  clear hb anc0 anc1 anc2 ancl
  obtain ⟨orc0, orc1, orc2⟩ := Or.out.all.2
  have orcl := Or.out.lt
  go_wp2_with fail
  refine (true_any _ _ _ _).mono ?_
  rintro e w9 ⟨rfl, hb⟩
  replace X := hide (X.out.al (hb))
  replace Y := hide (Y.out.al (hb))
  replace An := hide (An.out.al (hb))
  replace Or := hide (Or.out.al (hb))
  replace No := hide (No.out.al (hb))
  replace Sa := hide (Sa.out.al (hb))
  replace B : Hid (Below w.heap.size w w9) := hide (bel_trans B.out hb)
  clear hb orc0 orc1 orc2 orcl
  obtain ⟨noc0, noc1, noc2⟩ := No.out.all.2
  have nocl := No.out.lt
  go_wp2_with fail
  refine (true_any _ _ _ _).mono ?_
  rintro e w10 ⟨rfl, hb⟩
  replace X := hide (X.out.al (hb))
  replace Y := hide (Y.out.al (hb))
  replace An := hide (An.out.al (hb))
  replace Or := hide (Or.out.al (hb))
  replace No := hide (No.out.al (hb))
  replace Sa := hide (Sa.out.al (hb))
  replace B : Hid (Below w.heap.size w w10) := hide (bel_trans B.out hb)
  clear hb noc0 noc1 noc2 nocl
  obtain ⟨sac0, sac1, sac2⟩ := Sa.out.all.2
  have sacl := Sa.out.lt
  go_wp2_with fail
  refine (true_any _ _ _ _).mono ?_
  rintro e w11 ⟨rfl, hb⟩
  replace X := hide (X.out.al (hb))
  replace Y := hide (Y.out.al (hb))
  replace An := hide (An.out.al (hb))
  replace Or := hide (Or.out.al (hb))
  replace No := hide (No.out.al (hb))
  replace Sa := hide (Sa.out.al (hb))
  replace B : Hid (Below w.heap.size w w11) := hide (bel_trans B.out hb)
  clear hb sac0 sac1 sac2 sacl
  go_wp2_with fail
  go_ret
  exact Vb.mk (rfl) B.out
set_option maxRecDepth 20000 in
set_option maxHeartbeats 2000000 in
theorem bools_01 (w : World) : Calls Try.prog 8 #[.bool false, .bool true] w (Vb w (.bool true)) := by
  have H1 : ∀ w, Calls Try.prog 12 #[.string ⟨#[38, 38]⟩, .agg #[.int .i64 3, .int .i64 0, .int .u64 0], .agg #[.int .i64 3, .int .i64 1, .int .u64 0]] w (Vi4 w (3, 0, 0, 0)) := fun w => by
    have h := binary_any ⟨#[38, 38]⟩ 3 0 0 3 1 0 w
    rw [show binF (⟨#[38, 38]⟩ : ByteArray).toList 3 0 0 3 1 0 = (3, 0, 0, 0) from bl0 false true] at h
    exact h
  have H2 : ∀ w, Calls Try.prog 12 #[.string ⟨#[124, 124]⟩, .agg #[.int .i64 3, .int .i64 0, .int .u64 0], .agg #[.int .i64 3, .int .i64 1, .int .u64 0]] w (Vi4 w (3, 1, 0, 0)) := fun w => by
    have h := binary_any ⟨#[124, 124]⟩ 3 0 0 3 1 0 w
    rw [show binF (⟨#[124, 124]⟩ : ByteArray).toList 3 0 0 3 1 0 = (3, 1, 0, 0) from bl1 false true] at h
    exact h
  have H4 : ∀ w, Calls Try.prog 12 #[.string ⟨#[61, 61]⟩, .agg #[.int .i64 3, .int .i64 0, .int .u64 0], .agg #[.int .i64 3, .int .i64 1, .int .u64 0]] w (Vi4 w (3, 0, 0, 0)) := fun w => by
    have h := binary_any ⟨#[61, 61]⟩ 3 0 0 3 1 0 w
    rw [show binF (⟨#[61, 61]⟩ : ByteArray).toList 3 0 0 3 1 0 = (3, 0, 0, 0) from bl2 false true] at h
    exact h
  have H3 : ∀ w, Calls Try.prog 10 #[.string ⟨#[33]⟩, .agg #[.int .i64 3, .int .i64 0, .int .u64 0]] w (Vi4 w (3, 1, 0, 0)) := fun w => by
    have h := unary_any ⟨#[33]⟩ 3 0 0 (by decide) w
    rw [show unF (⟨#[33]⟩ : ByteArray).toList 3 0 0 = (3, 1, 0, 0) from bl3 false] at h
    exact h
  go_enter Try.func8, Try.ntmps8
  go_wp2_with fail
  refine (alive_any _).mono ?_
  rintro e w1 ⟨rfl, hb⟩
  have B : Hid (Below w.heap.size w w1) := hide (hb)
  clear hb
  go_wp2_with fail
  refine (bool_any _ _).mono ?_
  rintro e w2 ⟨rfl, hb⟩
  replace B : Hid (Below w.heap.size w w2) := hide (bel_trans B.out hb)
  clear hb
  go_wp2_with fail
  refine (bool_any _ _).mono ?_
  rintro e w3 ⟨rfl, hb⟩
  replace B : Hid (Below w.heap.size w w3) := hide (bel_trans B.out hb)
  clear hb
  go_wp2_with fail
  refine (H1 _).mono ?_
  rintro e w4 ⟨rfl, hb⟩
  have X := hide (((Val.new w3 3 0 0).al (bel_new _ _)).al hb)
  have q := (Val.new (w3.alloc (.cells #[.int .i64 3, .int .i64 0, .int .u64 0] 24)) 3 1 0).al hb
  rw [show (w3.alloc (.cells #[.int .i64 3, .int .i64 0, .int .u64 0] 24)).heap.size = w3.heap.size + 1 by simp] at q
  have Y := hide q
  clear q
  replace B : Hid (Below w.heap.size w w4) := hide (bel_trans (bel_al (bel_al B.out _) _) hb)
  clear hb
  obtain ⟨xc0, xc1, xc2⟩ := X.out.all.2
  have xcl := X.out.lt
  obtain ⟨yc0, yc1, yc2⟩ := Y.out.all.2
  have ycl := Y.out.lt
  go_wp2_with fail
  refine (H2 _).mono ?_
  rintro e w5 ⟨rfl, hb⟩
  replace X := hide (X.out.al (bel_trans (bel_new _ _) hb))
  replace Y := hide (Y.out.al (bel_trans (bel_new _ _) hb))
  have An := hide ((Val.new w4 3 0 0).al hb)
  replace B : Hid (Below w.heap.size w w5) := hide (bel_trans (bel_al B.out _) hb)
  clear hb xc0 xc1 xc2 xcl yc0 yc1 yc2 ycl
  obtain ⟨xc0, xc1, xc2⟩ := X.out.all.2
  have xcl := X.out.lt
  obtain ⟨yc0, yc1, yc2⟩ := Y.out.all.2
  have ycl := Y.out.lt
  go_wp2_with fail
  refine (H3 _).mono ?_
  rintro e w6 ⟨rfl, hb⟩
  replace X := hide (X.out.al (bel_trans (bel_new _ _) hb))
  replace Y := hide (Y.out.al (bel_trans (bel_new _ _) hb))
  replace An := hide (An.out.al (bel_trans (bel_new _ _) hb))
  have Or := hide ((Val.new w5 3 1 0).al hb)
  replace B : Hid (Below w.heap.size w w6) := hide (bel_trans (bel_al B.out _) hb)
  clear hb xc0 xc1 xc2 xcl yc0 yc1 yc2 ycl
  obtain ⟨xc0, xc1, xc2⟩ := X.out.all.2
  have xcl := X.out.lt
  obtain ⟨yc0, yc1, yc2⟩ := Y.out.all.2
  have ycl := Y.out.lt
  go_wp2_with fail
  refine (H4 _).mono ?_
  rintro e w7 ⟨rfl, hb⟩
  replace X := hide (X.out.al (bel_trans (bel_new _ _) hb))
  replace Y := hide (Y.out.al (bel_trans (bel_new _ _) hb))
  replace An := hide (An.out.al (bel_trans (bel_new _ _) hb))
  replace Or := hide (Or.out.al (bel_trans (bel_new _ _) hb))
  have No := hide ((Val.new w6 3 1 0).al hb)
  replace B : Hid (Below w.heap.size w w7) := hide (bel_trans (bel_al B.out _) hb)
  clear hb xc0 xc1 xc2 xcl yc0 yc1 yc2 ycl
  obtain ⟨anc0, anc1, anc2⟩ := An.out.all.2
  have ancl := An.out.lt
  go_wp2_with fail
  refine (true_any _ _ _ _).mono ?_
  rintro e w8 ⟨rfl, hb⟩
  replace X := hide (X.out.al (bel_trans (bel_new _ _) hb))
  replace Y := hide (Y.out.al (bel_trans (bel_new _ _) hb))
  replace An := hide (An.out.al (bel_trans (bel_new _ _) hb))
  replace Or := hide (Or.out.al (bel_trans (bel_new _ _) hb))
  replace No := hide (No.out.al (bel_trans (bel_new _ _) hb))
  have Sa := hide ((Val.new w7 3 0 0).al hb)
  replace B : Hid (Below w.heap.size w w8) := hide (bel_trans (bel_al B.out _) hb)
  clear hb anc0 anc1 anc2 ancl
  obtain ⟨orc0, orc1, orc2⟩ := Or.out.all.2
  have orcl := Or.out.lt
  go_wp2_with fail
  refine (true_any _ _ _ _).mono ?_
  rintro e w9 ⟨rfl, hb⟩
  replace X := hide (X.out.al (hb))
  replace Y := hide (Y.out.al (hb))
  replace An := hide (An.out.al (hb))
  replace Or := hide (Or.out.al (hb))
  replace No := hide (No.out.al (hb))
  replace Sa := hide (Sa.out.al (hb))
  replace B : Hid (Below w.heap.size w w9) := hide (bel_trans B.out hb)
  clear hb orc0 orc1 orc2 orcl
  obtain ⟨noc0, noc1, noc2⟩ := No.out.all.2
  have nocl := No.out.lt
  go_wp2_with fail
  refine (true_any _ _ _ _).mono ?_
  rintro e w10 ⟨rfl, hb⟩
  replace X := hide (X.out.al (hb))
  replace Y := hide (Y.out.al (hb))
  replace An := hide (An.out.al (hb))
  replace Or := hide (Or.out.al (hb))
  replace No := hide (No.out.al (hb))
  replace Sa := hide (Sa.out.al (hb))
  replace B : Hid (Below w.heap.size w w10) := hide (bel_trans B.out hb)
  clear hb noc0 noc1 noc2 nocl
  obtain ⟨sac0, sac1, sac2⟩ := Sa.out.all.2
  have sacl := Sa.out.lt
  go_wp2_with fail
  refine (true_any _ _ _ _).mono ?_
  rintro e w11 ⟨rfl, hb⟩
  replace X := hide (X.out.al (hb))
  replace Y := hide (Y.out.al (hb))
  replace An := hide (An.out.al (hb))
  replace Or := hide (Or.out.al (hb))
  replace No := hide (No.out.al (hb))
  replace Sa := hide (Sa.out.al (hb))
  replace B : Hid (Below w.heap.size w w11) := hide (bel_trans B.out hb)
  clear hb sac0 sac1 sac2 sacl
  go_wp2_with fail
  go_ret
  exact Vb.mk (rfl) B.out
set_option maxRecDepth 20000 in
set_option maxHeartbeats 2000000 in
theorem bools_10 (w : World) : Calls Try.prog 8 #[.bool true, .bool false] w (Vb w (.bool true)) := by
  have H1 : ∀ w, Calls Try.prog 12 #[.string ⟨#[38, 38]⟩, .agg #[.int .i64 3, .int .i64 1, .int .u64 0], .agg #[.int .i64 3, .int .i64 0, .int .u64 0]] w (Vi4 w (3, 0, 0, 0)) := fun w => by
    have h := binary_any ⟨#[38, 38]⟩ 3 1 0 3 0 0 w
    rw [show binF (⟨#[38, 38]⟩ : ByteArray).toList 3 1 0 3 0 0 = (3, 0, 0, 0) from bl0 true false] at h
    exact h
  have H2 : ∀ w, Calls Try.prog 12 #[.string ⟨#[124, 124]⟩, .agg #[.int .i64 3, .int .i64 1, .int .u64 0], .agg #[.int .i64 3, .int .i64 0, .int .u64 0]] w (Vi4 w (3, 1, 0, 0)) := fun w => by
    have h := binary_any ⟨#[124, 124]⟩ 3 1 0 3 0 0 w
    rw [show binF (⟨#[124, 124]⟩ : ByteArray).toList 3 1 0 3 0 0 = (3, 1, 0, 0) from bl1 true false] at h
    exact h
  have H4 : ∀ w, Calls Try.prog 12 #[.string ⟨#[61, 61]⟩, .agg #[.int .i64 3, .int .i64 1, .int .u64 0], .agg #[.int .i64 3, .int .i64 0, .int .u64 0]] w (Vi4 w (3, 0, 0, 0)) := fun w => by
    have h := binary_any ⟨#[61, 61]⟩ 3 1 0 3 0 0 w
    rw [show binF (⟨#[61, 61]⟩ : ByteArray).toList 3 1 0 3 0 0 = (3, 0, 0, 0) from bl2 true false] at h
    exact h
  have H3 : ∀ w, Calls Try.prog 10 #[.string ⟨#[33]⟩, .agg #[.int .i64 3, .int .i64 1, .int .u64 0]] w (Vi4 w (3, 0, 0, 0)) := fun w => by
    have h := unary_any ⟨#[33]⟩ 3 1 0 (by decide) w
    rw [show unF (⟨#[33]⟩ : ByteArray).toList 3 1 0 = (3, 0, 0, 0) from bl3 true] at h
    exact h
  go_enter Try.func8, Try.ntmps8
  go_wp2_with fail
  refine (alive_any _).mono ?_
  rintro e w1 ⟨rfl, hb⟩
  have B : Hid (Below w.heap.size w w1) := hide (hb)
  clear hb
  go_wp2_with fail
  refine (bool_any _ _).mono ?_
  rintro e w2 ⟨rfl, hb⟩
  replace B : Hid (Below w.heap.size w w2) := hide (bel_trans B.out hb)
  clear hb
  go_wp2_with fail
  refine (bool_any _ _).mono ?_
  rintro e w3 ⟨rfl, hb⟩
  replace B : Hid (Below w.heap.size w w3) := hide (bel_trans B.out hb)
  clear hb
  go_wp2_with fail
  refine (H1 _).mono ?_
  rintro e w4 ⟨rfl, hb⟩
  have X := hide (((Val.new w3 3 1 0).al (bel_new _ _)).al hb)
  have q := (Val.new (w3.alloc (.cells #[.int .i64 3, .int .i64 1, .int .u64 0] 24)) 3 0 0).al hb
  rw [show (w3.alloc (.cells #[.int .i64 3, .int .i64 1, .int .u64 0] 24)).heap.size = w3.heap.size + 1 by simp] at q
  have Y := hide q
  clear q
  replace B : Hid (Below w.heap.size w w4) := hide (bel_trans (bel_al (bel_al B.out _) _) hb)
  clear hb
  obtain ⟨xc0, xc1, xc2⟩ := X.out.all.2
  have xcl := X.out.lt
  obtain ⟨yc0, yc1, yc2⟩ := Y.out.all.2
  have ycl := Y.out.lt
  go_wp2_with fail
  refine (H2 _).mono ?_
  rintro e w5 ⟨rfl, hb⟩
  replace X := hide (X.out.al (bel_trans (bel_new _ _) hb))
  replace Y := hide (Y.out.al (bel_trans (bel_new _ _) hb))
  have An := hide ((Val.new w4 3 0 0).al hb)
  replace B : Hid (Below w.heap.size w w5) := hide (bel_trans (bel_al B.out _) hb)
  clear hb xc0 xc1 xc2 xcl yc0 yc1 yc2 ycl
  obtain ⟨xc0, xc1, xc2⟩ := X.out.all.2
  have xcl := X.out.lt
  obtain ⟨yc0, yc1, yc2⟩ := Y.out.all.2
  have ycl := Y.out.lt
  go_wp2_with fail
  refine (H3 _).mono ?_
  rintro e w6 ⟨rfl, hb⟩
  replace X := hide (X.out.al (bel_trans (bel_new _ _) hb))
  replace Y := hide (Y.out.al (bel_trans (bel_new _ _) hb))
  replace An := hide (An.out.al (bel_trans (bel_new _ _) hb))
  have Or := hide ((Val.new w5 3 1 0).al hb)
  replace B : Hid (Below w.heap.size w w6) := hide (bel_trans (bel_al B.out _) hb)
  clear hb xc0 xc1 xc2 xcl yc0 yc1 yc2 ycl
  obtain ⟨xc0, xc1, xc2⟩ := X.out.all.2
  have xcl := X.out.lt
  obtain ⟨yc0, yc1, yc2⟩ := Y.out.all.2
  have ycl := Y.out.lt
  go_wp2_with fail
  refine (H4 _).mono ?_
  rintro e w7 ⟨rfl, hb⟩
  replace X := hide (X.out.al (bel_trans (bel_new _ _) hb))
  replace Y := hide (Y.out.al (bel_trans (bel_new _ _) hb))
  replace An := hide (An.out.al (bel_trans (bel_new _ _) hb))
  replace Or := hide (Or.out.al (bel_trans (bel_new _ _) hb))
  have No := hide ((Val.new w6 3 0 0).al hb)
  replace B : Hid (Below w.heap.size w w7) := hide (bel_trans (bel_al B.out _) hb)
  clear hb xc0 xc1 xc2 xcl yc0 yc1 yc2 ycl
  obtain ⟨anc0, anc1, anc2⟩ := An.out.all.2
  have ancl := An.out.lt
  go_wp2_with fail
  refine (true_any _ _ _ _).mono ?_
  rintro e w8 ⟨rfl, hb⟩
  replace X := hide (X.out.al (bel_trans (bel_new _ _) hb))
  replace Y := hide (Y.out.al (bel_trans (bel_new _ _) hb))
  replace An := hide (An.out.al (bel_trans (bel_new _ _) hb))
  replace Or := hide (Or.out.al (bel_trans (bel_new _ _) hb))
  replace No := hide (No.out.al (bel_trans (bel_new _ _) hb))
  have Sa := hide ((Val.new w7 3 0 0).al hb)
  replace B : Hid (Below w.heap.size w w8) := hide (bel_trans (bel_al B.out _) hb)
  clear hb anc0 anc1 anc2 ancl
  obtain ⟨orc0, orc1, orc2⟩ := Or.out.all.2
  have orcl := Or.out.lt
  go_wp2_with fail
  refine (true_any _ _ _ _).mono ?_
  rintro e w9 ⟨rfl, hb⟩
  replace X := hide (X.out.al (hb))
  replace Y := hide (Y.out.al (hb))
  replace An := hide (An.out.al (hb))
  replace Or := hide (Or.out.al (hb))
  replace No := hide (No.out.al (hb))
  replace Sa := hide (Sa.out.al (hb))
  replace B : Hid (Below w.heap.size w w9) := hide (bel_trans B.out hb)
  clear hb orc0 orc1 orc2 orcl
  obtain ⟨noc0, noc1, noc2⟩ := No.out.all.2
  have nocl := No.out.lt
  go_wp2_with fail
  refine (true_any _ _ _ _).mono ?_
  rintro e w10 ⟨rfl, hb⟩
  replace X := hide (X.out.al (hb))
  replace Y := hide (Y.out.al (hb))
  replace An := hide (An.out.al (hb))
  replace Or := hide (Or.out.al (hb))
  replace No := hide (No.out.al (hb))
  replace Sa := hide (Sa.out.al (hb))
  replace B : Hid (Below w.heap.size w w10) := hide (bel_trans B.out hb)
  clear hb noc0 noc1 noc2 nocl
  obtain ⟨sac0, sac1, sac2⟩ := Sa.out.all.2
  have sacl := Sa.out.lt
  go_wp2_with fail
  refine (true_any _ _ _ _).mono ?_
  rintro e w11 ⟨rfl, hb⟩
  replace X := hide (X.out.al (hb))
  replace Y := hide (Y.out.al (hb))
  replace An := hide (An.out.al (hb))
  replace Or := hide (Or.out.al (hb))
  replace No := hide (No.out.al (hb))
  replace Sa := hide (Sa.out.al (hb))
  replace B : Hid (Below w.heap.size w w11) := hide (bel_trans B.out hb)
  clear hb sac0 sac1 sac2 sacl
  go_wp2_with fail
  go_ret
  exact Vb.mk (rfl) B.out
set_option maxRecDepth 20000 in
set_option maxHeartbeats 2000000 in
theorem bools_11 (w : World) : Calls Try.prog 8 #[.bool true, .bool true] w (Vb w (.bool true)) := by
  have H1 : ∀ w, Calls Try.prog 12 #[.string ⟨#[38, 38]⟩, .agg #[.int .i64 3, .int .i64 1, .int .u64 0], .agg #[.int .i64 3, .int .i64 1, .int .u64 0]] w (Vi4 w (3, 1, 0, 0)) := fun w => by
    have h := binary_any ⟨#[38, 38]⟩ 3 1 0 3 1 0 w
    rw [show binF (⟨#[38, 38]⟩ : ByteArray).toList 3 1 0 3 1 0 = (3, 1, 0, 0) from bl0 true true] at h
    exact h
  have H2 : ∀ w, Calls Try.prog 12 #[.string ⟨#[124, 124]⟩, .agg #[.int .i64 3, .int .i64 1, .int .u64 0], .agg #[.int .i64 3, .int .i64 1, .int .u64 0]] w (Vi4 w (3, 1, 0, 0)) := fun w => by
    have h := binary_any ⟨#[124, 124]⟩ 3 1 0 3 1 0 w
    rw [show binF (⟨#[124, 124]⟩ : ByteArray).toList 3 1 0 3 1 0 = (3, 1, 0, 0) from bl1 true true] at h
    exact h
  have H4 : ∀ w, Calls Try.prog 12 #[.string ⟨#[61, 61]⟩, .agg #[.int .i64 3, .int .i64 1, .int .u64 0], .agg #[.int .i64 3, .int .i64 1, .int .u64 0]] w (Vi4 w (3, 1, 0, 0)) := fun w => by
    have h := binary_any ⟨#[61, 61]⟩ 3 1 0 3 1 0 w
    rw [show binF (⟨#[61, 61]⟩ : ByteArray).toList 3 1 0 3 1 0 = (3, 1, 0, 0) from bl2 true true] at h
    exact h
  have H3 : ∀ w, Calls Try.prog 10 #[.string ⟨#[33]⟩, .agg #[.int .i64 3, .int .i64 1, .int .u64 0]] w (Vi4 w (3, 0, 0, 0)) := fun w => by
    have h := unary_any ⟨#[33]⟩ 3 1 0 (by decide) w
    rw [show unF (⟨#[33]⟩ : ByteArray).toList 3 1 0 = (3, 0, 0, 0) from bl3 true] at h
    exact h
  go_enter Try.func8, Try.ntmps8
  go_wp2_with fail
  refine (alive_any _).mono ?_
  rintro e w1 ⟨rfl, hb⟩
  have B : Hid (Below w.heap.size w w1) := hide (hb)
  clear hb
  go_wp2_with fail
  refine (bool_any _ _).mono ?_
  rintro e w2 ⟨rfl, hb⟩
  replace B : Hid (Below w.heap.size w w2) := hide (bel_trans B.out hb)
  clear hb
  go_wp2_with fail
  refine (bool_any _ _).mono ?_
  rintro e w3 ⟨rfl, hb⟩
  replace B : Hid (Below w.heap.size w w3) := hide (bel_trans B.out hb)
  clear hb
  go_wp2_with fail
  refine (H1 _).mono ?_
  rintro e w4 ⟨rfl, hb⟩
  have X := hide (((Val.new w3 3 1 0).al (bel_new _ _)).al hb)
  have q := (Val.new (w3.alloc (.cells #[.int .i64 3, .int .i64 1, .int .u64 0] 24)) 3 1 0).al hb
  rw [show (w3.alloc (.cells #[.int .i64 3, .int .i64 1, .int .u64 0] 24)).heap.size = w3.heap.size + 1 by simp] at q
  have Y := hide q
  clear q
  replace B : Hid (Below w.heap.size w w4) := hide (bel_trans (bel_al (bel_al B.out _) _) hb)
  clear hb
  obtain ⟨xc0, xc1, xc2⟩ := X.out.all.2
  have xcl := X.out.lt
  obtain ⟨yc0, yc1, yc2⟩ := Y.out.all.2
  have ycl := Y.out.lt
  go_wp2_with fail
  refine (H2 _).mono ?_
  rintro e w5 ⟨rfl, hb⟩
  replace X := hide (X.out.al (bel_trans (bel_new _ _) hb))
  replace Y := hide (Y.out.al (bel_trans (bel_new _ _) hb))
  have An := hide ((Val.new w4 3 1 0).al hb)
  replace B : Hid (Below w.heap.size w w5) := hide (bel_trans (bel_al B.out _) hb)
  clear hb xc0 xc1 xc2 xcl yc0 yc1 yc2 ycl
  obtain ⟨xc0, xc1, xc2⟩ := X.out.all.2
  have xcl := X.out.lt
  obtain ⟨yc0, yc1, yc2⟩ := Y.out.all.2
  have ycl := Y.out.lt
  go_wp2_with fail
  refine (H3 _).mono ?_
  rintro e w6 ⟨rfl, hb⟩
  replace X := hide (X.out.al (bel_trans (bel_new _ _) hb))
  replace Y := hide (Y.out.al (bel_trans (bel_new _ _) hb))
  replace An := hide (An.out.al (bel_trans (bel_new _ _) hb))
  have Or := hide ((Val.new w5 3 1 0).al hb)
  replace B : Hid (Below w.heap.size w w6) := hide (bel_trans (bel_al B.out _) hb)
  clear hb xc0 xc1 xc2 xcl yc0 yc1 yc2 ycl
  obtain ⟨xc0, xc1, xc2⟩ := X.out.all.2
  have xcl := X.out.lt
  obtain ⟨yc0, yc1, yc2⟩ := Y.out.all.2
  have ycl := Y.out.lt
  go_wp2_with fail
  refine (H4 _).mono ?_
  rintro e w7 ⟨rfl, hb⟩
  replace X := hide (X.out.al (bel_trans (bel_new _ _) hb))
  replace Y := hide (Y.out.al (bel_trans (bel_new _ _) hb))
  replace An := hide (An.out.al (bel_trans (bel_new _ _) hb))
  replace Or := hide (Or.out.al (bel_trans (bel_new _ _) hb))
  have No := hide ((Val.new w6 3 0 0).al hb)
  replace B : Hid (Below w.heap.size w w7) := hide (bel_trans (bel_al B.out _) hb)
  clear hb xc0 xc1 xc2 xcl yc0 yc1 yc2 ycl
  obtain ⟨anc0, anc1, anc2⟩ := An.out.all.2
  have ancl := An.out.lt
  go_wp2_with fail
  refine (true_any _ _ _ _).mono ?_
  rintro e w8 ⟨rfl, hb⟩
  replace X := hide (X.out.al (bel_trans (bel_new _ _) hb))
  replace Y := hide (Y.out.al (bel_trans (bel_new _ _) hb))
  replace An := hide (An.out.al (bel_trans (bel_new _ _) hb))
  replace Or := hide (Or.out.al (bel_trans (bel_new _ _) hb))
  replace No := hide (No.out.al (bel_trans (bel_new _ _) hb))
  have Sa := hide ((Val.new w7 3 1 0).al hb)
  replace B : Hid (Below w.heap.size w w8) := hide (bel_trans (bel_al B.out _) hb)
  clear hb anc0 anc1 anc2 ancl
  obtain ⟨orc0, orc1, orc2⟩ := Or.out.all.2
  have orcl := Or.out.lt
  go_wp2_with fail
  refine (true_any _ _ _ _).mono ?_
  rintro e w9 ⟨rfl, hb⟩
  replace X := hide (X.out.al (hb))
  replace Y := hide (Y.out.al (hb))
  replace An := hide (An.out.al (hb))
  replace Or := hide (Or.out.al (hb))
  replace No := hide (No.out.al (hb))
  replace Sa := hide (Sa.out.al (hb))
  replace B : Hid (Below w.heap.size w w9) := hide (bel_trans B.out hb)
  clear hb orc0 orc1 orc2 orcl
  obtain ⟨noc0, noc1, noc2⟩ := No.out.all.2
  have nocl := No.out.lt
  go_wp2_with fail
  refine (true_any _ _ _ _).mono ?_
  rintro e w10 ⟨rfl, hb⟩
  replace X := hide (X.out.al (hb))
  replace Y := hide (Y.out.al (hb))
  replace An := hide (An.out.al (hb))
  replace Or := hide (Or.out.al (hb))
  replace No := hide (No.out.al (hb))
  replace Sa := hide (Sa.out.al (hb))
  replace B : Hid (Below w.heap.size w w10) := hide (bel_trans B.out hb)
  clear hb noc0 noc1 noc2 nocl
  obtain ⟨sac0, sac1, sac2⟩ := Sa.out.all.2
  have sacl := Sa.out.lt
  go_wp2_with fail
  refine (true_any _ _ _ _).mono ?_
  rintro e w11 ⟨rfl, hb⟩
  replace X := hide (X.out.al (hb))
  replace Y := hide (Y.out.al (hb))
  replace An := hide (An.out.al (hb))
  replace Or := hide (Or.out.al (hb))
  replace No := hide (No.out.al (hb))
  replace Sa := hide (Sa.out.al (hb))
  replace B : Hid (Below w.heap.size w w11) := hide (bel_trans B.out hb)
  clear hb sac0 sac1 sac2 sacl
  go_wp2_with fail
  go_ret
  exact Vb.mk (rfl) B.out
theorem bools_main (a b : Bool) (w : World) : Calls Try.prog 8 #[.bool a, .bool b] w (Vb w (.bool true)) := by
  cases a <;> cases b
  · exact bools_00 w
  · exact bools_01 w
  · exact bools_10 w
  · exact bools_11 w
end Go.Proofs.Ytmdfciiejenpnaa.Ck
