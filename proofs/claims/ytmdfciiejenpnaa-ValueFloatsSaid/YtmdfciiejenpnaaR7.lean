/- The document's Binary: quotients and rests. (Written by mk_r.py.) -/
import Derived.Test.YtmdfciiejenpnaaR5
namespace Go.Proofs.Ytmdfciiejenpnaa.Ck
open Go.RowKit

theorem tm_le (a b : Int) (ha : -9223372036854775808 ≤ a ∧ a ≤ 9223372036854775807) : -9223372036854775808 ≤ a.tmod b ∧ a.tmod b ≤ 9223372036854775807 := by
  have h := Int.natAbs_tmod a b
  have h2 := Nat.mod_le a.natAbs b.natAbs
  by_cases h0 : 0 ≤ a
  · have := Int.tmod_nonneg b h0
    omega
  · have h1 : (-a).tmod b = -(a.tmod b) := Int.neg_tmod a b
    have := Int.tmod_nonneg (a := -a) b (by omega)
    omega
set_option maxRecDepth 20000 in
set_option maxHeartbeats 2000000 in
theorem rbin_quo_pp (op : ByteArray) (a b : Int) (ha : -9223372036854775808 ≤ a ∧ a ≤ 9223372036854775807) (hb : -9223372036854775808 ≤ b ∧ b ≤ 9223372036854775807) (hs : 0 ≤ a ∧ 0 < b) (h : op.toList = [47]) (w : World) : Calls Try.prog 13 #[.string op, .agg #[.int .i64 1, .int .i64 a, .int .u64 0], .agg #[.int .i64 1, .int .i64 b, .int .u64 0]] w (Vi4 w (1, wrap64 (a.tdiv b), 0, 0)) := by
  have cf := callFrom
  have W1 : Hid (Below w.heap.size w (((w.alloc (.cells #[.int .i64 1, .int .i64 a, .int .u64 0] 24)).alloc (.cells #[.int .i64 1, .int .i64 b, .int .u64 0] 24)).alloc (.cells #[.int .i64 0, .int .i64 0, .int .u64 0] 24))) := hide (bel_al (bel_al (bel_new w _) _) _)
  have sz : (w.alloc (.cells #[.int .i64 1, .int .i64 a, .int .u64 0] 24)).heap.size = w.heap.size + 1 := by simp
  have sz2 : ((w.alloc (.cells #[.int .i64 1, .int .i64 a, .int .u64 0] 24)).alloc (.cells #[.int .i64 1, .int .i64 b, .int .u64 0] 24)).heap.size = w.heap.size + 2 := by simp
  have VA := ((Val.new w 1 a 0).al (bel_new _ (.cells #[.int .i64 1, .int .i64 b, .int .u64 0] 24))).al (bel_new _ (.cells #[.int .i64 0, .int .i64 0, .int .u64 0] 24))
  have VC := (Val.new (w.alloc (.cells #[.int .i64 1, .int .i64 a, .int .u64 0] 24)) 1 b 0).al (bel_new _ (.cells #[.int .i64 0, .int .i64 0, .int .u64 0] 24))
  have V1 := Val.new ((w.alloc (.cells #[.int .i64 1, .int .i64 a, .int .u64 0] 24)).alloc (.cells #[.int .i64 1, .int .i64 b, .int .u64 0] 24)) 0 0 0
  rw [sz] at VC
  rw [sz2] at V1
  replace VA := hide VA
  replace VC := hide VC
  replace V1 := hide V1
  clear sz sz2
  show Calls _ _ _ _ (Vi w 1 _ 0 0)
  obtain ⟨s1, s2⟩ := hs
  have da : decide (a < 0) = false := decide_eq_false (by omega)
  have db : decide (b < 0) = false := decide_eq_false (by omega)
  have dn : (b == 0) = false := by simp; omega
  have u1 : IntKind.u64.wrap a = a := by rw [IntKind.wrap_u64]; omega
  have u2 : IntKind.u64.wrap b = b := by rw [IntKind.wrap_u64]; omega
  have HF := fun w => form_any 1 a 0 w
  have HG := fun w => form_any 1 b 0 w
  have HO := fun w => order_int 1 a 0 b 0 1 (by decide) w
  rw [show goodB 1 a 0 = true by simp [goodB]] at HF
  rw [show goodB 1 b 0 = true by simp [goodB]] at HG
  generalize ordI a b = O at *
  go_enter Try.func13, Try.ntmps13
  obtain ⟨a0, a1, a2⟩ := VA.out.all.2
  go_wp2_with fail
  refine (HF _).mono ?_
  rintro e w1 ⟨rfl, hb⟩
  replace VA := hide (VA.out.al hb)
  replace VC := hide (VC.out.al hb)
  replace V1 := hide (V1.out.al hb)
  have B1 := hide (bel_trans W1.out hb)
  clear a0 a1 a2 hb HF
  obtain ⟨a0, a1, a2⟩ := VA.out.all.2
  obtain ⟨c0, c1, c2⟩ := VC.out.all.2
  go_wp2_with fail
  refine (HG _).mono ?_
  rintro e w2 ⟨rfl, hb⟩
  replace VA := hide (VA.out.al hb)
  replace VC := hide (VC.out.al hb)
  replace V1 := hide (V1.out.al hb)
  replace B1 := hide (bel_trans B1.out hb)
  clear hb a0 a1 a2 c0 c1 c2 HG
  obtain ⟨a0, a1, a2⟩ := VA.out.all.2
  obtain ⟨c0, c1, c2⟩ := VC.out.all.2
  go_wp2_with fail
  refine (HO _).mono ?_
  rintro e w3 ⟨rfl, hb⟩
  replace VA := hide (VA.out.al hb)
  replace VC := hide (VC.out.al hb)
  replace V1 := hide (V1.out.al hb)
  replace B1 := hide (bel_trans B1.out hb)
  clear hb a0 a1 a2 c0 c1 c2 HO
  obtain ⟨a0, a1, a2⟩ := VA.out.all.2
  obtain ⟨c0, c1, c2⟩ := VC.out.all.2
  go_wp2_with fail
  go_region
  clear a0 a1 a2 c0 c1 c2
  replace VA := hide VA.out.drew
  replace VC := hide VC.out.drew
  replace V1 := hide V1.out.drew
  replace B1 := hide (bel_drawn B1.out)
  generalize w3.drew = w9 at *
  obtain ⟨⟨f0, f1, f2⟩, e0, e1, e2⟩ := V1.out.all
  obtain ⟨a0, a1, a2⟩ := VA.out.all.2
  obtain ⟨c0, c1, c2⟩ := VC.out.all.2
  go_wp2_with fail
  go_region
  clear a0 a1 a2 c0 c1 c2 f0 f1 f2 e0 e1 e2
  replace VA := hide VA.out.drew
  replace VC := hide VC.out.drew
  replace V1 := hide V1.out.drew
  replace B1 := hide (bel_drawn B1.out)
  generalize w9.drew = w8 at *
  obtain ⟨a0, a1, a2⟩ := VA.out.all.2
  obtain ⟨c0, c1, c2⟩ := VC.out.all.2
  go_wp2_with fail
  refine (number_any _ _).mono ?_
  rintro e w4 ⟨rfl, hb2⟩
  replace V1 := hide (V1.out.al hb2)
  replace B1 := hide (bel_trans B1.out hb2)
  clear hb2 a0 a1 a2 c0 c1 c2
  obtain ⟨⟨f0, f1, f2⟩, e0, e1, e2⟩ := V1.out.all
  go_wp2_with fail
  refine ret_vi (w.heap.size + 2) rfl rfl rfl (V1.out.set _ _ _) rfl (Vi.mk ⟨rfl, ?_, rfl, rfl⟩ (bel_set B1.out (by omega) _ _ _))
  rcases tm_le a b ha with ⟨m1, m2⟩
  have q1 : a / b = a.tdiv b := (Int.tdiv_eq_ediv_of_nonneg s1).symm
  have q2 : a % b = a.tmod b := (Int.tmod_eq_emod_of_nonneg s1).symm
  try rw [q1]
  all_goals try rw [q2]
  all_goals try simp only [IntKind.wrap_u64]
  all_goals
    generalize a.tdiv b = T at *
    generalize a.tmod b = M at *
    unfold wrap64
    omega
set_option maxRecDepth 20000 in
set_option maxHeartbeats 2000000 in
theorem rbin_rem_pp (op : ByteArray) (a b : Int) (ha : -9223372036854775808 ≤ a ∧ a ≤ 9223372036854775807) (hb : -9223372036854775808 ≤ b ∧ b ≤ 9223372036854775807) (hs : 0 ≤ a ∧ 0 < b) (h : op.toList = [37]) (w : World) : Calls Try.prog 13 #[.string op, .agg #[.int .i64 1, .int .i64 a, .int .u64 0], .agg #[.int .i64 1, .int .i64 b, .int .u64 0]] w (Vi4 w (1, a.tmod b, 0, 0)) := by
  have cf := callFrom
  have W1 : Hid (Below w.heap.size w (((w.alloc (.cells #[.int .i64 1, .int .i64 a, .int .u64 0] 24)).alloc (.cells #[.int .i64 1, .int .i64 b, .int .u64 0] 24)).alloc (.cells #[.int .i64 0, .int .i64 0, .int .u64 0] 24))) := hide (bel_al (bel_al (bel_new w _) _) _)
  have sz : (w.alloc (.cells #[.int .i64 1, .int .i64 a, .int .u64 0] 24)).heap.size = w.heap.size + 1 := by simp
  have sz2 : ((w.alloc (.cells #[.int .i64 1, .int .i64 a, .int .u64 0] 24)).alloc (.cells #[.int .i64 1, .int .i64 b, .int .u64 0] 24)).heap.size = w.heap.size + 2 := by simp
  have VA := ((Val.new w 1 a 0).al (bel_new _ (.cells #[.int .i64 1, .int .i64 b, .int .u64 0] 24))).al (bel_new _ (.cells #[.int .i64 0, .int .i64 0, .int .u64 0] 24))
  have VC := (Val.new (w.alloc (.cells #[.int .i64 1, .int .i64 a, .int .u64 0] 24)) 1 b 0).al (bel_new _ (.cells #[.int .i64 0, .int .i64 0, .int .u64 0] 24))
  have V1 := Val.new ((w.alloc (.cells #[.int .i64 1, .int .i64 a, .int .u64 0] 24)).alloc (.cells #[.int .i64 1, .int .i64 b, .int .u64 0] 24)) 0 0 0
  rw [sz] at VC
  rw [sz2] at V1
  replace VA := hide VA
  replace VC := hide VC
  replace V1 := hide V1
  clear sz sz2
  show Calls _ _ _ _ (Vi w 1 _ 0 0)
  obtain ⟨s1, s2⟩ := hs
  have da : decide (a < 0) = false := decide_eq_false (by omega)
  have db : decide (b < 0) = false := decide_eq_false (by omega)
  have dn : (b == 0) = false := by simp; omega
  have u1 : IntKind.u64.wrap a = a := by rw [IntKind.wrap_u64]; omega
  have u2 : IntKind.u64.wrap b = b := by rw [IntKind.wrap_u64]; omega
  have HF := fun w => form_any 1 a 0 w
  have HG := fun w => form_any 1 b 0 w
  have HO := fun w => order_int 1 a 0 b 0 1 (by decide) w
  rw [show goodB 1 a 0 = true by simp [goodB]] at HF
  rw [show goodB 1 b 0 = true by simp [goodB]] at HG
  generalize ordI a b = O at *
  go_enter Try.func13, Try.ntmps13
  obtain ⟨a0, a1, a2⟩ := VA.out.all.2
  go_wp2_with fail
  refine (HF _).mono ?_
  rintro e w1 ⟨rfl, hb⟩
  replace VA := hide (VA.out.al hb)
  replace VC := hide (VC.out.al hb)
  replace V1 := hide (V1.out.al hb)
  have B1 := hide (bel_trans W1.out hb)
  clear a0 a1 a2 hb HF
  obtain ⟨a0, a1, a2⟩ := VA.out.all.2
  obtain ⟨c0, c1, c2⟩ := VC.out.all.2
  go_wp2_with fail
  refine (HG _).mono ?_
  rintro e w2 ⟨rfl, hb⟩
  replace VA := hide (VA.out.al hb)
  replace VC := hide (VC.out.al hb)
  replace V1 := hide (V1.out.al hb)
  replace B1 := hide (bel_trans B1.out hb)
  clear hb a0 a1 a2 c0 c1 c2 HG
  obtain ⟨a0, a1, a2⟩ := VA.out.all.2
  obtain ⟨c0, c1, c2⟩ := VC.out.all.2
  go_wp2_with fail
  refine (HO _).mono ?_
  rintro e w3 ⟨rfl, hb⟩
  replace VA := hide (VA.out.al hb)
  replace VC := hide (VC.out.al hb)
  replace V1 := hide (V1.out.al hb)
  replace B1 := hide (bel_trans B1.out hb)
  clear hb a0 a1 a2 c0 c1 c2 HO
  obtain ⟨a0, a1, a2⟩ := VA.out.all.2
  obtain ⟨c0, c1, c2⟩ := VC.out.all.2
  go_wp2_with fail
  go_region
  clear a0 a1 a2 c0 c1 c2
  replace VA := hide VA.out.drew
  replace VC := hide VC.out.drew
  replace V1 := hide V1.out.drew
  replace B1 := hide (bel_drawn B1.out)
  generalize w3.drew = w9 at *
  obtain ⟨⟨f0, f1, f2⟩, e0, e1, e2⟩ := V1.out.all
  obtain ⟨a0, a1, a2⟩ := VA.out.all.2
  obtain ⟨c0, c1, c2⟩ := VC.out.all.2
  go_wp2_with fail
  go_region
  clear a0 a1 a2 c0 c1 c2 f0 f1 f2 e0 e1 e2
  replace VA := hide VA.out.drew
  replace VC := hide VC.out.drew
  replace V1 := hide V1.out.drew
  replace B1 := hide (bel_drawn B1.out)
  generalize w9.drew = w8 at *
  obtain ⟨a0, a1, a2⟩ := VA.out.all.2
  obtain ⟨c0, c1, c2⟩ := VC.out.all.2
  go_wp2_with fail
  refine (number_any _ _).mono ?_
  rintro e w4 ⟨rfl, hb2⟩
  replace V1 := hide (V1.out.al hb2)
  replace B1 := hide (bel_trans B1.out hb2)
  clear hb2 a0 a1 a2 c0 c1 c2
  obtain ⟨⟨f0, f1, f2⟩, e0, e1, e2⟩ := V1.out.all
  go_wp2_with fail
  refine ret_vi (w.heap.size + 2) rfl rfl rfl (V1.out.set _ _ _) rfl (Vi.mk ⟨rfl, ?_, rfl, rfl⟩ (bel_set B1.out (by omega) _ _ _))
  rcases tm_le a b ha with ⟨m1, m2⟩
  have q1 : a / b = a.tdiv b := (Int.tdiv_eq_ediv_of_nonneg s1).symm
  have q2 : a % b = a.tmod b := (Int.tmod_eq_emod_of_nonneg s1).symm
  try rw [q1]
  all_goals try rw [q2]
  all_goals try simp only [IntKind.wrap_u64]
  all_goals
    generalize a.tdiv b = T at *
    generalize a.tmod b = M at *
    unfold wrap64
    omega
set_option maxRecDepth 20000 in
set_option maxHeartbeats 2000000 in
theorem rbin_quo_np (op : ByteArray) (a b : Int) (ha : -9223372036854775808 ≤ a ∧ a ≤ 9223372036854775807) (hb : -9223372036854775808 ≤ b ∧ b ≤ 9223372036854775807) (hs : a < 0 ∧ 0 < b) (h : op.toList = [47]) (w : World) : Calls Try.prog 13 #[.string op, .agg #[.int .i64 1, .int .i64 a, .int .u64 0], .agg #[.int .i64 1, .int .i64 b, .int .u64 0]] w (Vi4 w (1, wrap64 (a.tdiv b), 0, 0)) := by
  have cf := callFrom
  have W1 : Hid (Below w.heap.size w (((w.alloc (.cells #[.int .i64 1, .int .i64 a, .int .u64 0] 24)).alloc (.cells #[.int .i64 1, .int .i64 b, .int .u64 0] 24)).alloc (.cells #[.int .i64 0, .int .i64 0, .int .u64 0] 24))) := hide (bel_al (bel_al (bel_new w _) _) _)
  have sz : (w.alloc (.cells #[.int .i64 1, .int .i64 a, .int .u64 0] 24)).heap.size = w.heap.size + 1 := by simp
  have sz2 : ((w.alloc (.cells #[.int .i64 1, .int .i64 a, .int .u64 0] 24)).alloc (.cells #[.int .i64 1, .int .i64 b, .int .u64 0] 24)).heap.size = w.heap.size + 2 := by simp
  have VA := ((Val.new w 1 a 0).al (bel_new _ (.cells #[.int .i64 1, .int .i64 b, .int .u64 0] 24))).al (bel_new _ (.cells #[.int .i64 0, .int .i64 0, .int .u64 0] 24))
  have VC := (Val.new (w.alloc (.cells #[.int .i64 1, .int .i64 a, .int .u64 0] 24)) 1 b 0).al (bel_new _ (.cells #[.int .i64 0, .int .i64 0, .int .u64 0] 24))
  have V1 := Val.new ((w.alloc (.cells #[.int .i64 1, .int .i64 a, .int .u64 0] 24)).alloc (.cells #[.int .i64 1, .int .i64 b, .int .u64 0] 24)) 0 0 0
  rw [sz] at VC
  rw [sz2] at V1
  replace VA := hide VA
  replace VC := hide VC
  replace V1 := hide V1
  clear sz sz2
  show Calls _ _ _ _ (Vi w 1 _ 0 0)
  obtain ⟨s1, s2⟩ := hs
  have da : decide (a < 0) = true := decide_eq_true (by omega)
  have db : decide (b < 0) = false := decide_eq_false (by omega)
  have dn : (b == 0) = false := by simp; omega
  have u1 : IntKind.u64.wrap a = a + 18446744073709551616 := by rw [IntKind.wrap_u64]; omega
  have u2 : IntKind.u64.wrap b = b := by rw [IntKind.wrap_u64]; omega
  have u3 : IntKind.u64.wrap (-(a + 18446744073709551616)) = -a := by rw [IntKind.wrap_u64]; omega
  have HF := fun w => form_any 1 a 0 w
  have HG := fun w => form_any 1 b 0 w
  have HO := fun w => order_int 1 a 0 b 0 1 (by decide) w
  rw [show goodB 1 a 0 = true by simp [goodB]] at HF
  rw [show goodB 1 b 0 = true by simp [goodB]] at HG
  generalize ordI a b = O at *
  go_enter Try.func13, Try.ntmps13
  obtain ⟨a0, a1, a2⟩ := VA.out.all.2
  go_wp2_with fail
  refine (HF _).mono ?_
  rintro e w1 ⟨rfl, hb⟩
  replace VA := hide (VA.out.al hb)
  replace VC := hide (VC.out.al hb)
  replace V1 := hide (V1.out.al hb)
  have B1 := hide (bel_trans W1.out hb)
  clear a0 a1 a2 hb HF
  obtain ⟨a0, a1, a2⟩ := VA.out.all.2
  obtain ⟨c0, c1, c2⟩ := VC.out.all.2
  go_wp2_with fail
  refine (HG _).mono ?_
  rintro e w2 ⟨rfl, hb⟩
  replace VA := hide (VA.out.al hb)
  replace VC := hide (VC.out.al hb)
  replace V1 := hide (V1.out.al hb)
  replace B1 := hide (bel_trans B1.out hb)
  clear hb a0 a1 a2 c0 c1 c2 HG
  obtain ⟨a0, a1, a2⟩ := VA.out.all.2
  obtain ⟨c0, c1, c2⟩ := VC.out.all.2
  go_wp2_with fail
  refine (HO _).mono ?_
  rintro e w3 ⟨rfl, hb⟩
  replace VA := hide (VA.out.al hb)
  replace VC := hide (VC.out.al hb)
  replace V1 := hide (V1.out.al hb)
  replace B1 := hide (bel_trans B1.out hb)
  clear hb a0 a1 a2 c0 c1 c2 HO
  obtain ⟨a0, a1, a2⟩ := VA.out.all.2
  obtain ⟨c0, c1, c2⟩ := VC.out.all.2
  go_wp2_with fail
  go_region
  clear a0 a1 a2 c0 c1 c2
  replace VA := hide VA.out.drew
  replace VC := hide VC.out.drew
  replace V1 := hide V1.out.drew
  replace B1 := hide (bel_drawn B1.out)
  generalize w3.drew = w9 at *
  obtain ⟨⟨f0, f1, f2⟩, e0, e1, e2⟩ := V1.out.all
  obtain ⟨a0, a1, a2⟩ := VA.out.all.2
  obtain ⟨c0, c1, c2⟩ := VC.out.all.2
  go_wp2_with fail
  go_region
  clear a0 a1 a2 c0 c1 c2 f0 f1 f2 e0 e1 e2
  replace VA := hide VA.out.drew
  replace VC := hide VC.out.drew
  replace V1 := hide V1.out.drew
  replace B1 := hide (bel_drawn B1.out)
  generalize w9.drew = w8 at *
  obtain ⟨a0, a1, a2⟩ := VA.out.all.2
  obtain ⟨c0, c1, c2⟩ := VC.out.all.2
  go_wp2_with fail
  refine (number_any _ _).mono ?_
  rintro e w4 ⟨rfl, hb2⟩
  replace V1 := hide (V1.out.al hb2)
  replace B1 := hide (bel_trans B1.out hb2)
  clear hb2 a0 a1 a2 c0 c1 c2
  obtain ⟨⟨f0, f1, f2⟩, e0, e1, e2⟩ := V1.out.all
  go_wp2_with fail
  refine ret_vi (w.heap.size + 2) rfl rfl rfl (V1.out.set _ _ _) rfl (Vi.mk ⟨rfl, ?_, rfl, rfl⟩ (bel_set B1.out (by omega) _ _ _))
  rcases tm_le a b ha with ⟨m1, m2⟩
  all_goals try simp only [IntKind.wrap_u64]
  all_goals
    generalize a.tdiv b = T at *
    generalize a.tmod b = M at *
    unfold wrap64
    omega
set_option maxRecDepth 20000 in
set_option maxHeartbeats 2000000 in
theorem rbin_rem_np (op : ByteArray) (a b : Int) (ha : -9223372036854775808 ≤ a ∧ a ≤ 9223372036854775807) (hb : -9223372036854775808 ≤ b ∧ b ≤ 9223372036854775807) (hs : a < 0 ∧ 0 < b) (h : op.toList = [37]) (w : World) : Calls Try.prog 13 #[.string op, .agg #[.int .i64 1, .int .i64 a, .int .u64 0], .agg #[.int .i64 1, .int .i64 b, .int .u64 0]] w (Vi4 w (1, a.tmod b, 0, 0)) := by
  have cf := callFrom
  have W1 : Hid (Below w.heap.size w (((w.alloc (.cells #[.int .i64 1, .int .i64 a, .int .u64 0] 24)).alloc (.cells #[.int .i64 1, .int .i64 b, .int .u64 0] 24)).alloc (.cells #[.int .i64 0, .int .i64 0, .int .u64 0] 24))) := hide (bel_al (bel_al (bel_new w _) _) _)
  have sz : (w.alloc (.cells #[.int .i64 1, .int .i64 a, .int .u64 0] 24)).heap.size = w.heap.size + 1 := by simp
  have sz2 : ((w.alloc (.cells #[.int .i64 1, .int .i64 a, .int .u64 0] 24)).alloc (.cells #[.int .i64 1, .int .i64 b, .int .u64 0] 24)).heap.size = w.heap.size + 2 := by simp
  have VA := ((Val.new w 1 a 0).al (bel_new _ (.cells #[.int .i64 1, .int .i64 b, .int .u64 0] 24))).al (bel_new _ (.cells #[.int .i64 0, .int .i64 0, .int .u64 0] 24))
  have VC := (Val.new (w.alloc (.cells #[.int .i64 1, .int .i64 a, .int .u64 0] 24)) 1 b 0).al (bel_new _ (.cells #[.int .i64 0, .int .i64 0, .int .u64 0] 24))
  have V1 := Val.new ((w.alloc (.cells #[.int .i64 1, .int .i64 a, .int .u64 0] 24)).alloc (.cells #[.int .i64 1, .int .i64 b, .int .u64 0] 24)) 0 0 0
  rw [sz] at VC
  rw [sz2] at V1
  replace VA := hide VA
  replace VC := hide VC
  replace V1 := hide V1
  clear sz sz2
  show Calls _ _ _ _ (Vi w 1 _ 0 0)
  obtain ⟨s1, s2⟩ := hs
  have da : decide (a < 0) = true := decide_eq_true (by omega)
  have db : decide (b < 0) = false := decide_eq_false (by omega)
  have dn : (b == 0) = false := by simp; omega
  have u1 : IntKind.u64.wrap a = a + 18446744073709551616 := by rw [IntKind.wrap_u64]; omega
  have u2 : IntKind.u64.wrap b = b := by rw [IntKind.wrap_u64]; omega
  have u3 : IntKind.u64.wrap (-(a + 18446744073709551616)) = -a := by rw [IntKind.wrap_u64]; omega
  have HF := fun w => form_any 1 a 0 w
  have HG := fun w => form_any 1 b 0 w
  have HO := fun w => order_int 1 a 0 b 0 1 (by decide) w
  rw [show goodB 1 a 0 = true by simp [goodB]] at HF
  rw [show goodB 1 b 0 = true by simp [goodB]] at HG
  generalize ordI a b = O at *
  go_enter Try.func13, Try.ntmps13
  obtain ⟨a0, a1, a2⟩ := VA.out.all.2
  go_wp2_with fail
  refine (HF _).mono ?_
  rintro e w1 ⟨rfl, hb⟩
  replace VA := hide (VA.out.al hb)
  replace VC := hide (VC.out.al hb)
  replace V1 := hide (V1.out.al hb)
  have B1 := hide (bel_trans W1.out hb)
  clear a0 a1 a2 hb HF
  obtain ⟨a0, a1, a2⟩ := VA.out.all.2
  obtain ⟨c0, c1, c2⟩ := VC.out.all.2
  go_wp2_with fail
  refine (HG _).mono ?_
  rintro e w2 ⟨rfl, hb⟩
  replace VA := hide (VA.out.al hb)
  replace VC := hide (VC.out.al hb)
  replace V1 := hide (V1.out.al hb)
  replace B1 := hide (bel_trans B1.out hb)
  clear hb a0 a1 a2 c0 c1 c2 HG
  obtain ⟨a0, a1, a2⟩ := VA.out.all.2
  obtain ⟨c0, c1, c2⟩ := VC.out.all.2
  go_wp2_with fail
  refine (HO _).mono ?_
  rintro e w3 ⟨rfl, hb⟩
  replace VA := hide (VA.out.al hb)
  replace VC := hide (VC.out.al hb)
  replace V1 := hide (V1.out.al hb)
  replace B1 := hide (bel_trans B1.out hb)
  clear hb a0 a1 a2 c0 c1 c2 HO
  obtain ⟨a0, a1, a2⟩ := VA.out.all.2
  obtain ⟨c0, c1, c2⟩ := VC.out.all.2
  go_wp2_with fail
  go_region
  clear a0 a1 a2 c0 c1 c2
  replace VA := hide VA.out.drew
  replace VC := hide VC.out.drew
  replace V1 := hide V1.out.drew
  replace B1 := hide (bel_drawn B1.out)
  generalize w3.drew = w9 at *
  obtain ⟨⟨f0, f1, f2⟩, e0, e1, e2⟩ := V1.out.all
  obtain ⟨a0, a1, a2⟩ := VA.out.all.2
  obtain ⟨c0, c1, c2⟩ := VC.out.all.2
  go_wp2_with fail
  go_region
  clear a0 a1 a2 c0 c1 c2 f0 f1 f2 e0 e1 e2
  replace VA := hide VA.out.drew
  replace VC := hide VC.out.drew
  replace V1 := hide V1.out.drew
  replace B1 := hide (bel_drawn B1.out)
  generalize w9.drew = w8 at *
  obtain ⟨a0, a1, a2⟩ := VA.out.all.2
  obtain ⟨c0, c1, c2⟩ := VC.out.all.2
  go_wp2_with fail
  refine (number_any _ _).mono ?_
  rintro e w4 ⟨rfl, hb2⟩
  replace V1 := hide (V1.out.al hb2)
  replace B1 := hide (bel_trans B1.out hb2)
  clear hb2 a0 a1 a2 c0 c1 c2
  obtain ⟨⟨f0, f1, f2⟩, e0, e1, e2⟩ := V1.out.all
  go_wp2_with fail
  refine ret_vi (w.heap.size + 2) rfl rfl rfl (V1.out.set _ _ _) rfl (Vi.mk ⟨rfl, ?_, rfl, rfl⟩ (bel_set B1.out (by omega) _ _ _))
  rcases tm_le a b ha with ⟨m1, m2⟩
  all_goals try simp only [IntKind.wrap_u64]
  all_goals
    generalize a.tdiv b = T at *
    generalize a.tmod b = M at *
    unfold wrap64
    omega
set_option maxRecDepth 20000 in
set_option maxHeartbeats 2000000 in
theorem rbin_quo_pn (op : ByteArray) (a b : Int) (ha : -9223372036854775808 ≤ a ∧ a ≤ 9223372036854775807) (hb : -9223372036854775808 ≤ b ∧ b ≤ 9223372036854775807) (hs : 0 ≤ a ∧ b < 0) (h : op.toList = [47]) (w : World) : Calls Try.prog 13 #[.string op, .agg #[.int .i64 1, .int .i64 a, .int .u64 0], .agg #[.int .i64 1, .int .i64 b, .int .u64 0]] w (Vi4 w (1, wrap64 (a.tdiv b), 0, 0)) := by
  have cf := callFrom
  have W1 : Hid (Below w.heap.size w (((w.alloc (.cells #[.int .i64 1, .int .i64 a, .int .u64 0] 24)).alloc (.cells #[.int .i64 1, .int .i64 b, .int .u64 0] 24)).alloc (.cells #[.int .i64 0, .int .i64 0, .int .u64 0] 24))) := hide (bel_al (bel_al (bel_new w _) _) _)
  have sz : (w.alloc (.cells #[.int .i64 1, .int .i64 a, .int .u64 0] 24)).heap.size = w.heap.size + 1 := by simp
  have sz2 : ((w.alloc (.cells #[.int .i64 1, .int .i64 a, .int .u64 0] 24)).alloc (.cells #[.int .i64 1, .int .i64 b, .int .u64 0] 24)).heap.size = w.heap.size + 2 := by simp
  have VA := ((Val.new w 1 a 0).al (bel_new _ (.cells #[.int .i64 1, .int .i64 b, .int .u64 0] 24))).al (bel_new _ (.cells #[.int .i64 0, .int .i64 0, .int .u64 0] 24))
  have VC := (Val.new (w.alloc (.cells #[.int .i64 1, .int .i64 a, .int .u64 0] 24)) 1 b 0).al (bel_new _ (.cells #[.int .i64 0, .int .i64 0, .int .u64 0] 24))
  have V1 := Val.new ((w.alloc (.cells #[.int .i64 1, .int .i64 a, .int .u64 0] 24)).alloc (.cells #[.int .i64 1, .int .i64 b, .int .u64 0] 24)) 0 0 0
  rw [sz] at VC
  rw [sz2] at V1
  replace VA := hide VA
  replace VC := hide VC
  replace V1 := hide V1
  clear sz sz2
  show Calls _ _ _ _ (Vi w 1 _ 0 0)
  obtain ⟨s1, s2⟩ := hs
  have da : decide (a < 0) = false := decide_eq_false (by omega)
  have db : decide (b < 0) = true := decide_eq_true (by omega)
  have dn : (b == 0) = false := by simp; omega
  have u1 : IntKind.u64.wrap a = a := by rw [IntKind.wrap_u64]; omega
  have u2 : IntKind.u64.wrap b = b + 18446744073709551616 := by rw [IntKind.wrap_u64]; omega
  have u4 : IntKind.u64.wrap (-(b + 18446744073709551616)) = -b := by rw [IntKind.wrap_u64]; omega
  have HF := fun w => form_any 1 a 0 w
  have HG := fun w => form_any 1 b 0 w
  have HO := fun w => order_int 1 a 0 b 0 1 (by decide) w
  rw [show goodB 1 a 0 = true by simp [goodB]] at HF
  rw [show goodB 1 b 0 = true by simp [goodB]] at HG
  generalize ordI a b = O at *
  go_enter Try.func13, Try.ntmps13
  obtain ⟨a0, a1, a2⟩ := VA.out.all.2
  go_wp2_with fail
  refine (HF _).mono ?_
  rintro e w1 ⟨rfl, hb⟩
  replace VA := hide (VA.out.al hb)
  replace VC := hide (VC.out.al hb)
  replace V1 := hide (V1.out.al hb)
  have B1 := hide (bel_trans W1.out hb)
  clear a0 a1 a2 hb HF
  obtain ⟨a0, a1, a2⟩ := VA.out.all.2
  obtain ⟨c0, c1, c2⟩ := VC.out.all.2
  go_wp2_with fail
  refine (HG _).mono ?_
  rintro e w2 ⟨rfl, hb⟩
  replace VA := hide (VA.out.al hb)
  replace VC := hide (VC.out.al hb)
  replace V1 := hide (V1.out.al hb)
  replace B1 := hide (bel_trans B1.out hb)
  clear hb a0 a1 a2 c0 c1 c2 HG
  obtain ⟨a0, a1, a2⟩ := VA.out.all.2
  obtain ⟨c0, c1, c2⟩ := VC.out.all.2
  go_wp2_with fail
  refine (HO _).mono ?_
  rintro e w3 ⟨rfl, hb⟩
  replace VA := hide (VA.out.al hb)
  replace VC := hide (VC.out.al hb)
  replace V1 := hide (V1.out.al hb)
  replace B1 := hide (bel_trans B1.out hb)
  clear hb a0 a1 a2 c0 c1 c2 HO
  obtain ⟨a0, a1, a2⟩ := VA.out.all.2
  obtain ⟨c0, c1, c2⟩ := VC.out.all.2
  go_wp2_with fail
  go_region
  clear a0 a1 a2 c0 c1 c2
  replace VA := hide VA.out.drew
  replace VC := hide VC.out.drew
  replace V1 := hide V1.out.drew
  replace B1 := hide (bel_drawn B1.out)
  generalize w3.drew = w9 at *
  obtain ⟨⟨f0, f1, f2⟩, e0, e1, e2⟩ := V1.out.all
  obtain ⟨a0, a1, a2⟩ := VA.out.all.2
  obtain ⟨c0, c1, c2⟩ := VC.out.all.2
  go_wp2_with fail
  go_region
  clear a0 a1 a2 c0 c1 c2 f0 f1 f2 e0 e1 e2
  replace VA := hide VA.out.drew
  replace VC := hide VC.out.drew
  replace V1 := hide V1.out.drew
  replace B1 := hide (bel_drawn B1.out)
  generalize w9.drew = w8 at *
  obtain ⟨a0, a1, a2⟩ := VA.out.all.2
  obtain ⟨c0, c1, c2⟩ := VC.out.all.2
  go_wp2_with fail
  refine (number_any _ _).mono ?_
  rintro e w4 ⟨rfl, hb2⟩
  replace V1 := hide (V1.out.al hb2)
  replace B1 := hide (bel_trans B1.out hb2)
  clear hb2 a0 a1 a2 c0 c1 c2
  obtain ⟨⟨f0, f1, f2⟩, e0, e1, e2⟩ := V1.out.all
  go_wp2_with fail
  refine ret_vi (w.heap.size + 2) rfl rfl rfl (V1.out.set _ _ _) rfl (Vi.mk ⟨rfl, ?_, rfl, rfl⟩ (bel_set B1.out (by omega) _ _ _))
  rcases tm_le a b ha with ⟨m1, m2⟩
  have q1 : a / b = a.tdiv b := (Int.tdiv_eq_ediv_of_nonneg s1).symm
  have q2 : a % b = a.tmod b := (Int.tmod_eq_emod_of_nonneg s1).symm
  try rw [q1]
  all_goals try rw [q2]
  all_goals try simp only [IntKind.wrap_u64]
  all_goals
    generalize a.tdiv b = T at *
    generalize a.tmod b = M at *
    unfold wrap64
    omega
set_option maxRecDepth 20000 in
set_option maxHeartbeats 2000000 in
theorem rbin_rem_pn (op : ByteArray) (a b : Int) (ha : -9223372036854775808 ≤ a ∧ a ≤ 9223372036854775807) (hb : -9223372036854775808 ≤ b ∧ b ≤ 9223372036854775807) (hs : 0 ≤ a ∧ b < 0) (h : op.toList = [37]) (w : World) : Calls Try.prog 13 #[.string op, .agg #[.int .i64 1, .int .i64 a, .int .u64 0], .agg #[.int .i64 1, .int .i64 b, .int .u64 0]] w (Vi4 w (1, a.tmod b, 0, 0)) := by
  have cf := callFrom
  have W1 : Hid (Below w.heap.size w (((w.alloc (.cells #[.int .i64 1, .int .i64 a, .int .u64 0] 24)).alloc (.cells #[.int .i64 1, .int .i64 b, .int .u64 0] 24)).alloc (.cells #[.int .i64 0, .int .i64 0, .int .u64 0] 24))) := hide (bel_al (bel_al (bel_new w _) _) _)
  have sz : (w.alloc (.cells #[.int .i64 1, .int .i64 a, .int .u64 0] 24)).heap.size = w.heap.size + 1 := by simp
  have sz2 : ((w.alloc (.cells #[.int .i64 1, .int .i64 a, .int .u64 0] 24)).alloc (.cells #[.int .i64 1, .int .i64 b, .int .u64 0] 24)).heap.size = w.heap.size + 2 := by simp
  have VA := ((Val.new w 1 a 0).al (bel_new _ (.cells #[.int .i64 1, .int .i64 b, .int .u64 0] 24))).al (bel_new _ (.cells #[.int .i64 0, .int .i64 0, .int .u64 0] 24))
  have VC := (Val.new (w.alloc (.cells #[.int .i64 1, .int .i64 a, .int .u64 0] 24)) 1 b 0).al (bel_new _ (.cells #[.int .i64 0, .int .i64 0, .int .u64 0] 24))
  have V1 := Val.new ((w.alloc (.cells #[.int .i64 1, .int .i64 a, .int .u64 0] 24)).alloc (.cells #[.int .i64 1, .int .i64 b, .int .u64 0] 24)) 0 0 0
  rw [sz] at VC
  rw [sz2] at V1
  replace VA := hide VA
  replace VC := hide VC
  replace V1 := hide V1
  clear sz sz2
  show Calls _ _ _ _ (Vi w 1 _ 0 0)
  obtain ⟨s1, s2⟩ := hs
  have da : decide (a < 0) = false := decide_eq_false (by omega)
  have db : decide (b < 0) = true := decide_eq_true (by omega)
  have dn : (b == 0) = false := by simp; omega
  have u1 : IntKind.u64.wrap a = a := by rw [IntKind.wrap_u64]; omega
  have u2 : IntKind.u64.wrap b = b + 18446744073709551616 := by rw [IntKind.wrap_u64]; omega
  have u4 : IntKind.u64.wrap (-(b + 18446744073709551616)) = -b := by rw [IntKind.wrap_u64]; omega
  have HF := fun w => form_any 1 a 0 w
  have HG := fun w => form_any 1 b 0 w
  have HO := fun w => order_int 1 a 0 b 0 1 (by decide) w
  rw [show goodB 1 a 0 = true by simp [goodB]] at HF
  rw [show goodB 1 b 0 = true by simp [goodB]] at HG
  generalize ordI a b = O at *
  go_enter Try.func13, Try.ntmps13
  obtain ⟨a0, a1, a2⟩ := VA.out.all.2
  go_wp2_with fail
  refine (HF _).mono ?_
  rintro e w1 ⟨rfl, hb⟩
  replace VA := hide (VA.out.al hb)
  replace VC := hide (VC.out.al hb)
  replace V1 := hide (V1.out.al hb)
  have B1 := hide (bel_trans W1.out hb)
  clear a0 a1 a2 hb HF
  obtain ⟨a0, a1, a2⟩ := VA.out.all.2
  obtain ⟨c0, c1, c2⟩ := VC.out.all.2
  go_wp2_with fail
  refine (HG _).mono ?_
  rintro e w2 ⟨rfl, hb⟩
  replace VA := hide (VA.out.al hb)
  replace VC := hide (VC.out.al hb)
  replace V1 := hide (V1.out.al hb)
  replace B1 := hide (bel_trans B1.out hb)
  clear hb a0 a1 a2 c0 c1 c2 HG
  obtain ⟨a0, a1, a2⟩ := VA.out.all.2
  obtain ⟨c0, c1, c2⟩ := VC.out.all.2
  go_wp2_with fail
  refine (HO _).mono ?_
  rintro e w3 ⟨rfl, hb⟩
  replace VA := hide (VA.out.al hb)
  replace VC := hide (VC.out.al hb)
  replace V1 := hide (V1.out.al hb)
  replace B1 := hide (bel_trans B1.out hb)
  clear hb a0 a1 a2 c0 c1 c2 HO
  obtain ⟨a0, a1, a2⟩ := VA.out.all.2
  obtain ⟨c0, c1, c2⟩ := VC.out.all.2
  go_wp2_with fail
  go_region
  clear a0 a1 a2 c0 c1 c2
  replace VA := hide VA.out.drew
  replace VC := hide VC.out.drew
  replace V1 := hide V1.out.drew
  replace B1 := hide (bel_drawn B1.out)
  generalize w3.drew = w9 at *
  obtain ⟨⟨f0, f1, f2⟩, e0, e1, e2⟩ := V1.out.all
  obtain ⟨a0, a1, a2⟩ := VA.out.all.2
  obtain ⟨c0, c1, c2⟩ := VC.out.all.2
  go_wp2_with fail
  go_region
  clear a0 a1 a2 c0 c1 c2 f0 f1 f2 e0 e1 e2
  replace VA := hide VA.out.drew
  replace VC := hide VC.out.drew
  replace V1 := hide V1.out.drew
  replace B1 := hide (bel_drawn B1.out)
  generalize w9.drew = w8 at *
  obtain ⟨a0, a1, a2⟩ := VA.out.all.2
  obtain ⟨c0, c1, c2⟩ := VC.out.all.2
  go_wp2_with fail
  refine (number_any _ _).mono ?_
  rintro e w4 ⟨rfl, hb2⟩
  replace V1 := hide (V1.out.al hb2)
  replace B1 := hide (bel_trans B1.out hb2)
  clear hb2 a0 a1 a2 c0 c1 c2
  obtain ⟨⟨f0, f1, f2⟩, e0, e1, e2⟩ := V1.out.all
  go_wp2_with fail
  refine ret_vi (w.heap.size + 2) rfl rfl rfl (V1.out.set _ _ _) rfl (Vi.mk ⟨rfl, ?_, rfl, rfl⟩ (bel_set B1.out (by omega) _ _ _))
  rcases tm_le a b ha with ⟨m1, m2⟩
  have q1 : a / b = a.tdiv b := (Int.tdiv_eq_ediv_of_nonneg s1).symm
  have q2 : a % b = a.tmod b := (Int.tmod_eq_emod_of_nonneg s1).symm
  try rw [q1]
  all_goals try rw [q2]
  all_goals try simp only [IntKind.wrap_u64]
  all_goals
    generalize a.tdiv b = T at *
    generalize a.tmod b = M at *
    unfold wrap64
    omega
set_option maxRecDepth 20000 in
set_option maxHeartbeats 2000000 in
theorem rbin_quo_nn (op : ByteArray) (a b : Int) (ha : -9223372036854775808 ≤ a ∧ a ≤ 9223372036854775807) (hb : -9223372036854775808 ≤ b ∧ b ≤ 9223372036854775807) (hs : a < 0 ∧ b < 0) (h : op.toList = [47]) (w : World) : Calls Try.prog 13 #[.string op, .agg #[.int .i64 1, .int .i64 a, .int .u64 0], .agg #[.int .i64 1, .int .i64 b, .int .u64 0]] w (Vi4 w (1, wrap64 (a.tdiv b), 0, 0)) := by
  have cf := callFrom
  have W1 : Hid (Below w.heap.size w (((w.alloc (.cells #[.int .i64 1, .int .i64 a, .int .u64 0] 24)).alloc (.cells #[.int .i64 1, .int .i64 b, .int .u64 0] 24)).alloc (.cells #[.int .i64 0, .int .i64 0, .int .u64 0] 24))) := hide (bel_al (bel_al (bel_new w _) _) _)
  have sz : (w.alloc (.cells #[.int .i64 1, .int .i64 a, .int .u64 0] 24)).heap.size = w.heap.size + 1 := by simp
  have sz2 : ((w.alloc (.cells #[.int .i64 1, .int .i64 a, .int .u64 0] 24)).alloc (.cells #[.int .i64 1, .int .i64 b, .int .u64 0] 24)).heap.size = w.heap.size + 2 := by simp
  have VA := ((Val.new w 1 a 0).al (bel_new _ (.cells #[.int .i64 1, .int .i64 b, .int .u64 0] 24))).al (bel_new _ (.cells #[.int .i64 0, .int .i64 0, .int .u64 0] 24))
  have VC := (Val.new (w.alloc (.cells #[.int .i64 1, .int .i64 a, .int .u64 0] 24)) 1 b 0).al (bel_new _ (.cells #[.int .i64 0, .int .i64 0, .int .u64 0] 24))
  have V1 := Val.new ((w.alloc (.cells #[.int .i64 1, .int .i64 a, .int .u64 0] 24)).alloc (.cells #[.int .i64 1, .int .i64 b, .int .u64 0] 24)) 0 0 0
  rw [sz] at VC
  rw [sz2] at V1
  replace VA := hide VA
  replace VC := hide VC
  replace V1 := hide V1
  clear sz sz2
  show Calls _ _ _ _ (Vi w 1 _ 0 0)
  obtain ⟨s1, s2⟩ := hs
  have da : decide (a < 0) = true := decide_eq_true (by omega)
  have db : decide (b < 0) = true := decide_eq_true (by omega)
  have dn : (b == 0) = false := by simp; omega
  have u1 : IntKind.u64.wrap a = a + 18446744073709551616 := by rw [IntKind.wrap_u64]; omega
  have u2 : IntKind.u64.wrap b = b + 18446744073709551616 := by rw [IntKind.wrap_u64]; omega
  have u3 : IntKind.u64.wrap (-(a + 18446744073709551616)) = -a := by rw [IntKind.wrap_u64]; omega
  have u4 : IntKind.u64.wrap (-(b + 18446744073709551616)) = -b := by rw [IntKind.wrap_u64]; omega
  have HF := fun w => form_any 1 a 0 w
  have HG := fun w => form_any 1 b 0 w
  have HO := fun w => order_int 1 a 0 b 0 1 (by decide) w
  rw [show goodB 1 a 0 = true by simp [goodB]] at HF
  rw [show goodB 1 b 0 = true by simp [goodB]] at HG
  generalize ordI a b = O at *
  go_enter Try.func13, Try.ntmps13
  obtain ⟨a0, a1, a2⟩ := VA.out.all.2
  go_wp2_with fail
  refine (HF _).mono ?_
  rintro e w1 ⟨rfl, hb⟩
  replace VA := hide (VA.out.al hb)
  replace VC := hide (VC.out.al hb)
  replace V1 := hide (V1.out.al hb)
  have B1 := hide (bel_trans W1.out hb)
  clear a0 a1 a2 hb HF
  obtain ⟨a0, a1, a2⟩ := VA.out.all.2
  obtain ⟨c0, c1, c2⟩ := VC.out.all.2
  go_wp2_with fail
  refine (HG _).mono ?_
  rintro e w2 ⟨rfl, hb⟩
  replace VA := hide (VA.out.al hb)
  replace VC := hide (VC.out.al hb)
  replace V1 := hide (V1.out.al hb)
  replace B1 := hide (bel_trans B1.out hb)
  clear hb a0 a1 a2 c0 c1 c2 HG
  obtain ⟨a0, a1, a2⟩ := VA.out.all.2
  obtain ⟨c0, c1, c2⟩ := VC.out.all.2
  go_wp2_with fail
  refine (HO _).mono ?_
  rintro e w3 ⟨rfl, hb⟩
  replace VA := hide (VA.out.al hb)
  replace VC := hide (VC.out.al hb)
  replace V1 := hide (V1.out.al hb)
  replace B1 := hide (bel_trans B1.out hb)
  clear hb a0 a1 a2 c0 c1 c2 HO
  obtain ⟨a0, a1, a2⟩ := VA.out.all.2
  obtain ⟨c0, c1, c2⟩ := VC.out.all.2
  go_wp2_with fail
  go_region
  clear a0 a1 a2 c0 c1 c2
  replace VA := hide VA.out.drew
  replace VC := hide VC.out.drew
  replace V1 := hide V1.out.drew
  replace B1 := hide (bel_drawn B1.out)
  generalize w3.drew = w9 at *
  obtain ⟨⟨f0, f1, f2⟩, e0, e1, e2⟩ := V1.out.all
  obtain ⟨a0, a1, a2⟩ := VA.out.all.2
  obtain ⟨c0, c1, c2⟩ := VC.out.all.2
  go_wp2_with fail
  go_region
  clear a0 a1 a2 c0 c1 c2 f0 f1 f2 e0 e1 e2
  replace VA := hide VA.out.drew
  replace VC := hide VC.out.drew
  replace V1 := hide V1.out.drew
  replace B1 := hide (bel_drawn B1.out)
  generalize w9.drew = w8 at *
  obtain ⟨a0, a1, a2⟩ := VA.out.all.2
  obtain ⟨c0, c1, c2⟩ := VC.out.all.2
  go_wp2_with fail
  refine (number_any _ _).mono ?_
  rintro e w4 ⟨rfl, hb2⟩
  replace V1 := hide (V1.out.al hb2)
  replace B1 := hide (bel_trans B1.out hb2)
  clear hb2 a0 a1 a2 c0 c1 c2
  obtain ⟨⟨f0, f1, f2⟩, e0, e1, e2⟩ := V1.out.all
  go_wp2_with fail
  refine ret_vi (w.heap.size + 2) rfl rfl rfl (V1.out.set _ _ _) rfl (Vi.mk ⟨rfl, ?_, rfl, rfl⟩ (bel_set B1.out (by omega) _ _ _))
  rcases tm_le a b ha with ⟨m1, m2⟩
  all_goals try simp only [IntKind.wrap_u64]
  all_goals
    generalize a.tdiv b = T at *
    generalize a.tmod b = M at *
    unfold wrap64
    omega
set_option maxRecDepth 20000 in
set_option maxHeartbeats 2000000 in
theorem rbin_rem_nn (op : ByteArray) (a b : Int) (ha : -9223372036854775808 ≤ a ∧ a ≤ 9223372036854775807) (hb : -9223372036854775808 ≤ b ∧ b ≤ 9223372036854775807) (hs : a < 0 ∧ b < 0) (h : op.toList = [37]) (w : World) : Calls Try.prog 13 #[.string op, .agg #[.int .i64 1, .int .i64 a, .int .u64 0], .agg #[.int .i64 1, .int .i64 b, .int .u64 0]] w (Vi4 w (1, a.tmod b, 0, 0)) := by
  have cf := callFrom
  have W1 : Hid (Below w.heap.size w (((w.alloc (.cells #[.int .i64 1, .int .i64 a, .int .u64 0] 24)).alloc (.cells #[.int .i64 1, .int .i64 b, .int .u64 0] 24)).alloc (.cells #[.int .i64 0, .int .i64 0, .int .u64 0] 24))) := hide (bel_al (bel_al (bel_new w _) _) _)
  have sz : (w.alloc (.cells #[.int .i64 1, .int .i64 a, .int .u64 0] 24)).heap.size = w.heap.size + 1 := by simp
  have sz2 : ((w.alloc (.cells #[.int .i64 1, .int .i64 a, .int .u64 0] 24)).alloc (.cells #[.int .i64 1, .int .i64 b, .int .u64 0] 24)).heap.size = w.heap.size + 2 := by simp
  have VA := ((Val.new w 1 a 0).al (bel_new _ (.cells #[.int .i64 1, .int .i64 b, .int .u64 0] 24))).al (bel_new _ (.cells #[.int .i64 0, .int .i64 0, .int .u64 0] 24))
  have VC := (Val.new (w.alloc (.cells #[.int .i64 1, .int .i64 a, .int .u64 0] 24)) 1 b 0).al (bel_new _ (.cells #[.int .i64 0, .int .i64 0, .int .u64 0] 24))
  have V1 := Val.new ((w.alloc (.cells #[.int .i64 1, .int .i64 a, .int .u64 0] 24)).alloc (.cells #[.int .i64 1, .int .i64 b, .int .u64 0] 24)) 0 0 0
  rw [sz] at VC
  rw [sz2] at V1
  replace VA := hide VA
  replace VC := hide VC
  replace V1 := hide V1
  clear sz sz2
  show Calls _ _ _ _ (Vi w 1 _ 0 0)
  obtain ⟨s1, s2⟩ := hs
  have da : decide (a < 0) = true := decide_eq_true (by omega)
  have db : decide (b < 0) = true := decide_eq_true (by omega)
  have dn : (b == 0) = false := by simp; omega
  have u1 : IntKind.u64.wrap a = a + 18446744073709551616 := by rw [IntKind.wrap_u64]; omega
  have u2 : IntKind.u64.wrap b = b + 18446744073709551616 := by rw [IntKind.wrap_u64]; omega
  have u3 : IntKind.u64.wrap (-(a + 18446744073709551616)) = -a := by rw [IntKind.wrap_u64]; omega
  have u4 : IntKind.u64.wrap (-(b + 18446744073709551616)) = -b := by rw [IntKind.wrap_u64]; omega
  have HF := fun w => form_any 1 a 0 w
  have HG := fun w => form_any 1 b 0 w
  have HO := fun w => order_int 1 a 0 b 0 1 (by decide) w
  rw [show goodB 1 a 0 = true by simp [goodB]] at HF
  rw [show goodB 1 b 0 = true by simp [goodB]] at HG
  generalize ordI a b = O at *
  go_enter Try.func13, Try.ntmps13
  obtain ⟨a0, a1, a2⟩ := VA.out.all.2
  go_wp2_with fail
  refine (HF _).mono ?_
  rintro e w1 ⟨rfl, hb⟩
  replace VA := hide (VA.out.al hb)
  replace VC := hide (VC.out.al hb)
  replace V1 := hide (V1.out.al hb)
  have B1 := hide (bel_trans W1.out hb)
  clear a0 a1 a2 hb HF
  obtain ⟨a0, a1, a2⟩ := VA.out.all.2
  obtain ⟨c0, c1, c2⟩ := VC.out.all.2
  go_wp2_with fail
  refine (HG _).mono ?_
  rintro e w2 ⟨rfl, hb⟩
  replace VA := hide (VA.out.al hb)
  replace VC := hide (VC.out.al hb)
  replace V1 := hide (V1.out.al hb)
  replace B1 := hide (bel_trans B1.out hb)
  clear hb a0 a1 a2 c0 c1 c2 HG
  obtain ⟨a0, a1, a2⟩ := VA.out.all.2
  obtain ⟨c0, c1, c2⟩ := VC.out.all.2
  go_wp2_with fail
  refine (HO _).mono ?_
  rintro e w3 ⟨rfl, hb⟩
  replace VA := hide (VA.out.al hb)
  replace VC := hide (VC.out.al hb)
  replace V1 := hide (V1.out.al hb)
  replace B1 := hide (bel_trans B1.out hb)
  clear hb a0 a1 a2 c0 c1 c2 HO
  obtain ⟨a0, a1, a2⟩ := VA.out.all.2
  obtain ⟨c0, c1, c2⟩ := VC.out.all.2
  go_wp2_with fail
  go_region
  clear a0 a1 a2 c0 c1 c2
  replace VA := hide VA.out.drew
  replace VC := hide VC.out.drew
  replace V1 := hide V1.out.drew
  replace B1 := hide (bel_drawn B1.out)
  generalize w3.drew = w9 at *
  obtain ⟨⟨f0, f1, f2⟩, e0, e1, e2⟩ := V1.out.all
  obtain ⟨a0, a1, a2⟩ := VA.out.all.2
  obtain ⟨c0, c1, c2⟩ := VC.out.all.2
  go_wp2_with fail
  go_region
  clear a0 a1 a2 c0 c1 c2 f0 f1 f2 e0 e1 e2
  replace VA := hide VA.out.drew
  replace VC := hide VC.out.drew
  replace V1 := hide V1.out.drew
  replace B1 := hide (bel_drawn B1.out)
  generalize w9.drew = w8 at *
  obtain ⟨a0, a1, a2⟩ := VA.out.all.2
  obtain ⟨c0, c1, c2⟩ := VC.out.all.2
  go_wp2_with fail
  refine (number_any _ _).mono ?_
  rintro e w4 ⟨rfl, hb2⟩
  replace V1 := hide (V1.out.al hb2)
  replace B1 := hide (bel_trans B1.out hb2)
  clear hb2 a0 a1 a2 c0 c1 c2
  obtain ⟨⟨f0, f1, f2⟩, e0, e1, e2⟩ := V1.out.all
  go_wp2_with fail
  refine ret_vi (w.heap.size + 2) rfl rfl rfl (V1.out.set _ _ _) rfl (Vi.mk ⟨rfl, ?_, rfl, rfl⟩ (bel_set B1.out (by omega) _ _ _))
  rcases tm_le a b ha with ⟨m1, m2⟩
  all_goals try simp only [IntKind.wrap_u64]
  all_goals
    generalize a.tdiv b = T at *
    generalize a.tmod b = M at *
    unfold wrap64
    omega
end Go.Proofs.Ytmdfciiejenpnaa.Ck
