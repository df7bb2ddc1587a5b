/- The document's Binary: ints. (Written by mk_r.py.) -/
import Derived.Test.YtmdfciiejenpnaaR3
namespace Go.Proofs.Ytmdfciiejenpnaa.Ck
open Go.RowKit

theorem add_u64 (a b : Int) : wrap64 (IntKind.u64.wrap (IntKind.u64.wrap a + IntKind.u64.wrap b)) = wrap64 (a + b) := by
  rw [IntKind.wrap_u64, IntKind.wrap_u64, IntKind.wrap_u64]
  unfold wrap64
  omega
theorem sub_u64 (a b : Int) : wrap64 (IntKind.u64.wrap (IntKind.u64.wrap a - IntKind.u64.wrap b)) = wrap64 (a - b) := by
  rw [IntKind.wrap_u64, IntKind.wrap_u64, IntKind.wrap_u64]
  unfold wrap64
  omega
theorem mul_u64 (a b : Int) : wrap64 (IntKind.u64.wrap (IntKind.u64.wrap a * IntKind.u64.wrap b)) = wrap64 (a * b) := by
  rw [IntKind.wrap_u64, IntKind.wrap_u64, IntKind.wrap_u64]
  unfold wrap64
  congr 1
  rw [← Int.emod_emod_of_dvd (a * b + 9223372036854775808) (Int.dvd_refl 18446744073709551616), Int.add_emod, Int.emod_emod_of_dvd _ (Int.dvd_refl _), ← Int.mul_emod, ← Int.add_emod, Int.emod_emod_of_dvd _ (Int.dvd_refl _)]
set_option maxRecDepth 20000 in
set_option maxHeartbeats 2000000 in
theorem rbin_iadd (op : ByteArray) (a b : Int) (h : op.toList = [43]) (w : World) : Calls Try.prog 13 #[.string op, .agg #[.int .i64 1, .int .i64 a, .int .u64 0], .agg #[.int .i64 1, .int .i64 b, .int .u64 0]] w (Vi4 w (1, wrap64 (a + b), 0, 0)) := by
  have cf := callFrom
  have W1 : Hid (Below w.heap.size w (((w.alloc (.cells #[.int .i64 1, .int .i64 a, .int .u64 0] 24)).alloc (.cells #[.int .i64 1, .int .i64 b, .int .u64 0] 24)).alloc (.cells #[.int .i64 0, .int .i64 0, .int .u64 0] 24))) := hide (bel_al (bel_al (bel_new w _) _) _)
  have sz : (w.alloc (.cells #[.int .i64 1, .int .i64 a, .int .u64 0] 24)).heap.size = w.heap.size + 1 := by simp
  have sz2 : ((w.alloc (.cells #[.int .i64 1, .int .i64 a, .int .u64 0] 24)).alloc (.cells #[.int .i64 1, .int .i64 b, .int .u64 0] 24)).heap.size = w.heap.size + 2 := by simp
  have VA := ((Val.new w 1 a 0).al (bel_new _ (.cells #[.int .i64 1, .int .i64 b, .int .u64 0] 24))).al (bel_new _ (.cells #[.int .i64 0, .int .i64 0, .int .u64 0] 24))
  have VC := (Val.new (w.alloc (.cells #[.int .i64 1, .int .i64 a, .int .u64 0] 24)) 1 b 0).al (bel_new _ (.cells #[.int .i64 0, .int .i64 0, .int .u64 0] 24))
  have V1 := Val.new ((w.alloc (.cells #[.int .i64 1, .int .i64 a, .int .u64 0] 24)).alloc (.cells #[.int .i64 1, .int .i64 b, .int .u64 0] 24)) 0 0 0
  rw [sz] at VC
  rw [sz2] at V1
  replace VA := hide VA
  replace VC := hide VC
  replace V1 := hide V1
  clear sz sz2
  show Calls _ _ _ _ (Vi w 1 _ 0 0)
  have hE := add_u64 a b
  have HF := fun w => form_any 1 a 0 w
  have HG := fun w => form_any 1 b 0 w
  have HO := fun w => order_int 1 a 0 b 0 1 (by decide) w
  rw [show goodB 1 a 0 = true by simp [goodB]] at HF
  rw [show goodB 1 b 0 = true by simp [goodB]] at HG
  generalize ordI a b = O at *
  go_enter Try.func13, Try.ntmps13
  obtain ⟨a0, a1, a2⟩ := VA.out.all.2
  go_wp2_with fail
  refine (HF _).mono ?_
  rintro e w1 ⟨rfl, hb⟩
  replace VA := hide (VA.out.al hb)
  replace VC := hide (VC.out.al hb)
  replace V1 := hide (V1.out.al hb)
  have B1 := hide (bel_trans W1.out hb)
  clear a0 a1 a2 hb HF
  obtain ⟨a0, a1, a2⟩ := VA.out.all.2
  obtain ⟨c0, c1, c2⟩ := VC.out.all.2
  go_wp2_with fail
  refine (HG _).mono ?_
  rintro e w2 ⟨rfl, hb⟩
  replace VA := hide (VA.out.al hb)
  replace VC := hide (VC.out.al hb)
  replace V1 := hide (V1.out.al hb)
  replace B1 := hide (bel_trans B1.out hb)
  clear hb a0 a1 a2 c0 c1 c2 HG
  obtain ⟨a0, a1, a2⟩ := VA.out.all.2
  obtain ⟨c0, c1, c2⟩ := VC.out.all.2
  go_wp2_with fail
  refine (HO _).mono ?_
  rintro e w3 ⟨rfl, hb⟩
  replace VA := hide (VA.out.al hb)
  replace VC := hide (VC.out.al hb)
  replace V1 := hide (V1.out.al hb)
  replace B1 := hide (bel_trans B1.out hb)
  clear hb a0 a1 a2 c0 c1 c2 HO
  obtain ⟨a0, a1, a2⟩ := VA.out.all.2
  obtain ⟨c0, c1, c2⟩ := VC.out.all.2
  go_wp2_with fail
  go_region
  clear a0 a1 a2 c0 c1 c2
  replace VA := hide VA.out.drew
  replace VC := hide VC.out.drew
  replace V1 := hide V1.out.drew
  replace B1 := hide (bel_drawn B1.out)
  generalize w3.drew = w9 at *
  obtain ⟨⟨f0, f1, f2⟩, e0, e1, e2⟩ := V1.out.all
  obtain ⟨a0, a1, a2⟩ := VA.out.all.2
  obtain ⟨c0, c1, c2⟩ := VC.out.all.2
  go_wp2_with fail
  refine (number_any _ _).mono ?_
  rintro e w4 ⟨rfl, hb⟩
  replace V1 := hide (V1.out.al hb)
  replace B1 := hide (bel_trans B1.out hb)
  clear hb a0 a1 a2 c0 c1 c2
  obtain ⟨⟨f0, f1, f2⟩, e0, e1, e2⟩ := V1.out.all
  go_wp2_with fail
  exact ret_vi (w.heap.size + 2) rfl rfl rfl (V1.out.set _ _ _) rfl (Vi.mk ⟨rfl, rfl, rfl, rfl⟩ (bel_set B1.out (by omega) _ _ _))
set_option maxRecDepth 20000 in
set_option maxHeartbeats 2000000 in
theorem rbin_isub (op : ByteArray) (a b : Int) (h : op.toList = [45]) (w : World) : Calls Try.prog 13 #[.string op, .agg #[.int .i64 1, .int .i64 a, .int .u64 0], .agg #[.int .i64 1, .int .i64 b, .int .u64 0]] w (Vi4 w (1, wrap64 (a - b), 0, 0)) := by
  have cf := callFrom
  have W1 : Hid (Below w.heap.size w (((w.alloc (.cells #[.int .i64 1, .int .i64 a, .int .u64 0] 24)).alloc (.cells #[.int .i64 1, .int .i64 b, .int .u64 0] 24)).alloc (.cells #[.int .i64 0, .int .i64 0, .int .u64 0] 24))) := hide (bel_al (bel_al (bel_new w _) _) _)
  have sz : (w.alloc (.cells #[.int .i64 1, .int .i64 a, .int .u64 0] 24)).heap.size = w.heap.size + 1 := by simp
  have sz2 : ((w.alloc (.cells #[.int .i64 1, .int .i64 a, .int .u64 0] 24)).alloc (.cells #[.int .i64 1, .int .i64 b, .int .u64 0] 24)).heap.size = w.heap.size + 2 := by simp
  have VA := ((Val.new w 1 a 0).al (bel_new _ (.cells #[.int .i64 1, .int .i64 b, .int .u64 0] 24))).al (bel_new _ (.cells #[.int .i64 0, .int .i64 0, .int .u64 0] 24))
  have VC := (Val.new (w.alloc (.cells #[.int .i64 1, .int .i64 a, .int .u64 0] 24)) 1 b 0).al (bel_new _ (.cells #[.int .i64 0, .int .i64 0, .int .u64 0] 24))
  have V1 := Val.new ((w.alloc (.cells #[.int .i64 1, .int .i64 a, .int .u64 0] 24)).alloc (.cells #[.int .i64 1, .int .i64 b, .int .u64 0] 24)) 0 0 0
  rw [sz] at VC
  rw [sz2] at V1
  replace VA := hide VA
  replace VC := hide VC
  replace V1 := hide V1
  clear sz sz2
  show Calls _ _ _ _ (Vi w 1 _ 0 0)
  have hE := sub_u64 a b
  have HF := fun w => form_any 1 a 0 w
  have HG := fun w => form_any 1 b 0 w
  have HO := fun w => order_int 1 a 0 b 0 1 (by decide) w
  rw [show goodB 1 a 0 = true by simp [goodB]] at HF
  rw [show goodB 1 b 0 = true by simp [goodB]] at HG
  generalize ordI a b = O at *
  go_enter Try.func13, Try.ntmps13
  obtain ⟨a0, a1, a2⟩ := VA.out.all.2
  go_wp2_with fail
  refine (HF _).mono ?_
  rintro e w1 ⟨rfl, hb⟩
  replace VA := hide (VA.out.al hb)
  replace VC := hide (VC.out.al hb)
  replace V1 := hide (V1.out.al hb)
  have B1 := hide (bel_trans W1.out hb)
  clear a0 a1 a2 hb HF
  obtain ⟨a0, a1, a2⟩ := VA.out.all.2
  obtain ⟨c0, c1, c2⟩ := VC.out.all.2
  go_wp2_with fail
  refine (HG _).mono ?_
  rintro e w2 ⟨rfl, hb⟩
  replace VA := hide (VA.out.al hb)
  replace VC := hide (VC.out.al hb)
  replace V1 := hide (V1.out.al hb)
  replace B1 := hide (bel_trans B1.out hb)
  clear hb a0 a1 a2 c0 c1 c2 HG
  obtain ⟨a0, a1, a2⟩ := VA.out.all.2
  obtain ⟨c0, c1, c2⟩ := VC.out.all.2
  go_wp2_with fail
  refine (HO _).mono ?_
  rintro e w3 ⟨rfl, hb⟩
  replace VA := hide (VA.out.al hb)
  replace VC := hide (VC.out.al hb)
  replace V1 := hide (V1.out.al hb)
  replace B1 := hide (bel_trans B1.out hb)
  clear hb a0 a1 a2 c0 c1 c2 HO
  obtain ⟨a0, a1, a2⟩ := VA.out.all.2
  obtain ⟨c0, c1, c2⟩ := VC.out.all.2
  go_wp2_with fail
  go_region
  clear a0 a1 a2 c0 c1 c2
  replace VA := hide VA.out.drew
  replace VC := hide VC.out.drew
  replace V1 := hide V1.out.drew
  replace B1 := hide (bel_drawn B1.out)
  generalize w3.drew = w9 at *
  obtain ⟨⟨f0, f1, f2⟩, e0, e1, e2⟩ := V1.out.all
  obtain ⟨a0, a1, a2⟩ := VA.out.all.2
  obtain ⟨c0, c1, c2⟩ := VC.out.all.2
  go_wp2_with fail
  refine (number_any _ _).mono ?_
  rintro e w4 ⟨rfl, hb⟩
  replace V1 := hide (V1.out.al hb)
  replace B1 := hide (bel_trans B1.out hb)
  clear hb a0 a1 a2 c0 c1 c2
  obtain ⟨⟨f0, f1, f2⟩, e0, e1, e2⟩ := V1.out.all
  go_wp2_with fail
  exact ret_vi (w.heap.size + 2) rfl rfl rfl (V1.out.set _ _ _) rfl (Vi.mk ⟨rfl, rfl, rfl, rfl⟩ (bel_set B1.out (by omega) _ _ _))
set_option maxRecDepth 20000 in
set_option maxHeartbeats 2000000 in
theorem rbin_imul (op : ByteArray) (a b : Int) (h : op.toList = [42]) (w : World) : Calls Try.prog 13 #[.string op, .agg #[.int .i64 1, .int .i64 a, .int .u64 0], .agg #[.int .i64 1, .int .i64 b, .int .u64 0]] w (Vi4 w (1, wrap64 (a * b), 0, 0)) := by
  have cf := callFrom
  have W1 : Hid (Below w.heap.size w (((w.alloc (.cells #[.int .i64 1, .int .i64 a, .int .u64 0] 24)).alloc (.cells #[.int .i64 1, .int .i64 b, .int .u64 0] 24)).alloc (.cells #[.int .i64 0, .int .i64 0, .int .u64 0] 24))) := hide (bel_al (bel_al (bel_new w _) _) _)
  have sz : (w.alloc (.cells #[.int .i64 1, .int .i64 a, .int .u64 0] 24)).heap.size = w.heap.size + 1 := by simp
  have sz2 : ((w.alloc (.cells #[.int .i64 1, .int .i64 a, .int .u64 0] 24)).alloc (.cells #[.int .i64 1, .int .i64 b, .int .u64 0] 24)).heap.size = w.heap.size + 2 := by simp
  have VA := ((Val.new w 1 a 0).al (bel_new _ (.cells #[.int .i64 1, .int .i64 b, .int .u64 0] 24))).al (bel_new _ (.cells #[.int .i64 0, .int .i64 0, .int .u64 0] 24))
  have VC := (Val.new (w.alloc (.cells #[.int .i64 1, .int .i64 a, .int .u64 0] 24)) 1 b 0).al (bel_new _ (.cells #[.int .i64 0, .int .i64 0, .int .u64 0] 24))
  have V1 := Val.new ((w.alloc (.cells #[.int .i64 1, .int .i64 a, .int .u64 0] 24)).alloc (.cells #[.int .i64 1, .int .i64 b, .int .u64 0] 24)) 0 0 0
  rw [sz] at VC
  rw [sz2] at V1
  replace VA := hide VA
  replace VC := hide VC
  replace V1 := hide V1
  clear sz sz2
  show Calls _ _ _ _ (Vi w 1 _ 0 0)
  have hE := mul_u64 a b
  have HF := fun w => form_any 1 a 0 w
  have HG := fun w => form_any 1 b 0 w
  have HO := fun w => order_int 1 a 0 b 0 1 (by decide) w
  rw [show goodB 1 a 0 = true by simp [goodB]] at HF
  rw [show goodB 1 b 0 = true by simp [goodB]] at HG
  generalize ordI a b = O at *
  go_enter Try.func13, Try.ntmps13
  obtain ⟨a0, a1, a2⟩ := VA.out.all.2
  go_wp2_with fail
  refine (HF _).mono ?_
  rintro e w1 ⟨rfl, hb⟩
  replace VA := hide (VA.out.al hb)
  replace VC := hide (VC.out.al hb)
  replace V1 := hide (V1.out.al hb)
  have B1 := hide (bel_trans W1.out hb)
  clear a0 a1 a2 hb HF
  obtain ⟨a0, a1, a2⟩ := VA.out.all.2
  obtain ⟨c0, c1, c2⟩ := VC.out.all.2
  go_wp2_with fail
  refine (HG _).mono ?_
  rintro e w2 ⟨rfl, hb⟩
  replace VA := hide (VA.out.al hb)
  replace VC := hide (VC.out.al hb)
  replace V1 := hide (V1.out.al hb)
  replace B1 := hide (bel_trans B1.out hb)
  clear hb a0 a1 a2 c0 c1 c2 HG
  obtain ⟨a0, a1, a2⟩ := VA.out.all.2
  obtain ⟨c0, c1, c2⟩ := VC.out.all.2
  go_wp2_with fail
  refine (HO _).mono ?_
  rintro e w3 ⟨rfl, hb⟩
  replace VA := hide (VA.out.al hb)
  replace VC := hide (VC.out.al hb)
  replace V1 := hide (V1.out.al hb)
  replace B1 := hide (bel_trans B1.out hb)
  clear hb a0 a1 a2 c0 c1 c2 HO
  obtain ⟨a0, a1, a2⟩ := VA.out.all.2
  obtain ⟨c0, c1, c2⟩ := VC.out.all.2
  go_wp2_with fail
  go_region
  clear a0 a1 a2 c0 c1 c2
  replace VA := hide VA.out.drew
  replace VC := hide VC.out.drew
  replace V1 := hide V1.out.drew
  replace B1 := hide (bel_drawn B1.out)
  generalize w3.drew = w9 at *
  obtain ⟨⟨f0, f1, f2⟩, e0, e1, e2⟩ := V1.out.all
  obtain ⟨a0, a1, a2⟩ := VA.out.all.2
  obtain ⟨c0, c1, c2⟩ := VC.out.all.2
  go_wp2_with fail
  refine (number_any _ _).mono ?_
  rintro e w4 ⟨rfl, hb⟩
  replace V1 := hide (V1.out.al hb)
  replace B1 := hide (bel_trans B1.out hb)
  clear hb a0 a1 a2 c0 c1 c2
  obtain ⟨⟨f0, f1, f2⟩, e0, e1, e2⟩ := V1.out.all
  go_wp2_with fail
  exact ret_vi (w.heap.size + 2) rfl rfl rfl (V1.out.set _ _ _) rfl (Vi.mk ⟨rfl, rfl, rfl, rfl⟩ (bel_set B1.out (by omega) _ _ _))
set_option maxRecDepth 20000 in
set_option maxHeartbeats 2000000 in
theorem rbin_ni (op : ByteArray) (a b : Int) (hn : ∀ l, l ∈ [[61, 61], [33, 61], [60], [60, 61], [62], [62, 61], [43], [45], [42], [47], [37]] → op.toList ≠ l) (w : World) : Calls Try.prog 13 #[.string op, .agg #[.int .i64 1, .int .i64 a, .int .u64 0], .agg #[.int .i64 1, .int .i64 b, .int .u64 0]] w (Vi4 w (0, 0, 0, -1)) := by
  have cf := callFrom
  have W1 : Hid (Below w.heap.size w (((w.alloc (.cells #[.int .i64 1, .int .i64 a, .int .u64 0] 24)).alloc (.cells #[.int .i64 1, .int .i64 b, .int .u64 0] 24)).alloc (.cells #[.int .i64 0, .int .i64 0, .int .u64 0] 24))) := hide (bel_al (bel_al (bel_new w _) _) _)
  have sz : (w.alloc (.cells #[.int .i64 1, .int .i64 a, .int .u64 0] 24)).heap.size = w.heap.size + 1 := by simp
  have sz2 : ((w.alloc (.cells #[.int .i64 1, .int .i64 a, .int .u64 0] 24)).alloc (.cells #[.int .i64 1, .int .i64 b, .int .u64 0] 24)).heap.size = w.heap.size + 2 := by simp
  have VA := ((Val.new w 1 a 0).al (bel_new _ (.cells #[.int .i64 1, .int .i64 b, .int .u64 0] 24))).al (bel_new _ (.cells #[.int .i64 0, .int .i64 0, .int .u64 0] 24))
  have VC := (Val.new (w.alloc (.cells #[.int .i64 1, .int .i64 a, .int .u64 0] 24)) 1 b 0).al (bel_new _ (.cells #[.int .i64 0, .int .i64 0, .int .u64 0] 24))
  have V1 := Val.new ((w.alloc (.cells #[.int .i64 1, .int .i64 a, .int .u64 0] 24)).alloc (.cells #[.int .i64 1, .int .i64 b, .int .u64 0] 24)) 0 0 0
  rw [sz] at VC
  rw [sz2] at V1
  replace VA := hide VA
  replace VC := hide VC
  replace V1 := hide V1
  clear sz sz2
  show Calls _ _ _ _ (Vi w 0 0 0 (-1))
  have d0 : (op.toList == [61, 61]) = false := by simpa using hn [61, 61] (by simp)
  have d1 : (op.toList == [33, 61]) = false := by simpa using hn [33, 61] (by simp)
  have d2 : (op.toList == [60]) = false := by simpa using hn [60] (by simp)
  have d3 : (op.toList == [60, 61]) = false := by simpa using hn [60, 61] (by simp)
  have d4 : (op.toList == [62]) = false := by simpa using hn [62] (by simp)
  have d5 : (op.toList == [62, 61]) = false := by simpa using hn [62, 61] (by simp)
  have d6 : (op.toList == [43]) = false := by simpa using hn [43] (by simp)
  have d7 : (op.toList == [45]) = false := by simpa using hn [45] (by simp)
  have d8 : (op.toList == [42]) = false := by simpa using hn [42] (by simp)
  have d9 : (op.toList == [47]) = false := by simpa using hn [47] (by simp)
  have d10 : (op.toList == [37]) = false := by simpa using hn [37] (by simp)
  clear hn
  have HF := fun w => form_any 1 a 0 w
  have HG := fun w => form_any 1 b 0 w
  have HO := fun w => order_int 1 a 0 b 0 1 (by decide) w
  rw [show goodB 1 a 0 = true by simp [goodB]] at HF
  rw [show goodB 1 b 0 = true by simp [goodB]] at HG
  generalize ordI a b = O at *
  go_enter Try.func13, Try.ntmps13
  obtain ⟨a0, a1, a2⟩ := VA.out.all.2
  go_wp2_with fail
  refine (HF _).mono ?_
  rintro e w1 ⟨rfl, hb⟩
  replace VA := hide (VA.out.al hb)
  replace VC := hide (VC.out.al hb)
  replace V1 := hide (V1.out.al hb)
  have B1 := hide (bel_trans W1.out hb)
  clear a0 a1 a2 hb HF
  obtain ⟨a0, a1, a2⟩ := VA.out.all.2
  obtain ⟨c0, c1, c2⟩ := VC.out.all.2
  go_wp2_with fail
  refine (HG _).mono ?_
  rintro e w2 ⟨rfl, hb⟩
  replace VA := hide (VA.out.al hb)
  replace VC := hide (VC.out.al hb)
  replace V1 := hide (V1.out.al hb)
  replace B1 := hide (bel_trans B1.out hb)
  clear hb a0 a1 a2 c0 c1 c2 HG
  obtain ⟨a0, a1, a2⟩ := VA.out.all.2
  obtain ⟨c0, c1, c2⟩ := VC.out.all.2
  go_wp2_with fail
  refine (HO _).mono ?_
  rintro e w3 ⟨rfl, hb⟩
  replace VA := hide (VA.out.al hb)
  replace VC := hide (VC.out.al hb)
  replace V1 := hide (V1.out.al hb)
  replace B1 := hide (bel_trans B1.out hb)
  clear hb a0 a1 a2 c0 c1 c2 HO
  obtain ⟨a0, a1, a2⟩ := VA.out.all.2
  obtain ⟨c0, c1, c2⟩ := VC.out.all.2
  go_wp2_with fail
  go_region
  clear a0 a1 a2 c0 c1 c2
  replace VA := hide VA.out.drew
  replace VC := hide VC.out.drew
  replace V1 := hide V1.out.drew
  replace B1 := hide (bel_drawn B1.out)
  generalize w3.drew = w9 at *
  obtain ⟨⟨f0, f1, f2⟩, e0, e1, e2⟩ := V1.out.all
  go_wp2_with fail
  exact ret_vi (w.heap.size + 2) rfl rfl rfl (V1.out.set _ _ _) rfl (Vi.mk ⟨rfl, rfl, rfl, rfl⟩ (bel_set B1.out (by omega) _ _ _))
set_option maxRecDepth 20000 in
set_option maxHeartbeats 2000000 in
theorem rbin_quo0 (op : ByteArray) (a : Int) (h : op.toList = [47]) (w : World) : Calls Try.prog 13 #[.string op, .agg #[.int .i64 1, .int .i64 a, .int .u64 0], .agg #[.int .i64 1, .int .i64 0, .int .u64 0]] w (Vi4 w (0, 0, 0, 1)) := by
  have cf := callFrom
  have W1 : Hid (Below w.heap.size w (((w.alloc (.cells #[.int .i64 1, .int .i64 a, .int .u64 0] 24)).alloc (.cells #[.int .i64 1, .int .i64 0, .int .u64 0] 24)).alloc (.cells #[.int .i64 0, .int .i64 0, .int .u64 0] 24))) := hide (bel_al (bel_al (bel_new w _) _) _)
  have sz : (w.alloc (.cells #[.int .i64 1, .int .i64 a, .int .u64 0] 24)).heap.size = w.heap.size + 1 := by simp
  have sz2 : ((w.alloc (.cells #[.int .i64 1, .int .i64 a, .int .u64 0] 24)).alloc (.cells #[.int .i64 1, .int .i64 0, .int .u64 0] 24)).heap.size = w.heap.size + 2 := by simp
  have VA := ((Val.new w 1 a 0).al (bel_new _ (.cells #[.int .i64 1, .int .i64 0, .int .u64 0] 24))).al (bel_new _ (.cells #[.int .i64 0, .int .i64 0, .int .u64 0] 24))
  have VC := (Val.new (w.alloc (.cells #[.int .i64 1, .int .i64 a, .int .u64 0] 24)) 1 0 0).al (bel_new _ (.cells #[.int .i64 0, .int .i64 0, .int .u64 0] 24))
  have V1 := Val.new ((w.alloc (.cells #[.int .i64 1, .int .i64 a, .int .u64 0] 24)).alloc (.cells #[.int .i64 1, .int .i64 0, .int .u64 0] 24)) 0 0 0
  rw [sz] at VC
  rw [sz2] at V1
  replace VA := hide VA
  replace VC := hide VC
  replace V1 := hide V1
  clear sz sz2
  show Calls _ _ _ _ (Vi w 0 0 0 1)
  have hz : IntKind.u64.wrap 0 = 0 := by decide
  have HF := fun w => form_any 1 a 0 w
  have HG := fun w => form_any 1 0 0 w
  have HO := fun w => order_int 1 a 0 0 0 1 (by decide) w
  rw [show goodB 1 a 0 = true by simp [goodB]] at HF
  rw [show goodB 1 0 0 = true by simp [goodB]] at HG
  generalize ordI a 0 = O at *
  go_enter Try.func13, Try.ntmps13
  obtain ⟨a0, a1, a2⟩ := VA.out.all.2
  go_wp2_with fail
  refine (HF _).mono ?_
  rintro e w1 ⟨rfl, hb⟩
  replace VA := hide (VA.out.al hb)
  replace VC := hide (VC.out.al hb)
  replace V1 := hide (V1.out.al hb)
  have B1 := hide (bel_trans W1.out hb)
  clear a0 a1 a2 hb HF
  obtain ⟨a0, a1, a2⟩ := VA.out.all.2
  obtain ⟨c0, c1, c2⟩ := VC.out.all.2
  go_wp2_with fail
  refine (HG _).mono ?_
  rintro e w2 ⟨rfl, hb⟩
  replace VA := hide (VA.out.al hb)
  replace VC := hide (VC.out.al hb)
  replace V1 := hide (V1.out.al hb)
  replace B1 := hide (bel_trans B1.out hb)
  clear hb a0 a1 a2 c0 c1 c2 HG
  obtain ⟨a0, a1, a2⟩ := VA.out.all.2
  obtain ⟨c0, c1, c2⟩ := VC.out.all.2
  go_wp2_with fail
  refine (HO _).mono ?_
  rintro e w3 ⟨rfl, hb⟩
  replace VA := hide (VA.out.al hb)
  replace VC := hide (VC.out.al hb)
  replace V1 := hide (V1.out.al hb)
  replace B1 := hide (bel_trans B1.out hb)
  clear hb a0 a1 a2 c0 c1 c2 HO
  obtain ⟨a0, a1, a2⟩ := VA.out.all.2
  obtain ⟨c0, c1, c2⟩ := VC.out.all.2
  go_wp2_with fail
  go_region
  clear a0 a1 a2 c0 c1 c2
  replace VA := hide VA.out.drew
  replace VC := hide VC.out.drew
  replace V1 := hide V1.out.drew
  replace B1 := hide (bel_drawn B1.out)
  generalize w3.drew = w9 at *
  obtain ⟨⟨f0, f1, f2⟩, e0, e1, e2⟩ := V1.out.all
  go_wp2_with fail
  exact ret_vi (w.heap.size + 2) rfl rfl rfl (V1.out.set _ _ _) rfl (Vi.mk ⟨rfl, rfl, rfl, rfl⟩ (bel_set B1.out (by omega) _ _ _))
set_option maxRecDepth 20000 in
set_option maxHeartbeats 2000000 in
theorem rbin_rem0 (op : ByteArray) (a : Int) (h : op.toList = [37]) (w : World) : Calls Try.prog 13 #[.string op, .agg #[.int .i64 1, .int .i64 a, .int .u64 0], .agg #[.int .i64 1, .int .i64 0, .int .u64 0]] w (Vi4 w (0, 0, 0, 1)) := by
  have cf := callFrom
  have W1 : Hid (Below w.heap.size w (((w.alloc (.cells #[.int .i64 1, .int .i64 a, .int .u64 0] 24)).alloc (.cells #[.int .i64 1, .int .i64 0, .int .u64 0] 24)).alloc (.cells #[.int .i64 0, .int .i64 0, .int .u64 0] 24))) := hide (bel_al (bel_al (bel_new w _) _) _)
  have sz : (w.alloc (.cells #[.int .i64 1, .int .i64 a, .int .u64 0] 24)).heap.size = w.heap.size + 1 := by simp
  have sz2 : ((w.alloc (.cells #[.int .i64 1, .int .i64 a, .int .u64 0] 24)).alloc (.cells #[.int .i64 1, .int .i64 0, .int .u64 0] 24)).heap.size = w.heap.size + 2 := by simp
  have VA := ((Val.new w 1 a 0).al (bel_new _ (.cells #[.int .i64 1, .int .i64 0, .int .u64 0] 24))).al (bel_new _ (.cells #[.int .i64 0, .int .i64 0, .int .u64 0] 24))
  have VC := (Val.new (w.alloc (.cells #[.int .i64 1, .int .i64 a, .int .u64 0] 24)) 1 0 0).al (bel_new _ (.cells #[.int .i64 0, .int .i64 0, .int .u64 0] 24))
  have V1 := Val.new ((w.alloc (.cells #[.int .i64 1, .int .i64 a, .int .u64 0] 24)).alloc (.cells #[.int .i64 1, .int .i64 0, .int .u64 0] 24)) 0 0 0
  rw [sz] at VC
  rw [sz2] at V1
  replace VA := hide VA
  replace VC := hide VC
  replace V1 := hide V1
  clear sz sz2
  show Calls _ _ _ _ (Vi w 0 0 0 1)
  have hz : IntKind.u64.wrap 0 = 0 := by decide
  have HF := fun w => form_any 1 a 0 w
  have HG := fun w => form_any 1 0 0 w
  have HO := fun w => order_int 1 a 0 0 0 1 (by decide) w
  rw [show goodB 1 a 0 = true by simp [goodB]] at HF
  rw [show goodB 1 0 0 = true by simp [goodB]] at HG
  generalize ordI a 0 = O at *
  go_enter Try.func13, Try.ntmps13
  obtain ⟨a0, a1, a2⟩ := VA.out.all.2
  go_wp2_with fail
  refine (HF _).mono ?_
  rintro e w1 ⟨rfl, hb⟩
  replace VA := hide (VA.out.al hb)
  replace VC := hide (VC.out.al hb)
  replace V1 := hide (V1.out.al hb)
  have B1 := hide (bel_trans W1.out hb)
  clear a0 a1 a2 hb HF
  obtain ⟨a0, a1, a2⟩ := VA.out.all.2
  obtain ⟨c0, c1, c2⟩ := VC.out.all.2
  go_wp2_with fail
  refine (HG _).mono ?_
  rintro e w2 ⟨rfl, hb⟩
  replace VA := hide (VA.out.al hb)
  replace VC := hide (VC.out.al hb)
  replace V1 := hide (V1.out.al hb)
  replace B1 := hide (bel_trans B1.out hb)
  clear hb a0 a1 a2 c0 c1 c2 HG
  obtain ⟨a0, a1, a2⟩ := VA.out.all.2
  obtain ⟨c0, c1, c2⟩ := VC.out.all.2
  go_wp2_with fail
  refine (HO _).mono ?_
  rintro e w3 ⟨rfl, hb⟩
  replace VA := hide (VA.out.al hb)
  replace VC := hide (VC.out.al hb)
  replace V1 := hide (V1.out.al hb)
  replace B1 := hide (bel_trans B1.out hb)
  clear hb a0 a1 a2 c0 c1 c2 HO
  obtain ⟨a0, a1, a2⟩ := VA.out.all.2
  obtain ⟨c0, c1, c2⟩ := VC.out.all.2
  go_wp2_with fail
  go_region
  clear a0 a1 a2 c0 c1 c2
  replace VA := hide VA.out.drew
  replace VC := hide VC.out.drew
  replace V1 := hide V1.out.drew
  replace B1 := hide (bel_drawn B1.out)
  generalize w3.drew = w9 at *
  obtain ⟨⟨f0, f1, f2⟩, e0, e1, e2⟩ := V1.out.all
  go_wp2_with fail
  exact ret_vi (w.heap.size + 2) rfl rfl rfl (V1.out.set _ _ _) rfl (Vi.mk ⟨rfl, rfl, rfl, rfl⟩ (bel_set B1.out (by omega) _ _ _))
end Go.Proofs.Ytmdfciiejenpnaa.Ck
