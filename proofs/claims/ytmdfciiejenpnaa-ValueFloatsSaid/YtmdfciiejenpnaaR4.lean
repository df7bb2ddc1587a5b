/- The document's Binary: bools. (Written by mk_r.py.) -/
import Derived.Test.YtmdfciiejenpnaaR3
namespace Go.Proofs.Ytmdfciiejenpnaa.Ck
open Go.RowKit

set_option maxRecDepth 20000 in
set_option maxHeartbeats 2000000 in
theorem rbin_and00 (op : ByteArray) (h : op.toList = [38, 38]) (w : World) : Calls Try.prog 13 #[.string op, .agg #[.int .i64 3, .int .i64 0, .int .u64 0], .agg #[.int .i64 3, .int .i64 0, .int .u64 0]] w (Vi4 w (3, 0, 0, 0)) := by
  have cf := callFrom
  have W1 : Hid (Below w.heap.size w (((w.alloc (.cells #[.int .i64 3, .int .i64 0, .int .u64 0] 24)).alloc (.cells #[.int .i64 3, .int .i64 0, .int .u64 0] 24)).alloc (.cells #[.int .i64 0, .int .i64 0, .int .u64 0] 24))) := hide (bel_al (bel_al (bel_new w _) _) _)
  have sz : (w.alloc (.cells #[.int .i64 3, .int .i64 0, .int .u64 0] 24)).heap.size = w.heap.size + 1 := by simp
  have sz2 : ((w.alloc (.cells #[.int .i64 3, .int .i64 0, .int .u64 0] 24)).alloc (.cells #[.int .i64 3, .int .i64 0, .int .u64 0] 24)).heap.size = w.heap.size + 2 := by simp
  have VA := ((Val.new w 3 0 0).al (bel_new _ (.cells #[.int .i64 3, .int .i64 0, .int .u64 0] 24))).al (bel_new _ (.cells #[.int .i64 0, .int .i64 0, .int .u64 0] 24))
  have VC := (Val.new (w.alloc (.cells #[.int .i64 3, .int .i64 0, .int .u64 0] 24)) 3 0 0).al (bel_new _ (.cells #[.int .i64 0, .int .i64 0, .int .u64 0] 24))
  have V1 := Val.new ((w.alloc (.cells #[.int .i64 3, .int .i64 0, .int .u64 0] 24)).alloc (.cells #[.int .i64 3, .int .i64 0, .int .u64 0] 24)) 0 0 0
  rw [sz] at VC
  rw [sz2] at V1
  replace VA := hide VA
  replace VC := hide VC
  replace V1 := hide V1
  clear sz sz2
  show Calls _ _ _ _ (Vi w 3 _ 0 0)
  have HF := fun w => form_any 3 0 0 w
  have HG := fun w => form_any 3 0 0 w
  have HO := fun w => order_int 3 0 0 0 0 3 (by decide) w
  rw [show goodB 3 0 0 = true by decide] at HF
  rw [show goodB 3 0 0 = true by decide] at HG
  rw [show ordI 0 0 = 0 by decide] at HO
  go_enter Try.func13, Try.ntmps13
  obtain ⟨a0, a1, a2⟩ := VA.out.all.2
  go_wp2_with fail
  refine (HF _).mono ?_
  rintro e w1 ⟨rfl, hb⟩
  replace VA := hide (VA.out.al hb)
  replace VC := hide (VC.out.al hb)
  replace V1 := hide (V1.out.al hb)
  have B1 := hide (bel_trans W1.out hb)
  clear a0 a1 a2 hb HF
  obtain ⟨a0, a1, a2⟩ := VA.out.all.2
  obtain ⟨c0, c1, c2⟩ := VC.out.all.2
  go_wp2_with fail
  refine (HG _).mono ?_
  rintro e w2 ⟨rfl, hb⟩
  replace VA := hide (VA.out.al hb)
  replace VC := hide (VC.out.al hb)
  replace V1 := hide (V1.out.al hb)
  replace B1 := hide (bel_trans B1.out hb)
  clear hb a0 a1 a2 c0 c1 c2 HG
  obtain ⟨a0, a1, a2⟩ := VA.out.all.2
  obtain ⟨c0, c1, c2⟩ := VC.out.all.2
  go_wp2_with fail
  refine (HO _).mono ?_
  rintro e w3 ⟨rfl, hb⟩
  replace VA := hide (VA.out.al hb)
  replace VC := hide (VC.out.al hb)
  replace V1 := hide (V1.out.al hb)
  replace B1 := hide (bel_trans B1.out hb)
  clear hb a0 a1 a2 c0 c1 c2 HO
  obtain ⟨a0, a1, a2⟩ := VA.out.all.2
  obtain ⟨c0, c1, c2⟩ := VC.out.all.2
  go_wp2_with fail
  refine (truth_any _ _).mono ?_
  rintro e w4 ⟨rfl, hb⟩
  replace V1 := hide (V1.out.al hb)
  replace B1 := hide (bel_trans B1.out hb)
  clear hb a0 a1 a2 c0 c1 c2
  obtain ⟨⟨f0, f1, f2⟩, e0, e1, e2⟩ := V1.out.all
  go_wp2_with fail
  exact ret_vi (w.heap.size + 2) rfl rfl rfl (V1.out.set _ _ _) rfl (Vi.mk ⟨rfl, rfl, rfl, rfl⟩ (bel_set B1.out (by omega) _ _ _))
set_option maxRecDepth 20000 in
set_option maxHeartbeats 2000000 in
theorem rbin_or00 (op : ByteArray) (h : op.toList = [124, 124]) (w : World) : Calls Try.prog 13 #[.string op, .agg #[.int .i64 3, .int .i64 0, .int .u64 0], .agg #[.int .i64 3, .int .i64 0, .int .u64 0]] w (Vi4 w (3, 0, 0, 0)) := by
  have cf := callFrom
  have W1 : Hid (Below w.heap.size w (((w.alloc (.cells #[.int .i64 3, .int .i64 0, .int .u64 0] 24)).alloc (.cells #[.int .i64 3, .int .i64 0, .int .u64 0] 24)).alloc (.cells #[.int .i64 0, .int .i64 0, .int .u64 0] 24))) := hide (bel_al (bel_al (bel_new w _) _) _)
  have sz : (w.alloc (.cells #[.int .i64 3, .int .i64 0, .int .u64 0] 24)).heap.size = w.heap.size + 1 := by simp
  have sz2 : ((w.alloc (.cells #[.int .i64 3, .int .i64 0, .int .u64 0] 24)).alloc (.cells #[.int .i64 3, .int .i64 0, .int .u64 0] 24)).heap.size = w.heap.size + 2 := by simp
  have VA := ((Val.new w 3 0 0).al (bel_new _ (.cells #[.int .i64 3, .int .i64 0, .int .u64 0] 24))).al (bel_new _ (.cells #[.int .i64 0, .int .i64 0, .int .u64 0] 24))
  have VC := (Val.new (w.alloc (.cells #[.int .i64 3, .int .i64 0, .int .u64 0] 24)) 3 0 0).al (bel_new _ (.cells #[.int .i64 0, .int .i64 0, .int .u64 0] 24))
  have V1 := Val.new ((w.alloc (.cells #[.int .i64 3, .int .i64 0, .int .u64 0] 24)).alloc (.cells #[.int .i64 3, .int .i64 0, .int .u64 0] 24)) 0 0 0
  rw [sz] at VC
  rw [sz2] at V1
  replace VA := hide VA
  replace VC := hide VC
  replace V1 := hide V1
  clear sz sz2
  show Calls _ _ _ _ (Vi w 3 _ 0 0)
  have HF := fun w => form_any 3 0 0 w
  have HG := fun w => form_any 3 0 0 w
  have HO := fun w => order_int 3 0 0 0 0 3 (by decide) w
  rw [show goodB 3 0 0 = true by decide] at HF
  rw [show goodB 3 0 0 = true by decide] at HG
  rw [show ordI 0 0 = 0 by decide] at HO
  go_enter Try.func13, Try.ntmps13
  obtain ⟨a0, a1, a2⟩ := VA.out.all.2
  go_wp2_with fail
  refine (HF _).mono ?_
  rintro e w1 ⟨rfl, hb⟩
  replace VA := hide (VA.out.al hb)
  replace VC := hide (VC.out.al hb)
  replace V1 := hide (V1.out.al hb)
  have B1 := hide (bel_trans W1.out hb)
  clear a0 a1 a2 hb HF
  obtain ⟨a0, a1, a2⟩ := VA.out.all.2
  obtain ⟨c0, c1, c2⟩ := VC.out.all.2
  go_wp2_with fail
  refine (HG _).mono ?_
  rintro e w2 ⟨rfl, hb⟩
  replace VA := hide (VA.out.al hb)
  replace VC := hide (VC.out.al hb)
  replace V1 := hide (V1.out.al hb)
  replace B1 := hide (bel_trans B1.out hb)
  clear hb a0 a1 a2 c0 c1 c2 HG
  obtain ⟨a0, a1, a2⟩ := VA.out.all.2
  obtain ⟨c0, c1, c2⟩ := VC.out.all.2
  go_wp2_with fail
  refine (HO _).mono ?_
  rintro e w3 ⟨rfl, hb⟩
  replace VA := hide (VA.out.al hb)
  replace VC := hide (VC.out.al hb)
  replace V1 := hide (V1.out.al hb)
  replace B1 := hide (bel_trans B1.out hb)
  clear hb a0 a1 a2 c0 c1 c2 HO
  obtain ⟨a0, a1, a2⟩ := VA.out.all.2
  obtain ⟨c0, c1, c2⟩ := VC.out.all.2
  go_wp2_with fail
  refine (truth_any _ _).mono ?_
  rintro e w4 ⟨rfl, hb⟩
  replace V1 := hide (V1.out.al hb)
  replace B1 := hide (bel_trans B1.out hb)
  clear hb a0 a1 a2 c0 c1 c2
  obtain ⟨⟨f0, f1, f2⟩, e0, e1, e2⟩ := V1.out.all
  go_wp2_with fail
  exact ret_vi (w.heap.size + 2) rfl rfl rfl (V1.out.set _ _ _) rfl (Vi.mk ⟨rfl, rfl, rfl, rfl⟩ (bel_set B1.out (by omega) _ _ _))
set_option maxRecDepth 20000 in
set_option maxHeartbeats 2000000 in
theorem rbin_nb00 (op : ByteArray) (hn : ∀ l, l ∈ [[61, 61], [33, 61], [38, 38], [124, 124]] → op.toList ≠ l) (w : World) : Calls Try.prog 13 #[.string op, .agg #[.int .i64 3, .int .i64 0, .int .u64 0], .agg #[.int .i64 3, .int .i64 0, .int .u64 0]] w (Vi4 w (0, 0, 0, -1)) := by
  have cf := callFrom
  have W1 : Hid (Below w.heap.size w (((w.alloc (.cells #[.int .i64 3, .int .i64 0, .int .u64 0] 24)).alloc (.cells #[.int .i64 3, .int .i64 0, .int .u64 0] 24)).alloc (.cells #[.int .i64 0, .int .i64 0, .int .u64 0] 24))) := hide (bel_al (bel_al (bel_new w _) _) _)
  have sz : (w.alloc (.cells #[.int .i64 3, .int .i64 0, .int .u64 0] 24)).heap.size = w.heap.size + 1 := by simp
  have sz2 : ((w.alloc (.cells #[.int .i64 3, .int .i64 0, .int .u64 0] 24)).alloc (.cells #[.int .i64 3, .int .i64 0, .int .u64 0] 24)).heap.size = w.heap.size + 2 := by simp
  have VA := ((Val.new w 3 0 0).al (bel_new _ (.cells #[.int .i64 3, .int .i64 0, .int .u64 0] 24))).al (bel_new _ (.cells #[.int .i64 0, .int .i64 0, .int .u64 0] 24))
  have VC := (Val.new (w.alloc (.cells #[.int .i64 3, .int .i64 0, .int .u64 0] 24)) 3 0 0).al (bel_new _ (.cells #[.int .i64 0, .int .i64 0, .int .u64 0] 24))
  have V1 := Val.new ((w.alloc (.cells #[.int .i64 3, .int .i64 0, .int .u64 0] 24)).alloc (.cells #[.int .i64 3, .int .i64 0, .int .u64 0] 24)) 0 0 0
  rw [sz] at VC
  rw [sz2] at V1
  replace VA := hide VA
  replace VC := hide VC
  replace V1 := hide V1
  clear sz sz2
  show Calls _ _ _ _ (Vi w 0 0 0 (-1))
  have HF := fun w => form_any 3 0 0 w
  have HG := fun w => form_any 3 0 0 w
  have HO := fun w => order_int 3 0 0 0 0 3 (by decide) w
  rw [show goodB 3 0 0 = true by decide] at HF
  rw [show goodB 3 0 0 = true by decide] at HG
  rw [show ordI 0 0 = 0 by decide] at HO
  have d0 : (op.toList == [61, 61]) = false := by simpa using hn [61, 61] (by simp)
  have d1 : (op.toList == [33, 61]) = false := by simpa using hn [33, 61] (by simp)
  have d2 : (op.toList == [38, 38]) = false := by simpa using hn [38, 38] (by simp)
  have d3 : (op.toList == [124, 124]) = false := by simpa using hn [124, 124] (by simp)
  clear hn
  go_enter Try.func13, Try.ntmps13
  obtain ⟨a0, a1, a2⟩ := VA.out.all.2
  go_wp2_with fail
  refine (HF _).mono ?_
  rintro e w1 ⟨rfl, hb⟩
  replace VA := hide (VA.out.al hb)
  replace VC := hide (VC.out.al hb)
  replace V1 := hide (V1.out.al hb)
  have B1 := hide (bel_trans W1.out hb)
  clear a0 a1 a2 hb HF
  obtain ⟨a0, a1, a2⟩ := VA.out.all.2
  obtain ⟨c0, c1, c2⟩ := VC.out.all.2
  go_wp2_with fail
  refine (HG _).mono ?_
  rintro e w2 ⟨rfl, hb⟩
  replace VA := hide (VA.out.al hb)
  replace VC := hide (VC.out.al hb)
  replace V1 := hide (V1.out.al hb)
  replace B1 := hide (bel_trans B1.out hb)
  clear hb a0 a1 a2 c0 c1 c2 HG
  obtain ⟨a0, a1, a2⟩ := VA.out.all.2
  obtain ⟨c0, c1, c2⟩ := VC.out.all.2
  go_wp2_with fail
  refine (HO _).mono ?_
  rintro e w3 ⟨rfl, hb⟩
  replace VA := hide (VA.out.al hb)
  replace VC := hide (VC.out.al hb)
  replace V1 := hide (V1.out.al hb)
  replace B1 := hide (bel_trans B1.out hb)
  clear hb a0 a1 a2 c0 c1 c2 HO
  obtain ⟨a0, a1, a2⟩ := VA.out.all.2
  obtain ⟨c0, c1, c2⟩ := VC.out.all.2
  obtain ⟨⟨f0, f1, f2⟩, e0, e1, e2⟩ := V1.out.all
  go_wp2_with fail
  exact ret_vi (w.heap.size + 2) rfl rfl rfl (V1.out.set _ _ _) rfl (Vi.mk ⟨rfl, rfl, rfl, rfl⟩ (bel_set B1.out (by omega) _ _ _))
set_option maxRecDepth 20000 in
set_option maxHeartbeats 2000000 in
theorem rbin_and01 (op : ByteArray) (h : op.toList = [38, 38]) (w : World) : Calls Try.prog 13 #[.string op, .agg #[.int .i64 3, .int .i64 0, .int .u64 0], .agg #[.int .i64 3, .int .i64 1, .int .u64 0]] w (Vi4 w (3, 0, 0, 0)) := by
  have cf := callFrom
  have W1 : Hid (Below w.heap.size w (((w.alloc (.cells #[.int .i64 3, .int .i64 0, .int .u64 0] 24)).alloc (.cells #[.int .i64 3, .int .i64 1, .int .u64 0] 24)).alloc (.cells #[.int .i64 0, .int .i64 0, .int .u64 0] 24))) := hide (bel_al (bel_al (bel_new w _) _) _)
  have sz : (w.alloc (.cells #[.int .i64 3, .int .i64 0, .int .u64 0] 24)).heap.size = w.heap.size + 1 := by simp
  have sz2 : ((w.alloc (.cells #[.int .i64 3, .int .i64 0, .int .u64 0] 24)).alloc (.cells #[.int .i64 3, .int .i64 1, .int .u64 0] 24)).heap.size = w.heap.size + 2 := by simp
  have VA := ((Val.new w 3 0 0).al (bel_new _ (.cells #[.int .i64 3, .int .i64 1, .int .u64 0] 24))).al (bel_new _ (.cells #[.int .i64 0, .int .i64 0, .int .u64 0] 24))
  have VC := (Val.new (w.alloc (.cells #[.int .i64 3, .int .i64 0, .int .u64 0] 24)) 3 1 0).al (bel_new _ (.cells #[.int .i64 0, .int .i64 0, .int .u64 0] 24))
  have V1 := Val.new ((w.alloc (.cells #[.int .i64 3, .int .i64 0, .int .u64 0] 24)).alloc (.cells #[.int .i64 3, .int .i64 1, .int .u64 0] 24)) 0 0 0
  rw [sz] at VC
  rw [sz2] at V1
  replace VA := hide VA
  replace VC := hide VC
  replace V1 := hide V1
  clear sz sz2
  show Calls _ _ _ _ (Vi w 3 _ 0 0)
  have HF := fun w => form_any 3 0 0 w
  have HG := fun w => form_any 3 1 0 w
  have HO := fun w => order_int 3 0 0 1 0 3 (by decide) w
  rw [show goodB 3 0 0 = true by decide] at HF
  rw [show goodB 3 1 0 = true by decide] at HG
  rw [show ordI 0 1 = (-1) by decide] at HO
  go_enter Try.func13, Try.ntmps13
  obtain ⟨a0, a1, a2⟩ := VA.out.all.2
  go_wp2_with fail
  refine (HF _).mono ?_
  rintro e w1 ⟨rfl, hb⟩
  replace VA := hide (VA.out.al hb)
  replace VC := hide (VC.out.al hb)
  replace V1 := hide (V1.out.al hb)
  have B1 := hide (bel_trans W1.out hb)
  clear a0 a1 a2 hb HF
  obtain ⟨a0, a1, a2⟩ := VA.out.all.2
  obtain ⟨c0, c1, c2⟩ := VC.out.all.2
  go_wp2_with fail
  refine (HG _).mono ?_
  rintro e w2 ⟨rfl, hb⟩
  replace VA := hide (VA.out.al hb)
  replace VC := hide (VC.out.al hb)
  replace V1 := hide (V1.out.al hb)
  replace B1 := hide (bel_trans B1.out hb)
  clear hb a0 a1 a2 c0 c1 c2 HG
  obtain ⟨a0, a1, a2⟩ := VA.out.all.2
  obtain ⟨c0, c1, c2⟩ := VC.out.all.2
  go_wp2_with fail
  refine (HO _).mono ?_
  rintro e w3 ⟨rfl, hb⟩
  replace VA := hide (VA.out.al hb)
  replace VC := hide (VC.out.al hb)
  replace V1 := hide (V1.out.al hb)
  replace B1 := hide (bel_trans B1.out hb)
  clear hb a0 a1 a2 c0 c1 c2 HO
  obtain ⟨a0, a1, a2⟩ := VA.out.all.2
  obtain ⟨c0, c1, c2⟩ := VC.out.all.2
  go_wp2_with fail
  refine (truth_any _ _).mono ?_
  rintro e w4 ⟨rfl, hb⟩
  replace V1 := hide (V1.out.al hb)
  replace B1 := hide (bel_trans B1.out hb)
  clear hb a0 a1 a2 c0 c1 c2
  obtain ⟨⟨f0, f1, f2⟩, e0, e1, e2⟩ := V1.out.all
  go_wp2_with fail
  exact ret_vi (w.heap.size + 2) rfl rfl rfl (V1.out.set _ _ _) rfl (Vi.mk ⟨rfl, rfl, rfl, rfl⟩ (bel_set B1.out (by omega) _ _ _))
set_option maxRecDepth 20000 in
set_option maxHeartbeats 2000000 in
theorem rbin_or01 (op : ByteArray) (h : op.toList = [124, 124]) (w : World) : Calls Try.prog 13 #[.string op, .agg #[.int .i64 3, .int .i64 0, .int .u64 0], .agg #[.int .i64 3, .int .i64 1, .int .u64 0]] w (Vi4 w (3, 1, 0, 0)) := by
  have cf := callFrom
  have W1 : Hid (Below w.heap.size w (((w.alloc (.cells #[.int .i64 3, .int .i64 0, .int .u64 0] 24)).alloc (.cells #[.int .i64 3, .int .i64 1, .int .u64 0] 24)).alloc (.cells #[.int .i64 0, .int .i64 0, .int .u64 0] 24))) := hide (bel_al (bel_al (bel_new w _) _) _)
  have sz : (w.alloc (.cells #[.int .i64 3, .int .i64 0, .int .u64 0] 24)).heap.size = w.heap.size + 1 := by simp
  have sz2 : ((w.alloc (.cells #[.int .i64 3, .int .i64 0, .int .u64 0] 24)).alloc (.cells #[.int .i64 3, .int .i64 1, .int .u64 0] 24)).heap.size = w.heap.size + 2 := by simp
  have VA := ((Val.new w 3 0 0).al (bel_new _ (.cells #[.int .i64 3, .int .i64 1, .int .u64 0] 24))).al (bel_new _ (.cells #[.int .i64 0, .int .i64 0, .int .u64 0] 24))
  have VC := (Val.new (w.alloc (.cells #[.int .i64 3, .int .i64 0, .int .u64 0] 24)) 3 1 0).al (bel_new _ (.cells #[.int .i64 0, .int .i64 0, .int .u64 0] 24))
  have V1 := Val.new ((w.alloc (.cells #[.int .i64 3, .int .i64 0, .int .u64 0] 24)).alloc (.cells #[.int .i64 3, .int .i64 1, .int .u64 0] 24)) 0 0 0
  rw [sz] at VC
  rw [sz2] at V1
  replace VA := hide VA
  replace VC := hide VC
  replace V1 := hide V1
  clear sz sz2
  show Calls _ _ _ _ (Vi w 3 _ 0 0)
  have HF := fun w => form_any 3 0 0 w
  have HG := fun w => form_any 3 1 0 w
  have HO := fun w => order_int 3 0 0 1 0 3 (by decide) w
  rw [show goodB 3 0 0 = true by decide] at HF
  rw [show goodB 3 1 0 = true by decide] at HG
  rw [show ordI 0 1 = (-1) by decide] at HO
  go_enter Try.func13, Try.ntmps13
  obtain ⟨a0, a1, a2⟩ := VA.out.all.2
  go_wp2_with fail
  refine (HF _).mono ?_
  rintro e w1 ⟨rfl, hb⟩
  replace VA := hide (VA.out.al hb)
  replace VC := hide (VC.out.al hb)
  replace V1 := hide (V1.out.al hb)
  have B1 := hide (bel_trans W1.out hb)
  clear a0 a1 a2 hb HF
  obtain ⟨a0, a1, a2⟩ := VA.out.all.2
  obtain ⟨c0, c1, c2⟩ := VC.out.all.2
  go_wp2_with fail
  refine (HG _).mono ?_
  rintro e w2 ⟨rfl, hb⟩
  replace VA := hide (VA.out.al hb)
  replace VC := hide (VC.out.al hb)
  replace V1 := hide (V1.out.al hb)
  replace B1 := hide (bel_trans B1.out hb)
  clear hb a0 a1 a2 c0 c1 c2 HG
  obtain ⟨a0, a1, a2⟩ := VA.out.all.2
  obtain ⟨c0, c1, c2⟩ := VC.out.all.2
  go_wp2_with fail
  refine (HO _).mono ?_
  rintro e w3 ⟨rfl, hb⟩
  replace VA := hide (VA.out.al hb)
  replace VC := hide (VC.out.al hb)
  replace V1 := hide (V1.out.al hb)
  replace B1 := hide (bel_trans B1.out hb)
  clear hb a0 a1 a2 c0 c1 c2 HO
  obtain ⟨a0, a1, a2⟩ := VA.out.all.2
  obtain ⟨c0, c1, c2⟩ := VC.out.all.2
  go_wp2_with fail
  refine (truth_any _ _).mono ?_
  rintro e w4 ⟨rfl, hb⟩
  replace V1 := hide (V1.out.al hb)
  replace B1 := hide (bel_trans B1.out hb)
  clear hb a0 a1 a2 c0 c1 c2
  obtain ⟨⟨f0, f1, f2⟩, e0, e1, e2⟩ := V1.out.all
  go_wp2_with fail
  exact ret_vi (w.heap.size + 2) rfl rfl rfl (V1.out.set _ _ _) rfl (Vi.mk ⟨rfl, rfl, rfl, rfl⟩ (bel_set B1.out (by omega) _ _ _))
set_option maxRecDepth 20000 in
set_option maxHeartbeats 2000000 in
theorem rbin_nb01 (op : ByteArray) (hn : ∀ l, l ∈ [[61, 61], [33, 61], [38, 38], [124, 124]] → op.toList ≠ l) (w : World) : Calls Try.prog 13 #[.string op, .agg #[.int .i64 3, .int .i64 0, .int .u64 0], .agg #[.int .i64 3, .int .i64 1, .int .u64 0]] w (Vi4 w (0, 0, 0, -1)) := by
  have cf := callFrom
  have W1 : Hid (Below w.heap.size w (((w.alloc (.cells #[.int .i64 3, .int .i64 0, .int .u64 0] 24)).alloc (.cells #[.int .i64 3, .int .i64 1, .int .u64 0] 24)).alloc (.cells #[.int .i64 0, .int .i64 0, .int .u64 0] 24))) := hide (bel_al (bel_al (bel_new w _) _) _)
  have sz : (w.alloc (.cells #[.int .i64 3, .int .i64 0, .int .u64 0] 24)).heap.size = w.heap.size + 1 := by simp
  have sz2 : ((w.alloc (.cells #[.int .i64 3, .int .i64 0, .int .u64 0] 24)).alloc (.cells #[.int .i64 3, .int .i64 1, .int .u64 0] 24)).heap.size = w.heap.size + 2 := by simp
  have VA := ((Val.new w 3 0 0).al (bel_new _ (.cells #[.int .i64 3, .int .i64 1, .int .u64 0] 24))).al (bel_new _ (.cells #[.int .i64 0, .int .i64 0, .int .u64 0] 24))
  have VC := (Val.new (w.alloc (.cells #[.int .i64 3, .int .i64 0, .int .u64 0] 24)) 3 1 0).al (bel_new _ (.cells #[.int .i64 0, .int .i64 0, .int .u64 0] 24))
  have V1 := Val.new ((w.alloc (.cells #[.int .i64 3, .int .i64 0, .int .u64 0] 24)).alloc (.cells #[.int .i64 3, .int .i64 1, .int .u64 0] 24)) 0 0 0
  rw [sz] at VC
  rw [sz2] at V1
  replace VA := hide VA
  replace VC := hide VC
  replace V1 := hide V1
  clear sz sz2
  show Calls _ _ _ _ (Vi w 0 0 0 (-1))
  have HF := fun w => form_any 3 0 0 w
  have HG := fun w => form_any 3 1 0 w
  have HO := fun w => order_int 3 0 0 1 0 3 (by decide) w
  rw [show goodB 3 0 0 = true by decide] at HF
  rw [show goodB 3 1 0 = true by decide] at HG
  rw [show ordI 0 1 = (-1) by decide] at HO
  have d0 : (op.toList == [61, 61]) = false := by simpa using hn [61, 61] (by simp)
  have d1 : (op.toList == [33, 61]) = false := by simpa using hn [33, 61] (by simp)
  have d2 : (op.toList == [38, 38]) = false := by simpa using hn [38, 38] (by simp)
  have d3 : (op.toList == [124, 124]) = false := by simpa using hn [124, 124] (by simp)
  clear hn
  go_enter Try.func13, Try.ntmps13
  obtain ⟨a0, a1, a2⟩ := VA.out.all.2
  go_wp2_with fail
  refine (HF _).mono ?_
  rintro e w1 ⟨rfl, hb⟩
  replace VA := hide (VA.out.al hb)
  replace VC := hide (VC.out.al hb)
  replace V1 := hide (V1.out.al hb)
  have B1 := hide (bel_trans W1.out hb)
  clear a0 a1 a2 hb HF
  obtain ⟨a0, a1, a2⟩ := VA.out.all.2
  obtain ⟨c0, c1, c2⟩ := VC.out.all.2
  go_wp2_with fail
  refine (HG _).mono ?_
  rintro e w2 ⟨rfl, hb⟩
  replace VA := hide (VA.out.al hb)
  replace VC := hide (VC.out.al hb)
  replace V1 := hide (V1.out.al hb)
  replace B1 := hide (bel_trans B1.out hb)
  clear hb a0 a1 a2 c0 c1 c2 HG
  obtain ⟨a0, a1, a2⟩ := VA.out.all.2
  obtain ⟨c0, c1, c2⟩ := VC.out.all.2
  go_wp2_with fail
  refine (HO _).mono ?_
  rintro e w3 ⟨rfl, hb⟩
  replace VA := hide (VA.out.al hb)
  replace VC := hide (VC.out.al hb)
  replace V1 := hide (V1.out.al hb)
  replace B1 := hide (bel_trans B1.out hb)
  clear hb a0 a1 a2 c0 c1 c2 HO
  obtain ⟨a0, a1, a2⟩ := VA.out.all.2
  obtain ⟨c0, c1, c2⟩ := VC.out.all.2
  obtain ⟨⟨f0, f1, f2⟩, e0, e1, e2⟩ := V1.out.all
  go_wp2_with fail
  exact ret_vi (w.heap.size + 2) rfl rfl rfl (V1.out.set _ _ _) rfl (Vi.mk ⟨rfl, rfl, rfl, rfl⟩ (bel_set B1.out (by omega) _ _ _))
set_option maxRecDepth 20000 in
set_option maxHeartbeats 2000000 in
theorem rbin_and10 (op : ByteArray) (h : op.toList = [38, 38]) (w : World) : Calls Try.prog 13 #[.string op, .agg #[.int .i64 3, .int .i64 1, .int .u64 0], .agg #[.int .i64 3, .int .i64 0, .int .u64 0]] w (Vi4 w (3, 0, 0, 0)) := by
  have cf := callFrom
  have W1 : Hid (Below w.heap.size w (((w.alloc (.cells #[.int .i64 3, .int .i64 1, .int .u64 0] 24)).alloc (.cells #[.int .i64 3, .int .i64 0, .int .u64 0] 24)).alloc (.cells #[.int .i64 0, .int .i64 0, .int .u64 0] 24))) := hide (bel_al (bel_al (bel_new w _) _) _)
  have sz : (w.alloc (.cells #[.int .i64 3, .int .i64 1, .int .u64 0] 24)).heap.size = w.heap.size + 1 := by simp
  have sz2 : ((w.alloc (.cells #[.int .i64 3, .int .i64 1, .int .u64 0] 24)).alloc (.cells #[.int .i64 3, .int .i64 0, .int .u64 0] 24)).heap.size = w.heap.size + 2 := by simp
  have VA := ((Val.new w 3 1 0).al (bel_new _ (.cells #[.int .i64 3, .int .i64 0, .int .u64 0] 24))).al (bel_new _ (.cells #[.int .i64 0, .int .i64 0, .int .u64 0] 24))
  have VC := (Val.new (w.alloc (.cells #[.int .i64 3, .int .i64 1, .int .u64 0] 24)) 3 0 0).al (bel_new _ (.cells #[.int .i64 0, .int .i64 0, .int .u64 0] 24))
  have V1 := Val.new ((w.alloc (.cells #[.int .i64 3, .int .i64 1, .int .u64 0] 24)).alloc (.cells #[.int .i64 3, .int .i64 0, .int .u64 0] 24)) 0 0 0
  rw [sz] at VC
  rw [sz2] at V1
  replace VA := hide VA
  replace VC := hide VC
  replace V1 := hide V1
  clear sz sz2
  show Calls _ _ _ _ (Vi w 3 _ 0 0)
  have HF := fun w => form_any 3 1 0 w
  have HG := fun w => form_any 3 0 0 w
  have HO := fun w => order_int 3 1 0 0 0 3 (by decide) w
  rw [show goodB 3 1 0 = true by decide] at HF
  rw [show goodB 3 0 0 = true by decide] at HG
  rw [show ordI 1 0 = 1 by decide] at HO
  go_enter Try.func13, Try.ntmps13
  obtain ⟨a0, a1, a2⟩ := VA.out.all.2
  go_wp2_with fail
  refine (HF _).mono ?_
  rintro e w1 ⟨rfl, hb⟩
  replace VA := hide (VA.out.al hb)
  replace VC := hide (VC.out.al hb)
  replace V1 := hide (V1.out.al hb)
  have B1 := hide (bel_trans W1.out hb)
  clear a0 a1 a2 hb HF
  obtain ⟨a0, a1, a2⟩ := VA.out.all.2
  obtain ⟨c0, c1, c2⟩ := VC.out.all.2
  go_wp2_with fail
  refine (HG _).mono ?_
  rintro e w2 ⟨rfl, hb⟩
  replace VA := hide (VA.out.al hb)
  replace VC := hide (VC.out.al hb)
  replace V1 := hide (V1.out.al hb)
  replace B1 := hide (bel_trans B1.out hb)
  clear hb a0 a1 a2 c0 c1 c2 HG
  obtain ⟨a0, a1, a2⟩ := VA.out.all.2
  obtain ⟨c0, c1, c2⟩ := VC.out.all.2
  go_wp2_with fail
  refine (HO _).mono ?_
  rintro e w3 ⟨rfl, hb⟩
  replace VA := hide (VA.out.al hb)
  replace VC := hide (VC.out.al hb)
  replace V1 := hide (V1.out.al hb)
  replace B1 := hide (bel_trans B1.out hb)
  clear hb a0 a1 a2 c0 c1 c2 HO
  obtain ⟨a0, a1, a2⟩ := VA.out.all.2
  obtain ⟨c0, c1, c2⟩ := VC.out.all.2
  go_wp2_with fail
  refine (truth_any _ _).mono ?_
  rintro e w4 ⟨rfl, hb⟩
  replace V1 := hide (V1.out.al hb)
  replace B1 := hide (bel_trans B1.out hb)
  clear hb a0 a1 a2 c0 c1 c2
  obtain ⟨⟨f0, f1, f2⟩, e0, e1, e2⟩ := V1.out.all
  go_wp2_with fail
  exact ret_vi (w.heap.size + 2) rfl rfl rfl (V1.out.set _ _ _) rfl (Vi.mk ⟨rfl, rfl, rfl, rfl⟩ (bel_set B1.out (by omega) _ _ _))
set_option maxRecDepth 20000 in
set_option maxHeartbeats 2000000 in
theorem rbin_or10 (op : ByteArray) (h : op.toList = [124, 124]) (w : World) : Calls Try.prog 13 #[.string op, .agg #[.int .i64 3, .int .i64 1, .int .u64 0], .agg #[.int .i64 3, .int .i64 0, .int .u64 0]] w (Vi4 w (3, 1, 0, 0)) := by
  have cf := callFrom
  have W1 : Hid (Below w.heap.size w (((w.alloc (.cells #[.int .i64 3, .int .i64 1, .int .u64 0] 24)).alloc (.cells #[.int .i64 3, .int .i64 0, .int .u64 0] 24)).alloc (.cells #[.int .i64 0, .int .i64 0, .int .u64 0] 24))) := hide (bel_al (bel_al (bel_new w _) _) _)
  have sz : (w.alloc (.cells #[.int .i64 3, .int .i64 1, .int .u64 0] 24)).heap.size = w.heap.size + 1 := by simp
  have sz2 : ((w.alloc (.cells #[.int .i64 3, .int .i64 1, .int .u64 0] 24)).alloc (.cells #[.int .i64 3, .int .i64 0, .int .u64 0] 24)).heap.size = w.heap.size + 2 := by simp
  have VA := ((Val.new w 3 1 0).al (bel_new _ (.cells #[.int .i64 3, .int .i64 0, .int .u64 0] 24))).al (bel_new _ (.cells #[.int .i64 0, .int .i64 0, .int .u64 0] 24))
  have VC := (Val.new (w.alloc (.cells #[.int .i64 3, .int .i64 1, .int .u64 0] 24)) 3 0 0).al (bel_new _ (.cells #[.int .i64 0, .int .i64 0, .int .u64 0] 24))
  have V1 := Val.new ((w.alloc (.cells #[.int .i64 3, .int .i64 1, .int .u64 0] 24)).alloc (.cells #[.int .i64 3, .int .i64 0, .int .u64 0] 24)) 0 0 0
  rw [sz] at VC
  rw [sz2] at V1
  replace VA := hide VA
  replace VC := hide VC
  replace V1 := hide V1
  clear sz sz2
  show Calls _ _ _ _ (Vi w 3 _ 0 0)
  have HF := fun w => form_any 3 1 0 w
  have HG := fun w => form_any 3 0 0 w
  have HO := fun w => order_int 3 1 0 0 0 3 (by decide) w
  rw [show goodB 3 1 0 = true by decide] at HF
  rw [show goodB 3 0 0 = true by decide] at HG
  rw [show ordI 1 0 = 1 by decide] at HO
  go_enter Try.func13, Try.ntmps13
  obtain ⟨a0, a1, a2⟩ := VA.out.all.2
  go_wp2_with fail
  refine (HF _).mono ?_
  rintro e w1 ⟨rfl, hb⟩
  replace VA := hide (VA.out.al hb)
  replace VC := hide (VC.out.al hb)
  replace V1 := hide (V1.out.al hb)
  have B1 := hide (bel_trans W1.out hb)
  clear a0 a1 a2 hb HF
  obtain ⟨a0, a1, a2⟩ := VA.out.all.2
  obtain ⟨c0, c1, c2⟩ := VC.out.all.2
  go_wp2_with fail
  refine (HG _).mono ?_
  rintro e w2 ⟨rfl, hb⟩
  replace VA := hide (VA.out.al hb)
  replace VC := hide (VC.out.al hb)
  replace V1 := hide (V1.out.al hb)
  replace B1 := hide (bel_trans B1.out hb)
  clear hb a0 a1 a2 c0 c1 c2 HG
  obtain ⟨a0, a1, a2⟩ := VA.out.all.2
  obtain ⟨c0, c1, c2⟩ := VC.out.all.2
  go_wp2_with fail
  refine (HO _).mono ?_
  rintro e w3 ⟨rfl, hb⟩
  replace VA := hide (VA.out.al hb)
  replace VC := hide (VC.out.al hb)
  replace V1 := hide (V1.out.al hb)
  replace B1 := hide (bel_trans B1.out hb)
  clear hb a0 a1 a2 c0 c1 c2 HO
  obtain ⟨a0, a1, a2⟩ := VA.out.all.2
  obtain ⟨c0, c1, c2⟩ := VC.out.all.2
  go_wp2_with fail
  refine (truth_any _ _).mono ?_
  rintro e w4 ⟨rfl, hb⟩
  replace V1 := hide (V1.out.al hb)
  replace B1 := hide (bel_trans B1.out hb)
  clear hb a0 a1 a2 c0 c1 c2
  obtain ⟨⟨f0, f1, f2⟩, e0, e1, e2⟩ := V1.out.all
  go_wp2_with fail
  exact ret_vi (w.heap.size + 2) rfl rfl rfl (V1.out.set _ _ _) rfl (Vi.mk ⟨rfl, rfl, rfl, rfl⟩ (bel_set B1.out (by omega) _ _ _))
set_option maxRecDepth 20000 in
set_option maxHeartbeats 2000000 in
theorem rbin_nb10 (op : ByteArray) (hn : ∀ l, l ∈ [[61, 61], [33, 61], [38, 38], [124, 124]] → op.toList ≠ l) (w : World) : Calls Try.prog 13 #[.string op, .agg #[.int .i64 3, .int .i64 1, .int .u64 0], .agg #[.int .i64 3, .int .i64 0, .int .u64 0]] w (Vi4 w (0, 0, 0, -1)) := by
  have cf := callFrom
  have W1 : Hid (Below w.heap.size w (((w.alloc (.cells #[.int .i64 3, .int .i64 1, .int .u64 0] 24)).alloc (.cells #[.int .i64 3, .int .i64 0, .int .u64 0] 24)).alloc (.cells #[.int .i64 0, .int .i64 0, .int .u64 0] 24))) := hide (bel_al (bel_al (bel_new w _) _) _)
  have sz : (w.alloc (.cells #[.int .i64 3, .int .i64 1, .int .u64 0] 24)).heap.size = w.heap.size + 1 := by simp
  have sz2 : ((w.alloc (.cells #[.int .i64 3, .int .i64 1, .int .u64 0] 24)).alloc (.cells #[.int .i64 3, .int .i64 0, .int .u64 0] 24)).heap.size = w.heap.size + 2 := by simp
  have VA := ((Val.new w 3 1 0).al (bel_new _ (.cells #[.int .i64 3, .int .i64 0, .int .u64 0] 24))).al (bel_new _ (.cells #[.int .i64 0, .int .i64 0, .int .u64 0] 24))
  have VC := (Val.new (w.alloc (.cells #[.int .i64 3, .int .i64 1, .int .u64 0] 24)) 3 0 0).al (bel_new _ (.cells #[.int .i64 0, .int .i64 0, .int .u64 0] 24))
  have V1 := Val.new ((w.alloc (.cells #[.int .i64 3, .int .i64 1, .int .u64 0] 24)).alloc (.cells #[.int .i64 3, .int .i64 0, .int .u64 0] 24)) 0 0 0
  rw [sz] at VC
  rw [sz2] at V1
  replace VA := hide VA
  replace VC := hide VC
  replace V1 := hide V1
  clear sz sz2
  show Calls _ _ _ _ (Vi w 0 0 0 (-1))
  have HF := fun w => form_any 3 1 0 w
  have HG := fun w => form_any 3 0 0 w
  have HO := fun w => order_int 3 1 0 0 0 3 (by decide) w
  rw [show goodB 3 1 0 = true by decide] at HF
  rw [show goodB 3 0 0 = true by decide] at HG
  rw [show ordI 1 0 = 1 by decide] at HO
  have d0 : (op.toList == [61, 61]) = false := by simpa using hn [61, 61] (by simp)
  have d1 : (op.toList == [33, 61]) = false := by simpa using hn [33, 61] (by simp)
  have d2 : (op.toList == [38, 38]) = false := by simpa using hn [38, 38] (by simp)
  have d3 : (op.toList == [124, 124]) = false := by simpa using hn [124, 124] (by simp)
  clear hn
  go_enter Try.func13, Try.ntmps13
  obtain ⟨a0, a1, a2⟩ := VA.out.all.2
  go_wp2_with fail
  refine (HF _).mono ?_
  rintro e w1 ⟨rfl, hb⟩
  replace VA := hide (VA.out.al hb)
  replace VC := hide (VC.out.al hb)
  replace V1 := hide (V1.out.al hb)
  have B1 := hide (bel_trans W1.out hb)
  clear a0 a1 a2 hb HF
  obtain ⟨a0, a1, a2⟩ := VA.out.all.2
  obtain ⟨c0, c1, c2⟩ := VC.out.all.2
  go_wp2_with fail
  refine (HG _).mono ?_
  rintro e w2 ⟨rfl, hb⟩
  replace VA := hide (VA.out.al hb)
  replace VC := hide (VC.out.al hb)
  replace V1 := hide (V1.out.al hb)
  replace B1 := hide (bel_trans B1.out hb)
  clear hb a0 a1 a2 c0 c1 c2 HG
  obtain ⟨a0, a1, a2⟩ := VA.out.all.2
  obtain ⟨c0, c1, c2⟩ := VC.out.all.2
  go_wp2_with fail
  refine (HO _).mono ?_
  rintro e w3 ⟨rfl, hb⟩
  replace VA := hide (VA.out.al hb)
  replace VC := hide (VC.out.al hb)
  replace V1 := hide (V1.out.al hb)
  replace B1 := hide (bel_trans B1.out hb)
  clear hb a0 a1 a2 c0 c1 c2 HO
  obtain ⟨a0, a1, a2⟩ := VA.out.all.2
  obtain ⟨c0, c1, c2⟩ := VC.out.all.2
  obtain ⟨⟨f0, f1, f2⟩, e0, e1, e2⟩ := V1.out.all
  go_wp2_with fail
  exact ret_vi (w.heap.size + 2) rfl rfl rfl (V1.out.set _ _ _) rfl (Vi.mk ⟨rfl, rfl, rfl, rfl⟩ (bel_set B1.out (by omega) _ _ _))
set_option maxRecDepth 20000 in
set_option maxHeartbeats 2000000 in
theorem rbin_and11 (op : ByteArray) (h : op.toList = [38, 38]) (w : World) : Calls Try.prog 13 #[.string op, .agg #[.int .i64 3, .int .i64 1, .int .u64 0], .agg #[.int .i64 3, .int .i64 1, .int .u64 0]] w (Vi4 w (3, 1, 0, 0)) := by
  have cf := callFrom
  have W1 : Hid (Below w.heap.size w (((w.alloc (.cells #[.int .i64 3, .int .i64 1, .int .u64 0] 24)).alloc (.cells #[.int .i64 3, .int .i64 1, .int .u64 0] 24)).alloc (.cells #[.int .i64 0, .int .i64 0, .int .u64 0] 24))) := hide (bel_al (bel_al (bel_new w _) _) _)
  have sz : (w.alloc (.cells #[.int .i64 3, .int .i64 1, .int .u64 0] 24)).heap.size = w.heap.size + 1 := by simp
  have sz2 : ((w.alloc (.cells #[.int .i64 3, .int .i64 1, .int .u64 0] 24)).alloc (.cells #[.int .i64 3, .int .i64 1, .int .u64 0] 24)).heap.size = w.heap.size + 2 := by simp
  have VA := ((Val.new w 3 1 0).al (bel_new _ (.cells #[.int .i64 3, .int .i64 1, .int .u64 0] 24))).al (bel_new _ (.cells #[.int .i64 0, .int .i64 0, .int .u64 0] 24))
  have VC := (Val.new (w.alloc (.cells #[.int .i64 3, .int .i64 1, .int .u64 0] 24)) 3 1 0).al (bel_new _ (.cells #[.int .i64 0, .int .i64 0, .int .u64 0] 24))
  have V1 := Val.new ((w.alloc (.cells #[.int .i64 3, .int .i64 1, .int .u64 0] 24)).alloc (.cells #[.int .i64 3, .int .i64 1, .int .u64 0] 24)) 0 0 0
  rw [sz] at VC
  rw [sz2] at V1
  replace VA := hide VA
  replace VC := hide VC
  replace V1 := hide V1
  clear sz sz2
  show Calls _ _ _ _ (Vi w 3 _ 0 0)
  have HF := fun w => form_any 3 1 0 w
  have HG := fun w => form_any 3 1 0 w
  have HO := fun w => order_int 3 1 0 1 0 3 (by decide) w
  rw [show goodB 3 1 0 = true by decide] at HF
  rw [show goodB 3 1 0 = true by decide] at HG
  rw [show ordI 1 1 = 0 by decide] at HO
  go_enter Try.func13, Try.ntmps13
  obtain ⟨a0, a1, a2⟩ := VA.out.all.2
  go_wp2_with fail
  refine (HF _).mono ?_
  rintro e w1 ⟨rfl, hb⟩
  replace VA := hide (VA.out.al hb)
  replace VC := hide (VC.out.al hb)
  replace V1 := hide (V1.out.al hb)
  have B1 := hide (bel_trans W1.out hb)
  clear a0 a1 a2 hb HF
  obtain ⟨a0, a1, a2⟩ := VA.out.all.2
  obtain ⟨c0, c1, c2⟩ := VC.out.all.2
  go_wp2_with fail
  refine (HG _).mono ?_
  rintro e w2 ⟨rfl, hb⟩
  replace VA := hide (VA.out.al hb)
  replace VC := hide (VC.out.al hb)
  replace V1 := hide (V1.out.al hb)
  replace B1 := hide (bel_trans B1.out hb)
  clear hb a0 a1 a2 c0 c1 c2 HG
  obtain ⟨a0, a1, a2⟩ := VA.out.all.2
  obtain ⟨c0, c1, c2⟩ := VC.out.all.2
  go_wp2_with fail
  refine (HO _).mono ?_
  rintro e w3 ⟨rfl, hb⟩
  replace VA := hide (VA.out.al hb)
  replace VC := hide (VC.out.al hb)
  replace V1 := hide (V1.out.al hb)
  replace B1 := hide (bel_trans B1.out hb)
  clear hb a0 a1 a2 c0 c1 c2 HO
  obtain ⟨a0, a1, a2⟩ := VA.out.all.2
  obtain ⟨c0, c1, c2⟩ := VC.out.all.2
  go_wp2_with fail
  refine (truth_any _ _).mono ?_
  rintro e w4 ⟨rfl, hb⟩
  replace V1 := hide (V1.out.al hb)
  replace B1 := hide (bel_trans B1.out hb)
  clear hb a0 a1 a2 c0 c1 c2
  obtain ⟨⟨f0, f1, f2⟩, e0, e1, e2⟩ := V1.out.all
  go_wp2_with fail
  exact ret_vi (w.heap.size + 2) rfl rfl rfl (V1.out.set _ _ _) rfl (Vi.mk ⟨rfl, rfl, rfl, rfl⟩ (bel_set B1.out (by omega) _ _ _))
set_option maxRecDepth 20000 in
set_option maxHeartbeats 2000000 in
theorem rbin_or11 (op : ByteArray) (h : op.toList = [124, 124]) (w : World) : Calls Try.prog 13 #[.string op, .agg #[.int .i64 3, .int .i64 1, .int .u64 0], .agg #[.int .i64 3, .int .i64 1, .int .u64 0]] w (Vi4 w (3, 1, 0, 0)) := by
  have cf := callFrom
  have W1 : Hid (Below w.heap.size w (((w.alloc (.cells #[.int .i64 3, .int .i64 1, .int .u64 0] 24)).alloc (.cells #[.int .i64 3, .int .i64 1, .int .u64 0] 24)).alloc (.cells #[.int .i64 0, .int .i64 0, .int .u64 0] 24))) := hide (bel_al (bel_al (bel_new w _) _) _)
  have sz : (w.alloc (.cells #[.int .i64 3, .int .i64 1, .int .u64 0] 24)).heap.size = w.heap.size + 1 := by simp
  have sz2 : ((w.alloc (.cells #[.int .i64 3, .int .i64 1, .int .u64 0] 24)).alloc (.cells #[.int .i64 3, .int .i64 1, .int .u64 0] 24)).heap.size = w.heap.size + 2 := by simp
  have VA := ((Val.new w 3 1 0).al (bel_new _ (.cells #[.int .i64 3, .int .i64 1, .int .u64 0] 24))).al (bel_new _ (.cells #[.int .i64 0, .int .i64 0, .int .u64 0] 24))
  have VC := (Val.new (w.alloc (.cells #[.int .i64 3, .int .i64 1, .int .u64 0] 24)) 3 1 0).al (bel_new _ (.cells #[.int .i64 0, .int .i64 0, .int .u64 0] 24))
  have V1 := Val.new ((w.alloc (.cells #[.int .i64 3, .int .i64 1, .int .u64 0] 24)).alloc (.cells #[.int .i64 3, .int .i64 1, .int .u64 0] 24)) 0 0 0
  rw [sz] at VC
  rw [sz2] at V1
  replace VA := hide VA
  replace VC := hide VC
  replace V1 := hide V1
  clear sz sz2
  show Calls _ _ _ _ (Vi w 3 _ 0 0)
  have HF := fun w => form_any 3 1 0 w
  have HG := fun w => form_any 3 1 0 w
  have HO := fun w => order_int 3 1 0 1 0 3 (by decide) w
  rw [show goodB 3 1 0 = true by decide] at HF
  rw [show goodB 3 1 0 = true by decide] at HG
  rw [show ordI 1 1 = 0 by decide] at HO
  go_enter Try.func13, Try.ntmps13
  obtain ⟨a0, a1, a2⟩ := VA.out.all.2
  go_wp2_with fail
  refine (HF _).mono ?_
  rintro e w1 ⟨rfl, hb⟩
  replace VA := hide (VA.out.al hb)
  replace VC := hide (VC.out.al hb)
  replace V1 := hide (V1.out.al hb)
  have B1 := hide (bel_trans W1.out hb)
  clear a0 a1 a2 hb HF
  obtain ⟨a0, a1, a2⟩ := VA.out.all.2
  obtain ⟨c0, c1, c2⟩ := VC.out.all.2
  go_wp2_with fail
  refine (HG _).mono ?_
  rintro e w2 ⟨rfl, hb⟩
  replace VA := hide (VA.out.al hb)
  replace VC := hide (VC.out.al hb)
  replace V1 := hide (V1.out.al hb)
  replace B1 := hide (bel_trans B1.out hb)
  clear hb a0 a1 a2 c0 c1 c2 HG
  obtain ⟨a0, a1, a2⟩ := VA.out.all.2
  obtain ⟨c0, c1, c2⟩ := VC.out.all.2
  go_wp2_with fail
  refine (HO _).mono ?_
  rintro e w3 ⟨rfl, hb⟩
  replace VA := hide (VA.out.al hb)
  replace VC := hide (VC.out.al hb)
  replace V1 := hide (V1.out.al hb)
  replace B1 := hide (bel_trans B1.out hb)
  clear hb a0 a1 a2 c0 c1 c2 HO
  obtain ⟨a0, a1, a2⟩ := VA.out.all.2
  obtain ⟨c0, c1, c2⟩ := VC.out.all.2
  go_wp2_with fail
  refine (truth_any _ _).mono ?_
  rintro e w4 ⟨rfl, hb⟩
  replace V1 := hide (V1.out.al hb)
  replace B1 := hide (bel_trans B1.out hb)
  clear hb a0 a1 a2 c0 c1 c2
  obtain ⟨⟨f0, f1, f2⟩, e0, e1, e2⟩ := V1.out.all
  go_wp2_with fail
  exact ret_vi (w.heap.size + 2) rfl rfl rfl (V1.out.set _ _ _) rfl (Vi.mk ⟨rfl, rfl, rfl, rfl⟩ (bel_set B1.out (by omega) _ _ _))
set_option maxRecDepth 20000 in
set_option maxHeartbeats 2000000 in
theorem rbin_nb11 (op : ByteArray) (hn : ∀ l, l ∈ [[61, 61], [33, 61], [38, 38], [124, 124]] → op.toList ≠ l) (w : World) : Calls Try.prog 13 #[.string op, .agg #[.int .i64 3, .int .i64 1, .int .u64 0], .agg #[.int .i64 3, .int .i64 1, .int .u64 0]] w (Vi4 w (0, 0, 0, -1)) := by
  have cf := callFrom
  have W1 : Hid (Below w.heap.size w (((w.alloc (.cells #[.int .i64 3, .int .i64 1, .int .u64 0] 24)).alloc (.cells #[.int .i64 3, .int .i64 1, .int .u64 0] 24)).alloc (.cells #[.int .i64 0, .int .i64 0, .int .u64 0] 24))) := hide (bel_al (bel_al (bel_new w _) _) _)
  have sz : (w.alloc (.cells #[.int .i64 3, .int .i64 1, .int .u64 0] 24)).heap.size = w.heap.size + 1 := by simp
  have sz2 : ((w.alloc (.cells #[.int .i64 3, .int .i64 1, .int .u64 0] 24)).alloc (.cells #[.int .i64 3, .int .i64 1, .int .u64 0] 24)).heap.size = w.heap.size + 2 := by simp
  have VA := ((Val.new w 3 1 0).al (bel_new _ (.cells #[.int .i64 3, .int .i64 1, .int .u64 0] 24))).al (bel_new _ (.cells #[.int .i64 0, .int .i64 0, .int .u64 0] 24))
  have VC := (Val.new (w.alloc (.cells #[.int .i64 3, .int .i64 1, .int .u64 0] 24)) 3 1 0).al (bel_new _ (.cells #[.int .i64 0, .int .i64 0, .int .u64 0] 24))
  have V1 := Val.new ((w.alloc (.cells #[.int .i64 3, .int .i64 1, .int .u64 0] 24)).alloc (.cells #[.int .i64 3, .int .i64 1, .int .u64 0] 24)) 0 0 0
  rw [sz] at VC
  rw [sz2] at V1
  replace VA := hide VA
  replace VC := hide VC
  replace V1 := hide V1
  clear sz sz2
  show Calls _ _ _ _ (Vi w 0 0 0 (-1))
  have HF := fun w => form_any 3 1 0 w
  have HG := fun w => form_any 3 1 0 w
  have HO := fun w => order_int 3 1 0 1 0 3 (by decide) w
  rw [show goodB 3 1 0 = true by decide] at HF
  rw [show goodB 3 1 0 = true by decide] at HG
  rw [show ordI 1 1 = 0 by decide] at HO
  have d0 : (op.toList == [61, 61]) = false := by simpa using hn [61, 61] (by simp)
  have d1 : (op.toList == [33, 61]) = false := by simpa using hn [33, 61] (by simp)
  have d2 : (op.toList == [38, 38]) = false := by simpa using hn [38, 38] (by simp)
  have d3 : (op.toList == [124, 124]) = false := by simpa using hn [124, 124] (by simp)
  clear hn
  go_enter Try.func13, Try.ntmps13
  obtain ⟨a0, a1, a2⟩ := VA.out.all.2
  go_wp2_with fail
  refine (HF _).mono ?_
  rintro e w1 ⟨rfl, hb⟩
  replace VA := hide (VA.out.al hb)
  replace VC := hide (VC.out.al hb)
  replace V1 := hide (V1.out.al hb)
  have B1 := hide (bel_trans W1.out hb)
  clear a0 a1 a2 hb HF
  obtain ⟨a0, a1, a2⟩ := VA.out.all.2
  obtain ⟨c0, c1, c2⟩ := VC.out.all.2
  go_wp2_with fail
  refine (HG _).mono ?_
  rintro e w2 ⟨rfl, hb⟩
  replace VA := hide (VA.out.al hb)
  replace VC := hide (VC.out.al hb)
  replace V1 := hide (V1.out.al hb)
  replace B1 := hide (bel_trans B1.out hb)
  clear hb a0 a1 a2 c0 c1 c2 HG
  obtain ⟨a0, a1, a2⟩ := VA.out.all.2
  obtain ⟨c0, c1, c2⟩ := VC.out.all.2
  go_wp2_with fail
  refine (HO _).mono ?_
  rintro e w3 ⟨rfl, hb⟩
  replace VA := hide (VA.out.al hb)
  replace VC := hide (VC.out.al hb)
  replace V1 := hide (V1.out.al hb)
  replace B1 := hide (bel_trans B1.out hb)
  clear hb a0 a1 a2 c0 c1 c2 HO
  obtain ⟨a0, a1, a2⟩ := VA.out.all.2
  obtain ⟨c0, c1, c2⟩ := VC.out.all.2
  obtain ⟨⟨f0, f1, f2⟩, e0, e1, e2⟩ := V1.out.all
  go_wp2_with fail
  exact ret_vi (w.heap.size + 2) rfl rfl rfl (V1.out.set _ _ _) rfl (Vi.mk ⟨rfl, rfl, rfl, rfl⟩ (bel_set B1.out (by omega) _ _ _))
end Go.Proofs.Ytmdfciiejenpnaa.Ck
