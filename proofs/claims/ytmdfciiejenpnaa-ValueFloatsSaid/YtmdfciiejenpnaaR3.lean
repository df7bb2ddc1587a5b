/- The document's Binary: values that aren't in form, comparing. (Written by mk_r.py.) -/
import Derived.Test.YtmdfciiejenpnaaR2
namespace Go.Proofs.Ytmdfciiejenpnaa.Ck
open Go.RowKit

set_option maxRecDepth 20000 in
set_option maxHeartbeats 2000000 in
theorem rbin_no1 (op : ByteArray) (t n b t' n' b' : Int) (hg : goodB t n b = false) (w : World) : Calls Try.prog 13 #[.string op, .agg #[.int .i64 t, .int .i64 n, .int .u64 b], .agg #[.int .i64 t', .int .i64 n', .int .u64 b']] w (Vi4 w (0, 0, 0, -1)) := by
  have cf := callFrom
  have W1 : Hid (Below w.heap.size w (((w.alloc (.cells #[.int .i64 t, .int .i64 n, .int .u64 b] 24)).alloc (.cells #[.int .i64 t', .int .i64 n', .int .u64 b'] 24)).alloc (.cells #[.int .i64 0, .int .i64 0, .int .u64 0] 24))) := hide (bel_al (bel_al (bel_new w _) _) _)
  have sz : (w.alloc (.cells #[.int .i64 t, .int .i64 n, .int .u64 b] 24)).heap.size = w.heap.size + 1 := by simp
  have sz2 : ((w.alloc (.cells #[.int .i64 t, .int .i64 n, .int .u64 b] 24)).alloc (.cells #[.int .i64 t', .int .i64 n', .int .u64 b'] 24)).heap.size = w.heap.size + 2 := by simp
  have VA := ((Val.new w t n b).al (bel_new _ (.cells #[.int .i64 t', .int .i64 n', .int .u64 b'] 24))).al (bel_new _ (.cells #[.int .i64 0, .int .i64 0, .int .u64 0] 24))
  have VC := (Val.new (w.alloc (.cells #[.int .i64 t, .int .i64 n, .int .u64 b] 24)) t' n' b').al (bel_new _ (.cells #[.int .i64 0, .int .i64 0, .int .u64 0] 24))
  have V1 := Val.new ((w.alloc (.cells #[.int .i64 t, .int .i64 n, .int .u64 b] 24)).alloc (.cells #[.int .i64 t', .int .i64 n', .int .u64 b'] 24)) 0 0 0
  rw [sz] at VC
  rw [sz2] at V1
  replace VA := hide VA
  replace VC := hide VC
  replace V1 := hide V1
  clear sz sz2
  show Calls _ _ _ _ (Vi w 0 0 0 (-1))
  have HF := fun w => form_any t n b w
  rw [hg] at HF
  clear hg
  go_enter Try.func13, Try.ntmps13
  obtain ⟨a0, a1, a2⟩ := VA.out.all.2
  go_wp2_with fail
  refine (HF _).mono ?_
  rintro e w1 ⟨rfl, hb⟩
  replace VA := hide (VA.out.al hb)
  replace VC := hide (VC.out.al hb)
  replace V1 := hide (V1.out.al hb)
  have B1 := hide (bel_trans W1.out hb)
  clear a0 a1 a2 hb HF
  obtain ⟨⟨f0, f1, f2⟩, e0, e1, e2⟩ := V1.out.all
  go_wp2_with fail
  exact ret_vi (w.heap.size + 2) rfl rfl rfl (V1.out.set _ _ _) rfl (Vi.mk ⟨rfl, rfl, rfl, rfl⟩ (bel_set B1.out (by omega) _ _ _))
set_option maxRecDepth 20000 in
set_option maxHeartbeats 2000000 in
theorem rbin_no2 (op : ByteArray) (t n b t' n' b' : Int) (hg : goodB t n b = true) (hh : goodB t' n' b' = false) (w : World) : Calls Try.prog 13 #[.string op, .agg #[.int .i64 t, .int .i64 n, .int .u64 b], .agg #[.int .i64 t', .int .i64 n', .int .u64 b']] w (Vi4 w (0, 0, 0, -1)) := by
  have cf := callFrom
  have W1 : Hid (Below w.heap.size w (((w.alloc (.cells #[.int .i64 t, .int .i64 n, .int .u64 b] 24)).alloc (.cells #[.int .i64 t', .int .i64 n', .int .u64 b'] 24)).alloc (.cells #[.int .i64 0, .int .i64 0, .int .u64 0] 24))) := hide (bel_al (bel_al (bel_new w _) _) _)
  have sz : (w.alloc (.cells #[.int .i64 t, .int .i64 n, .int .u64 b] 24)).heap.size = w.heap.size + 1 := by simp
  have sz2 : ((w.alloc (.cells #[.int .i64 t, .int .i64 n, .int .u64 b] 24)).alloc (.cells #[.int .i64 t', .int .i64 n', .int .u64 b'] 24)).heap.size = w.heap.size + 2 := by simp
  have VA := ((Val.new w t n b).al (bel_new _ (.cells #[.int .i64 t', .int .i64 n', .int .u64 b'] 24))).al (bel_new _ (.cells #[.int .i64 0, .int .i64 0, .int .u64 0] 24))
  have VC := (Val.new (w.alloc (.cells #[.int .i64 t, .int .i64 n, .int .u64 b] 24)) t' n' b').al (bel_new _ (.cells #[.int .i64 0, .int .i64 0, .int .u64 0] 24))
  have V1 := Val.new ((w.alloc (.cells #[.int .i64 t, .int .i64 n, .int .u64 b] 24)).alloc (.cells #[.int .i64 t', .int .i64 n', .int .u64 b'] 24)) 0 0 0
  rw [sz] at VC
  rw [sz2] at V1
  replace VA := hide VA
  replace VC := hide VC
  replace V1 := hide V1
  clear sz sz2
  show Calls _ _ _ _ (Vi w 0 0 0 (-1))
  have HF := fun w => form_any t n b w
  have HG := fun w => form_any t' n' b' w
  rw [hg] at HF
  rw [hh] at HG
  clear hg hh
  go_enter Try.func13, Try.ntmps13
  obtain ⟨a0, a1, a2⟩ := VA.out.all.2
  go_wp2_with fail
  refine (HF _).mono ?_
  rintro e w1 ⟨rfl, hb⟩
  replace VA := hide (VA.out.al hb)
  replace VC := hide (VC.out.al hb)
  replace V1 := hide (V1.out.al hb)
  have B1 := hide (bel_trans W1.out hb)
  clear a0 a1 a2 hb HF
  obtain ⟨a0, a1, a2⟩ := VA.out.all.2
  obtain ⟨c0, c1, c2⟩ := VC.out.all.2
  go_wp2_with fail
  refine (HG _).mono ?_
  rintro e w2 ⟨rfl, hb⟩
  replace VA := hide (VA.out.al hb)
  replace VC := hide (VC.out.al hb)
  replace V1 := hide (V1.out.al hb)
  replace B1 := hide (bel_trans B1.out hb)
  clear hb a0 a1 a2 c0 c1 c2 HG
  obtain ⟨⟨f0, f1, f2⟩, e0, e1, e2⟩ := V1.out.all
  go_wp2_with fail
  exact ret_vi (w.heap.size + 2) rfl rfl rfl (V1.out.set _ _ _) rfl (Vi.mk ⟨rfl, rfl, rfl, rfl⟩ (bel_set B1.out (by omega) _ _ _))
set_option maxRecDepth 20000 in
set_option maxHeartbeats 2000000 in
theorem rbin_no3 (op : ByteArray) (t n b t' n' b' : Int) (hg : goodB t n b = true) (hh : goodB t' n' b' = true) (ht : t ≠ t') (w : World) : Calls Try.prog 13 #[.string op, .agg #[.int .i64 t, .int .i64 n, .int .u64 b], .agg #[.int .i64 t', .int .i64 n', .int .u64 b']] w (Vi4 w (0, 0, 0, -1)) := by
  have cf := callFrom
  have W1 : Hid (Below w.heap.size w (((w.alloc (.cells #[.int .i64 t, .int .i64 n, .int .u64 b] 24)).alloc (.cells #[.int .i64 t', .int .i64 n', .int .u64 b'] 24)).alloc (.cells #[.int .i64 0, .int .i64 0, .int .u64 0] 24))) := hide (bel_al (bel_al (bel_new w _) _) _)
  have sz : (w.alloc (.cells #[.int .i64 t, .int .i64 n, .int .u64 b] 24)).heap.size = w.heap.size + 1 := by simp
  have sz2 : ((w.alloc (.cells #[.int .i64 t, .int .i64 n, .int .u64 b] 24)).alloc (.cells #[.int .i64 t', .int .i64 n', .int .u64 b'] 24)).heap.size = w.heap.size + 2 := by simp
  have VA := ((Val.new w t n b).al (bel_new _ (.cells #[.int .i64 t', .int .i64 n', .int .u64 b'] 24))).al (bel_new _ (.cells #[.int .i64 0, .int .i64 0, .int .u64 0] 24))
  have VC := (Val.new (w.alloc (.cells #[.int .i64 t, .int .i64 n, .int .u64 b] 24)) t' n' b').al (bel_new _ (.cells #[.int .i64 0, .int .i64 0, .int .u64 0] 24))
  have V1 := Val.new ((w.alloc (.cells #[.int .i64 t, .int .i64 n, .int .u64 b] 24)).alloc (.cells #[.int .i64 t', .int .i64 n', .int .u64 b'] 24)) 0 0 0
  rw [sz] at VC
  rw [sz2] at V1
  replace VA := hide VA
  replace VC := hide VC
  replace V1 := hide V1
  clear sz sz2
  show Calls _ _ _ _ (Vi w 0 0 0 (-1))
  have HF := fun w => form_any t n b w
  have HG := fun w => form_any t' n' b' w
  rw [hg] at HF
  rw [hh] at HG
  have ht' : (t != t') = true := by simpa using ht
  clear hg hh
  go_enter Try.func13, Try.ntmps13
  obtain ⟨a0, a1, a2⟩ := VA.out.all.2
  go_wp2_with fail
  refine (HF _).mono ?_
  rintro e w1 ⟨rfl, hb⟩
  replace VA := hide (VA.out.al hb)
  replace VC := hide (VC.out.al hb)
  replace V1 := hide (V1.out.al hb)
  have B1 := hide (bel_trans W1.out hb)
  clear a0 a1 a2 hb HF
  obtain ⟨a0, a1, a2⟩ := VA.out.all.2
  obtain ⟨c0, c1, c2⟩ := VC.out.all.2
  go_wp2_with fail
  refine (HG _).mono ?_
  rintro e w2 ⟨rfl, hb⟩
  replace VA := hide (VA.out.al hb)
  replace VC := hide (VC.out.al hb)
  replace V1 := hide (V1.out.al hb)
  replace B1 := hide (bel_trans B1.out hb)
  clear hb a0 a1 a2 c0 c1 c2 HG
  obtain ⟨a0, a1, a2⟩ := VA.out.all.2
  obtain ⟨c0, c1, c2⟩ := VC.out.all.2
  obtain ⟨⟨f0, f1, f2⟩, e0, e1, e2⟩ := V1.out.all
  go_wp2_with fail
  exact ret_vi (w.heap.size + 2) rfl rfl rfl (V1.out.set _ _ _) rfl (Vi.mk ⟨rfl, rfl, rfl, rfl⟩ (bel_set B1.out (by omega) _ _ _))
set_option maxRecDepth 20000 in
set_option maxHeartbeats 2000000 in
theorem rbin_eq (op : ByteArray) (t n b n' b' O : Int) (hg : goodB t n b = true) (hh : goodB t n' b' = true) (HO : ∀ w, Calls Try.prog 36 #[.agg #[.int .i64 t, .int .i64 n, .int .u64 b], .agg #[.int .i64 t, .int .i64 n', .int .u64 b']] w (Vb w (.int .i64 O))) (h : op.toList = [61, 61]) (w : World) : Calls Try.prog 13 #[.string op, .agg #[.int .i64 t, .int .i64 n, .int .u64 b], .agg #[.int .i64 t, .int .i64 n', .int .u64 b']] w (Vi4 w (3, (O == 0).toInt, 0, 0)) := by
  have cf := callFrom
  have W1 : Hid (Below w.heap.size w (((w.alloc (.cells #[.int .i64 t, .int .i64 n, .int .u64 b] 24)).alloc (.cells #[.int .i64 t, .int .i64 n', .int .u64 b'] 24)).alloc (.cells #[.int .i64 0, .int .i64 0, .int .u64 0] 24))) := hide (bel_al (bel_al (bel_new w _) _) _)
  have sz : (w.alloc (.cells #[.int .i64 t, .int .i64 n, .int .u64 b] 24)).heap.size = w.heap.size + 1 := by simp
  have sz2 : ((w.alloc (.cells #[.int .i64 t, .int .i64 n, .int .u64 b] 24)).alloc (.cells #[.int .i64 t, .int .i64 n', .int .u64 b'] 24)).heap.size = w.heap.size + 2 := by simp
  have VA := ((Val.new w t n b).al (bel_new _ (.cells #[.int .i64 t, .int .i64 n', .int .u64 b'] 24))).al (bel_new _ (.cells #[.int .i64 0, .int .i64 0, .int .u64 0] 24))
  have VC := (Val.new (w.alloc (.cells #[.int .i64 t, .int .i64 n, .int .u64 b] 24)) t n' b').al (bel_new _ (.cells #[.int .i64 0, .int .i64 0, .int .u64 0] 24))
  have V1 := Val.new ((w.alloc (.cells #[.int .i64 t, .int .i64 n, .int .u64 b] 24)).alloc (.cells #[.int .i64 t, .int .i64 n', .int .u64 b'] 24)) 0 0 0
  rw [sz] at VC
  rw [sz2] at V1
  replace VA := hide VA
  replace VC := hide VC
  replace V1 := hide V1
  clear sz sz2
  show Calls _ _ _ _ (Vi w 3 _ 0 0)
  have HF := fun w => form_any t n b w
  have HG := fun w => form_any t n' b' w
  rw [hg] at HF
  rw [hh] at HG
  clear hg hh
  go_enter Try.func13, Try.ntmps13
  obtain ⟨a0, a1, a2⟩ := VA.out.all.2
  go_wp2_with fail
  refine (HF _).mono ?_
  rintro e w1 ⟨rfl, hb⟩
  replace VA := hide (VA.out.al hb)
  replace VC := hide (VC.out.al hb)
  replace V1 := hide (V1.out.al hb)
  have B1 := hide (bel_trans W1.out hb)
  clear a0 a1 a2 hb HF
  obtain ⟨a0, a1, a2⟩ := VA.out.all.2
  obtain ⟨c0, c1, c2⟩ := VC.out.all.2
  go_wp2_with fail
  refine (HG _).mono ?_
  rintro e w2 ⟨rfl, hb⟩
  replace VA := hide (VA.out.al hb)
  replace VC := hide (VC.out.al hb)
  replace V1 := hide (V1.out.al hb)
  replace B1 := hide (bel_trans B1.out hb)
  clear hb a0 a1 a2 c0 c1 c2 HG
  obtain ⟨a0, a1, a2⟩ := VA.out.all.2
  obtain ⟨c0, c1, c2⟩ := VC.out.all.2
  go_wp2_with fail
  refine (HO _).mono ?_
  rintro e w3 ⟨rfl, hb⟩
  replace VA := hide (VA.out.al hb)
  replace VC := hide (VC.out.al hb)
  replace V1 := hide (V1.out.al hb)
  replace B1 := hide (bel_trans B1.out hb)
  clear hb a0 a1 a2 c0 c1 c2 HO
  obtain ⟨a0, a1, a2⟩ := VA.out.all.2
  obtain ⟨c0, c1, c2⟩ := VC.out.all.2
  go_wp2_with fail
  refine (truth_any _ _).mono ?_
  rintro e w4 ⟨rfl, hb⟩
  replace V1 := hide (V1.out.al hb)
  replace B1 := hide (bel_trans B1.out hb)
  clear hb a0 a1 a2 c0 c1 c2
  obtain ⟨⟨f0, f1, f2⟩, e0, e1, e2⟩ := V1.out.all
  go_wp2_with fail
  exact ret_vi (w.heap.size + 2) rfl rfl rfl (V1.out.set _ _ _) rfl (Vi.mk ⟨rfl, rfl, rfl, rfl⟩ (bel_set B1.out (by omega) _ _ _))
set_option maxRecDepth 20000 in
set_option maxHeartbeats 2000000 in
theorem rbin_ne (op : ByteArray) (t n b n' b' O : Int) (hg : goodB t n b = true) (hh : goodB t n' b' = true) (HO : ∀ w, Calls Try.prog 36 #[.agg #[.int .i64 t, .int .i64 n, .int .u64 b], .agg #[.int .i64 t, .int .i64 n', .int .u64 b']] w (Vb w (.int .i64 O))) (h : op.toList = [33, 61]) (w : World) : Calls Try.prog 13 #[.string op, .agg #[.int .i64 t, .int .i64 n, .int .u64 b], .agg #[.int .i64 t, .int .i64 n', .int .u64 b']] w (Vi4 w (3, (O != 0).toInt, 0, 0)) := by
  have cf := callFrom
  have W1 : Hid (Below w.heap.size w (((w.alloc (.cells #[.int .i64 t, .int .i64 n, .int .u64 b] 24)).alloc (.cells #[.int .i64 t, .int .i64 n', .int .u64 b'] 24)).alloc (.cells #[.int .i64 0, .int .i64 0, .int .u64 0] 24))) := hide (bel_al (bel_al (bel_new w _) _) _)
  have sz : (w.alloc (.cells #[.int .i64 t, .int .i64 n, .int .u64 b] 24)).heap.size = w.heap.size + 1 := by simp
  have sz2 : ((w.alloc (.cells #[.int .i64 t, .int .i64 n, .int .u64 b] 24)).alloc (.cells #[.int .i64 t, .int .i64 n', .int .u64 b'] 24)).heap.size = w.heap.size + 2 := by simp
  have VA := ((Val.new w t n b).al (bel_new _ (.cells #[.int .i64 t, .int .i64 n', .int .u64 b'] 24))).al (bel_new _ (.cells #[.int .i64 0, .int .i64 0, .int .u64 0] 24))
  have VC := (Val.new (w.alloc (.cells #[.int .i64 t, .int .i64 n, .int .u64 b] 24)) t n' b').al (bel_new _ (.cells #[.int .i64 0, .int .i64 0, .int .u64 0] 24))
  have V1 := Val.new ((w.alloc (.cells #[.int .i64 t, .int .i64 n, .int .u64 b] 24)).alloc (.cells #[.int .i64 t, .int .i64 n', .int .u64 b'] 24)) 0 0 0
  rw [sz] at VC
  rw [sz2] at V1
  replace VA := hide VA
  replace VC := hide VC
  replace V1 := hide V1
  clear sz sz2
  show Calls _ _ _ _ (Vi w 3 _ 0 0)
  have HF := fun w => form_any t n b w
  have HG := fun w => form_any t n' b' w
  rw [hg] at HF
  rw [hh] at HG
  clear hg hh
  go_enter Try.func13, Try.ntmps13
  obtain ⟨a0, a1, a2⟩ := VA.out.all.2
  go_wp2_with fail
  refine (HF _).mono ?_
  rintro e w1 ⟨rfl, hb⟩
  replace VA := hide (VA.out.al hb)
  replace VC := hide (VC.out.al hb)
  replace V1 := hide (V1.out.al hb)
  have B1 := hide (bel_trans W1.out hb)
  clear a0 a1 a2 hb HF
  obtain ⟨a0, a1, a2⟩ := VA.out.all.2
  obtain ⟨c0, c1, c2⟩ := VC.out.all.2
  go_wp2_with fail
  refine (HG _).mono ?_
  rintro e w2 ⟨rfl, hb⟩
  replace VA := hide (VA.out.al hb)
  replace VC := hide (VC.out.al hb)
  replace V1 := hide (V1.out.al hb)
  replace B1 := hide (bel_trans B1.out hb)
  clear hb a0 a1 a2 c0 c1 c2 HG
  obtain ⟨a0, a1, a2⟩ := VA.out.all.2
  obtain ⟨c0, c1, c2⟩ := VC.out.all.2
  go_wp2_with fail
  refine (HO _).mono ?_
  rintro e w3 ⟨rfl, hb⟩
  replace VA := hide (VA.out.al hb)
  replace VC := hide (VC.out.al hb)
  replace V1 := hide (V1.out.al hb)
  replace B1 := hide (bel_trans B1.out hb)
  clear hb a0 a1 a2 c0 c1 c2 HO
  obtain ⟨a0, a1, a2⟩ := VA.out.all.2
  obtain ⟨c0, c1, c2⟩ := VC.out.all.2
  go_wp2_with fail
  refine (truth_any _ _).mono ?_
  rintro e w4 ⟨rfl, hb⟩
  replace V1 := hide (V1.out.al hb)
  replace B1 := hide (bel_trans B1.out hb)
  clear hb a0 a1 a2 c0 c1 c2
  obtain ⟨⟨f0, f1, f2⟩, e0, e1, e2⟩ := V1.out.all
  go_wp2_with fail
  exact ret_vi (w.heap.size + 2) rfl rfl rfl (V1.out.set _ _ _) rfl (Vi.mk ⟨rfl, rfl, rfl, rfl⟩ (bel_set B1.out (by omega) _ _ _))
set_option maxRecDepth 20000 in
set_option maxHeartbeats 2000000 in
theorem rbin_lt (op : ByteArray) (t n b n' b' O : Int) (hg : goodB t n b = true) (hh : goodB t n' b' = true) (HO : ∀ w, Calls Try.prog 36 #[.agg #[.int .i64 t, .int .i64 n, .int .u64 b], .agg #[.int .i64 t, .int .i64 n', .int .u64 b']] w (Vb w (.int .i64 O))) (h : op.toList = [60]) (ht : t ≠ 3) (w : World) : Calls Try.prog 13 #[.string op, .agg #[.int .i64 t, .int .i64 n, .int .u64 b], .agg #[.int .i64 t, .int .i64 n', .int .u64 b']] w (Vi4 w (3, (O == -1).toInt, 0, 0)) := by
  have cf := callFrom
  have W1 : Hid (Below w.heap.size w (((w.alloc (.cells #[.int .i64 t, .int .i64 n, .int .u64 b] 24)).alloc (.cells #[.int .i64 t, .int .i64 n', .int .u64 b'] 24)).alloc (.cells #[.int .i64 0, .int .i64 0, .int .u64 0] 24))) := hide (bel_al (bel_al (bel_new w _) _) _)
  have sz : (w.alloc (.cells #[.int .i64 t, .int .i64 n, .int .u64 b] 24)).heap.size = w.heap.size + 1 := by simp
  have sz2 : ((w.alloc (.cells #[.int .i64 t, .int .i64 n, .int .u64 b] 24)).alloc (.cells #[.int .i64 t, .int .i64 n', .int .u64 b'] 24)).heap.size = w.heap.size + 2 := by simp
  have VA := ((Val.new w t n b).al (bel_new _ (.cells #[.int .i64 t, .int .i64 n', .int .u64 b'] 24))).al (bel_new _ (.cells #[.int .i64 0, .int .i64 0, .int .u64 0] 24))
  have VC := (Val.new (w.alloc (.cells #[.int .i64 t, .int .i64 n, .int .u64 b] 24)) t n' b').al (bel_new _ (.cells #[.int .i64 0, .int .i64 0, .int .u64 0] 24))
  have V1 := Val.new ((w.alloc (.cells #[.int .i64 t, .int .i64 n, .int .u64 b] 24)).alloc (.cells #[.int .i64 t, .int .i64 n', .int .u64 b'] 24)) 0 0 0
  rw [sz] at VC
  rw [sz2] at V1
  replace VA := hide VA
  replace VC := hide VC
  replace V1 := hide V1
  clear sz sz2
  show Calls _ _ _ _ (Vi w 3 _ 0 0)
  have HF := fun w => form_any t n b w
  have HG := fun w => form_any t n' b' w
  rw [hg] at HF
  rw [hh] at HG
  clear hg hh
  go_enter Try.func13, Try.ntmps13
  obtain ⟨a0, a1, a2⟩ := VA.out.all.2
  go_wp2_with fail
  refine (HF _).mono ?_
  rintro e w1 ⟨rfl, hb⟩
  replace VA := hide (VA.out.al hb)
  replace VC := hide (VC.out.al hb)
  replace V1 := hide (V1.out.al hb)
  have B1 := hide (bel_trans W1.out hb)
  clear a0 a1 a2 hb HF
  obtain ⟨a0, a1, a2⟩ := VA.out.all.2
  obtain ⟨c0, c1, c2⟩ := VC.out.all.2
  go_wp2_with fail
  refine (HG _).mono ?_
  rintro e w2 ⟨rfl, hb⟩
  replace VA := hide (VA.out.al hb)
  replace VC := hide (VC.out.al hb)
  replace V1 := hide (V1.out.al hb)
  replace B1 := hide (bel_trans B1.out hb)
  clear hb a0 a1 a2 c0 c1 c2 HG
  obtain ⟨a0, a1, a2⟩ := VA.out.all.2
  obtain ⟨c0, c1, c2⟩ := VC.out.all.2
  go_wp2_with fail
  refine (HO _).mono ?_
  rintro e w3 ⟨rfl, hb⟩
  replace VA := hide (VA.out.al hb)
  replace VC := hide (VC.out.al hb)
  replace V1 := hide (V1.out.al hb)
  replace B1 := hide (bel_trans B1.out hb)
  clear hb a0 a1 a2 c0 c1 c2 HO
  obtain ⟨a0, a1, a2⟩ := VA.out.all.2
  obtain ⟨c0, c1, c2⟩ := VC.out.all.2
  go_wp2_with fail
  refine (truth_any _ _).mono ?_
  rintro e w4 ⟨rfl, hb⟩
  replace V1 := hide (V1.out.al hb)
  replace B1 := hide (bel_trans B1.out hb)
  clear hb a0 a1 a2 c0 c1 c2
  obtain ⟨⟨f0, f1, f2⟩, e0, e1, e2⟩ := V1.out.all
  go_wp2_with fail
  exact ret_vi (w.heap.size + 2) rfl rfl rfl (V1.out.set _ _ _) rfl (Vi.mk ⟨rfl, rfl, rfl, rfl⟩ (bel_set B1.out (by omega) _ _ _))
set_option maxRecDepth 20000 in
set_option maxHeartbeats 2000000 in
theorem rbin_gt (op : ByteArray) (t n b n' b' O : Int) (hg : goodB t n b = true) (hh : goodB t n' b' = true) (HO : ∀ w, Calls Try.prog 36 #[.agg #[.int .i64 t, .int .i64 n, .int .u64 b], .agg #[.int .i64 t, .int .i64 n', .int .u64 b']] w (Vb w (.int .i64 O))) (h : op.toList = [62]) (ht : t ≠ 3) (w : World) : Calls Try.prog 13 #[.string op, .agg #[.int .i64 t, .int .i64 n, .int .u64 b], .agg #[.int .i64 t, .int .i64 n', .int .u64 b']] w (Vi4 w (3, (O == 1).toInt, 0, 0)) := by
  have cf := callFrom
  have W1 : Hid (Below w.heap.size w (((w.alloc (.cells #[.int .i64 t, .int .i64 n, .int .u64 b] 24)).alloc (.cells #[.int .i64 t, .int .i64 n', .int .u64 b'] 24)).alloc (.cells #[.int .i64 0, .int .i64 0, .int .u64 0] 24))) := hide (bel_al (bel_al (bel_new w _) _) _)
  have sz : (w.alloc (.cells #[.int .i64 t, .int .i64 n, .int .u64 b] 24)).heap.size = w.heap.size + 1 := by simp
  have sz2 : ((w.alloc (.cells #[.int .i64 t, .int .i64 n, .int .u64 b] 24)).alloc (.cells #[.int .i64 t, .int .i64 n', .int .u64 b'] 24)).heap.size = w.heap.size + 2 := by simp
  have VA := ((Val.new w t n b).al (bel_new _ (.cells #[.int .i64 t, .int .i64 n', .int .u64 b'] 24))).al (bel_new _ (.cells #[.int .i64 0, .int .i64 0, .int .u64 0] 24))
  have VC := (Val.new (w.alloc (.cells #[.int .i64 t, .int .i64 n, .int .u64 b] 24)) t n' b').al (bel_new _ (.cells #[.int .i64 0, .int .i64 0, .int .u64 0] 24))
  have V1 := Val.new ((w.alloc (.cells #[.int .i64 t, .int .i64 n, .int .u64 b] 24)).alloc (.cells #[.int .i64 t, .int .i64 n', .int .u64 b'] 24)) 0 0 0
  rw [sz] at VC
  rw [sz2] at V1
  replace VA := hide VA
  replace VC := hide VC
  replace V1 := hide V1
  clear sz sz2
  show Calls _ _ _ _ (Vi w 3 _ 0 0)
  have HF := fun w => form_any t n b w
  have HG := fun w => form_any t n' b' w
  rw [hg] at HF
  rw [hh] at HG
  clear hg hh
  go_enter Try.func13, Try.ntmps13
  obtain ⟨a0, a1, a2⟩ := VA.out.all.2
  go_wp2_with fail
  refine (HF _).mono ?_
  rintro e w1 ⟨rfl, hb⟩
  replace VA := hide (VA.out.al hb)
  replace VC := hide (VC.out.al hb)
  replace V1 := hide (V1.out.al hb)
  have B1 := hide (bel_trans W1.out hb)
  clear a0 a1 a2 hb HF
  obtain ⟨a0, a1, a2⟩ := VA.out.all.2
  obtain ⟨c0, c1, c2⟩ := VC.out.all.2
  go_wp2_with fail
  refine (HG _).mono ?_
  rintro e w2 ⟨rfl, hb⟩
  replace VA := hide (VA.out.al hb)
  replace VC := hide (VC.out.al hb)
  replace V1 := hide (V1.out.al hb)
  replace B1 := hide (bel_trans B1.out hb)
  clear hb a0 a1 a2 c0 c1 c2 HG
  obtain ⟨a0, a1, a2⟩ := VA.out.all.2
  obtain ⟨c0, c1, c2⟩ := VC.out.all.2
  go_wp2_with fail
  refine (HO _).mono ?_
  rintro e w3 ⟨rfl, hb⟩
  replace VA := hide (VA.out.al hb)
  replace VC := hide (VC.out.al hb)
  replace V1 := hide (V1.out.al hb)
  replace B1 := hide (bel_trans B1.out hb)
  clear hb a0 a1 a2 c0 c1 c2 HO
  obtain ⟨a0, a1, a2⟩ := VA.out.all.2
  obtain ⟨c0, c1, c2⟩ := VC.out.all.2
  go_wp2_with fail
  refine (truth_any _ _).mono ?_
  rintro e w4 ⟨rfl, hb⟩
  replace V1 := hide (V1.out.al hb)
  replace B1 := hide (bel_trans B1.out hb)
  clear hb a0 a1 a2 c0 c1 c2
  obtain ⟨⟨f0, f1, f2⟩, e0, e1, e2⟩ := V1.out.all
  go_wp2_with fail
  exact ret_vi (w.heap.size + 2) rfl rfl rfl (V1.out.set _ _ _) rfl (Vi.mk ⟨rfl, rfl, rfl, rfl⟩ (bel_set B1.out (by omega) _ _ _))
set_option maxRecDepth 20000 in
set_option maxHeartbeats 2000000 in
theorem rbin_le1 (op : ByteArray) (t n b n' b' : Int) (hg : goodB t n b = true) (hh : goodB t n' b' = true) (HO : ∀ w, Calls Try.prog 36 #[.agg #[.int .i64 t, .int .i64 n, .int .u64 b], .agg #[.int .i64 t, .int .i64 n', .int .u64 b']] w (Vb w (.int .i64 (-1)))) (h : op.toList = [60, 61]) (ht : t ≠ 3) (w : World) : Calls Try.prog 13 #[.string op, .agg #[.int .i64 t, .int .i64 n, .int .u64 b], .agg #[.int .i64 t, .int .i64 n', .int .u64 b']] w (Vi4 w (3, 1, 0, 0)) := by
  have cf := callFrom
  have W1 : Hid (Below w.heap.size w (((w.alloc (.cells #[.int .i64 t, .int .i64 n, .int .u64 b] 24)).alloc (.cells #[.int .i64 t, .int .i64 n', .int .u64 b'] 24)).alloc (.cells #[.int .i64 0, .int .i64 0, .int .u64 0] 24))) := hide (bel_al (bel_al (bel_new w _) _) _)
  have sz : (w.alloc (.cells #[.int .i64 t, .int .i64 n, .int .u64 b] 24)).heap.size = w.heap.size + 1 := by simp
  have sz2 : ((w.alloc (.cells #[.int .i64 t, .int .i64 n, .int .u64 b] 24)).alloc (.cells #[.int .i64 t, .int .i64 n', .int .u64 b'] 24)).heap.size = w.heap.size + 2 := by simp
  have VA := ((Val.new w t n b).al (bel_new _ (.cells #[.int .i64 t, .int .i64 n', .int .u64 b'] 24))).al (bel_new _ (.cells #[.int .i64 0, .int .i64 0, .int .u64 0] 24))
  have VC := (Val.new (w.alloc (.cells #[.int .i64 t, .int .i64 n, .int .u64 b] 24)) t n' b').al (bel_new _ (.cells #[.int .i64 0, .int .i64 0, .int .u64 0] 24))
  have V1 := Val.new ((w.alloc (.cells #[.int .i64 t, .int .i64 n, .int .u64 b] 24)).alloc (.cells #[.int .i64 t, .int .i64 n', .int .u64 b'] 24)) 0 0 0
  rw [sz] at VC
  rw [sz2] at V1
  replace VA := hide VA
  replace VC := hide VC
  replace V1 := hide V1
  clear sz sz2
  show Calls _ _ _ _ (Vi w 3 _ 0 0)
  have HF := fun w => form_any t n b w
  have HG := fun w => form_any t n' b' w
  rw [hg] at HF
  rw [hh] at HG
  clear hg hh
  go_enter Try.func13, Try.ntmps13
  obtain ⟨a0, a1, a2⟩ := VA.out.all.2
  go_wp2_with fail
  refine (HF _).mono ?_
  rintro e w1 ⟨rfl, hb⟩
  replace VA := hide (VA.out.al hb)
  replace VC := hide (VC.out.al hb)
  replace V1 := hide (V1.out.al hb)
  have B1 := hide (bel_trans W1.out hb)
  clear a0 a1 a2 hb HF
  obtain ⟨a0, a1, a2⟩ := VA.out.all.2
  obtain ⟨c0, c1, c2⟩ := VC.out.all.2
  go_wp2_with fail
  refine (HG _).mono ?_
  rintro e w2 ⟨rfl, hb⟩
  replace VA := hide (VA.out.al hb)
  replace VC := hide (VC.out.al hb)
  replace V1 := hide (V1.out.al hb)
  replace B1 := hide (bel_trans B1.out hb)
  clear hb a0 a1 a2 c0 c1 c2 HG
  obtain ⟨a0, a1, a2⟩ := VA.out.all.2
  obtain ⟨c0, c1, c2⟩ := VC.out.all.2
  go_wp2_with fail
  refine (HO _).mono ?_
  rintro e w3 ⟨rfl, hb⟩
  replace VA := hide (VA.out.al hb)
  replace VC := hide (VC.out.al hb)
  replace V1 := hide (V1.out.al hb)
  replace B1 := hide (bel_trans B1.out hb)
  clear hb a0 a1 a2 c0 c1 c2 HO
  obtain ⟨a0, a1, a2⟩ := VA.out.all.2
  obtain ⟨c0, c1, c2⟩ := VC.out.all.2
  go_wp2_with fail
  refine (truth_any _ _).mono ?_
  rintro e w4 ⟨rfl, hb⟩
  replace V1 := hide (V1.out.al hb)
  replace B1 := hide (bel_trans B1.out hb)
  clear hb a0 a1 a2 c0 c1 c2
  obtain ⟨⟨f0, f1, f2⟩, e0, e1, e2⟩ := V1.out.all
  go_wp2_with fail
  exact ret_vi (w.heap.size + 2) rfl rfl rfl (V1.out.set _ _ _) rfl (Vi.mk ⟨rfl, rfl, rfl, rfl⟩ (bel_set B1.out (by omega) _ _ _))
set_option maxRecDepth 20000 in
set_option maxHeartbeats 2000000 in
theorem rbin_le2 (op : ByteArray) (t n b n' b' O : Int) (hg : goodB t n b = true) (hh : goodB t n' b' = true) (HO : ∀ w, Calls Try.prog 36 #[.agg #[.int .i64 t, .int .i64 n, .int .u64 b], .agg #[.int .i64 t, .int .i64 n', .int .u64 b']] w (Vb w (.int .i64 O))) (h : op.toList = [60, 61]) (ht : t ≠ 3) (hO : O ≠ -1) (w : World) : Calls Try.prog 13 #[.string op, .agg #[.int .i64 t, .int .i64 n, .int .u64 b], .agg #[.int .i64 t, .int .i64 n', .int .u64 b']] w (Vi4 w (3, (O == 0).toInt, 0, 0)) := by
  have cf := callFrom
  have W1 : Hid (Below w.heap.size w (((w.alloc (.cells #[.int .i64 t, .int .i64 n, .int .u64 b] 24)).alloc (.cells #[.int .i64 t, .int .i64 n', .int .u64 b'] 24)).alloc (.cells #[.int .i64 0, .int .i64 0, .int .u64 0] 24))) := hide (bel_al (bel_al (bel_new w _) _) _)
  have sz : (w.alloc (.cells #[.int .i64 t, .int .i64 n, .int .u64 b] 24)).heap.size = w.heap.size + 1 := by simp
  have sz2 : ((w.alloc (.cells #[.int .i64 t, .int .i64 n, .int .u64 b] 24)).alloc (.cells #[.int .i64 t, .int .i64 n', .int .u64 b'] 24)).heap.size = w.heap.size + 2 := by simp
  have VA := ((Val.new w t n b).al (bel_new _ (.cells #[.int .i64 t, .int .i64 n', .int .u64 b'] 24))).al (bel_new _ (.cells #[.int .i64 0, .int .i64 0, .int .u64 0] 24))
  have VC := (Val.new (w.alloc (.cells #[.int .i64 t, .int .i64 n, .int .u64 b] 24)) t n' b').al (bel_new _ (.cells #[.int .i64 0, .int .i64 0, .int .u64 0] 24))
  have V1 := Val.new ((w.alloc (.cells #[.int .i64 t, .int .i64 n, .int .u64 b] 24)).alloc (.cells #[.int .i64 t, .int .i64 n', .int .u64 b'] 24)) 0 0 0
  rw [sz] at VC
  rw [sz2] at V1
  replace VA := hide VA
  replace VC := hide VC
  replace V1 := hide V1
  clear sz sz2
  show Calls _ _ _ _ (Vi w 3 _ 0 0)
  have HF := fun w => form_any t n b w
  have HG := fun w => form_any t n' b' w
  rw [hg] at HF
  rw [hh] at HG
  clear hg hh
  have hO' : (O == -1) = false := by simpa using hO
  go_enter Try.func13, Try.ntmps13
  obtain ⟨a0, a1, a2⟩ := VA.out.all.2
  go_wp2_with fail
  refine (HF _).mono ?_
  rintro e w1 ⟨rfl, hb⟩
  replace VA := hide (VA.out.al hb)
  replace VC := hide (VC.out.al hb)
  replace V1 := hide (V1.out.al hb)
  have B1 := hide (bel_trans W1.out hb)
  clear a0 a1 a2 hb HF
  obtain ⟨a0, a1, a2⟩ := VA.out.all.2
  obtain ⟨c0, c1, c2⟩ := VC.out.all.2
  go_wp2_with fail
  refine (HG _).mono ?_
  rintro e w2 ⟨rfl, hb⟩
  replace VA := hide (VA.out.al hb)
  replace VC := hide (VC.out.al hb)
  replace V1 := hide (V1.out.al hb)
  replace B1 := hide (bel_trans B1.out hb)
  clear hb a0 a1 a2 c0 c1 c2 HG
  obtain ⟨a0, a1, a2⟩ := VA.out.all.2
  obtain ⟨c0, c1, c2⟩ := VC.out.all.2
  go_wp2_with fail
  refine (HO _).mono ?_
  rintro e w3 ⟨rfl, hb⟩
  replace VA := hide (VA.out.al hb)
  replace VC := hide (VC.out.al hb)
  replace V1 := hide (V1.out.al hb)
  replace B1 := hide (bel_trans B1.out hb)
  clear hb a0 a1 a2 c0 c1 c2 HO
  obtain ⟨a0, a1, a2⟩ := VA.out.all.2
  obtain ⟨c0, c1, c2⟩ := VC.out.all.2
  go_wp2_with fail
  refine (truth_any _ _).mono ?_
  rintro e w4 ⟨rfl, hb⟩
  replace V1 := hide (V1.out.al hb)
  replace B1 := hide (bel_trans B1.out hb)
  clear hb a0 a1 a2 c0 c1 c2
  obtain ⟨⟨f0, f1, f2⟩, e0, e1, e2⟩ := V1.out.all
  go_wp2_with fail
  exact ret_vi (w.heap.size + 2) rfl rfl rfl (V1.out.set _ _ _) rfl (Vi.mk ⟨rfl, rfl, rfl, rfl⟩ (bel_set B1.out (by omega) _ _ _))
set_option maxRecDepth 20000 in
set_option maxHeartbeats 2000000 in
theorem rbin_ge1 (op : ByteArray) (t n b n' b' : Int) (hg : goodB t n b = true) (hh : goodB t n' b' = true) (HO : ∀ w, Calls Try.prog 36 #[.agg #[.int .i64 t, .int .i64 n, .int .u64 b], .agg #[.int .i64 t, .int .i64 n', .int .u64 b']] w (Vb w (.int .i64 (1)))) (h : op.toList = [62, 61]) (ht : t ≠ 3) (w : World) : Calls Try.prog 13 #[.string op, .agg #[.int .i64 t, .int .i64 n, .int .u64 b], .agg #[.int .i64 t, .int .i64 n', .int .u64 b']] w (Vi4 w (3, 1, 0, 0)) := by
  have cf := callFrom
  have W1 : Hid (Below w.heap.size w (((w.alloc (.cells #[.int .i64 t, .int .i64 n, .int .u64 b] 24)).alloc (.cells #[.int .i64 t, .int .i64 n', .int .u64 b'] 24)).alloc (.cells #[.int .i64 0, .int .i64 0, .int .u64 0] 24))) := hide (bel_al (bel_al (bel_new w _) _) _)
  have sz : (w.alloc (.cells #[.int .i64 t, .int .i64 n, .int .u64 b] 24)).heap.size = w.heap.size + 1 := by simp
  have sz2 : ((w.alloc (.cells #[.int .i64 t, .int .i64 n, .int .u64 b] 24)).alloc (.cells #[.int .i64 t, .int .i64 n', .int .u64 b'] 24)).heap.size = w.heap.size + 2 := by simp
  have VA := ((Val.new w t n b).al (bel_new _ (.cells #[.int .i64 t, .int .i64 n', .int .u64 b'] 24))).al (bel_new _ (.cells #[.int .i64 0, .int .i64 0, .int .u64 0] 24))
  have VC := (Val.new (w.alloc (.cells #[.int .i64 t, .int .i64 n, .int .u64 b] 24)) t n' b').al (bel_new _ (.cells #[.int .i64 0, .int .i64 0, .int .u64 0] 24))
  have V1 := Val.new ((w.alloc (.cells #[.int .i64 t, .int .i64 n, .int .u64 b] 24)).alloc (.cells #[.int .i64 t, .int .i64 n', .int .u64 b'] 24)) 0 0 0
  rw [sz] at VC
  rw [sz2] at V1
  replace VA := hide VA
  replace VC := hide VC
  replace V1 := hide V1
  clear sz sz2
  show Calls _ _ _ _ (Vi w 3 _ 0 0)
  have HF := fun w => form_any t n b w
  have HG := fun w => form_any t n' b' w
  rw [hg] at HF
  rw [hh] at HG
  clear hg hh
  go_enter Try.func13, Try.ntmps13
  obtain ⟨a0, a1, a2⟩ := VA.out.all.2
  go_wp2_with fail
  refine (HF _).mono ?_
  rintro e w1 ⟨rfl, hb⟩
  replace VA := hide (VA.out.al hb)
  replace VC := hide (VC.out.al hb)
  replace V1 := hide (V1.out.al hb)
  have B1 := hide (bel_trans W1.out hb)
  clear a0 a1 a2 hb HF
  obtain ⟨a0, a1, a2⟩ := VA.out.all.2
  obtain ⟨c0, c1, c2⟩ := VC.out.all.2
  go_wp2_with fail
  refine (HG _).mono ?_
  rintro e w2 ⟨rfl, hb⟩
  replace VA := hide (VA.out.al hb)
  replace VC := hide (VC.out.al hb)
  replace V1 := hide (V1.out.al hb)
  replace B1 := hide (bel_trans B1.out hb)
  clear hb a0 a1 a2 c0 c1 c2 HG
  obtain ⟨a0, a1, a2⟩ := VA.out.all.2
  obtain ⟨c0, c1, c2⟩ := VC.out.all.2
  go_wp2_with fail
  refine (HO _).mono ?_
  rintro e w3 ⟨rfl, hb⟩
  replace VA := hide (VA.out.al hb)
  replace VC := hide (VC.out.al hb)
  replace V1 := hide (V1.out.al hb)
  replace B1 := hide (bel_trans B1.out hb)
  clear hb a0 a1 a2 c0 c1 c2 HO
  obtain ⟨a0, a1, a2⟩ := VA.out.all.2
  obtain ⟨c0, c1, c2⟩ := VC.out.all.2
  go_wp2_with fail
  refine (truth_any _ _).mono ?_
  rintro e w4 ⟨rfl, hb⟩
  replace V1 := hide (V1.out.al hb)
  replace B1 := hide (bel_trans B1.out hb)
  clear hb a0 a1 a2 c0 c1 c2
  obtain ⟨⟨f0, f1, f2⟩, e0, e1, e2⟩ := V1.out.all
  go_wp2_with fail
  exact ret_vi (w.heap.size + 2) rfl rfl rfl (V1.out.set _ _ _) rfl (Vi.mk ⟨rfl, rfl, rfl, rfl⟩ (bel_set B1.out (by omega) _ _ _))
set_option maxRecDepth 20000 in
set_option maxHeartbeats 2000000 in
theorem rbin_ge2 (op : ByteArray) (t n b n' b' O : Int) (hg : goodB t n b = true) (hh : goodB t n' b' = true) (HO : ∀ w, Calls Try.prog 36 #[.agg #[.int .i64 t, .int .i64 n, .int .u64 b], .agg #[.int .i64 t, .int .i64 n', .int .u64 b']] w (Vb w (.int .i64 O))) (h : op.toList = [62, 61]) (ht : t ≠ 3) (hO : O ≠ 1) (w : World) : Calls Try.prog 13 #[.string op, .agg #[.int .i64 t, .int .i64 n, .int .u64 b], .agg #[.int .i64 t, .int .i64 n', .int .u64 b']] w (Vi4 w (3, (O == 0).toInt, 0, 0)) := by
  have cf := callFrom
  have W1 : Hid (Below w.heap.size w (((w.alloc (.cells #[.int .i64 t, .int .i64 n, .int .u64 b] 24)).alloc (.cells #[.int .i64 t, .int .i64 n', .int .u64 b'] 24)).alloc (.cells #[.int .i64 0, .int .i64 0, .int .u64 0] 24))) := hide (bel_al (bel_al (bel_new w _) _) _)
  have sz : (w.alloc (.cells #[.int .i64 t, .int .i64 n, .int .u64 b] 24)).heap.size = w.heap.size + 1 := by simp
  have sz2 : ((w.alloc (.cells #[.int .i64 t, .int .i64 n, .int .u64 b] 24)).alloc (.cells #[.int .i64 t, .int .i64 n', .int .u64 b'] 24)).heap.size = w.heap.size + 2 := by simp
  have VA := ((Val.new w t n b).al (bel_new _ (.cells #[.int .i64 t, .int .i64 n', .int .u64 b'] 24))).al (bel_new _ (.cells #[.int .i64 0, .int .i64 0, .int .u64 0] 24))
  have VC := (Val.new (w.alloc (.cells #[.int .i64 t, .int .i64 n, .int .u64 b] 24)) t n' b').al (bel_new _ (.cells #[.int .i64 0, .int .i64 0, .int .u64 0] 24))
  have V1 := Val.new ((w.alloc (.cells #[.int .i64 t, .int .i64 n, .int .u64 b] 24)).alloc (.cells #[.int .i64 t, .int .i64 n', .int .u64 b'] 24)) 0 0 0
  rw [sz] at VC
  rw [sz2] at V1
  replace VA := hide VA
  replace VC := hide VC
  replace V1 := hide V1
  clear sz sz2
  show Calls _ _ _ _ (Vi w 3 _ 0 0)
  have HF := fun w => form_any t n b w
  have HG := fun w => form_any t n' b' w
  rw [hg] at HF
  rw [hh] at HG
  clear hg hh
  have hO' : (O == 1) = false := by simpa using hO
  go_enter Try.func13, Try.ntmps13
  obtain ⟨a0, a1, a2⟩ := VA.out.all.2
  go_wp2_with fail
  refine (HF _).mono ?_
  rintro e w1 ⟨rfl, hb⟩
  replace VA := hide (VA.out.al hb)
  replace VC := hide (VC.out.al hb)
  replace V1 := hide (V1.out.al hb)
  have B1 := hide (bel_trans W1.out hb)
  clear a0 a1 a2 hb HF
  obtain ⟨a0, a1, a2⟩ := VA.out.all.2
  obtain ⟨c0, c1, c2⟩ := VC.out.all.2
  go_wp2_with fail
  refine (HG _).mono ?_
  rintro e w2 ⟨rfl, hb⟩
  replace VA := hide (VA.out.al hb)
  replace VC := hide (VC.out.al hb)
  replace V1 := hide (V1.out.al hb)
  replace B1 := hide (bel_trans B1.out hb)
  clear hb a0 a1 a2 c0 c1 c2 HG
  obtain ⟨a0, a1, a2⟩ := VA.out.all.2
  obtain ⟨c0, c1, c2⟩ := VC.out.all.2
  go_wp2_with fail
  refine (HO _).mono ?_
  rintro e w3 ⟨rfl, hb⟩
  replace VA := hide (VA.out.al hb)
  replace VC := hide (VC.out.al hb)
  replace V1 := hide (V1.out.al hb)
  replace B1 := hide (bel_trans B1.out hb)
  clear hb a0 a1 a2 c0 c1 c2 HO
  obtain ⟨a0, a1, a2⟩ := VA.out.all.2
  obtain ⟨c0, c1, c2⟩ := VC.out.all.2
  go_wp2_with fail
  refine (truth_any _ _).mono ?_
  rintro e w4 ⟨rfl, hb⟩
  replace V1 := hide (V1.out.al hb)
  replace B1 := hide (bel_trans B1.out hb)
  clear hb a0 a1 a2 c0 c1 c2
  obtain ⟨⟨f0, f1, f2⟩, e0, e1, e2⟩ := V1.out.all
  go_wp2_with fail
  exact ret_vi (w.heap.size + 2) rfl rfl rfl (V1.out.set _ _ _) rfl (Vi.mk ⟨rfl, rfl, rfl, rfl⟩ (bel_set B1.out (by omega) _ _ _))
end Go.Proofs.Ytmdfciiejenpnaa.Ck
