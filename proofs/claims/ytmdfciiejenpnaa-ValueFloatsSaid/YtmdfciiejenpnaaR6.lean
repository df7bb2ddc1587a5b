/- The document's Binary: floats. (Written by mk_r.py.) -/
import Derived.Test.YtmdfciiejenpnaaR3
namespace Go.Proofs.Ytmdfciiejenpnaa.Ck
open Go.RowKit

set_option maxRecDepth 20000 in
set_option maxHeartbeats 2000000 in
theorem rbin_fadd (op : ByteArray) (u v : Nat) (h : op.toList = [43]) (w : World) : Calls Try.prog 13 #[.string op, .agg #[.int .i64 2, .int .i64 0, .int .u64 (u : Nat)], .agg #[.int .i64 2, .int .i64 0, .int .u64 (v : Nat)]] w (Vi4 w (2, 0, ((outR .add u v : Nat) : Int), 0)) := by
  have cf := callFrom
  have W1 : Hid (Below w.heap.size w (((w.alloc (.cells #[.int .i64 2, .int .i64 0, .int .u64 (u : Nat)] 24)).alloc (.cells #[.int .i64 2, .int .i64 0, .int .u64 (v : Nat)] 24)).alloc (.cells #[.int .i64 0, .int .i64 0, .int .u64 0] 24))) := hide (bel_al (bel_al (bel_new w _) _) _)
  have sz : (w.alloc (.cells #[.int .i64 2, .int .i64 0, .int .u64 (u : Nat)] 24)).heap.size = w.heap.size + 1 := by simp
  have sz2 : ((w.alloc (.cells #[.int .i64 2, .int .i64 0, .int .u64 (u : Nat)] 24)).alloc (.cells #[.int .i64 2, .int .i64 0, .int .u64 (v : Nat)] 24)).heap.size = w.heap.size + 2 := by simp
  have VA := ((Val.new w 2 0 (u : Nat)).al (bel_new _ (.cells #[.int .i64 2, .int .i64 0, .int .u64 (v : Nat)] 24))).al (bel_new _ (.cells #[.int .i64 0, .int .i64 0, .int .u64 0] 24))
  have VC := (Val.new (w.alloc (.cells #[.int .i64 2, .int .i64 0, .int .u64 (u : Nat)] 24)) 2 0 (v : Nat)).al (bel_new _ (.cells #[.int .i64 0, .int .i64 0, .int .u64 0] 24))
  have V1 := Val.new ((w.alloc (.cells #[.int .i64 2, .int .i64 0, .int .u64 (u : Nat)] 24)).alloc (.cells #[.int .i64 2, .int .i64 0, .int .u64 (v : Nat)] 24)) 0 0 0
  rw [sz] at VC
  rw [sz2] at V1
  replace VA := hide VA
  replace VC := hide VC
  replace V1 := hide V1
  clear sz sz2
  show Calls _ _ _ _ (Vi w 2 0 ((outR .add u v : Nat) : Int) 0)
  obtain ⟨R_, hR⟩ : ∃ r, outR .add u v = r := ⟨_, rfl⟩
  rw [hR]
  have HR := hide hR
  clear hR
  have HF := fun w => form_any 2 0 (u : Nat) w
  have HG := fun w => form_any 2 0 (v : Nat) w
  have HO := fun w => order_float 0 0 u v w
  rw [show goodB 2 0 (u : Nat) = true by simp [goodB]] at HF
  rw [show goodB 2 0 (v : Nat) = true by simp [goodB]] at HG
  generalize ordU u v = O at *
  go_enter Try.func13, Try.ntmps13
  obtain ⟨a0, a1, a2⟩ := VA.out.all.2
  go_wp2_with fail
  refine (HF _).mono ?_
  rintro e w1 ⟨rfl, hb⟩
  replace VA := hide (VA.out.al hb)
  replace VC := hide (VC.out.al hb)
  replace V1 := hide (V1.out.al hb)
  have B1 := hide (bel_trans W1.out hb)
  clear a0 a1 a2 hb HF
  obtain ⟨a0, a1, a2⟩ := VA.out.all.2
  obtain ⟨c0, c1, c2⟩ := VC.out.all.2
  go_wp2_with fail
  refine (HG _).mono ?_
  rintro e w2 ⟨rfl, hb⟩
  replace VA := hide (VA.out.al hb)
  replace VC := hide (VC.out.al hb)
  replace V1 := hide (V1.out.al hb)
  replace B1 := hide (bel_trans B1.out hb)
  clear hb a0 a1 a2 c0 c1 c2 HG
  obtain ⟨a0, a1, a2⟩ := VA.out.all.2
  obtain ⟨c0, c1, c2⟩ := VC.out.all.2
  go_wp2_with fail
  refine (HO _).mono ?_
  rintro e w3 ⟨rfl, hb⟩
  replace VA := hide (VA.out.al hb)
  replace VC := hide (VC.out.al hb)
  replace V1 := hide (V1.out.al hb)
  replace B1 := hide (bel_trans B1.out hb)
  clear hb a0 a1 a2 c0 c1 c2 HO
  obtain ⟨a0, a1, a2⟩ := VA.out.all.2
  obtain ⟨c0, c1, c2⟩ := VC.out.all.2
  go_wp2_with fail
  go_region
  clear a0 a1 a2 c0 c1 c2
  replace VA := hide VA.out.drew
  replace VC := hide VC.out.drew
  replace V1 := hide V1.out.drew
  replace B1 := hide (bel_drawn B1.out)
  generalize w3.drew = w9 at *
  obtain ⟨r, w5, hrun, hw, ho⟩ := arith_run .add (by simp) 33 u v w9
  have ho' := hide (ho.trans HR.out)
  replace VA : Hid (Val w5 w.heap.size 2 0 (u : Nat)) := by
    rcases hw with rfl | rfl
    · exact VA.out
    · exact hide VA.out.drew
  replace VC : Hid (Val w5 (w.heap.size + 1) 2 0 (v : Nat)) := by
    rcases hw with rfl | rfl
    · exact VC.out
    · exact hide VC.out.drew
  replace V1 : Hid (Val w5 (w.heap.size + 2) 0 0 0) := by
    rcases hw with rfl | rfl
    · exact V1.out
    · exact hide V1.out.drew
  replace B1 : Hid (Below w.heap.size w w5) := by
    rcases hw with rfl | rfl
    · exact B1.out
    · exact hide (bel_drawn B1.out)
  clear hw ho
  obtain ⟨a0, a1, a2⟩ := VA.out.all.2
  obtain ⟨c0, c1, c2⟩ := VC.out.all.2
  go_wp2_with fail
  refine (rfloat_any _ _).mono ?_
  rintro e w4 ⟨rfl, hb⟩
  replace V1 := hide (V1.out.al hb)
  replace B1 := hide (bel_trans B1.out hb)
  clear hb a0 a1 a2 c0 c1 c2
  obtain ⟨⟨f0, f1, f2⟩, e0, e1, e2⟩ := V1.out.all
  go_wp2_with fail
  exact ret_vi (w.heap.size + 2) rfl rfl rfl (V1.out.set _ _ _) rfl (Vi.mk ⟨rfl, rfl, congrArg (Int.ofNat ·) ho'.out, rfl⟩ (bel_set B1.out (by omega) _ _ _))
set_option maxRecDepth 20000 in
set_option maxHeartbeats 2000000 in
theorem rbin_fsub (op : ByteArray) (u v : Nat) (h : op.toList = [45]) (w : World) : Calls Try.prog 13 #[.string op, .agg #[.int .i64 2, .int .i64 0, .int .u64 (u : Nat)], .agg #[.int .i64 2, .int .i64 0, .int .u64 (v : Nat)]] w (Vi4 w (2, 0, ((outR .sub u v : Nat) : Int), 0)) := by
  have cf := callFrom
  have W1 : Hid (Below w.heap.size w (((w.alloc (.cells #[.int .i64 2, .int .i64 0, .int .u64 (u : Nat)] 24)).alloc (.cells #[.int .i64 2, .int .i64 0, .int .u64 (v : Nat)] 24)).alloc (.cells #[.int .i64 0, .int .i64 0, .int .u64 0] 24))) := hide (bel_al (bel_al (bel_new w _) _) _)
  have sz : (w.alloc (.cells #[.int .i64 2, .int .i64 0, .int .u64 (u : Nat)] 24)).heap.size = w.heap.size + 1 := by simp
  have sz2 : ((w.alloc (.cells #[.int .i64 2, .int .i64 0, .int .u64 (u : Nat)] 24)).alloc (.cells #[.int .i64 2, .int .i64 0, .int .u64 (v : Nat)] 24)).heap.size = w.heap.size + 2 := by simp
  have VA := ((Val.new w 2 0 (u : Nat)).al (bel_new _ (.cells #[.int .i64 2, .int .i64 0, .int .u64 (v : Nat)] 24))).al (bel_new _ (.cells #[.int .i64 0, .int .i64 0, .int .u64 0] 24))
  have VC := (Val.new (w.alloc (.cells #[.int .i64 2, .int .i64 0, .int .u64 (u : Nat)] 24)) 2 0 (v : Nat)).al (bel_new _ (.cells #[.int .i64 0, .int .i64 0, .int .u64 0] 24))
  have V1 := Val.new ((w.alloc (.cells #[.int .i64 2, .int .i64 0, .int .u64 (u : Nat)] 24)).alloc (.cells #[.int .i64 2, .int .i64 0, .int .u64 (v : Nat)] 24)) 0 0 0
  rw [sz] at VC
  rw [sz2] at V1
  replace VA := hide VA
  replace VC := hide VC
  replace V1 := hide V1
  clear sz sz2
  show Calls _ _ _ _ (Vi w 2 0 ((outR .sub u v : Nat) : Int) 0)
  obtain ⟨R_, hR⟩ : ∃ r, outR .sub u v = r := ⟨_, rfl⟩
  rw [hR]
  have HR := hide hR
  clear hR
  have HF := fun w => form_any 2 0 (u : Nat) w
  have HG := fun w => form_any 2 0 (v : Nat) w
  have HO := fun w => order_float 0 0 u v w
  rw [show goodB 2 0 (u : Nat) = true by simp [goodB]] at HF
  rw [show goodB 2 0 (v : Nat) = true by simp [goodB]] at HG
  generalize ordU u v = O at *
  go_enter Try.func13, Try.ntmps13
  obtain ⟨a0, a1, a2⟩ := VA.out.all.2
  go_wp2_with fail
  refine (HF _).mono ?_
  rintro e w1 ⟨rfl, hb⟩
  replace VA := hide (VA.out.al hb)
  replace VC := hide (VC.out.al hb)
  replace V1 := hide (V1.out.al hb)
  have B1 := hide (bel_trans W1.out hb)
  clear a0 a1 a2 hb HF
  obtain ⟨a0, a1, a2⟩ := VA.out.all.2
  obtain ⟨c0, c1, c2⟩ := VC.out.all.2
  go_wp2_with fail
  refine (HG _).mono ?_
  rintro e w2 ⟨rfl, hb⟩
  replace VA := hide (VA.out.al hb)
  replace VC := hide (VC.out.al hb)
  replace V1 := hide (V1.out.al hb)
  replace B1 := hide (bel_trans B1.out hb)
  clear hb a0 a1 a2 c0 c1 c2 HG
  obtain ⟨a0, a1, a2⟩ := VA.out.all.2
  obtain ⟨c0, c1, c2⟩ := VC.out.all.2
  go_wp2_with fail
  refine (HO _).mono ?_
  rintro e w3 ⟨rfl, hb⟩
  replace VA := hide (VA.out.al hb)
  replace VC := hide (VC.out.al hb)
  replace V1 := hide (V1.out.al hb)
  replace B1 := hide (bel_trans B1.out hb)
  clear hb a0 a1 a2 c0 c1 c2 HO
  obtain ⟨a0, a1, a2⟩ := VA.out.all.2
  obtain ⟨c0, c1, c2⟩ := VC.out.all.2
  go_wp2_with fail
  go_region
  clear a0 a1 a2 c0 c1 c2
  replace VA := hide VA.out.drew
  replace VC := hide VC.out.drew
  replace V1 := hide V1.out.drew
  replace B1 := hide (bel_drawn B1.out)
  generalize w3.drew = w9 at *
  obtain ⟨r, w5, hrun, hw, ho⟩ := arith_run .sub (by simp) 33 u v w9
  have ho' := hide (ho.trans HR.out)
  replace VA : Hid (Val w5 w.heap.size 2 0 (u : Nat)) := by
    rcases hw with rfl | rfl
    · exact VA.out
    · exact hide VA.out.drew
  replace VC : Hid (Val w5 (w.heap.size + 1) 2 0 (v : Nat)) := by
    rcases hw with rfl | rfl
    · exact VC.out
    · exact hide VC.out.drew
  replace V1 : Hid (Val w5 (w.heap.size + 2) 0 0 0) := by
    rcases hw with rfl | rfl
    · exact V1.out
    · exact hide V1.out.drew
  replace B1 : Hid (Below w.heap.size w w5) := by
    rcases hw with rfl | rfl
    · exact B1.out
    · exact hide (bel_drawn B1.out)
  clear hw ho
  obtain ⟨a0, a1, a2⟩ := VA.out.all.2
  obtain ⟨c0, c1, c2⟩ := VC.out.all.2
  go_wp2_with fail
  refine (rfloat_any _ _).mono ?_
  rintro e w4 ⟨rfl, hb⟩
  replace V1 := hide (V1.out.al hb)
  replace B1 := hide (bel_trans B1.out hb)
  clear hb a0 a1 a2 c0 c1 c2
  obtain ⟨⟨f0, f1, f2⟩, e0, e1, e2⟩ := V1.out.all
  go_wp2_with fail
  exact ret_vi (w.heap.size + 2) rfl rfl rfl (V1.out.set _ _ _) rfl (Vi.mk ⟨rfl, rfl, congrArg (Int.ofNat ·) ho'.out, rfl⟩ (bel_set B1.out (by omega) _ _ _))
set_option maxRecDepth 20000 in
set_option maxHeartbeats 2000000 in
theorem rbin_fmul (op : ByteArray) (u v : Nat) (h : op.toList = [42]) (w : World) : Calls Try.prog 13 #[.string op, .agg #[.int .i64 2, .int .i64 0, .int .u64 (u : Nat)], .agg #[.int .i64 2, .int .i64 0, .int .u64 (v : Nat)]] w (Vi4 w (2, 0, ((outR .mul u v : Nat) : Int), 0)) := by
  have cf := callFrom
  have W1 : Hid (Below w.heap.size w (((w.alloc (.cells #[.int .i64 2, .int .i64 0, .int .u64 (u : Nat)] 24)).alloc (.cells #[.int .i64 2, .int .i64 0, .int .u64 (v : Nat)] 24)).alloc (.cells #[.int .i64 0, .int .i64 0, .int .u64 0] 24))) := hide (bel_al (bel_al (bel_new w _) _) _)
  have sz : (w.alloc (.cells #[.int .i64 2, .int .i64 0, .int .u64 (u : Nat)] 24)).heap.size = w.heap.size + 1 := by simp
  have sz2 : ((w.alloc (.cells #[.int .i64 2, .int .i64 0, .int .u64 (u : Nat)] 24)).alloc (.cells #[.int .i64 2, .int .i64 0, .int .u64 (v : Nat)] 24)).heap.size = w.heap.size + 2 := by simp
  have VA := ((Val.new w 2 0 (u : Nat)).al (bel_new _ (.cells #[.int .i64 2, .int .i64 0, .int .u64 (v : Nat)] 24))).al (bel_new _ (.cells #[.int .i64 0, .int .i64 0, .int .u64 0] 24))
  have VC := (Val.new (w.alloc (.cells #[.int .i64 2, .int .i64 0, .int .u64 (u : Nat)] 24)) 2 0 (v : Nat)).al (bel_new _ (.cells #[.int .i64 0, .int .i64 0, .int .u64 0] 24))
  have V1 := Val.new ((w.alloc (.cells #[.int .i64 2, .int .i64 0, .int .u64 (u : Nat)] 24)).alloc (.cells #[.int .i64 2, .int .i64 0, .int .u64 (v : Nat)] 24)) 0 0 0
  rw [sz] at VC
  rw [sz2] at V1
  replace VA := hide VA
  replace VC := hide VC
  replace V1 := hide V1
  clear sz sz2
  show Calls _ _ _ _ (Vi w 2 0 ((outR .mul u v : Nat) : Int) 0)
  obtain ⟨R_, hR⟩ : ∃ r, outR .mul u v = r := ⟨_, rfl⟩
  rw [hR]
  have HR := hide hR
  clear hR
  have HF := fun w => form_any 2 0 (u : Nat) w
  have HG := fun w => form_any 2 0 (v : Nat) w
  have HO := fun w => order_float 0 0 u v w
  rw [show goodB 2 0 (u : Nat) = true by simp [goodB]] at HF
  rw [show goodB 2 0 (v : Nat) = true by simp [goodB]] at HG
  generalize ordU u v = O at *
  go_enter Try.func13, Try.ntmps13
  obtain ⟨a0, a1, a2⟩ := VA.out.all.2
  go_wp2_with fail
  refine (HF _).mono ?_
  rintro e w1 ⟨rfl, hb⟩
  replace VA := hide (VA.out.al hb)
  replace VC := hide (VC.out.al hb)
  replace V1 := hide (V1.out.al hb)
  have B1 := hide (bel_trans W1.out hb)
  clear a0 a1 a2 hb HF
  obtain ⟨a0, a1, a2⟩ := VA.out.all.2
  obtain ⟨c0, c1, c2⟩ := VC.out.all.2
  go_wp2_with fail
  refine (HG _).mono ?_
  rintro e w2 ⟨rfl, hb⟩
  replace VA := hide (VA.out.al hb)
  replace VC := hide (VC.out.al hb)
  replace V1 := hide (V1.out.al hb)
  replace B1 := hide (bel_trans B1.out hb)
  clear hb a0 a1 a2 c0 c1 c2 HG
  obtain ⟨a0, a1, a2⟩ := VA.out.all.2
  obtain ⟨c0, c1, c2⟩ := VC.out.all.2
  go_wp2_with fail
  refine (HO _).mono ?_
  rintro e w3 ⟨rfl, hb⟩
  replace VA := hide (VA.out.al hb)
  replace VC := hide (VC.out.al hb)
  replace V1 := hide (V1.out.al hb)
  replace B1 := hide (bel_trans B1.out hb)
  clear hb a0 a1 a2 c0 c1 c2 HO
  obtain ⟨a0, a1, a2⟩ := VA.out.all.2
  obtain ⟨c0, c1, c2⟩ := VC.out.all.2
  go_wp2_with fail
  go_region
  clear a0 a1 a2 c0 c1 c2
  replace VA := hide VA.out.drew
  replace VC := hide VC.out.drew
  replace V1 := hide V1.out.drew
  replace B1 := hide (bel_drawn B1.out)
  generalize w3.drew = w9 at *
  obtain ⟨r, w5, hrun, hw, ho⟩ := arith_run .mul (by simp) 33 u v w9
  have ho' := hide (ho.trans HR.out)
  replace VA : Hid (Val w5 w.heap.size 2 0 (u : Nat)) := by
    rcases hw with rfl | rfl
    · exact VA.out
    · exact hide VA.out.drew
  replace VC : Hid (Val w5 (w.heap.size + 1) 2 0 (v : Nat)) := by
    rcases hw with rfl | rfl
    · exact VC.out
    · exact hide VC.out.drew
  replace V1 : Hid (Val w5 (w.heap.size + 2) 0 0 0) := by
    rcases hw with rfl | rfl
    · exact V1.out
    · exact hide V1.out.drew
  replace B1 : Hid (Below w.heap.size w w5) := by
    rcases hw with rfl | rfl
    · exact B1.out
    · exact hide (bel_drawn B1.out)
  clear hw ho
  obtain ⟨a0, a1, a2⟩ := VA.out.all.2
  obtain ⟨c0, c1, c2⟩ := VC.out.all.2
  go_wp2_with fail
  refine (rfloat_any _ _).mono ?_
  rintro e w4 ⟨rfl, hb⟩
  replace V1 := hide (V1.out.al hb)
  replace B1 := hide (bel_trans B1.out hb)
  clear hb a0 a1 a2 c0 c1 c2
  obtain ⟨⟨f0, f1, f2⟩, e0, e1, e2⟩ := V1.out.all
  go_wp2_with fail
  exact ret_vi (w.heap.size + 2) rfl rfl rfl (V1.out.set _ _ _) rfl (Vi.mk ⟨rfl, rfl, congrArg (Int.ofNat ·) ho'.out, rfl⟩ (bel_set B1.out (by omega) _ _ _))
set_option maxRecDepth 20000 in
set_option maxHeartbeats 2000000 in
theorem rbin_fquo (op : ByteArray) (u v : Nat) (h : op.toList = [47]) (w : World) : Calls Try.prog 13 #[.string op, .agg #[.int .i64 2, .int .i64 0, .int .u64 (u : Nat)], .agg #[.int .i64 2, .int .i64 0, .int .u64 (v : Nat)]] w (Vi4 w (2, 0, ((outR .quo u v : Nat) : Int), 0)) := by
  have cf := callFrom
  have W1 : Hid (Below w.heap.size w (((w.alloc (.cells #[.int .i64 2, .int .i64 0, .int .u64 (u : Nat)] 24)).alloc (.cells #[.int .i64 2, .int .i64 0, .int .u64 (v : Nat)] 24)).alloc (.cells #[.int .i64 0, .int .i64 0, .int .u64 0] 24))) := hide (bel_al (bel_al (bel_new w _) _) _)
  have sz : (w.alloc (.cells #[.int .i64 2, .int .i64 0, .int .u64 (u : Nat)] 24)).heap.size = w.heap.size + 1 := by simp
  have sz2 : ((w.alloc (.cells #[.int .i64 2, .int .i64 0, .int .u64 (u : Nat)] 24)).alloc (.cells #[.int .i64 2, .int .i64 0, .int .u64 (v : Nat)] 24)).heap.size = w.heap.size + 2 := by simp
  have VA := ((Val.new w 2 0 (u : Nat)).al (bel_new _ (.cells #[.int .i64 2, .int .i64 0, .int .u64 (v : Nat)] 24))).al (bel_new _ (.cells #[.int .i64 0, .int .i64 0, .int .u64 0] 24))
  have VC := (Val.new (w.alloc (.cells #[.int .i64 2, .int .i64 0, .int .u64 (u : Nat)] 24)) 2 0 (v : Nat)).al (bel_new _ (.cells #[.int .i64 0, .int .i64 0, .int .u64 0] 24))
  have V1 := Val.new ((w.alloc (.cells #[.int .i64 2, .int .i64 0, .int .u64 (u : Nat)] 24)).alloc (.cells #[.int .i64 2, .int .i64 0, .int .u64 (v : Nat)] 24)) 0 0 0
  rw [sz] at VC
  rw [sz2] at V1
  replace VA := hide VA
  replace VC := hide VC
  replace V1 := hide V1
  clear sz sz2
  show Calls _ _ _ _ (Vi w 2 0 ((outR .quo u v : Nat) : Int) 0)
  obtain ⟨R_, hR⟩ : ∃ r, outR .quo u v = r := ⟨_, rfl⟩
  rw [hR]
  have HR := hide hR
  clear hR
  have HF := fun w => form_any 2 0 (u : Nat) w
  have HG := fun w => form_any 2 0 (v : Nat) w
  have HO := fun w => order_float 0 0 u v w
  rw [show goodB 2 0 (u : Nat) = true by simp [goodB]] at HF
  rw [show goodB 2 0 (v : Nat) = true by simp [goodB]] at HG
  generalize ordU u v = O at *
  go_enter Try.func13, Try.ntmps13
  obtain ⟨a0, a1, a2⟩ := VA.out.all.2
  go_wp2_with fail
  refine (HF _).mono ?_
  rintro e w1 ⟨rfl, hb⟩
  replace VA := hide (VA.out.al hb)
  replace VC := hide (VC.out.al hb)
  replace V1 := hide (V1.out.al hb)
  have B1 := hide (bel_trans W1.out hb)
  clear a0 a1 a2 hb HF
  obtain ⟨a0, a1, a2⟩ := VA.out.all.2
  obtain ⟨c0, c1, c2⟩ := VC.out.all.2
  go_wp2_with fail
  refine (HG _).mono ?_
  rintro e w2 ⟨rfl, hb⟩
  replace VA := hide (VA.out.al hb)
  replace VC := hide (VC.out.al hb)
  replace V1 := hide (V1.out.al hb)
  replace B1 := hide (bel_trans B1.out hb)
  clear hb a0 a1 a2 c0 c1 c2 HG
  obtain ⟨a0, a1, a2⟩ := VA.out.all.2
  obtain ⟨c0, c1, c2⟩ := VC.out.all.2
  go_wp2_with fail
  refine (HO _).mono ?_
  rintro e w3 ⟨rfl, hb⟩
  replace VA := hide (VA.out.al hb)
  replace VC := hide (VC.out.al hb)
  replace V1 := hide (V1.out.al hb)
  replace B1 := hide (bel_trans B1.out hb)
  clear hb a0 a1 a2 c0 c1 c2 HO
  obtain ⟨a0, a1, a2⟩ := VA.out.all.2
  obtain ⟨c0, c1, c2⟩ := VC.out.all.2
  go_wp2_with fail
  go_region
  clear a0 a1 a2 c0 c1 c2
  replace VA := hide VA.out.drew
  replace VC := hide VC.out.drew
  replace V1 := hide V1.out.drew
  replace B1 := hide (bel_drawn B1.out)
  generalize w3.drew = w9 at *
  obtain ⟨r, w5, hrun, hw, ho⟩ := arith_run .quo (by simp) 33 u v w9
  have ho' := hide (ho.trans HR.out)
  replace VA : Hid (Val w5 w.heap.size 2 0 (u : Nat)) := by
    rcases hw with rfl | rfl
    · exact VA.out
    · exact hide VA.out.drew
  replace VC : Hid (Val w5 (w.heap.size + 1) 2 0 (v : Nat)) := by
    rcases hw with rfl | rfl
    · exact VC.out
    · exact hide VC.out.drew
  replace V1 : Hid (Val w5 (w.heap.size + 2) 0 0 0) := by
    rcases hw with rfl | rfl
    · exact V1.out
    · exact hide V1.out.drew
  replace B1 : Hid (Below w.heap.size w w5) := by
    rcases hw with rfl | rfl
    · exact B1.out
    · exact hide (bel_drawn B1.out)
  clear hw ho
  obtain ⟨a0, a1, a2⟩ := VA.out.all.2
  obtain ⟨c0, c1, c2⟩ := VC.out.all.2
  go_wp2_with fail
  refine (rfloat_any _ _).mono ?_
  rintro e w4 ⟨rfl, hb⟩
  replace V1 := hide (V1.out.al hb)
  replace B1 := hide (bel_trans B1.out hb)
  clear hb a0 a1 a2 c0 c1 c2
  obtain ⟨⟨f0, f1, f2⟩, e0, e1, e2⟩ := V1.out.all
  go_wp2_with fail
  exact ret_vi (w.heap.size + 2) rfl rfl rfl (V1.out.set _ _ _) rfl (Vi.mk ⟨rfl, rfl, congrArg (Int.ofNat ·) ho'.out, rfl⟩ (bel_set B1.out (by omega) _ _ _))
set_option maxRecDepth 20000 in
set_option maxHeartbeats 2000000 in
theorem rbin_nf (op : ByteArray) (u v : Nat) (hn : ∀ l, l ∈ [[61, 61], [33, 61], [60], [60, 61], [62], [62, 61], [43], [45], [42], [47]] → op.toList ≠ l) (w : World) : Calls Try.prog 13 #[.string op, .agg #[.int .i64 2, .int .i64 0, .int .u64 (u : Nat)], .agg #[.int .i64 2, .int .i64 0, .int .u64 (v : Nat)]] w (Vi4 w (0, 0, 0, -1)) := by
  have cf := callFrom
  have W1 : Hid (Below w.heap.size w (((w.alloc (.cells #[.int .i64 2, .int .i64 0, .int .u64 (u : Nat)] 24)).alloc (.cells #[.int .i64 2, .int .i64 0, .int .u64 (v : Nat)] 24)).alloc (.cells #[.int .i64 0, .int .i64 0, .int .u64 0] 24))) := hide (bel_al (bel_al (bel_new w _) _) _)
  have sz : (w.alloc (.cells #[.int .i64 2, .int .i64 0, .int .u64 (u : Nat)] 24)).heap.size = w.heap.size + 1 := by simp
  have sz2 : ((w.alloc (.cells #[.int .i64 2, .int .i64 0, .int .u64 (u : Nat)] 24)).alloc (.cells #[.int .i64 2, .int .i64 0, .int .u64 (v : Nat)] 24)).heap.size = w.heap.size + 2 := by simp
  have VA := ((Val.new w 2 0 (u : Nat)).al (bel_new _ (.cells #[.int .i64 2, .int .i64 0, .int .u64 (v : Nat)] 24))).al (bel_new _ (.cells #[.int .i64 0, .int .i64 0, .int .u64 0] 24))
  have VC := (Val.new (w.alloc (.cells #[.int .i64 2, .int .i64 0, .int .u64 (u : Nat)] 24)) 2 0 (v : Nat)).al (bel_new _ (.cells #[.int .i64 0, .int .i64 0, .int .u64 0] 24))
  have V1 := Val.new ((w.alloc (.cells #[.int .i64 2, .int .i64 0, .int .u64 (u : Nat)] 24)).alloc (.cells #[.int .i64 2, .int .i64 0, .int .u64 (v : Nat)] 24)) 0 0 0
  rw [sz] at VC
  rw [sz2] at V1
  replace VA := hide VA
  replace VC := hide VC
  replace V1 := hide V1
  clear sz sz2
  show Calls _ _ _ _ (Vi w 0 0 0 (-1))
  have d0 : (op.toList == [61, 61]) = false := by simpa using hn [61, 61] (by simp)
  have d1 : (op.toList == [33, 61]) = false := by simpa using hn [33, 61] (by simp)
  have d2 : (op.toList == [60]) = false := by simpa using hn [60] (by simp)
  have d3 : (op.toList == [60, 61]) = false := by simpa using hn [60, 61] (by simp)
  have d4 : (op.toList == [62]) = false := by simpa using hn [62] (by simp)
  have d5 : (op.toList == [62, 61]) = false := by simpa using hn [62, 61] (by simp)
  have d6 : (op.toList == [43]) = false := by simpa using hn [43] (by simp)
  have d7 : (op.toList == [45]) = false := by simpa using hn [45] (by simp)
  have d8 : (op.toList == [42]) = false := by simpa using hn [42] (by simp)
  have d9 : (op.toList == [47]) = false := by simpa using hn [47] (by simp)
  clear hn
  have HF := fun w => form_any 2 0 (u : Nat) w
  have HG := fun w => form_any 2 0 (v : Nat) w
  have HO := fun w => order_float 0 0 u v w
  rw [show goodB 2 0 (u : Nat) = true by simp [goodB]] at HF
  rw [show goodB 2 0 (v : Nat) = true by simp [goodB]] at HG
  generalize ordU u v = O at *
  go_enter Try.func13, Try.ntmps13
  obtain ⟨a0, a1, a2⟩ := VA.out.all.2
  go_wp2_with fail
  refine (HF _).mono ?_
  rintro e w1 ⟨rfl, hb⟩
  replace VA := hide (VA.out.al hb)
  replace VC := hide (VC.out.al hb)
  replace V1 := hide (V1.out.al hb)
  have B1 := hide (bel_trans W1.out hb)
  clear a0 a1 a2 hb HF
  obtain ⟨a0, a1, a2⟩ := VA.out.all.2
  obtain ⟨c0, c1, c2⟩ := VC.out.all.2
  go_wp2_with fail
  refine (HG _).mono ?_
  rintro e w2 ⟨rfl, hb⟩
  replace VA := hide (VA.out.al hb)
  replace VC := hide (VC.out.al hb)
  replace V1 := hide (V1.out.al hb)
  replace B1 := hide (bel_trans B1.out hb)
  clear hb a0 a1 a2 c0 c1 c2 HG
  obtain ⟨a0, a1, a2⟩ := VA.out.all.2
  obtain ⟨c0, c1, c2⟩ := VC.out.all.2
  go_wp2_with fail
  refine (HO _).mono ?_
  rintro e w3 ⟨rfl, hb⟩
  replace VA := hide (VA.out.al hb)
  replace VC := hide (VC.out.al hb)
  replace V1 := hide (V1.out.al hb)
  replace B1 := hide (bel_trans B1.out hb)
  clear hb a0 a1 a2 c0 c1 c2 HO
  obtain ⟨a0, a1, a2⟩ := VA.out.all.2
  obtain ⟨c0, c1, c2⟩ := VC.out.all.2
  go_wp2_with fail
  go_region
  clear a0 a1 a2 c0 c1 c2
  replace VA := hide VA.out.drew
  replace VC := hide VC.out.drew
  replace V1 := hide V1.out.drew
  replace B1 := hide (bel_drawn B1.out)
  generalize w3.drew = w9 at *
  obtain ⟨⟨f0, f1, f2⟩, e0, e1, e2⟩ := V1.out.all
  go_wp2_with fail
  exact ret_vi (w.heap.size + 2) rfl rfl rfl (V1.out.set _ _ _) rfl (Vi.mk ⟨rfl, rfl, rfl, rfl⟩ (bel_set B1.out (by omega) _ _ _))
end Go.Proofs.Ytmdfciiejenpnaa.Ck
