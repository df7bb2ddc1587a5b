/- The document's package: floats, order, Unary. (Written by mk_r.py.) -/
import Derived.Test.YtmdfciiejenpnaaR1
namespace Go.Proofs.Ytmdfciiejenpnaa.Ck
open Go.RowKit

set_option maxRecDepth 20000 in
set_option maxHeartbeats 2000000 in
theorem rfloat_any (u : Nat) (w : World) : Calls Try.prog 30 #[.float .f64 u] w (Vv w 2 0 (outU u)) := by
  have cb := callBits
  have V1 := hide (Val.new w 0 0 0)
  have B1 := hide (bel_new w (.cells #[.int .i64 0, .int .i64 0, .int .u64 0] 24))
  have HN := fun w => nan_any u w
  unfold outU
  cases hn : nanB u
  · rw [hn] at HN
    show Calls _ _ _ _ (Vv w 2 0 (u : Nat))
    clear hn
    go_enter Try.func30, Try.ntmps30
    go_wp2_with fail
    refine (HN _).mono ?_
    rintro e w1 ⟨rfl, rfl⟩
    obtain ⟨⟨f0, f1, f2⟩, c0, c1, c2⟩ := V1.out.all
    go_wp2_with fail
    exact ret_v w.heap.size rfl rfl (Val.new w _ _ _) rfl (Vv.mk ⟨rfl, rfl, rfl⟩ (bel_new _ _))
  · rw [hn] at HN
    show Calls _ _ _ _ (Vv w 2 0 9221120237041090561)
    clear hn
    go_enter Try.func30, Try.ntmps30
    go_wp2_with fail
    refine (HN _).mono ?_
    rintro e w1 ⟨rfl, rfl⟩
    obtain ⟨⟨f0, f1, f2⟩, c0, c1, c2⟩ := V1.out.all
    go_wp2_with fail
    exact ret_v w.heap.size rfl rfl (Val.new w _ _ _) rfl (Vv.mk ⟨rfl, rfl, rfl⟩ (bel_new _ _))

def ordI (a b : Int) : Int := if a < b then -1 else if b < a then 1 else 0
def ordU (u v : Nat) : Int := if nanB u || nanB v then 2 else if ltF u v then -1 else if gtF u v then 1 else 0
set_option maxRecDepth 20000 in
set_option maxHeartbeats 2000000 in
theorem order_int (t n b n' b' t' : Int) (ht : t ≠ 2) (w : World) : Calls Try.prog 36 #[.agg #[.int .i64 t, .int .i64 n, .int .u64 b], .agg #[.int .i64 t', .int .i64 n', .int .u64 b']] w (Vb w (.int .i64 (ordI n n'))) := by
  have HB := hide (bel_al (bel_new w (.cells #[.int .i64 t, .int .i64 n, .int .u64 b] 24)) (.cells #[.int .i64 t', .int .i64 n', .int .u64 b'] 24))
  unfold ordI
  rcases Int.lt_trichotomy n n' with h | h | h
  · rw [if_pos h]
    go_enter Try.func36, Try.ntmps36
    go_wp2_with fail
    go_ret
    exact Vb.mk rfl HB.out
  · subst h
    rw [if_neg (by omega), if_neg (by omega)]
    go_enter Try.func36, Try.ntmps36
    go_wp2_with fail
    go_ret
    exact Vb.mk rfl HB.out
  · rw [if_neg (by omega), if_pos h]
    go_enter Try.func36, Try.ntmps36
    go_wp2_with fail
    go_ret
    exact Vb.mk rfl HB.out
set_option maxRecDepth 20000 in
set_option maxHeartbeats 2000000 in
theorem order_float (n n' : Int) (u v : Nat) (w : World) : Calls Try.prog 36 #[.agg #[.int .i64 2, .int .i64 n, .int .u64 (u : Nat)], .agg #[.int .i64 2, .int .i64 n', .int .u64 (v : Nat)]] w (Vb w (.int .i64 (ordU u v))) := by
  have cf := callFrom
  have VA := (Val.new w 2 n (u : Nat)).al (bel_new _ (.cells #[.int .i64 2, .int .i64 n', .int .u64 (v : Nat)] 24))
  have VC := Val.new (w.alloc (.cells #[.int .i64 2, .int .i64 n, .int .u64 (u : Nat)] 24)) 2 n' (v : Nat)
  rw [show (w.alloc (.cells #[.int .i64 2, .int .i64 n, .int .u64 (u : Nat)] 24)).heap.size = w.heap.size + 1 by simp] at VC
  have HB := hide (bel_al (bel_new w (.cells #[.int .i64 2, .int .i64 n, .int .u64 (u : Nat)] 24)) (.cells #[.int .i64 2, .int .i64 n', .int .u64 (v : Nat)] 24))
  have HN := fun w => nan_any u w
  have HM := fun w => nan_any v w
  replace VA := hide VA
  replace VC := hide VC
  unfold ordU
  cases hu : nanB u
  case true =>
    rw [hu] at HN
    show Calls _ _ _ _ (Vb w (.int .i64 2))
    clear hu
    go_enter Try.func36, Try.ntmps36
    go_wp2_with fail
    generalize (w.alloc (.cells #[.int .i64 2, .int .i64 n, .int .u64 (u : Nat)] 24)).alloc (.cells #[.int .i64 2, .int .i64 n', .int .u64 (v : Nat)] 24) = w1 at *
    obtain ⟨a0, a1, a2⟩ := VA.out.all.2
    obtain ⟨c0, c1, c2⟩ := VC.out.all.2
    go_region
    clear a0 a1 a2 c0 c1 c2
    replace VA := hide VA.out.drew
    replace VC := hide VC.out.drew
    replace HB := hide (bel_drawn HB.out)
    obtain ⟨a0, a1, a2⟩ := VA.out.all.2
    obtain ⟨c0, c1, c2⟩ := VC.out.all.2
    go_wp2_with fail
    refine (HN _).mono ?_
    rintro e w2 ⟨rfl, rfl⟩
    go_wp2_with fail
    go_ret
    exact Vb.mk rfl HB.out
  rw [hu] at HN
  cases hv : nanB v
  case true =>
    rw [hv] at HM
    show Calls _ _ _ _ (Vb w (.int .i64 2))
    clear hu hv
    go_enter Try.func36, Try.ntmps36
    go_wp2_with fail
    generalize (w.alloc (.cells #[.int .i64 2, .int .i64 n, .int .u64 (u : Nat)] 24)).alloc (.cells #[.int .i64 2, .int .i64 n', .int .u64 (v : Nat)] 24) = w1 at *
    obtain ⟨a0, a1, a2⟩ := VA.out.all.2
    obtain ⟨c0, c1, c2⟩ := VC.out.all.2
    go_region
    clear a0 a1 a2 c0 c1 c2
    replace VA := hide VA.out.drew
    replace VC := hide VC.out.drew
    replace HB := hide (bel_drawn HB.out)
    obtain ⟨a0, a1, a2⟩ := VA.out.all.2
    obtain ⟨c0, c1, c2⟩ := VC.out.all.2
    go_wp2_with fail
    refine (HN _).mono ?_
    rintro e w2 ⟨rfl, rfl⟩
    go_wp2_with fail
    refine (HM _).mono ?_
    rintro e w3 ⟨rfl, rfl⟩
    go_wp2_with fail
    go_ret
    exact Vb.mk rfl HB.out
  rw [hv] at HM
  clear hu hv
  cases hl : ltF u v
  case true =>
    show Calls _ _ _ _ (Vb w (.int .i64 (-1)))
    unfold ltF at hl
    go_enter Try.func36, Try.ntmps36
    go_wp2_with fail
    generalize (w.alloc (.cells #[.int .i64 2, .int .i64 n, .int .u64 (u : Nat)] 24)).alloc (.cells #[.int .i64 2, .int .i64 n', .int .u64 (v : Nat)] 24) = w1 at *
    obtain ⟨a0, a1, a2⟩ := VA.out.all.2
    obtain ⟨c0, c1, c2⟩ := VC.out.all.2
    go_region
    clear a0 a1 a2 c0 c1 c2
    replace VA := hide VA.out.drew
    replace VC := hide VC.out.drew
    replace HB := hide (bel_drawn HB.out)
    obtain ⟨a0, a1, a2⟩ := VA.out.all.2
    obtain ⟨c0, c1, c2⟩ := VC.out.all.2
    go_wp2_with fail
    refine (HN _).mono ?_
    rintro e w2 ⟨rfl, rfl⟩
    go_wp2_with fail
    refine (HM _).mono ?_
    rintro e w3 ⟨rfl, rfl⟩
    go_wp2_with fail
    go_ret
    exact Vb.mk rfl HB.out
  cases hg : gtF u v
  case true =>
    show Calls _ _ _ _ (Vb w (.int .i64 1))
    unfold ltF at hl
    unfold gtF at hg
    go_enter Try.func36, Try.ntmps36
    go_wp2_with fail
    generalize (w.alloc (.cells #[.int .i64 2, .int .i64 n, .int .u64 (u : Nat)] 24)).alloc (.cells #[.int .i64 2, .int .i64 n', .int .u64 (v : Nat)] 24) = w1 at *
    obtain ⟨a0, a1, a2⟩ := VA.out.all.2
    obtain ⟨c0, c1, c2⟩ := VC.out.all.2
    go_region
    clear a0 a1 a2 c0 c1 c2
    replace VA := hide VA.out.drew
    replace VC := hide VC.out.drew
    replace HB := hide (bel_drawn HB.out)
    obtain ⟨a0, a1, a2⟩ := VA.out.all.2
    obtain ⟨c0, c1, c2⟩ := VC.out.all.2
    go_wp2_with fail
    refine (HN _).mono ?_
    rintro e w2 ⟨rfl, rfl⟩
    go_wp2_with fail
    refine (HM _).mono ?_
    rintro e w3 ⟨rfl, rfl⟩
    go_wp2_with fail
    go_ret
    exact Vb.mk rfl HB.out
  show Calls _ _ _ _ (Vb w (.int .i64 0))
  unfold ltF at hl
  unfold gtF at hg
  go_enter Try.func36, Try.ntmps36
  go_wp2_with fail
  generalize (w.alloc (.cells #[.int .i64 2, .int .i64 n, .int .u64 (u : Nat)] 24)).alloc (.cells #[.int .i64 2, .int .i64 n', .int .u64 (v : Nat)] 24) = w1 at *
  obtain ⟨a0, a1, a2⟩ := VA.out.all.2
  obtain ⟨c0, c1, c2⟩ := VC.out.all.2
  go_region
  clear a0 a1 a2 c0 c1 c2
  replace VA := hide VA.out.drew
  replace VC := hide VC.out.drew
  replace HB := hide (bel_drawn HB.out)
  obtain ⟨a0, a1, a2⟩ := VA.out.all.2
  obtain ⟨c0, c1, c2⟩ := VC.out.all.2
  go_wp2_with fail
  refine (HN _).mono ?_
  rintro e w2 ⟨rfl, rfl⟩
  go_wp2_with fail
  refine (HM _).mono ?_
  rintro e w3 ⟨rfl, rfl⟩
  go_wp2_with fail
  go_ret
  exact Vb.mk rfl HB.out
theorem neg_u64 (n : Int) : wrap64 (IntKind.u64.wrap (bits .xor .u64 IntKind.u64.max (IntKind.u64.wrap n) + 1)) = wrap64 (-n) := by
  rw [IntKind.wrap_u64, IntKind.wrap_u64]
  have h := u64_xor_nat 18446744073709551615 (n % 18446744073709551616).toNat (by decide) (by omega)
  have e : ((n % 18446744073709551616).toNat : Int) = n % 18446744073709551616 := by omega
  rw [e] at h
  have e2 : bits .xor .u64 IntKind.u64.max (n % 18446744073709551616) = ((18446744073709551615 ^^^ (n % 18446744073709551616).toNat : Nat) : Int) := h
  rw [e2]
  have h3 : (18446744073709551615 ^^^ (n % 18446744073709551616).toNat : Nat) = 18446744073709551615 - (n % 18446744073709551616).toNat := by
    have hx : (n % 18446744073709551616).toNat < 2 ^ 64 := by omega
    generalize (n % 18446744073709551616).toNat = x at *
    have q := BitVec.toNat_not (x := BitVec.ofNat 64 x)
    rw [BitVec.not_def, BitVec.toNat_xor, BitVec.toNat_ofNat, Nat.mod_eq_of_lt hx] at q
    rw [BitVec.toNat_allOnes] at q
    have q' : (18446744073709551615 ^^^ x : Nat) = 2 ^ 64 - 1 - x := q
    omega
  rw [h3]
  unfold wrap64
  omega
set_option maxRecDepth 20000 in
set_option maxHeartbeats 2000000 in
theorem runary_1 (op : ByteArray) (n : Int) (w : World) : Calls Try.prog 11 #[.string op, .agg #[.int .i64 1, .int .i64 n, .int .u64 0]] w (Vi4 w (unF op.toList 1 n 0)) := by
  have cf := callFrom
  have cb := callBits
  have VA := hide ((Val.new w 1 n 0).al (bel_new (w.alloc (.cells #[.int .i64 1, .int .i64 n, .int .u64 0] 24)) (.cells #[.int .i64 0, .int .i64 0, .int .u64 0] 24)))
  have V1 := Val.new (w.alloc (.cells #[.int .i64 1, .int .i64 n, .int .u64 0] 24)) 0 0 0
  rw [show (w.alloc (.cells #[.int .i64 1, .int .i64 n, .int .u64 0] 24)).heap.size = w.heap.size + 1 by simp] at V1
  replace V1 := hide V1
  have B1 := hide (bel_al (bel_new w (.cells #[.int .i64 1, .int .i64 n, .int .u64 0] 24)) (.cells #[.int .i64 0, .int .i64 0, .int .u64 0] 24))
  have HF := fun w => form_any 1 n 0 w
  rw [show goodB 1 n 0 = true by simp [goodB]] at HF
  by_cases h0 : op.toList = [45]
  · have hr : unF op.toList 1 n 0 = (1, (wrap64 (-n)), 0, 0) := by
      rw [h0]
      simp [unF, goodB, ofIntF]
    rw [hr]
    show Calls _ _ _ _ (Vi w 1 (wrap64 (-n)) 0 0)
    clear hr
    have hN := neg_u64 n
    go_enter Try.func11, Try.ntmps11
    obtain ⟨a0, a1, a2⟩ := VA.out.all.2
    go_wp2_with fail
    refine (HF _).mono ?_
    rintro e w1 ⟨rfl, hb⟩
    clear a0 a1 a2
    replace VA := hide (VA.out.al hb)
    replace V1 := hide (V1.out.al hb)
    replace B1 := hide (bel_trans B1.out hb)
    clear hb HF
    obtain ⟨a0, a1, a2⟩ := VA.out.all.2
    obtain ⟨⟨f0, f1, f2⟩, c0, c1, c2⟩ := V1.out.all
    go_wp2_with fail
    refine (number_any _ _).mono ?_
    rintro e w2 ⟨rfl, hb⟩
    clear a0 a1 a2 f0 f1 f2 c0 c1 c2
    replace V1 := hide (V1.out.al hb)
    replace B1 := hide (bel_trans B1.out hb)
    clear hb
    obtain ⟨⟨f0, f1, f2⟩, c0, c1, c2⟩ := V1.out.all
    go_wp2_with fail
    exact ret_vi (w.heap.size + 1) rfl rfl rfl (V1.out.set _ _ _) rfl (Vi.mk ⟨rfl, rfl, rfl, rfl⟩ (bel_set B1.out (by omega) _ _ _))
  have d0 : (op.toList == [45]) = false := by simpa using h0
  by_cases h1 : op.toList = [33]
  · have hr : unF op.toList 1 n 0 = (0, 0, 0, (-1)) := by
      rw [h1]
      simp [unF, goodB, ofIntF, noneR]
    rw [hr]
    show Calls _ _ _ _ (Vi w 0 0 0 (-1))
    clear hr
    go_enter Try.func11, Try.ntmps11
    obtain ⟨a0, a1, a2⟩ := VA.out.all.2
    go_wp2_with fail
    refine (HF _).mono ?_
    rintro e w1 ⟨rfl, hb⟩
    clear a0 a1 a2
    replace VA := hide (VA.out.al hb)
    replace V1 := hide (V1.out.al hb)
    replace B1 := hide (bel_trans B1.out hb)
    clear hb HF
    obtain ⟨a0, a1, a2⟩ := VA.out.all.2
    obtain ⟨⟨f0, f1, f2⟩, c0, c1, c2⟩ := V1.out.all
    go_wp2_with fail
    exact ret_vi (w.heap.size + 1) rfl rfl rfl (V1.out.set _ _ _) rfl (Vi.mk ⟨rfl, rfl, rfl, rfl⟩ (bel_set B1.out (by omega) _ _ _))
  have d1 : (op.toList == [33]) = false := by simpa using h1
  by_cases h2 : op.toList = [105, 110, 116]
  · have hr : unF op.toList 1 n 0 = (0, 0, 0, (-1)) := by
      rw [h2]
      simp [unF, goodB, ofIntF, noneR]
    rw [hr]
    show Calls _ _ _ _ (Vi w 0 0 0 (-1))
    clear hr
    go_enter Try.func11, Try.ntmps11
    obtain ⟨a0, a1, a2⟩ := VA.out.all.2
    go_wp2_with fail
    refine (HF _).mono ?_
    rintro e w1 ⟨rfl, hb⟩
    clear a0 a1 a2
    replace VA := hide (VA.out.al hb)
    replace V1 := hide (V1.out.al hb)
    replace B1 := hide (bel_trans B1.out hb)
    clear hb HF
    obtain ⟨a0, a1, a2⟩ := VA.out.all.2
    obtain ⟨⟨f0, f1, f2⟩, c0, c1, c2⟩ := V1.out.all
    go_wp2_with fail
    exact ret_vi (w.heap.size + 1) rfl rfl rfl (V1.out.set _ _ _) rfl (Vi.mk ⟨rfl, rfl, rfl, rfl⟩ (bel_set B1.out (by omega) _ _ _))
  have d2 : (op.toList == [105, 110, 116]) = false := by simpa using h2
  by_cases h3 : op.toList = [102, 108, 111, 97, 116]
  · have hr : unF op.toList 1 n 0 = (2, 0, ((floatOfInt .f64 n : Nat) : Int), 0) := by
      rw [h3]
      simp [unF, goodB, ofIntF]
    rw [hr]
    show Calls _ _ _ _ (Vi w 2 0 ((floatOfInt .f64 n : Nat) : Int) 0)
    clear hr
    go_enter Try.func11, Try.ntmps11
    obtain ⟨a0, a1, a2⟩ := VA.out.all.2
    go_wp2_with fail
    refine (HF _).mono ?_
    rintro e w1 ⟨rfl, hb⟩
    clear a0 a1 a2
    replace VA := hide (VA.out.al hb)
    replace V1 := hide (V1.out.al hb)
    replace B1 := hide (bel_trans B1.out hb)
    clear hb HF
    obtain ⟨a0, a1, a2⟩ := VA.out.all.2
    obtain ⟨⟨f0, f1, f2⟩, c0, c1, c2⟩ := V1.out.all
    go_wp2_with fail
    exact ret_vi (w.heap.size + 1) rfl rfl rfl (V1.out.set _ _ _) rfl (Vi.mk ⟨rfl, rfl, rfl, rfl⟩ (bel_set B1.out (by omega) _ _ _))
  have d3 : (op.toList == [102, 108, 111, 97, 116]) = false := by simpa using h3
  have hr : unF op.toList 1 n 0 = (0, 0, 0, -1) := by
    simp [unF, goodB, ofIntF, noneR, h0, h3]
  rw [hr]
  show Calls _ _ _ _ (Vi w 0 0 0 (-1))
  clear hr h0 h1 h2 h3
  go_enter Try.func11, Try.ntmps11
  obtain ⟨a0, a1, a2⟩ := VA.out.all.2
  go_wp2_with fail
  refine (HF _).mono ?_
  rintro e w1 ⟨rfl, hb⟩
  clear a0 a1 a2
  replace VA := hide (VA.out.al hb)
  replace V1 := hide (V1.out.al hb)
  replace B1 := hide (bel_trans B1.out hb)
  clear hb HF
  obtain ⟨a0, a1, a2⟩ := VA.out.all.2
  obtain ⟨⟨f0, f1, f2⟩, c0, c1, c2⟩ := V1.out.all
  go_wp2_with fail
  exact ret_vi (w.heap.size + 1) rfl rfl rfl (V1.out.set _ _ _) rfl (Vi.mk ⟨rfl, rfl, rfl, rfl⟩ (bel_set B1.out (by omega) _ _ _))
set_option maxRecDepth 20000 in
set_option maxHeartbeats 2000000 in
theorem runary_2 (op : ByteArray) (u : Nat) (hu : u < 18446744073709551616) (w : World) : Calls Try.prog 11 #[.string op, .agg #[.int .i64 2, .int .i64 0, .int .u64 (u : Nat)]] w (Vi4 w (unF op.toList 2 0 (u : Nat))) := by
  have cf := callFrom
  have cb := callBits
  have VA := hide ((Val.new w 2 0 (u : Nat)).al (bel_new (w.alloc (.cells #[.int .i64 2, .int .i64 0, .int .u64 (u : Nat)] 24)) (.cells #[.int .i64 0, .int .i64 0, .int .u64 0] 24)))
  have V1 := Val.new (w.alloc (.cells #[.int .i64 2, .int .i64 0, .int .u64 (u : Nat)] 24)) 0 0 0
  rw [show (w.alloc (.cells #[.int .i64 2, .int .i64 0, .int .u64 (u : Nat)] 24)).heap.size = w.heap.size + 1 by simp] at V1
  replace V1 := hide V1
  have B1 := hide (bel_al (bel_new w (.cells #[.int .i64 2, .int .i64 0, .int .u64 (u : Nat)] 24)) (.cells #[.int .i64 0, .int .i64 0, .int .u64 0] 24))
  have HF := fun w => form_any 2 0 (u : Nat) w
  rw [show goodB 2 0 (u : Nat) = true by simp [goodB]] at HF
  by_cases h0 : op.toList = [45]
  · have hr : unF op.toList 2 0 (u : Nat) = (2, 0, ((outU (flipU u) : Nat) : Int), 0) := by
      rw [h0]
      simp [unF, goodB, ofFloatF]
    rw [hr]
    show Calls _ _ _ _ (Vi w 2 0 ((outU (flipU u) : Nat) : Int) 0)
    clear hr
    go_enter Try.func11, Try.ntmps11
    obtain ⟨a0, a1, a2⟩ := VA.out.all.2
    go_wp2_with fail
    refine (HF _).mono ?_
    rintro e w1 ⟨rfl, hb⟩
    clear a0 a1 a2
    replace VA := hide (VA.out.al hb)
    replace V1 := hide (V1.out.al hb)
    replace B1 := hide (bel_trans B1.out hb)
    clear hb HF
    obtain ⟨a0, a1, a2⟩ := VA.out.all.2
    obtain ⟨⟨f0, f1, f2⟩, c0, c1, c2⟩ := V1.out.all
    go_wp2_with fail
    refine (rfloat_any _ _).mono ?_
    rintro e w2 ⟨rfl, hb⟩
    clear a0 a1 a2 f0 f1 f2 c0 c1 c2
    replace V1 := hide (V1.out.al hb)
    replace B1 := hide (bel_trans B1.out hb)
    clear hb
    obtain ⟨⟨f0, f1, f2⟩, c0, c1, c2⟩ := V1.out.all
    go_wp2_with fail
    exact ret_vi (w.heap.size + 1) rfl rfl rfl (V1.out.set _ _ _) rfl (Vi.mk ⟨rfl, rfl, rfl, rfl⟩ (bel_set B1.out (by omega) _ _ _))
  have d0 : (op.toList == [45]) = false := by simpa using h0
  by_cases h1 : op.toList = [33]
  · have hr : unF op.toList 2 0 (u : Nat) = (0, 0, 0, (-1)) := by
      rw [h1]
      simp [unF, goodB, ofFloatF, noneR]
    rw [hr]
    show Calls _ _ _ _ (Vi w 0 0 0 (-1))
    clear hr
    go_enter Try.func11, Try.ntmps11
    obtain ⟨a0, a1, a2⟩ := VA.out.all.2
    go_wp2_with fail
    refine (HF _).mono ?_
    rintro e w1 ⟨rfl, hb⟩
    clear a0 a1 a2
    replace VA := hide (VA.out.al hb)
    replace V1 := hide (V1.out.al hb)
    replace B1 := hide (bel_trans B1.out hb)
    clear hb HF
    obtain ⟨a0, a1, a2⟩ := VA.out.all.2
    obtain ⟨⟨f0, f1, f2⟩, c0, c1, c2⟩ := V1.out.all
    go_wp2_with fail
    exact ret_vi (w.heap.size + 1) rfl rfl rfl (V1.out.set _ _ _) rfl (Vi.mk ⟨rfl, rfl, rfl, rfl⟩ (bel_set B1.out (by omega) _ _ _))
  have d1 : (op.toList == [33]) = false := by simpa using h1
  by_cases h2 : op.toList = [105, 110, 116]
  · have HT := fun w => trunc_any u hu w
    obtain ⟨W_, hw⟩ : ∃ z, wholeN u = z := ⟨_, rfl⟩
    rw [hw] at HT
    cases hi : inB u
    · rw [hi] at HT
      have hr : unF op.toList 2 0 (u : Nat) = (0, 0, 0, 3) := by
        rw [h2]
        simp [unF, goodB, ofFloatF, wholeR, hi]
      rw [hr]
      show Calls _ _ _ _ (Vi w 0 0 0 3)
      clear hr hi hw
      go_enter Try.func11, Try.ntmps11
      obtain ⟨a0, a1, a2⟩ := VA.out.all.2
      go_wp2_with fail
      refine (HF _).mono ?_
      rintro e w1 ⟨rfl, hb⟩
      clear a0 a1 a2
      replace VA := hide (VA.out.al hb)
      replace V1 := hide (V1.out.al hb)
      replace B1 := hide (bel_trans B1.out hb)
      clear hb HF
      obtain ⟨a0, a1, a2⟩ := VA.out.all.2
      obtain ⟨⟨f0, f1, f2⟩, c0, c1, c2⟩ := V1.out.all
      go_wp2_with fail
      refine (HT _).mono ?_
      rintro e w2 ⟨rfl, rfl⟩
      go_wp2_with fail
      exact ret_vi (w.heap.size + 1) rfl rfl rfl (V1.out.set _ _ _) rfl (Vi.mk ⟨rfl, rfl, rfl, rfl⟩ (bel_set B1.out (by omega) _ _ _))
    · rw [hi] at HT
      have hr : unF op.toList 2 0 (u : Nat) = (1, W_, 0, 0) := by
        rw [h2]
        simp [unF, goodB, ofFloatF, wholeR, hi, hw]
      rw [hr]
      show Calls _ _ _ _ (Vi w 1 W_ 0 0)
      clear hr hi hw
      go_enter Try.func11, Try.ntmps11
      obtain ⟨a0, a1, a2⟩ := VA.out.all.2
      go_wp2_with fail
      refine (HF _).mono ?_
      rintro e w1 ⟨rfl, hb⟩
      clear a0 a1 a2
      replace VA := hide (VA.out.al hb)
      replace V1 := hide (V1.out.al hb)
      replace B1 := hide (bel_trans B1.out hb)
      clear hb HF
      obtain ⟨a0, a1, a2⟩ := VA.out.all.2
      obtain ⟨⟨f0, f1, f2⟩, c0, c1, c2⟩ := V1.out.all
      go_wp2_with fail
      refine (HT _).mono ?_
      rintro e w2 ⟨rfl, rfl⟩
      go_wp2_with fail
      refine (number_any _ _).mono ?_
      rintro e w3 ⟨rfl, hb⟩
      clear a0 a1 a2 f0 f1 f2 c0 c1 c2
      replace V1 := hide (V1.out.al hb)
      replace B1 := hide (bel_trans B1.out hb)
      clear hb
      obtain ⟨⟨f0, f1, f2⟩, c0, c1, c2⟩ := V1.out.all
      go_wp2_with fail
      exact ret_vi (w.heap.size + 1) rfl rfl rfl (V1.out.set _ _ _) rfl (Vi.mk ⟨rfl, rfl, rfl, rfl⟩ (bel_set B1.out (by omega) _ _ _))
  have d2 : (op.toList == [105, 110, 116]) = false := by simpa using h2
  by_cases h3 : op.toList = [102, 108, 111, 97, 116]
  · have hr : unF op.toList 2 0 (u : Nat) = (0, 0, 0, (-1)) := by
      rw [h3]
      simp [unF, goodB, ofFloatF, noneR]
    rw [hr]
    show Calls _ _ _ _ (Vi w 0 0 0 (-1))
    clear hr
    go_enter Try.func11, Try.ntmps11
    obtain ⟨a0, a1, a2⟩ := VA.out.all.2
    go_wp2_with fail
    refine (HF _).mono ?_
    rintro e w1 ⟨rfl, hb⟩
    clear a0 a1 a2
    replace VA := hide (VA.out.al hb)
    replace V1 := hide (V1.out.al hb)
    replace B1 := hide (bel_trans B1.out hb)
    clear hb HF
    obtain ⟨a0, a1, a2⟩ := VA.out.all.2
    obtain ⟨⟨f0, f1, f2⟩, c0, c1, c2⟩ := V1.out.all
    go_wp2_with fail
    exact ret_vi (w.heap.size + 1) rfl rfl rfl (V1.out.set _ _ _) rfl (Vi.mk ⟨rfl, rfl, rfl, rfl⟩ (bel_set B1.out (by omega) _ _ _))
  have d3 : (op.toList == [102, 108, 111, 97, 116]) = false := by simpa using h3
  have hr : unF op.toList 2 0 (u : Nat) = (0, 0, 0, -1) := by
    simp [unF, goodB, ofFloatF, noneR, h0, h2]
  rw [hr]
  show Calls _ _ _ _ (Vi w 0 0 0 (-1))
  clear hr h0 h1 h2 h3
  go_enter Try.func11, Try.ntmps11
  obtain ⟨a0, a1, a2⟩ := VA.out.all.2
  go_wp2_with fail
  refine (HF _).mono ?_
  rintro e w1 ⟨rfl, hb⟩
  clear a0 a1 a2
  replace VA := hide (VA.out.al hb)
  replace V1 := hide (V1.out.al hb)
  replace B1 := hide (bel_trans B1.out hb)
  clear hb HF
  obtain ⟨a0, a1, a2⟩ := VA.out.all.2
  obtain ⟨⟨f0, f1, f2⟩, c0, c1, c2⟩ := V1.out.all
  go_wp2_with fail
  exact ret_vi (w.heap.size + 1) rfl rfl rfl (V1.out.set _ _ _) rfl (Vi.mk ⟨rfl, rfl, rfl, rfl⟩ (bel_set B1.out (by omega) _ _ _))
set_option maxRecDepth 20000 in
set_option maxHeartbeats 2000000 in
theorem runary_30 (op : ByteArray)  (w : World) : Calls Try.prog 11 #[.string op, .agg #[.int .i64 3, .int .i64 0, .int .u64 0]] w (Vi4 w (unF op.toList 3 0 0)) := by
  have cf := callFrom
  have cb := callBits
  have VA := hide ((Val.new w 3 0 0).al (bel_new (w.alloc (.cells #[.int .i64 3, .int .i64 0, .int .u64 0] 24)) (.cells #[.int .i64 0, .int .i64 0, .int .u64 0] 24)))
  have V1 := Val.new (w.alloc (.cells #[.int .i64 3, .int .i64 0, .int .u64 0] 24)) 0 0 0
  rw [show (w.alloc (.cells #[.int .i64 3, .int .i64 0, .int .u64 0] 24)).heap.size = w.heap.size + 1 by simp] at V1
  replace V1 := hide V1
  have B1 := hide (bel_al (bel_new w (.cells #[.int .i64 3, .int .i64 0, .int .u64 0] 24)) (.cells #[.int .i64 0, .int .i64 0, .int .u64 0] 24))
  have HF := fun w => form_any 3 0 0 w
  rw [show goodB 3 0 0 = true by simp [goodB]] at HF
  by_cases h0 : op.toList = [45]
  · have hr : unF op.toList 3 0 0 = (0, 0, 0, (-1)) := by
      rw [h0]
      simp [unF, goodB, ofBoolF, noneR]
    rw [hr]
    show Calls _ _ _ _ (Vi w 0 0 0 (-1))
    clear hr
    go_enter Try.func11, Try.ntmps11
    obtain ⟨a0, a1, a2⟩ := VA.out.all.2
    go_wp2_with fail
    refine (HF _).mono ?_
    rintro e w1 ⟨rfl, hb⟩
    clear a0 a1 a2
    replace VA := hide (VA.out.al hb)
    replace V1 := hide (V1.out.al hb)
    replace B1 := hide (bel_trans B1.out hb)
    clear hb HF
    obtain ⟨a0, a1, a2⟩ := VA.out.all.2
    obtain ⟨⟨f0, f1, f2⟩, c0, c1, c2⟩ := V1.out.all
    go_wp2_with fail
    exact ret_vi (w.heap.size + 1) rfl rfl rfl (V1.out.set _ _ _) rfl (Vi.mk ⟨rfl, rfl, rfl, rfl⟩ (bel_set B1.out (by omega) _ _ _))
  have d0 : (op.toList == [45]) = false := by simpa using h0
  by_cases h1 : op.toList = [33]
  · have hr : unF op.toList 3 0 0 = (3, 1, 0, 0) := by
      rw [h1]
      simp [unF, goodB, ofBoolF]
    rw [hr]
    show Calls _ _ _ _ (Vi w 3 1 0 0)
    clear hr
    go_enter Try.func11, Try.ntmps11
    obtain ⟨a0, a1, a2⟩ := VA.out.all.2
    go_wp2_with fail
    refine (HF _).mono ?_
    rintro e w1 ⟨rfl, hb⟩
    clear a0 a1 a2
    replace VA := hide (VA.out.al hb)
    replace V1 := hide (V1.out.al hb)
    replace B1 := hide (bel_trans B1.out hb)
    clear hb HF
    obtain ⟨a0, a1, a2⟩ := VA.out.all.2
    obtain ⟨⟨f0, f1, f2⟩, c0, c1, c2⟩ := V1.out.all
    go_wp2_with fail
    refine (truth_any _ _).mono ?_
    rintro e w2 ⟨rfl, hb⟩
    clear a0 a1 a2 f0 f1 f2 c0 c1 c2
    replace V1 := hide (V1.out.al hb)
    replace B1 := hide (bel_trans B1.out hb)
    clear hb
    obtain ⟨⟨f0, f1, f2⟩, c0, c1, c2⟩ := V1.out.all
    go_wp2_with fail
    exact ret_vi (w.heap.size + 1) rfl rfl rfl (V1.out.set _ _ _) rfl (Vi.mk ⟨rfl, rfl, rfl, rfl⟩ (bel_set B1.out (by omega) _ _ _))
  have d1 : (op.toList == [33]) = false := by simpa using h1
  by_cases h2 : op.toList = [105, 110, 116]
  · have hr : unF op.toList 3 0 0 = (0, 0, 0, (-1)) := by
      rw [h2]
      simp [unF, goodB, ofBoolF, noneR]
    rw [hr]
    show Calls _ _ _ _ (Vi w 0 0 0 (-1))
    clear hr
    go_enter Try.func11, Try.ntmps11
    obtain ⟨a0, a1, a2⟩ := VA.out.all.2
    go_wp2_with fail
    refine (HF _).mono ?_
    rintro e w1 ⟨rfl, hb⟩
    clear a0 a1 a2
    replace VA := hide (VA.out.al hb)
    replace V1 := hide (V1.out.al hb)
    replace B1 := hide (bel_trans B1.out hb)
    clear hb HF
    obtain ⟨a0, a1, a2⟩ := VA.out.all.2
    obtain ⟨⟨f0, f1, f2⟩, c0, c1, c2⟩ := V1.out.all
    go_wp2_with fail
    exact ret_vi (w.heap.size + 1) rfl rfl rfl (V1.out.set _ _ _) rfl (Vi.mk ⟨rfl, rfl, rfl, rfl⟩ (bel_set B1.out (by omega) _ _ _))
  have d2 : (op.toList == [105, 110, 116]) = false := by simpa using h2
  by_cases h3 : op.toList = [102, 108, 111, 97, 116]
  · have hr : unF op.toList 3 0 0 = (0, 0, 0, (-1)) := by
      rw [h3]
      simp [unF, goodB, ofBoolF, noneR]
    rw [hr]
    show Calls _ _ _ _ (Vi w 0 0 0 (-1))
    clear hr
    go_enter Try.func11, Try.ntmps11
    obtain ⟨a0, a1, a2⟩ := VA.out.all.2
    go_wp2_with fail
    refine (HF _).mono ?_
    rintro e w1 ⟨rfl, hb⟩
    clear a0 a1 a2
    replace VA := hide (VA.out.al hb)
    replace V1 := hide (V1.out.al hb)
    replace B1 := hide (bel_trans B1.out hb)
    clear hb HF
    obtain ⟨a0, a1, a2⟩ := VA.out.all.2
    obtain ⟨⟨f0, f1, f2⟩, c0, c1, c2⟩ := V1.out.all
    go_wp2_with fail
    exact ret_vi (w.heap.size + 1) rfl rfl rfl (V1.out.set _ _ _) rfl (Vi.mk ⟨rfl, rfl, rfl, rfl⟩ (bel_set B1.out (by omega) _ _ _))
  have d3 : (op.toList == [102, 108, 111, 97, 116]) = false := by simpa using h3
  have hr : unF op.toList 3 0 0 = (0, 0, 0, -1) := by
    simp [unF, goodB, ofBoolF, noneR, h1]
  rw [hr]
  show Calls _ _ _ _ (Vi w 0 0 0 (-1))
  clear hr h0 h1 h2 h3
  go_enter Try.func11, Try.ntmps11
  obtain ⟨a0, a1, a2⟩ := VA.out.all.2
  go_wp2_with fail
  refine (HF _).mono ?_
  rintro e w1 ⟨rfl, hb⟩
  clear a0 a1 a2
  replace VA := hide (VA.out.al hb)
  replace V1 := hide (V1.out.al hb)
  replace B1 := hide (bel_trans B1.out hb)
  clear hb HF
  obtain ⟨a0, a1, a2⟩ := VA.out.all.2
  obtain ⟨⟨f0, f1, f2⟩, c0, c1, c2⟩ := V1.out.all
  go_wp2_with fail
  exact ret_vi (w.heap.size + 1) rfl rfl rfl (V1.out.set _ _ _) rfl (Vi.mk ⟨rfl, rfl, rfl, rfl⟩ (bel_set B1.out (by omega) _ _ _))
set_option maxRecDepth 20000 in
set_option maxHeartbeats 2000000 in
theorem runary_31 (op : ByteArray)  (w : World) : Calls Try.prog 11 #[.string op, .agg #[.int .i64 3, .int .i64 1, .int .u64 0]] w (Vi4 w (unF op.toList 3 1 0)) := by
  have cf := callFrom
  have cb := callBits
  have VA := hide ((Val.new w 3 1 0).al (bel_new (w.alloc (.cells #[.int .i64 3, .int .i64 1, .int .u64 0] 24)) (.cells #[.int .i64 0, .int .i64 0, .int .u64 0] 24)))
  have V1 := Val.new (w.alloc (.cells #[.int .i64 3, .int .i64 1, .int .u64 0] 24)) 0 0 0
  rw [show (w.alloc (.cells #[.int .i64 3, .int .i64 1, .int .u64 0] 24)).heap.size = w.heap.size + 1 by simp] at V1
  replace V1 := hide V1
  have B1 := hide (bel_al (bel_new w (.cells #[.int .i64 3, .int .i64 1, .int .u64 0] 24)) (.cells #[.int .i64 0, .int .i64 0, .int .u64 0] 24))
  have HF := fun w => form_any 3 1 0 w
  rw [show goodB 3 1 0 = true by simp [goodB]] at HF
  by_cases h0 : op.toList = [45]
  · have hr : unF op.toList 3 1 0 = (0, 0, 0, (-1)) := by
      rw [h0]
      simp [unF, goodB, ofBoolF, noneR]
    rw [hr]
    show Calls _ _ _ _ (Vi w 0 0 0 (-1))
    clear hr
    go_enter Try.func11, Try.ntmps11
    obtain ⟨a0, a1, a2⟩ := VA.out.all.2
    go_wp2_with fail
    refine (HF _).mono ?_
    rintro e w1 ⟨rfl, hb⟩
    clear a0 a1 a2
    replace VA := hide (VA.out.al hb)
    replace V1 := hide (V1.out.al hb)
    replace B1 := hide (bel_trans B1.out hb)
    clear hb HF
    obtain ⟨a0, a1, a2⟩ := VA.out.all.2
    obtain ⟨⟨f0, f1, f2⟩, c0, c1, c2⟩ := V1.out.all
    go_wp2_with fail
    exact ret_vi (w.heap.size + 1) rfl rfl rfl (V1.out.set _ _ _) rfl (Vi.mk ⟨rfl, rfl, rfl, rfl⟩ (bel_set B1.out (by omega) _ _ _))
  have d0 : (op.toList == [45]) = false := by simpa using h0
  by_cases h1 : op.toList = [33]
  · have hr : unF op.toList 3 1 0 = (3, 0, 0, 0) := by
      rw [h1]
      simp [unF, goodB, ofBoolF]
    rw [hr]
    show Calls _ _ _ _ (Vi w 3 0 0 0)
    clear hr
    go_enter Try.func11, Try.ntmps11
    obtain ⟨a0, a1, a2⟩ := VA.out.all.2
    go_wp2_with fail
    refine (HF _).mono ?_
    rintro e w1 ⟨rfl, hb⟩
    clear a0 a1 a2
    replace VA := hide (VA.out.al hb)
    replace V1 := hide (V1.out.al hb)
    replace B1 := hide (bel_trans B1.out hb)
    clear hb HF
    obtain ⟨a0, a1, a2⟩ := VA.out.all.2
    obtain ⟨⟨f0, f1, f2⟩, c0, c1, c2⟩ := V1.out.all
    go_wp2_with fail
    refine (truth_any _ _).mono ?_
    rintro e w2 ⟨rfl, hb⟩
    clear a0 a1 a2 f0 f1 f2 c0 c1 c2
    replace V1 := hide (V1.out.al hb)
    replace B1 := hide (bel_trans B1.out hb)
    clear hb
    obtain ⟨⟨f0, f1, f2⟩, c0, c1, c2⟩ := V1.out.all
    go_wp2_with fail
    exact ret_vi (w.heap.size + 1) rfl rfl rfl (V1.out.set _ _ _) rfl (Vi.mk ⟨rfl, rfl, rfl, rfl⟩ (bel_set B1.out (by omega) _ _ _))
  have d1 : (op.toList == [33]) = false := by simpa using h1
  by_cases h2 : op.toList = [105, 110, 116]
  · have hr : unF op.toList 3 1 0 = (0, 0, 0, (-1)) := by
      rw [h2]
      simp [unF, goodB, ofBoolF, noneR]
    rw [hr]
    show Calls _ _ _ _ (Vi w 0 0 0 (-1))
    clear hr
    go_enter Try.func11, Try.ntmps11
    obtain ⟨a0, a1, a2⟩ := VA.out.all.2
    go_wp2_with fail
    refine (HF _).mono ?_
    rintro e w1 ⟨rfl, hb⟩
    clear a0 a1 a2
    replace VA := hide (VA.out.al hb)
    replace V1 := hide (V1.out.al hb)
    replace B1 := hide (bel_trans B1.out hb)
    clear hb HF
    obtain ⟨a0, a1, a2⟩ := VA.out.all.2
    obtain ⟨⟨f0, f1, f2⟩, c0, c1, c2⟩ := V1.out.all
    go_wp2_with fail
    exact ret_vi (w.heap.size + 1) rfl rfl rfl (V1.out.set _ _ _) rfl (Vi.mk ⟨rfl, rfl, rfl, rfl⟩ (bel_set B1.out (by omega) _ _ _))
  have d2 : (op.toList == [105, 110, 116]) = false := by simpa using h2
  by_cases h3 : op.toList = [102, 108, 111, 97, 116]
  · have hr : unF op.toList 3 1 0 = (0, 0, 0, (-1)) := by
      rw [h3]
      simp [unF, goodB, ofBoolF, noneR]
    rw [hr]
    show Calls _ _ _ _ (Vi w 0 0 0 (-1))
    clear hr
    go_enter Try.func11, Try.ntmps11
    obtain ⟨a0, a1, a2⟩ := VA.out.all.2
    go_wp2_with fail
    refine (HF _).mono ?_
    rintro e w1 ⟨rfl, hb⟩
    clear a0 a1 a2
    replace VA := hide (VA.out.al hb)
    replace V1 := hide (V1.out.al hb)
    replace B1 := hide (bel_trans B1.out hb)
    clear hb HF
    obtain ⟨a0, a1, a2⟩ := VA.out.all.2
    obtain ⟨⟨f0, f1, f2⟩, c0, c1, c2⟩ := V1.out.all
    go_wp2_with fail
    exact ret_vi (w.heap.size + 1) rfl rfl rfl (V1.out.set _ _ _) rfl (Vi.mk ⟨rfl, rfl, rfl, rfl⟩ (bel_set B1.out (by omega) _ _ _))
  have d3 : (op.toList == [102, 108, 111, 97, 116]) = false := by simpa using h3
  have hr : unF op.toList 3 1 0 = (0, 0, 0, -1) := by
    simp [unF, goodB, ofBoolF, noneR, h1]
  rw [hr]
  show Calls _ _ _ _ (Vi w 0 0 0 (-1))
  clear hr h0 h1 h2 h3
  go_enter Try.func11, Try.ntmps11
  obtain ⟨a0, a1, a2⟩ := VA.out.all.2
  go_wp2_with fail
  refine (HF _).mono ?_
  rintro e w1 ⟨rfl, hb⟩
  clear a0 a1 a2
  replace VA := hide (VA.out.al hb)
  replace V1 := hide (V1.out.al hb)
  replace B1 := hide (bel_trans B1.out hb)
  clear hb HF
  obtain ⟨a0, a1, a2⟩ := VA.out.all.2
  obtain ⟨⟨f0, f1, f2⟩, c0, c1, c2⟩ := V1.out.all
  go_wp2_with fail
  exact ret_vi (w.heap.size + 1) rfl rfl rfl (V1.out.set _ _ _) rfl (Vi.mk ⟨rfl, rfl, rfl, rfl⟩ (bel_set B1.out (by omega) _ _ _))
set_option maxRecDepth 20000 in
set_option maxHeartbeats 2000000 in
theorem runary_no (op : ByteArray) (t n b : Int) (hg : goodB t n b = false) (w : World) : Calls Try.prog 11 #[.string op, .agg #[.int .i64 t, .int .i64 n, .int .u64 b]] w (Vi4 w (unF op.toList t n b)) := by
  have cf := callFrom
  have cb := callBits
  have VA := hide ((Val.new w t n b).al (bel_new (w.alloc (.cells #[.int .i64 t, .int .i64 n, .int .u64 b] 24)) (.cells #[.int .i64 0, .int .i64 0, .int .u64 0] 24)))
  have V1 := Val.new (w.alloc (.cells #[.int .i64 t, .int .i64 n, .int .u64 b] 24)) 0 0 0
  rw [show (w.alloc (.cells #[.int .i64 t, .int .i64 n, .int .u64 b] 24)).heap.size = w.heap.size + 1 by simp] at V1
  replace V1 := hide V1
  have B1 := hide (bel_al (bel_new w (.cells #[.int .i64 t, .int .i64 n, .int .u64 b] 24)) (.cells #[.int .i64 0, .int .i64 0, .int .u64 0] 24))
  have HF := fun w => form_any t n b w
  rw [hg] at HF
  have hr : unF op.toList t n b = (0, 0, 0, -1) := by simp [unF, hg, noneR]
  rw [hr]
  show Calls _ _ _ _ (Vi w 0 0 0 (-1))
  clear hr hg
  go_enter Try.func11, Try.ntmps11
  obtain ⟨a0, a1, a2⟩ := VA.out.all.2
  go_wp2_with fail
  refine (HF _).mono ?_
  rintro e w1 ⟨rfl, hb⟩
  clear a0 a1 a2
  replace VA := hide (VA.out.al hb)
  replace V1 := hide (V1.out.al hb)
  replace B1 := hide (bel_trans B1.out hb)
  clear hb HF
  obtain ⟨a0, a1, a2⟩ := VA.out.all.2
  obtain ⟨⟨f0, f1, f2⟩, c0, c1, c2⟩ := V1.out.all
  go_wp2_with fail
  exact ret_vi (w.heap.size + 1) rfl rfl rfl (V1.out.set _ _ _) rfl (Vi.mk ⟨rfl, rfl, rfl, rfl⟩ (bel_set B1.out (by omega) _ _ _))
theorem good_cases {t n b : Int} (h : goodB t n b = true) : (t = 1 ∧ b = 0) ∨ (t = 2 ∧ n = 0) ∨ (t = 3 ∧ n = 0 ∧ b = 0) ∨ (t = 3 ∧ n = 1 ∧ b = 0) := by
  simp [goodB] at h
  omega
theorem runary_any (op : ByteArray) (t n b : Int) (hb : 0 ≤ b ∧ b ≤ 18446744073709551615) (w : World) : Calls Try.prog 11 #[.string op, .agg #[.int .i64 t, .int .i64 n, .int .u64 b]] w (Vi4 w (unF op.toList t n b)) := by
  cases hg : goodB t n b
  · exact runary_no op t n b hg w
  · rcases good_cases hg with ⟨rfl, rfl⟩ | ⟨rfl, rfl⟩ | ⟨rfl, rfl, rfl⟩ | ⟨rfl, rfl, rfl⟩
    · exact runary_1 op n w
    · obtain ⟨u, rfl⟩ : ∃ u : Nat, b = (u : Int) := ⟨b.toNat, by omega⟩
      exact runary_2 op u (by omega) w
    · exact runary_30 op w
    · exact runary_31 op w
end Go.Proofs.Ytmdfciiejenpnaa.Ck
