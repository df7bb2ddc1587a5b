/- Package value: binary operators. (Written by mk_v.py.) -/
import Derived.Test.YtmdfciiejenpnaaV5
namespace Go.Proofs.Ytmdfciiejenpnaa.Ck
open Go.RowKit

def divF (op : List UInt8) (a b : Int) : Int × Int × Int × Int := if b = 0 then (0, 0, 0, 1) else if op = [47] then (1, wrap64 (a.tdiv b), 0, 0) else (1, a.tmod b, 0, 0)
def ofIntsF (op : List UInt8) (a b : Int) : Int × Int × Int × Int :=
  if op = [43] then (1, wrap64 (a + b), 0, 0) else if op = [45] then (1, wrap64 (a - b), 0, 0) else if op = [42] then (1, wrap64 (a * b), 0, 0) else if op = [47] then divF op a b else if op = [37] then divF op a b
  else compareF op (decide (a < b)) (decide (a ≤ b)) (decide (a > b)) (decide (a ≥ b)) (a == b)
/-- what comes of an operation on floats -/
def outR (o : BinOp) (u v : Nat) : Nat := match floatBits o .f64 u v with | some r => outU r | none => 9221120237041090561
def ofFloatsF (op : List UInt8) (u v : Nat) : Int × Int × Int × Int :=
  if op = [43] then (2, 0, (outR .add u v : Nat), 0) else if op = [45] then (2, 0, (outR .sub u v : Nat), 0) else if op = [42] then (2, 0, (outR .mul u v : Nat), 0) else if op = [47] then (2, 0, (outR .quo u v : Nat), 0)
  else compareF op (ltF u v) (ltF u v || eqF u v) (gtF u v) (gtF u v || eqF u v) (eqF u v)
def ofBoolsF (op : List UInt8) (a b : Bool) : Int × Int × Int × Int := if op = [38, 38] then tr (a && b) else if op = [124, 124] then tr (a || b) else matchF op (a == b)

theorem nan_cut (t : Nat) : nanB ((t % 2) * 2 ^ 63 + 0x7ff0000000000000 + 1 + (t / 2) % (2 ^ 52 - 1)) = true := by
  unfold nanB
  apply decide_eq_true
  have h1 : (t / 2) % (2 ^ 52 - 1) < 4503599627370495 := Nat.mod_lt _ (by decide)
  generalize (t / 2) % (2 ^ 52 - 1) = x at *
  rcases Nat.mod_two_eq_zero_or_one t with h | h <;> rw [h] <;> omega
theorem arith_run (o : BinOp) (ho : o = .add ∨ o = .sub ∨ o = .mul ∨ o = .quo) (t : TypeId) (u v : Nat) (w : World) :
    ∃ r w', (binOp o t (.float .f64 u) (.float .f64 v)).run Try.prog w = .ok (.float .f64 r) w' ∧ (w' = w ∨ w' = w.drew) ∧ outU r = outR o u v := by
  cases h : floatBits o .f64 u v with
  | some r => exact ⟨r, w, run_float_arith w o t .f64 u v r h, .inl rfl, by rw [outR, h]⟩
  | none =>
    refine ⟨(Question.nanBits .f64 u v).cut (w.tape w.drawn (.nanBits .f64 u v)), w.drew, ?_, .inr rfl, ?_⟩
    · unfold floatBits at h
      rcases ho with rfl | rfl | rfl | rfl <;> simp only at h <;> simp [binOp, Op.floatArith, h, Question.forced]
    · rw [outR, h, outU]
      have := nan_cut (w.tape w.drawn (.nanBits .f64 u v))
      unfold Question.cut
      rw [if_pos this]

set_option maxRecDepth 20000 in
set_option maxHeartbeats 1000000 in
theorem divide_any (op : ByteArray) (a b : Int) (w : World) : Calls Try.prog 39 #[.string op, .int .i64 a, .int .i64 b] w (Vi4 w (divF op.toList a b)) := by
  have V1 := hide (Val.new w 0 0 0)
  have B1 := hide (bel_new w (.cells #[.int .i64 0, .int .i64 0, .int .u64 0] 24))
  unfold divF
  by_cases h0 : b = 0
  · rw [if_pos h0]
    subst h0
    show Calls _ _ _ _ (Vi w 0 0 0 1)
    go_enter Try.func39, Try.ntmps39
    go_wp2_with fail
    exact ret_vi w.heap.size rfl rfl rfl (Val.new w _ _ _) rfl (Vi.mk ⟨rfl, rfl, rfl, rfl⟩ B1.out)
  rw [if_neg h0]
  by_cases h1 : op.toList = [47]
  · rw [if_pos h1]
    show Calls _ _ _ _ (Vi w 1 _ 0 0)
    go_enter Try.func39, Try.ntmps39
    go_wp2_with fail
    refine (int_any _ _).mono ?_
    rintro e w2 ⟨rfl, hb⟩
    have V2 := V1.out.al hb
    have B2 := hide (bel_trans B1.out hb)
    obtain ⟨⟨f0, f1, f2⟩, c0, c1, c2⟩ := V2.all
    replace V2 := hide V2
    clear hb
    go_wp2_with fail
    exact ret_vi w.heap.size rfl rfl rfl (V2.out.set _ _ _) rfl (Vi.mk ⟨rfl, rfl, rfl, rfl⟩ (bel_set B2.out (by omega) _ _ _))
  rw [if_neg h1]
  have d1 : (op.toList == [47]) = false := by simpa using h1
  clear h1
  show Calls _ _ _ _ (Vi w 1 _ 0 0)
  go_enter Try.func39, Try.ntmps39
  go_wp2_with fail
  refine (int_any _ _).mono ?_
  rintro e w2 ⟨rfl, hb⟩
  have V2 := V1.out.al hb
  have B2 := hide (bel_trans B1.out hb)
  obtain ⟨⟨f0, f1, f2⟩, c0, c1, c2⟩ := V2.all
  replace V2 := hide V2
  clear hb
  go_wp2_with fail
  exact ret_vi w.heap.size rfl rfl rfl (V2.out.set _ _ _) rfl (Vi.mk ⟨rfl, rfl, rfl, rfl⟩ (bel_set B2.out (by omega) _ _ _))
set_option maxRecDepth 20000 in
set_option maxHeartbeats 1000000 in
theorem ofInts_any (op : ByteArray) (a b : Int) (w : World) : Calls Try.prog 33 #[.string op, .int .i64 a, .int .i64 b] w (Vi4 w (ofIntsF op.toList a b)) := by
  have V1 := hide (Val.new w 0 0 0)
  have B1 := hide (bel_new w (.cells #[.int .i64 0, .int .i64 0, .int .u64 0] 24))
  unfold ofIntsF
  by_cases h1 : op.toList = [43]
  · rw [if_pos h1]
    show Calls _ _ _ _ (Vi w 1 _ 0 0)
    go_enter Try.func33, Try.ntmps33
    go_wp2_with fail
    refine (int_any _ _).mono ?_
    rintro e w2 ⟨rfl, hb⟩
    have V2 := V1.out.al hb
    have B2 := hide (bel_trans B1.out hb)
    obtain ⟨⟨f0, f1, f2⟩, c0, c1, c2⟩ := V2.all
    replace V2 := hide V2
    clear hb
    go_wp2_with fail
    exact ret_vi w.heap.size rfl rfl rfl (V2.out.set _ _ _) rfl (Vi.mk ⟨rfl, rfl, rfl, rfl⟩ (bel_set B2.out (by omega) _ _ _))
  rw [if_neg h1]
  have d1 : (op.toList == [43]) = false := by simpa using h1
  clear h1
  by_cases h2 : op.toList = [45]
  · rw [if_pos h2]
    show Calls _ _ _ _ (Vi w 1 _ 0 0)
    go_enter Try.func33, Try.ntmps33
    go_wp2_with fail
    refine (int_any _ _).mono ?_
    rintro e w2 ⟨rfl, hb⟩
    have V2 := V1.out.al hb
    have B2 := hide (bel_trans B1.out hb)
    obtain ⟨⟨f0, f1, f2⟩, c0, c1, c2⟩ := V2.all
    replace V2 := hide V2
    clear hb
    go_wp2_with fail
    exact ret_vi w.heap.size rfl rfl rfl (V2.out.set _ _ _) rfl (Vi.mk ⟨rfl, rfl, rfl, rfl⟩ (bel_set B2.out (by omega) _ _ _))
  rw [if_neg h2]
  have d2 : (op.toList == [45]) = false := by simpa using h2
  clear h2
  by_cases h3 : op.toList = [42]
  · rw [if_pos h3]
    show Calls _ _ _ _ (Vi w 1 _ 0 0)
    go_enter Try.func33, Try.ntmps33
    go_wp2_with fail
    refine (int_any _ _).mono ?_
    rintro e w2 ⟨rfl, hb⟩
    have V2 := V1.out.al hb
    have B2 := hide (bel_trans B1.out hb)
    obtain ⟨⟨f0, f1, f2⟩, c0, c1, c2⟩ := V2.all
    replace V2 := hide V2
    clear hb
    go_wp2_with fail
    exact ret_vi w.heap.size rfl rfl rfl (V2.out.set _ _ _) rfl (Vi.mk ⟨rfl, rfl, rfl, rfl⟩ (bel_set B2.out (by omega) _ _ _))
  rw [if_neg h3]
  have d3 : (op.toList == [42]) = false := by simpa using h3
  clear h3
  by_cases h4 : op.toList = [47]
  · rw [if_pos h4]
    have HM := fun w => divide_any op a b w
    obtain ⟨⟨t1, n1, b1, k1⟩, hr⟩ : ∃ r, divF op.toList a b = r := ⟨_, rfl⟩
    rw [hr] at HM ⊢
    show Calls _ _ _ _ (Vi w t1 n1 b1 k1)
    clear hr
    go_enter Try.func33, Try.ntmps33
    go_wp2_with fail
    refine (HM _).mono ?_
    rintro e w2 ⟨rfl, hb⟩
    have V2 := V1.out.al hb
    have B2 := hide (bel_trans B1.out hb)
    obtain ⟨⟨f0, f1, f2⟩, c0, c1, c2⟩ := V2.all
    replace V2 := hide V2
    clear hb
    go_wp2_with fail
    exact ret_vi w.heap.size rfl rfl rfl (V2.out.set _ _ _) rfl (Vi.mk ⟨rfl, rfl, rfl, rfl⟩ (bel_set B2.out (by omega) _ _ _))
  rw [if_neg h4]
  have d4 : (op.toList == [47]) = false := by simpa using h4
  clear h4
  by_cases h5 : op.toList = [37]
  · rw [if_pos h5]
    have HM := fun w => divide_any op a b w
    obtain ⟨⟨t1, n1, b1, k1⟩, hr⟩ : ∃ r, divF op.toList a b = r := ⟨_, rfl⟩
    rw [hr] at HM ⊢
    show Calls _ _ _ _ (Vi w t1 n1 b1 k1)
    clear hr
    go_enter Try.func33, Try.ntmps33
    go_wp2_with fail
    refine (HM _).mono ?_
    rintro e w2 ⟨rfl, hb⟩
    have V2 := V1.out.al hb
    have B2 := hide (bel_trans B1.out hb)
    obtain ⟨⟨f0, f1, f2⟩, c0, c1, c2⟩ := V2.all
    replace V2 := hide V2
    clear hb
    go_wp2_with fail
    exact ret_vi w.heap.size rfl rfl rfl (V2.out.set _ _ _) rfl (Vi.mk ⟨rfl, rfl, rfl, rfl⟩ (bel_set B2.out (by omega) _ _ _))
  rw [if_neg h5]
  have d5 : (op.toList == [37]) = false := by simpa using h5
  clear h5
  have HM := fun w => compare_int op a b w
  obtain ⟨⟨t1, n1, b1, k1⟩, hr⟩ : ∃ r, compareF op.toList (decide (a < b)) (decide (a ≤ b)) (decide (a > b)) (decide (a ≥ b)) (a == b) = r := ⟨_, rfl⟩
  rw [hr] at HM ⊢
  show Calls _ _ _ _ (Vi w t1 n1 b1 k1)
  clear hr
  go_enter Try.func33, Try.ntmps33
  go_wp2_with fail
  refine (HM _).mono ?_
  rintro e w2 ⟨rfl, hb⟩
  have V2 := V1.out.al hb
  have B2 := hide (bel_trans B1.out hb)
  obtain ⟨⟨f0, f1, f2⟩, c0, c1, c2⟩ := V2.all
  replace V2 := hide V2
  clear hb
  go_wp2_with fail
  exact ret_vi w.heap.size rfl rfl rfl (V2.out.set _ _ _) rfl (Vi.mk ⟨rfl, rfl, rfl, rfl⟩ (bel_set B2.out (by omega) _ _ _))
set_option maxRecDepth 20000 in
set_option maxHeartbeats 1000000 in
theorem ofFloats_any (op : ByteArray) (a b : Nat) (w : World) : Calls Try.prog 34 #[.string op, .float .f64 a, .float .f64 b] w (Vi4 w (ofFloatsF op.toList a b)) := by
  have V1 := hide (Val.new w 0 0 0)
  have B1 := hide (bel_new w (.cells #[.int .i64 0, .int .i64 0, .int .u64 0] 24))
  unfold ofFloatsF
  by_cases h1 : op.toList = [43]
  · rw [if_pos h1]
    obtain ⟨r, w1, hrun, hw, ho⟩ := arith_run .add (by simp) 33 a b (w.alloc (.cells #[.int .i64 0, .int .i64 0, .int .u64 0] 24))
    rw [← ho]
    replace V1 : Hid (Val w1 w.heap.size 0 0 0) := by
      rcases hw with rfl | rfl
      · exact V1.out
      · exact hide V1.out.drew
    replace B1 : Hid (Below w.heap.size w w1) := by
      rcases hw with rfl | rfl
      · exact B1.out
      · exact hide (bel_drawn B1.out)
    clear hw ho
    show Calls _ _ _ _ (Vi w 2 0 _ 0)
    go_enter Try.func34, Try.ntmps34
    go_wp2_with fail
    refine (outcome_any _ _).mono ?_
    rintro e w2 ⟨rfl, hb⟩
    have V2 := V1.out.al hb
    have B2 := hide (bel_trans B1.out hb)
    obtain ⟨⟨f0, f1, f2⟩, c0, c1, c2⟩ := V2.all
    replace V2 := hide V2
    clear hb
    go_wp2_with fail
    exact ret_vi w.heap.size rfl rfl rfl (V2.out.set _ _ _) rfl (Vi.mk ⟨rfl, rfl, rfl, rfl⟩ (bel_set B2.out (by omega) _ _ _))
  rw [if_neg h1]
  have d1 : (op.toList == [43]) = false := by simpa using h1
  clear h1
  by_cases h2 : op.toList = [45]
  · rw [if_pos h2]
    obtain ⟨r, w1, hrun, hw, ho⟩ := arith_run .sub (by simp) 33 a b (w.alloc (.cells #[.int .i64 0, .int .i64 0, .int .u64 0] 24))
    rw [← ho]
    replace V1 : Hid (Val w1 w.heap.size 0 0 0) := by
      rcases hw with rfl | rfl
      · exact V1.out
      · exact hide V1.out.drew
    replace B1 : Hid (Below w.heap.size w w1) := by
      rcases hw with rfl | rfl
      · exact B1.out
      · exact hide (bel_drawn B1.out)
    clear hw ho
    show Calls _ _ _ _ (Vi w 2 0 _ 0)
    go_enter Try.func34, Try.ntmps34
    go_wp2_with fail
    refine (outcome_any _ _).mono ?_
    rintro e w2 ⟨rfl, hb⟩
    have V2 := V1.out.al hb
    have B2 := hide (bel_trans B1.out hb)
    obtain ⟨⟨f0, f1, f2⟩, c0, c1, c2⟩ := V2.all
    replace V2 := hide V2
    clear hb
    go_wp2_with fail
    exact ret_vi w.heap.size rfl rfl rfl (V2.out.set _ _ _) rfl (Vi.mk ⟨rfl, rfl, rfl, rfl⟩ (bel_set B2.out (by omega) _ _ _))
  rw [if_neg h2]
  have d2 : (op.toList == [45]) = false := by simpa using h2
  clear h2
  by_cases h3 : op.toList = [42]
  · rw [if_pos h3]
    obtain ⟨r, w1, hrun, hw, ho⟩ := arith_run .mul (by simp) 33 a b (w.alloc (.cells #[.int .i64 0, .int .i64 0, .int .u64 0] 24))
    rw [← ho]
    replace V1 : Hid (Val w1 w.heap.size 0 0 0) := by
      rcases hw with rfl | rfl
      · exact V1.out
      · exact hide V1.out.drew
    replace B1 : Hid (Below w.heap.size w w1) := by
      rcases hw with rfl | rfl
      · exact B1.out
      · exact hide (bel_drawn B1.out)
    clear hw ho
    show Calls _ _ _ _ (Vi w 2 0 _ 0)
    go_enter Try.func34, Try.ntmps34
    go_wp2_with fail
    refine (outcome_any _ _).mono ?_
    rintro e w2 ⟨rfl, hb⟩
    have V2 := V1.out.al hb
    have B2 := hide (bel_trans B1.out hb)
    obtain ⟨⟨f0, f1, f2⟩, c0, c1, c2⟩ := V2.all
    replace V2 := hide V2
    clear hb
    go_wp2_with fail
    exact ret_vi w.heap.size rfl rfl rfl (V2.out.set _ _ _) rfl (Vi.mk ⟨rfl, rfl, rfl, rfl⟩ (bel_set B2.out (by omega) _ _ _))
  rw [if_neg h3]
  have d3 : (op.toList == [42]) = false := by simpa using h3
  clear h3
  by_cases h4 : op.toList = [47]
  · rw [if_pos h4]
    obtain ⟨r, w1, hrun, hw, ho⟩ := arith_run .quo (by simp) 33 a b (w.alloc (.cells #[.int .i64 0, .int .i64 0, .int .u64 0] 24))
    rw [← ho]
    replace V1 : Hid (Val w1 w.heap.size 0 0 0) := by
      rcases hw with rfl | rfl
      · exact V1.out
      · exact hide V1.out.drew
    replace B1 : Hid (Below w.heap.size w w1) := by
      rcases hw with rfl | rfl
      · exact B1.out
      · exact hide (bel_drawn B1.out)
    clear hw ho
    show Calls _ _ _ _ (Vi w 2 0 _ 0)
    go_enter Try.func34, Try.ntmps34
    go_wp2_with fail
    refine (outcome_any _ _).mono ?_
    rintro e w2 ⟨rfl, hb⟩
    have V2 := V1.out.al hb
    have B2 := hide (bel_trans B1.out hb)
    obtain ⟨⟨f0, f1, f2⟩, c0, c1, c2⟩ := V2.all
    replace V2 := hide V2
    clear hb
    go_wp2_with fail
    exact ret_vi w.heap.size rfl rfl rfl (V2.out.set _ _ _) rfl (Vi.mk ⟨rfl, rfl, rfl, rfl⟩ (bel_set B2.out (by omega) _ _ _))
  rw [if_neg h4]
  have d4 : (op.toList == [47]) = false := by simpa using h4
  clear h4
  have HM := fun w => compare_float64 op a b w
  obtain ⟨⟨t1, n1, b1, k1⟩, hr⟩ : ∃ r, compareF op.toList (ltF a b) (ltF a b || eqF a b) (gtF a b) (gtF a b || eqF a b) (eqF a b) = r := ⟨_, rfl⟩
  rw [hr] at HM ⊢
  show Calls _ _ _ _ (Vi w t1 n1 b1 k1)
  clear hr
  go_enter Try.func34, Try.ntmps34
  go_wp2_with fail
  refine (HM _).mono ?_
  rintro e w2 ⟨rfl, hb⟩
  have V2 := V1.out.al hb
  have B2 := hide (bel_trans B1.out hb)
  obtain ⟨⟨f0, f1, f2⟩, c0, c1, c2⟩ := V2.all
  replace V2 := hide V2
  clear hb
  go_wp2_with fail
  exact ret_vi w.heap.size rfl rfl rfl (V2.out.set _ _ _) rfl (Vi.mk ⟨rfl, rfl, rfl, rfl⟩ (bel_set B2.out (by omega) _ _ _))
set_option maxRecDepth 20000 in
set_option maxHeartbeats 1000000 in
theorem ofBools_any (op : ByteArray) (a b : Bool) (w : World) : Calls Try.prog 35 #[.string op, .bool a, .bool b] w (Vi4 w (ofBoolsF op.toList a b)) := by
  have V1 := hide (Val.new w 0 0 0)
  have B1 := hide (bel_new w (.cells #[.int .i64 0, .int .i64 0, .int .u64 0] 24))
  unfold ofBoolsF
  by_cases h1 : op.toList = [38, 38]
  · rw [if_pos h1]
    show Calls _ _ _ _ (Vi w 3 _ 0 0)
    cases a
    all_goals
      go_enter Try.func35, Try.ntmps35
      go_wp2_with fail
      refine (bool_any _ _).mono ?_
      rintro e w2 ⟨rfl, hb⟩
      have V2 := V1.out.al hb
      have B2 := hide (bel_trans B1.out hb)
      obtain ⟨⟨f0, f1, f2⟩, c0, c1, c2⟩ := V2.all
      replace V2 := hide V2
      clear hb
      go_wp2_with fail
      exact ret_vi w.heap.size rfl rfl rfl (V2.out.set _ _ _) rfl (Vi.mk ⟨rfl, rfl, rfl, rfl⟩ (bel_set B2.out (by omega) _ _ _))
  rw [if_neg h1]
  have d1 : (op.toList == [38, 38]) = false := by simpa using h1
  clear h1
  by_cases h2 : op.toList = [124, 124]
  · rw [if_pos h2]
    show Calls _ _ _ _ (Vi w 3 _ 0 0)
    cases a
    all_goals
      go_enter Try.func35, Try.ntmps35
      go_wp2_with fail
      refine (bool_any _ _).mono ?_
      rintro e w2 ⟨rfl, hb⟩
      have V2 := V1.out.al hb
      have B2 := hide (bel_trans B1.out hb)
      obtain ⟨⟨f0, f1, f2⟩, c0, c1, c2⟩ := V2.all
      replace V2 := hide V2
      clear hb
      go_wp2_with fail
      exact ret_vi w.heap.size rfl rfl rfl (V2.out.set _ _ _) rfl (Vi.mk ⟨rfl, rfl, rfl, rfl⟩ (bel_set B2.out (by omega) _ _ _))
  rw [if_neg h2]
  have d2 : (op.toList == [124, 124]) = false := by simpa using h2
  clear h2
  have HM := fun w => match_bool op a b w
  obtain ⟨⟨t1, n1, b1, k1⟩, hr⟩ : ∃ r, matchF op.toList (a == b) = r := ⟨_, rfl⟩
  rw [hr] at HM ⊢
  show Calls _ _ _ _ (Vi w t1 n1 b1 k1)
  clear hr
  go_enter Try.func35, Try.ntmps35
  go_wp2_with fail
  refine (HM _).mono ?_
  rintro e w2 ⟨rfl, hb⟩
  have V2 := V1.out.al hb
  have B2 := hide (bel_trans B1.out hb)
  obtain ⟨⟨f0, f1, f2⟩, c0, c1, c2⟩ := V2.all
  replace V2 := hide V2
  clear hb
  go_wp2_with fail
  exact ret_vi w.heap.size rfl rfl rfl (V2.out.set _ _ _) rfl (Vi.mk ⟨rfl, rfl, rfl, rfl⟩ (bel_set B2.out (by omega) _ _ _))
end Go.Proofs.Ytmdfciiejenpnaa.Ck
