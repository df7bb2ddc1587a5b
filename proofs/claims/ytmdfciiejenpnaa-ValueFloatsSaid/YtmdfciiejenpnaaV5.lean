/- Package value: comparing. (Written by mk_v.py.) -/
import Derived.Test.YtmdfciiejenpnaaV4
namespace Go.Proofs.Ytmdfciiejenpnaa.Ck
open Go.RowKit

def tr (b : Bool) : Int × Int × Int × Int := (3, b.toInt, 0, 0)
def matchF (op : List UInt8) (eq : Bool) : Int × Int × Int × Int := if op = [61, 61] then tr eq else if op = [33, 61] then tr (!eq) else noneR
def compareF (op : List UInt8) (lt le gt ge eq : Bool) : Int × Int × Int × Int :=
  if op = [60] then tr lt else if op = [60, 61] then tr le else if op = [62] then tr gt else if op = [62, 61] then tr ge else matchF op eq
def eqF (u v : Nat) : Bool := FloatKind.f64.format.order u v == some .eq
def ltF (u v : Nat) : Bool := FloatKind.f64.format.order u v == some .lt
def gtF (u v : Nat) : Bool := FloatKind.f64.format.order u v == some .gt

set_option maxRecDepth 20000 in
set_option maxHeartbeats 1000000 in
theorem match_int (op : ByteArray) (a b : Int) (w : World) : Calls Try.prog 44 #[.string op, .int .i64 a, .int .i64 b] w (Vi4 w (matchF op.toList (a == b))) := by
  have V1 := hide (Val.new w 0 0 0)
  have B1 := hide (bel_new w (.cells #[.int .i64 0, .int .i64 0, .int .u64 0] 24))
  unfold matchF
  by_cases h1 : op.toList = [61, 61]
  · rw [if_pos h1]
    show Calls _ _ _ _ (Vi w 3 _ 0 0)
    go_enter Try.func44, Try.ntmps44
    go_wp2_with fail
    refine (bool_any _ _).mono ?_
    rintro e w2 ⟨rfl, hb⟩
    have V2 := V1.out.al hb
    have B2 := hide (bel_trans B1.out hb)
    obtain ⟨⟨f0, f1, f2⟩, c0, c1, c2⟩ := V2.all
    replace V2 := hide V2
    clear hb
    go_wp2_with fail
    exact ret_vi w.heap.size rfl rfl rfl (V2.out.set _ _ _) rfl (Vi.mk ⟨rfl, rfl, rfl, rfl⟩ (bel_set B2.out (by omega) _ _ _))
  rw [if_neg h1]
  have d1 : (op.toList == [61, 61]) = false := by simpa using h1
  clear h1
  by_cases h2 : op.toList = [33, 61]
  · rw [if_pos h2]
    show Calls _ _ _ _ (Vi w 3 _ 0 0)
    go_enter Try.func44, Try.ntmps44
    go_wp2_with fail
    refine (bool_any _ _).mono ?_
    rintro e w2 ⟨rfl, hb⟩
    have V2 := V1.out.al hb
    have B2 := hide (bel_trans B1.out hb)
    obtain ⟨⟨f0, f1, f2⟩, c0, c1, c2⟩ := V2.all
    replace V2 := hide V2
    clear hb
    go_wp2_with fail
    exact ret_vi w.heap.size rfl rfl rfl (V2.out.set _ _ _) rfl (Vi.mk ⟨rfl, rfl, rfl, rfl⟩ (bel_set B2.out (by omega) _ _ _))
  rw [if_neg h2]
  have d2 : (op.toList == [33, 61]) = false := by simpa using h2
  clear h2
  show Calls _ _ _ _ (Vi w 0 0 0 (-1))
  go_enter Try.func44, Try.ntmps44
  go_wp2_with fail
  exact ret_vi w.heap.size rfl rfl rfl (Val.new w _ _ _) rfl (Vi.mk ⟨rfl, rfl, rfl, rfl⟩ B1.out)
set_option maxRecDepth 20000 in
set_option maxHeartbeats 1000000 in
theorem match_float64 (op : ByteArray) (a b : Nat) (w : World) : Calls Try.prog 45 #[.string op, .float .f64 a, .float .f64 b] w (Vi4 w (matchF op.toList (eqF a b))) := by
  have V1 := hide (Val.new w 0 0 0)
  have B1 := hide (bel_new w (.cells #[.int .i64 0, .int .i64 0, .int .u64 0] 24))
  unfold matchF
  by_cases h1 : op.toList = [61, 61]
  · rw [if_pos h1]
    unfold eqF
    show Calls _ _ _ _ (Vi w 3 _ 0 0)
    go_enter Try.func45, Try.ntmps45
    go_wp2_with fail
    refine (bool_any _ _).mono ?_
    rintro e w2 ⟨rfl, hb⟩
    have V2 := V1.out.al hb
    have B2 := hide (bel_trans B1.out hb)
    obtain ⟨⟨f0, f1, f2⟩, c0, c1, c2⟩ := V2.all
    replace V2 := hide V2
    clear hb
    go_wp2_with fail
    exact ret_vi w.heap.size rfl rfl rfl (V2.out.set _ _ _) rfl (Vi.mk ⟨rfl, rfl, rfl, rfl⟩ (bel_set B2.out (by omega) _ _ _))
  rw [if_neg h1]
  have d1 : (op.toList == [61, 61]) = false := by simpa using h1
  clear h1
  by_cases h2 : op.toList = [33, 61]
  · rw [if_pos h2]
    unfold eqF
    show Calls _ _ _ _ (Vi w 3 _ 0 0)
    go_enter Try.func45, Try.ntmps45
    go_wp2_with fail
    refine (bool_any _ _).mono ?_
    rintro e w2 ⟨rfl, hb⟩
    have V2 := V1.out.al hb
    have B2 := hide (bel_trans B1.out hb)
    obtain ⟨⟨f0, f1, f2⟩, c0, c1, c2⟩ := V2.all
    replace V2 := hide V2
    clear hb
    go_wp2_with fail
    exact ret_vi w.heap.size rfl rfl rfl (V2.out.set _ _ _) rfl (Vi.mk ⟨rfl, rfl, rfl, rfl⟩ (bel_set B2.out (by omega) _ _ _))
  rw [if_neg h2]
  have d2 : (op.toList == [33, 61]) = false := by simpa using h2
  clear h2
  show Calls _ _ _ _ (Vi w 0 0 0 (-1))
  go_enter Try.func45, Try.ntmps45
  go_wp2_with fail
  exact ret_vi w.heap.size rfl rfl rfl (Val.new w _ _ _) rfl (Vi.mk ⟨rfl, rfl, rfl, rfl⟩ B1.out)
set_option maxRecDepth 20000 in
set_option maxHeartbeats 1000000 in
theorem match_bool (op : ByteArray) (a b : Bool) (w : World) : Calls Try.prog 42 #[.string op, .bool a, .bool b] w (Vi4 w (matchF op.toList (a == b))) := by
  have V1 := hide (Val.new w 0 0 0)
  have B1 := hide (bel_new w (.cells #[.int .i64 0, .int .i64 0, .int .u64 0] 24))
  unfold matchF
  by_cases h1 : op.toList = [61, 61]
  · rw [if_pos h1]
    show Calls _ _ _ _ (Vi w 3 _ 0 0)
    go_enter Try.func42, Try.ntmps42
    go_wp2_with fail
    refine (bool_any _ _).mono ?_
    rintro e w2 ⟨rfl, hb⟩
    have V2 := V1.out.al hb
    have B2 := hide (bel_trans B1.out hb)
    obtain ⟨⟨f0, f1, f2⟩, c0, c1, c2⟩ := V2.all
    replace V2 := hide V2
    clear hb
    go_wp2_with fail
    exact ret_vi w.heap.size rfl rfl rfl (V2.out.set _ _ _) rfl (Vi.mk ⟨rfl, rfl, rfl, rfl⟩ (bel_set B2.out (by omega) _ _ _))
  rw [if_neg h1]
  have d1 : (op.toList == [61, 61]) = false := by simpa using h1
  clear h1
  by_cases h2 : op.toList = [33, 61]
  · rw [if_pos h2]
    show Calls _ _ _ _ (Vi w 3 _ 0 0)
    go_enter Try.func42, Try.ntmps42
    go_wp2_with fail
    refine (bool_any _ _).mono ?_
    rintro e w2 ⟨rfl, hb⟩
    have V2 := V1.out.al hb
    have B2 := hide (bel_trans B1.out hb)
    obtain ⟨⟨f0, f1, f2⟩, c0, c1, c2⟩ := V2.all
    replace V2 := hide V2
    clear hb
    go_wp2_with fail
    exact ret_vi w.heap.size rfl rfl rfl (V2.out.set _ _ _) rfl (Vi.mk ⟨rfl, rfl, rfl, rfl⟩ (bel_set B2.out (by omega) _ _ _))
  rw [if_neg h2]
  have d2 : (op.toList == [33, 61]) = false := by simpa using h2
  clear h2
  show Calls _ _ _ _ (Vi w 0 0 0 (-1))
  go_enter Try.func42, Try.ntmps42
  go_wp2_with fail
  exact ret_vi w.heap.size rfl rfl rfl (Val.new w _ _ _) rfl (Vi.mk ⟨rfl, rfl, rfl, rfl⟩ B1.out)
set_option maxRecDepth 20000 in
set_option maxHeartbeats 1000000 in
theorem compare_int (op : ByteArray) (a b : Int) (w : World) : Calls Try.prog 40 #[.string op, .int .i64 a, .int .i64 b] w (Vi4 w (compareF op.toList (decide (a < b)) (decide (a ≤ b)) (decide (a > b)) (decide (a ≥ b)) (a == b))) := by
  have V1 := hide (Val.new w 0 0 0)
  have B1 := hide (bel_new w (.cells #[.int .i64 0, .int .i64 0, .int .u64 0] 24))
  unfold compareF
  by_cases h1 : op.toList = [60]
  · rw [if_pos h1]
    show Calls _ _ _ _ (Vi w 3 _ 0 0)
    go_enter Try.func40, Try.ntmps40
    go_wp2_with fail
    refine (bool_any _ _).mono ?_
    rintro e w2 ⟨rfl, hb⟩
    have V2 := V1.out.al hb
    have B2 := hide (bel_trans B1.out hb)
    obtain ⟨⟨f0, f1, f2⟩, c0, c1, c2⟩ := V2.all
    replace V2 := hide V2
    clear hb
    go_wp2_with fail
    exact ret_vi w.heap.size rfl rfl rfl (V2.out.set _ _ _) rfl (Vi.mk ⟨rfl, rfl, rfl, rfl⟩ (bel_set B2.out (by omega) _ _ _))
  rw [if_neg h1]
  have d1 : (op.toList == [60]) = false := by simpa using h1
  clear h1
  by_cases h2 : op.toList = [60, 61]
  · rw [if_pos h2]
    show Calls _ _ _ _ (Vi w 3 _ 0 0)
    go_enter Try.func40, Try.ntmps40
    go_wp2_with fail
    refine (bool_any _ _).mono ?_
    rintro e w2 ⟨rfl, hb⟩
    have V2 := V1.out.al hb
    have B2 := hide (bel_trans B1.out hb)
    obtain ⟨⟨f0, f1, f2⟩, c0, c1, c2⟩ := V2.all
    replace V2 := hide V2
    clear hb
    go_wp2_with fail
    exact ret_vi w.heap.size rfl rfl rfl (V2.out.set _ _ _) rfl (Vi.mk ⟨rfl, rfl, rfl, rfl⟩ (bel_set B2.out (by omega) _ _ _))
  rw [if_neg h2]
  have d2 : (op.toList == [60, 61]) = false := by simpa using h2
  clear h2
  by_cases h3 : op.toList = [62]
  · rw [if_pos h3]
    show Calls _ _ _ _ (Vi w 3 _ 0 0)
    go_enter Try.func40, Try.ntmps40
    go_wp2_with fail
    refine (bool_any _ _).mono ?_
    rintro e w2 ⟨rfl, hb⟩
    have V2 := V1.out.al hb
    have B2 := hide (bel_trans B1.out hb)
    obtain ⟨⟨f0, f1, f2⟩, c0, c1, c2⟩ := V2.all
    replace V2 := hide V2
    clear hb
    go_wp2_with fail
    exact ret_vi w.heap.size rfl rfl rfl (V2.out.set _ _ _) rfl (Vi.mk ⟨rfl, rfl, rfl, rfl⟩ (bel_set B2.out (by omega) _ _ _))
  rw [if_neg h3]
  have d3 : (op.toList == [62]) = false := by simpa using h3
  clear h3
  by_cases h4 : op.toList = [62, 61]
  · rw [if_pos h4]
    show Calls _ _ _ _ (Vi w 3 _ 0 0)
    go_enter Try.func40, Try.ntmps40
    go_wp2_with fail
    refine (bool_any _ _).mono ?_
    rintro e w2 ⟨rfl, hb⟩
    have V2 := V1.out.al hb
    have B2 := hide (bel_trans B1.out hb)
    obtain ⟨⟨f0, f1, f2⟩, c0, c1, c2⟩ := V2.all
    replace V2 := hide V2
    clear hb
    go_wp2_with fail
    exact ret_vi w.heap.size rfl rfl rfl (V2.out.set _ _ _) rfl (Vi.mk ⟨rfl, rfl, rfl, rfl⟩ (bel_set B2.out (by omega) _ _ _))
  rw [if_neg h4]
  have d4 : (op.toList == [62, 61]) = false := by simpa using h4
  clear h4
  have HM := fun w => match_int op a b w
  obtain ⟨⟨t1, n1, b1, k1⟩, hr⟩ : ∃ r, matchF op.toList (a == b) = r := ⟨_, rfl⟩
  rw [hr] at HM ⊢
  show Calls _ _ _ _ (Vi w t1 n1 b1 k1)
  clear hr
  go_enter Try.func40, Try.ntmps40
  go_wp2_with fail
  refine (HM _).mono ?_
  rintro e w2 ⟨rfl, hb⟩
  have V2 := V1.out.al hb
  have B2 := hide (bel_trans B1.out hb)
  obtain ⟨⟨f0, f1, f2⟩, c0, c1, c2⟩ := V2.all
  replace V2 := hide V2
  clear hb
  go_wp2_with fail
  exact ret_vi w.heap.size rfl rfl rfl (V2.out.set _ _ _) rfl (Vi.mk ⟨rfl, rfl, rfl, rfl⟩ (bel_set B2.out (by omega) _ _ _))
set_option maxRecDepth 20000 in
set_option maxHeartbeats 1000000 in
theorem compare_float64 (op : ByteArray) (a b : Nat) (w : World) : Calls Try.prog 41 #[.string op, .float .f64 a, .float .f64 b] w (Vi4 w (compareF op.toList (ltF a b) (ltF a b || eqF a b) (gtF a b) (gtF a b || eqF a b) (eqF a b))) := by
  have V1 := hide (Val.new w 0 0 0)
  have B1 := hide (bel_new w (.cells #[.int .i64 0, .int .i64 0, .int .u64 0] 24))
  unfold compareF
  by_cases h1 : op.toList = [60]
  · rw [if_pos h1]
    try unfold eqF
    try unfold ltF
    try unfold gtF
    show Calls _ _ _ _ (Vi w 3 _ 0 0)
    go_enter Try.func41, Try.ntmps41
    go_wp2_with fail
    refine (bool_any _ _).mono ?_
    rintro e w2 ⟨rfl, hb⟩
    have V2 := V1.out.al hb
    have B2 := hide (bel_trans B1.out hb)
    obtain ⟨⟨f0, f1, f2⟩, c0, c1, c2⟩ := V2.all
    replace V2 := hide V2
    clear hb
    go_wp2_with fail
    exact ret_vi w.heap.size rfl rfl rfl (V2.out.set _ _ _) rfl (Vi.mk ⟨rfl, rfl, rfl, rfl⟩ (bel_set B2.out (by omega) _ _ _))
  rw [if_neg h1]
  have d1 : (op.toList == [60]) = false := by simpa using h1
  clear h1
  by_cases h2 : op.toList = [60, 61]
  · rw [if_pos h2]
    try unfold eqF
    try unfold ltF
    try unfold gtF
    show Calls _ _ _ _ (Vi w 3 _ 0 0)
    go_enter Try.func41, Try.ntmps41
    go_wp2_with fail
    refine (bool_any _ _).mono ?_
    rintro e w2 ⟨rfl, hb⟩
    have V2 := V1.out.al hb
    have B2 := hide (bel_trans B1.out hb)
    obtain ⟨⟨f0, f1, f2⟩, c0, c1, c2⟩ := V2.all
    replace V2 := hide V2
    clear hb
    go_wp2_with fail
    exact ret_vi w.heap.size rfl rfl rfl (V2.out.set _ _ _) rfl (Vi.mk ⟨rfl, rfl, rfl, rfl⟩ (bel_set B2.out (by omega) _ _ _))
  rw [if_neg h2]
  have d2 : (op.toList == [60, 61]) = false := by simpa using h2
  clear h2
  by_cases h3 : op.toList = [62]
  · rw [if_pos h3]
    try unfold eqF
    try unfold ltF
    try unfold gtF
    show Calls _ _ _ _ (Vi w 3 _ 0 0)
    go_enter Try.func41, Try.ntmps41
    go_wp2_with fail
    refine (bool_any _ _).mono ?_
    rintro e w2 ⟨rfl, hb⟩
    have V2 := V1.out.al hb
    have B2 := hide (bel_trans B1.out hb)
    obtain ⟨⟨f0, f1, f2⟩, c0, c1, c2⟩ := V2.all
    replace V2 := hide V2
    clear hb
    go_wp2_with fail
    exact ret_vi w.heap.size rfl rfl rfl (V2.out.set _ _ _) rfl (Vi.mk ⟨rfl, rfl, rfl, rfl⟩ (bel_set B2.out (by omega) _ _ _))
  rw [if_neg h3]
  have d3 : (op.toList == [62]) = false := by simpa using h3
  clear h3
  by_cases h4 : op.toList = [62, 61]
  · rw [if_pos h4]
    try unfold eqF
    try unfold ltF
    try unfold gtF
    show Calls _ _ _ _ (Vi w 3 _ 0 0)
    go_enter Try.func41, Try.ntmps41
    go_wp2_with fail
    refine (bool_any _ _).mono ?_
    rintro e w2 ⟨rfl, hb⟩
    have V2 := V1.out.al hb
    have B2 := hide (bel_trans B1.out hb)
    obtain ⟨⟨f0, f1, f2⟩, c0, c1, c2⟩ := V2.all
    replace V2 := hide V2
    clear hb
    go_wp2_with fail
    exact ret_vi w.heap.size rfl rfl rfl (V2.out.set _ _ _) rfl (Vi.mk ⟨rfl, rfl, rfl, rfl⟩ (bel_set B2.out (by omega) _ _ _))
  rw [if_neg h4]
  have d4 : (op.toList == [62, 61]) = false := by simpa using h4
  clear h4
  have HM := fun w => match_float64 op a b w
  obtain ⟨⟨t1, n1, b1, k1⟩, hr⟩ : ∃ r, matchF op.toList (eqF a b) = r := ⟨_, rfl⟩
  rw [hr] at HM ⊢
  show Calls _ _ _ _ (Vi w t1 n1 b1 k1)
  clear hr
  go_enter Try.func41, Try.ntmps41
  go_wp2_with fail
  refine (HM _).mono ?_
  rintro e w2 ⟨rfl, hb⟩
  have V2 := V1.out.al hb
  have B2 := hide (bel_trans B1.out hb)
  obtain ⟨⟨f0, f1, f2⟩, c0, c1, c2⟩ := V2.all
  replace V2 := hide V2
  clear hb
  go_wp2_with fail
  exact ret_vi w.heap.size rfl rfl rfl (V2.out.set _ _ _) rfl (Vi.mk ⟨rfl, rfl, rfl, rfl⟩ (bel_set B2.out (by omega) _ _ _))
end Go.Proofs.Ytmdfciiejenpnaa.Ck
