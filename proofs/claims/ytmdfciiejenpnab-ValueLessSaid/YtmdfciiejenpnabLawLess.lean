/- The walk of the statement ValueLess: it answers true. (Written by mk_l.py.) -/
import Derived.Test.YtmdfciiejenpnabV9
namespace Go.Proofs.Ytmdfciiejenpnab.Ck
open Go.RowKit

theorem bi2 (op : List UInt8) (a b : Int) : binF op 1 a 0 1 b 0 = ofIntsF op a b := by simp [binF, goodB]
theorem bc_lt (x y : Int) : binF (⟨#[60]⟩ : ByteArray).toList 1 x 0 1 y 0 = (3, (decide (x < y)).toInt, 0, 0) := by rw [bi2, show (⟨#[60]⟩ : ByteArray).toList = [60] by decide +kernel]; rfl
theorem bc_le (x y : Int) : binF (⟨#[60, 61]⟩ : ByteArray).toList 1 x 0 1 y 0 = (3, (decide (x ≤ y)).toInt, 0, 0) := by rw [bi2, show (⟨#[60, 61]⟩ : ByteArray).toList = [60, 61] by decide +kernel]; rfl
theorem bc_gt (x y : Int) : binF (⟨#[62]⟩ : ByteArray).toList 1 x 0 1 y 0 = (3, (decide (y < x)).toInt, 0, 0) := by rw [bi2, show (⟨#[62]⟩ : ByteArray).toList = [62] by decide +kernel]; rfl
theorem bc_eq (x y : Int) : binF (⟨#[61, 61]⟩ : ByteArray).toList 1 x 0 1 y 0 = (3, (x == y).toInt, 0, 0) := by rw [bi2, show (⟨#[61, 61]⟩ : ByteArray).toList = [61, 61] by decide +kernel]; rfl
theorem bc_ne (x y : Int) : binF (⟨#[33, 61]⟩ : ByteArray).toList 1 x 0 1 y 0 = (3, (x != y).toInt, 0, 0) := by rw [bi2, show (⟨#[33, 61]⟩ : ByteArray).toList = [33, 61] by decide +kernel]; rfl
set_option maxRecDepth 20000 in
set_option maxHeartbeats 2000000 in
theorem is_any (op : ByteArray) (x y : Int) (r : Bool) (w : World) (h : binF op.toList 1 x 0 1 y 0 = (3, r.toInt, 0, 0)) : Calls Try.prog 10 #[.string op, .int .i64 x, .int .i64 y] w (Vb w (.bool r)) := by
  have H1 := fun w => binary_any op 1 x 0 1 y 0 w
  rw [h] at H1
  clear h
  have ht : ((3 : Int) == 3 && r.toInt == 1) = r := by cases r <;> rfl
  have HT := fun w => true_any 3 r.toInt 0 w
  rw [ht] at HT
  clear ht
  go_enter Try.func10, Try.ntmps10
  go_wp2_with fail
  refine (int_any _ _).mono ?_
  rintro e w1 ⟨rfl, hb⟩
  have B : Hid (Below w.heap.size w w1) := hide (hb)
  clear hb
  go_wp2_with fail
  refine (int_any _ _).mono ?_
  rintro e w2 ⟨rfl, hb⟩
  replace B : Hid (Below w.heap.size w w2) := hide (bel_trans B.out hb)
  clear hb
  go_wp2_with fail
  refine (H1 _).mono ?_
  rintro e w3 ⟨rfl, hb⟩
  replace B : Hid (Below w.heap.size w w3) := hide (bel_trans B.out hb)
  clear hb
  go_wp2_with fail
  refine (HT _).mono ?_
  rintro e w4 ⟨rfl, hb⟩
  have V := hide ((Val.new w3 3 r.toInt 0).al hb)
  replace B : Hid (Below w.heap.size w w4) := hide (bel_trans (bel_al B.out _) hb)
  clear hb
  go_wp2_with fail
  go_ret
  exact Vb.mk (rfl) B.out
theorem is_lt (x y : Int) (w : World) : Calls Try.prog 10 #[.string ⟨#[60]⟩, .int .i64 x, .int .i64 y] w (Vb w (.bool (decide (x < y)))) := is_any ⟨#[60]⟩ x y (decide (x < y)) w (bc_lt x y)
theorem is_le (x y : Int) (w : World) : Calls Try.prog 10 #[.string ⟨#[60, 61]⟩, .int .i64 x, .int .i64 y] w (Vb w (.bool (decide (x ≤ y)))) := is_any ⟨#[60, 61]⟩ x y (decide (x ≤ y)) w (bc_le x y)
theorem is_gt (x y : Int) (w : World) : Calls Try.prog 10 #[.string ⟨#[62]⟩, .int .i64 x, .int .i64 y] w (Vb w (.bool (decide (y < x)))) := is_any ⟨#[62]⟩ x y (decide (y < x)) w (bc_gt x y)
theorem is_eq (x y : Int) (w : World) : Calls Try.prog 10 #[.string ⟨#[61, 61]⟩, .int .i64 x, .int .i64 y] w (Vb w (.bool (x == y))) := is_any ⟨#[61, 61]⟩ x y (x == y) w (bc_eq x y)
theorem is_ne (x y : Int) (w : World) : Calls Try.prog 10 #[.string ⟨#[33, 61]⟩, .int .i64 x, .int .i64 y] w (Vb w (.bool (x != y))) := is_any ⟨#[33, 61]⟩ x y (x != y) w (bc_ne x y)
set_option maxRecDepth 20000 in
set_option maxHeartbeats 2000000 in
theorem less_lt_lt (a b c : Int) (h : a < b ∧ b < c) (w : World) : Calls Try.prog 5 #[.int .i64 a, .int .i64 b, .int .i64 c] w (Vb w (.bool true)) := by
  have I0 := fun w => is_lt a b w
  rw [show decide (a < b) = true from decide_eq_true (by omega)] at I0
  have I1 := fun w => is_gt b a w
  rw [show decide (a < b) = true from decide_eq_true (by omega)] at I1
  have I2 := fun w => is_le a b w
  rw [show decide (a ≤ b) = true from decide_eq_true (by omega)] at I2
  have I3 := fun w => is_gt a b w
  rw [show decide (b < a) = false from decide_eq_false (by omega)] at I3
  have I4 := fun w => is_lt a b w
  rw [show decide (a < b) = true from decide_eq_true (by omega)] at I4
  have I5 := fun w => is_lt b c w
  rw [show decide (b < c) = true from decide_eq_true (by omega)] at I5
  have I6 := fun w => is_lt a c w
  rw [show decide (a < c) = true from decide_eq_true (by omega)] at I6
  have I7 := fun w => is_eq a b w
  rw [show (a == b) = false from (by simp <;> omega)] at I7
  have I8 := fun w => is_le a b w
  rw [show decide (a ≤ b) = true from decide_eq_true (by omega)] at I8
  have I9 := fun w => is_le b a w
  rw [show decide (b ≤ a) = false from decide_eq_false (by omega)] at I9
  have I10 := fun w => is_eq a a w
  rw [show (a == a) = true from (by simp <;> omega)] at I10
  have I11 := fun w => is_ne b b w
  rw [show (b != b) = false from (by simp <;> omega)] at I11
  clear h
  go_enter Try.func5, Try.ntmps5
  go_wp2_with fail
  refine (alive_any _).mono ?_
  rintro e w1 ⟨rfl, hb⟩
  have B : Hid (Below w.heap.size w w1) := hide (hb)
  clear hb
  go_wp2_with fail
  refine (I0 _).mono ?_
  rintro e w2 ⟨rfl, hb⟩
  replace B : Hid (Below w.heap.size w w2) := hide (bel_trans B.out hb)
  clear hb
  go_wp2_with fail
  refine (I1 _).mono ?_
  rintro e w3 ⟨rfl, hb⟩
  replace B : Hid (Below w.heap.size w w3) := hide (bel_trans B.out hb)
  clear hb
  go_wp2_with fail
  refine (I2 _).mono ?_
  rintro e w4 ⟨rfl, hb⟩
  replace B : Hid (Below w.heap.size w w4) := hide (bel_trans B.out hb)
  clear hb
  go_wp2_with fail
  refine (I3 _).mono ?_
  rintro e w5 ⟨rfl, hb⟩
  replace B : Hid (Below w.heap.size w w5) := hide (bel_trans B.out hb)
  clear hb
  go_wp2_with fail
  refine (I4 _).mono ?_
  rintro e w6 ⟨rfl, hb⟩
  replace B : Hid (Below w.heap.size w w6) := hide (bel_trans B.out hb)
  clear hb
  go_wp2_with fail
  refine (I5 _).mono ?_
  rintro e w7 ⟨rfl, hb⟩
  replace B : Hid (Below w.heap.size w w7) := hide (bel_trans B.out hb)
  clear hb
  go_wp2_with fail
  refine (I6 _).mono ?_
  rintro e w8 ⟨rfl, hb⟩
  replace B : Hid (Below w.heap.size w w8) := hide (bel_trans B.out hb)
  clear hb
  go_wp2_with fail
  refine (I7 _).mono ?_
  rintro e w9 ⟨rfl, hb⟩
  replace B : Hid (Below w.heap.size w w9) := hide (bel_trans B.out hb)
  clear hb
  go_wp2_with fail
  refine (I8 _).mono ?_
  rintro e w10 ⟨rfl, hb⟩
  replace B : Hid (Below w.heap.size w w10) := hide (bel_trans B.out hb)
  clear hb
  go_wp2_with fail
  refine (I9 _).mono ?_
  rintro e w11 ⟨rfl, hb⟩
  replace B : Hid (Below w.heap.size w w11) := hide (bel_trans B.out hb)
  clear hb
  go_wp2_with fail
  refine (I10 _).mono ?_
  rintro e w12 ⟨rfl, hb⟩
  replace B : Hid (Below w.heap.size w w12) := hide (bel_trans B.out hb)
  clear hb
  go_wp2_with fail
  refine (I11 _).mono ?_
  rintro e w13 ⟨rfl, hb⟩
  replace B : Hid (Below w.heap.size w w13) := hide (bel_trans B.out hb)
  clear hb
  go_wp2_with fail
  go_ret
  exact Vb.mk (rfl) B.out
set_option maxRecDepth 20000 in
set_option maxHeartbeats 2000000 in
theorem less_lt_no (a b c : Int) (h : a < b ∧ ¬ b < c) (w : World) : Calls Try.prog 5 #[.int .i64 a, .int .i64 b, .int .i64 c] w (Vb w (.bool true)) := by
  have I0 := fun w => is_lt a b w
  rw [show decide (a < b) = true from decide_eq_true (by omega)] at I0
  have I1 := fun w => is_gt b a w
  rw [show decide (a < b) = true from decide_eq_true (by omega)] at I1
  have I2 := fun w => is_le a b w
  rw [show decide (a ≤ b) = true from decide_eq_true (by omega)] at I2
  have I3 := fun w => is_gt a b w
  rw [show decide (b < a) = false from decide_eq_false (by omega)] at I3
  have I4 := fun w => is_lt a b w
  rw [show decide (a < b) = true from decide_eq_true (by omega)] at I4
  have I5 := fun w => is_lt b c w
  rw [show decide (b < c) = false from decide_eq_false (by omega)] at I5
  have I6 := fun w => is_eq a b w
  rw [show (a == b) = false from (by simp <;> omega)] at I6
  have I7 := fun w => is_le a b w
  rw [show decide (a ≤ b) = true from decide_eq_true (by omega)] at I7
  have I8 := fun w => is_le b a w
  rw [show decide (b ≤ a) = false from decide_eq_false (by omega)] at I8
  have I9 := fun w => is_eq a a w
  rw [show (a == a) = true from (by simp <;> omega)] at I9
  have I10 := fun w => is_ne b b w
  rw [show (b != b) = false from (by simp <;> omega)] at I10
  clear h
  go_enter Try.func5, Try.ntmps5
  go_wp2_with fail
  refine (alive_any _).mono ?_
  rintro e w1 ⟨rfl, hb⟩
  have B : Hid (Below w.heap.size w w1) := hide (hb)
  clear hb
  go_wp2_with fail
  refine (I0 _).mono ?_
  rintro e w2 ⟨rfl, hb⟩
  replace B : Hid (Below w.heap.size w w2) := hide (bel_trans B.out hb)
  clear hb
  go_wp2_with fail
  refine (I1 _).mono ?_
  rintro e w3 ⟨rfl, hb⟩
  replace B : Hid (Below w.heap.size w w3) := hide (bel_trans B.out hb)
  clear hb
  go_wp2_with fail
  refine (I2 _).mono ?_
  rintro e w4 ⟨rfl, hb⟩
  replace B : Hid (Below w.heap.size w w4) := hide (bel_trans B.out hb)
  clear hb
  go_wp2_with fail
  refine (I3 _).mono ?_
  rintro e w5 ⟨rfl, hb⟩
  replace B : Hid (Below w.heap.size w w5) := hide (bel_trans B.out hb)
  clear hb
  go_wp2_with fail
  refine (I4 _).mono ?_
  rintro e w6 ⟨rfl, hb⟩
  replace B : Hid (Below w.heap.size w w6) := hide (bel_trans B.out hb)
  clear hb
  go_wp2_with fail
  refine (I5 _).mono ?_
  rintro e w7 ⟨rfl, hb⟩
  replace B : Hid (Below w.heap.size w w7) := hide (bel_trans B.out hb)
  clear hb
  go_wp2_with fail
  refine (I6 _).mono ?_
  rintro e w8 ⟨rfl, hb⟩
  replace B : Hid (Below w.heap.size w w8) := hide (bel_trans B.out hb)
  clear hb
  go_wp2_with fail
  refine (I7 _).mono ?_
  rintro e w9 ⟨rfl, hb⟩
  replace B : Hid (Below w.heap.size w w9) := hide (bel_trans B.out hb)
  clear hb
  go_wp2_with fail
  refine (I8 _).mono ?_
  rintro e w10 ⟨rfl, hb⟩
  replace B : Hid (Below w.heap.size w w10) := hide (bel_trans B.out hb)
  clear hb
  go_wp2_with fail
  refine (I9 _).mono ?_
  rintro e w11 ⟨rfl, hb⟩
  replace B : Hid (Below w.heap.size w w11) := hide (bel_trans B.out hb)
  clear hb
  go_wp2_with fail
  refine (I10 _).mono ?_
  rintro e w12 ⟨rfl, hb⟩
  replace B : Hid (Below w.heap.size w w12) := hide (bel_trans B.out hb)
  clear hb
  go_wp2_with fail
  go_ret
  exact Vb.mk (rfl) B.out
set_option maxRecDepth 20000 in
set_option maxHeartbeats 2000000 in
theorem less_eq (a b c : Int) (h : a = b) (w : World) : Calls Try.prog 5 #[.int .i64 a, .int .i64 b, .int .i64 c] w (Vb w (.bool true)) := by
  have I0 := fun w => is_lt a b w
  rw [show decide (a < b) = false from decide_eq_false (by omega)] at I0
  have I1 := fun w => is_gt b a w
  rw [show decide (a < b) = false from decide_eq_false (by omega)] at I1
  have I2 := fun w => is_le a b w
  rw [show decide (a ≤ b) = true from decide_eq_true (by omega)] at I2
  have I3 := fun w => is_gt a b w
  rw [show decide (b < a) = false from decide_eq_false (by omega)] at I3
  have I4 := fun w => is_lt a b w
  rw [show decide (a < b) = false from decide_eq_false (by omega)] at I4
  have I5 := fun w => is_eq a b w
  rw [show (a == b) = true from (by simp <;> omega)] at I5
  have I6 := fun w => is_le a b w
  rw [show decide (a ≤ b) = true from decide_eq_true (by omega)] at I6
  have I7 := fun w => is_le b a w
  rw [show decide (b ≤ a) = true from decide_eq_true (by omega)] at I7
  have I8 := fun w => is_eq a a w
  rw [show (a == a) = true from (by simp <;> omega)] at I8
  have I9 := fun w => is_ne b b w
  rw [show (b != b) = false from (by simp <;> omega)] at I9
  clear h
  go_enter Try.func5, Try.ntmps5
  go_wp2_with fail
  refine (alive_any _).mono ?_
  rintro e w1 ⟨rfl, hb⟩
  have B : Hid (Below w.heap.size w w1) := hide (hb)
  clear hb
  go_wp2_with fail
  refine (I0 _).mono ?_
  rintro e w2 ⟨rfl, hb⟩
  replace B : Hid (Below w.heap.size w w2) := hide (bel_trans B.out hb)
  clear hb
  go_wp2_with fail
  refine (I1 _).mono ?_
  rintro e w3 ⟨rfl, hb⟩
  replace B : Hid (Below w.heap.size w w3) := hide (bel_trans B.out hb)
  clear hb
  go_wp2_with fail
  refine (I2 _).mono ?_
  rintro e w4 ⟨rfl, hb⟩
  replace B : Hid (Below w.heap.size w w4) := hide (bel_trans B.out hb)
  clear hb
  go_wp2_with fail
  refine (I3 _).mono ?_
  rintro e w5 ⟨rfl, hb⟩
  replace B : Hid (Below w.heap.size w w5) := hide (bel_trans B.out hb)
  clear hb
  go_wp2_with fail
  refine (I4 _).mono ?_
  rintro e w6 ⟨rfl, hb⟩
  replace B : Hid (Below w.heap.size w w6) := hide (bel_trans B.out hb)
  clear hb
  go_wp2_with fail
  refine (I5 _).mono ?_
  rintro e w7 ⟨rfl, hb⟩
  replace B : Hid (Below w.heap.size w w7) := hide (bel_trans B.out hb)
  clear hb
  go_wp2_with fail
  refine (I6 _).mono ?_
  rintro e w8 ⟨rfl, hb⟩
  replace B : Hid (Below w.heap.size w w8) := hide (bel_trans B.out hb)
  clear hb
  go_wp2_with fail
  refine (I7 _).mono ?_
  rintro e w9 ⟨rfl, hb⟩
  replace B : Hid (Below w.heap.size w w9) := hide (bel_trans B.out hb)
  clear hb
  go_wp2_with fail
  refine (I8 _).mono ?_
  rintro e w10 ⟨rfl, hb⟩
  replace B : Hid (Below w.heap.size w w10) := hide (bel_trans B.out hb)
  clear hb
  go_wp2_with fail
  refine (I9 _).mono ?_
  rintro e w11 ⟨rfl, hb⟩
  replace B : Hid (Below w.heap.size w w11) := hide (bel_trans B.out hb)
  clear hb
  go_wp2_with fail
  go_ret
  exact Vb.mk (rfl) B.out
set_option maxRecDepth 20000 in
set_option maxHeartbeats 2000000 in
theorem less_gt (a b c : Int) (h : b < a) (w : World) : Calls Try.prog 5 #[.int .i64 a, .int .i64 b, .int .i64 c] w (Vb w (.bool true)) := by
  have I0 := fun w => is_lt a b w
  rw [show decide (a < b) = false from decide_eq_false (by omega)] at I0
  have I1 := fun w => is_gt b a w
  rw [show decide (a < b) = false from decide_eq_false (by omega)] at I1
  have I2 := fun w => is_le a b w
  rw [show decide (a ≤ b) = false from decide_eq_false (by omega)] at I2
  have I3 := fun w => is_gt a b w
  rw [show decide (b < a) = true from decide_eq_true (by omega)] at I3
  have I4 := fun w => is_lt a b w
  rw [show decide (a < b) = false from decide_eq_false (by omega)] at I4
  have I5 := fun w => is_eq a b w
  rw [show (a == b) = false from (by simp <;> omega)] at I5
  have I6 := fun w => is_le a b w
  rw [show decide (a ≤ b) = false from decide_eq_false (by omega)] at I6
  have I7 := fun w => is_eq a a w
  rw [show (a == a) = true from (by simp <;> omega)] at I7
  have I8 := fun w => is_ne b b w
  rw [show (b != b) = false from (by simp <;> omega)] at I8
  clear h
  go_enter Try.func5, Try.ntmps5
  go_wp2_with fail
  refine (alive_any _).mono ?_
  rintro e w1 ⟨rfl, hb⟩
  have B : Hid (Below w.heap.size w w1) := hide (hb)
  clear hb
  go_wp2_with fail
  refine (I0 _).mono ?_
  rintro e w2 ⟨rfl, hb⟩
  replace B : Hid (Below w.heap.size w w2) := hide (bel_trans B.out hb)
  clear hb
  go_wp2_with fail
  refine (I1 _).mono ?_
  rintro e w3 ⟨rfl, hb⟩
  replace B : Hid (Below w.heap.size w w3) := hide (bel_trans B.out hb)
  clear hb
  go_wp2_with fail
  refine (I2 _).mono ?_
  rintro e w4 ⟨rfl, hb⟩
  replace B : Hid (Below w.heap.size w w4) := hide (bel_trans B.out hb)
  clear hb
  go_wp2_with fail
  refine (I3 _).mono ?_
  rintro e w5 ⟨rfl, hb⟩
  replace B : Hid (Below w.heap.size w w5) := hide (bel_trans B.out hb)
  clear hb
  go_wp2_with fail
  refine (I4 _).mono ?_
  rintro e w6 ⟨rfl, hb⟩
  replace B : Hid (Below w.heap.size w w6) := hide (bel_trans B.out hb)
  clear hb
  go_wp2_with fail
  refine (I5 _).mono ?_
  rintro e w7 ⟨rfl, hb⟩
  replace B : Hid (Below w.heap.size w w7) := hide (bel_trans B.out hb)
  clear hb
  go_wp2_with fail
  refine (I6 _).mono ?_
  rintro e w8 ⟨rfl, hb⟩
  replace B : Hid (Below w.heap.size w w8) := hide (bel_trans B.out hb)
  clear hb
  go_wp2_with fail
  refine (I7 _).mono ?_
  rintro e w9 ⟨rfl, hb⟩
  replace B : Hid (Below w.heap.size w w9) := hide (bel_trans B.out hb)
  clear hb
  go_wp2_with fail
  refine (I8 _).mono ?_
  rintro e w10 ⟨rfl, hb⟩
  replace B : Hid (Below w.heap.size w w10) := hide (bel_trans B.out hb)
  clear hb
  go_wp2_with fail
  go_ret
  exact Vb.mk (rfl) B.out
theorem less_main (a b c : Int) (w : World) : Calls Try.prog 5 #[.int .i64 a, .int .i64 b, .int .i64 c] w (Vb w (.bool true)) := by
  rcases Int.lt_trichotomy a b with h | h | h
  · by_cases h2 : b < c
    · exact less_lt_lt a b c ⟨h, h2⟩ w
    · exact less_lt_no a b c ⟨h, h2⟩ w
  · exact less_eq a b c h w
  · exact less_gt a b c h w
end Go.Proofs.Ytmdfciiejenpnab.Ck
