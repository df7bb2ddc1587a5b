/- The operators and their numbers by the document. -/
import Derived.Test.YtkdknilkhngdfaaDoorCn
namespace Go.Proofs.YtkdknilkhngdfaaDoor.Ck
open Go.RowKit

theorem tl_0 : (⟨#[45]⟩ : ByteArray).toList = [45] := by first | rfl | simp | decide +kernel
theorem tl_1 : (⟨#[33]⟩ : ByteArray).toList = [33] := by first | rfl | simp | decide +kernel
theorem tl_2 : (⟨#[105, 110, 116]⟩ : ByteArray).toList = [105, 110, 116] := by first | rfl | simp | decide +kernel
theorem tl_3 : (⟨#[102, 108, 111, 97, 116]⟩ : ByteArray).toList = [102, 108, 111, 97, 116] := by first | rfl | simp | decide +kernel
theorem tl_4 : (⟨#[43]⟩ : ByteArray).toList = [43] := by first | rfl | simp | decide +kernel
theorem tl_5 : (⟨#[42]⟩ : ByteArray).toList = [42] := by first | rfl | simp | decide +kernel
theorem tl_6 : (⟨#[47]⟩ : ByteArray).toList = [47] := by first | rfl | simp | decide +kernel
theorem tl_7 : (⟨#[37]⟩ : ByteArray).toList = [37] := by first | rfl | simp | decide +kernel
theorem tl_8 : (⟨#[61, 61]⟩ : ByteArray).toList = [61, 61] := by first | rfl | simp | decide +kernel
theorem tl_9 : (⟨#[33, 61]⟩ : ByteArray).toList = [33, 61] := by first | rfl | simp | decide +kernel
theorem tl_10 : (⟨#[60]⟩ : ByteArray).toList = [60] := by first | rfl | simp | decide +kernel
theorem tl_11 : (⟨#[60, 61]⟩ : ByteArray).toList = [60, 61] := by first | rfl | simp | decide +kernel
theorem tl_12 : (⟨#[62]⟩ : ByteArray).toList = [62] := by first | rfl | simp | decide +kernel
theorem tl_13 : (⟨#[62, 61]⟩ : ByteArray).toList = [62, 61] := by first | rfl | simp | decide +kernel

theorem num10 (s : ByteArray) : numF ops10 s 0 = if s.toList = [45] then 1 else (if s.toList = [33] then 2 else (if s.toList = [105, 110, 116] then 3 else (if s.toList = [102, 108, 111, 97, 116] then 4 else 0))) := by
  simp only [numF, ops10, tl_0, tl_1, tl_2, tl_3]
  rfl
theorem num11 (s : ByteArray) : numF ops11 s 0 = if s.toList = [43] then 1 else (if s.toList = [45] then 2 else (if s.toList = [42] then 3 else (if s.toList = [47] then 4 else (if s.toList = [37] then 5 else (if s.toList = [61, 61] then 6 else (if s.toList = [33, 61] then 7 else (if s.toList = [60] then 8 else (if s.toList = [60, 61] then 9 else (if s.toList = [62] then 10 else (if s.toList = [62, 61] then 11 else 0)))))))))) := by
  simp only [numF, ops11, tl_0, tl_4, tl_5, tl_6, tl_7, tl_8, tl_9, tl_10, tl_11, tl_12, tl_13]
  rfl
set_option maxRecDepth 20000 in
set_option maxHeartbeats 1000000 in
theorem runary_any (s : ByteArray) (w : World) : Calls Tryd.prog 25 #[.string s] w fun e w' => e = .returned (.int .i64 (numF ops10 s 0)) ∧ w = w' := by
  rw [num10]
  by_cases h0 : s.toList = [45]
  · rw [if_pos h0]
    go_enter Tryd.func25, Tryd.ntmps25
    go_wp2_with fail
    go_ret
    exact ⟨rfl, rfl⟩
  rw [if_neg h0]
  replace h0 : (s.toList == [45]) = false := beq_false_of_ne h0
  by_cases h1 : s.toList = [33]
  · rw [if_pos h1]
    go_enter Tryd.func25, Tryd.ntmps25
    go_wp2_with fail
    go_ret
    exact ⟨rfl, rfl⟩
  rw [if_neg h1]
  replace h1 : (s.toList == [33]) = false := beq_false_of_ne h1
  by_cases h2 : s.toList = [105, 110, 116]
  · rw [if_pos h2]
    go_enter Tryd.func25, Tryd.ntmps25
    go_wp2_with fail
    go_ret
    exact ⟨rfl, rfl⟩
  rw [if_neg h2]
  replace h2 : (s.toList == [105, 110, 116]) = false := beq_false_of_ne h2
  by_cases h3 : s.toList = [102, 108, 111, 97, 116]
  · rw [if_pos h3]
    go_enter Tryd.func25, Tryd.ntmps25
    go_wp2_with fail
    go_ret
    exact ⟨rfl, rfl⟩
  rw [if_neg h3]
  replace h3 : (s.toList == [102, 108, 111, 97, 116]) = false := beq_false_of_ne h3
  go_enter Tryd.func25, Tryd.ntmps25
  go_wp2_with fail
  go_ret
  exact ⟨rfl, rfl⟩
set_option maxRecDepth 20000 in
set_option maxHeartbeats 1000000 in
theorem rbinary_any (s : ByteArray) (w : World) : Calls Tryd.prog 26 #[.string s] w fun e w' => e = .returned (.int .i64 (numF ops11 s 0)) ∧ w = w' := by
  rw [num11]
  by_cases h0 : s.toList = [43]
  · rw [if_pos h0]
    go_enter Tryd.func26, Tryd.ntmps26
    go_wp2_with fail
    go_ret
    exact ⟨rfl, rfl⟩
  rw [if_neg h0]
  replace h0 : (s.toList == [43]) = false := beq_false_of_ne h0
  by_cases h1 : s.toList = [45]
  · rw [if_pos h1]
    go_enter Tryd.func26, Tryd.ntmps26
    go_wp2_with fail
    go_ret
    exact ⟨rfl, rfl⟩
  rw [if_neg h1]
  replace h1 : (s.toList == [45]) = false := beq_false_of_ne h1
  by_cases h2 : s.toList = [42]
  · rw [if_pos h2]
    go_enter Tryd.func26, Tryd.ntmps26
    go_wp2_with fail
    go_ret
    exact ⟨rfl, rfl⟩
  rw [if_neg h2]
  replace h2 : (s.toList == [42]) = false := beq_false_of_ne h2
  by_cases h3 : s.toList = [47]
  · rw [if_pos h3]
    go_enter Tryd.func26, Tryd.ntmps26
    go_wp2_with fail
    go_ret
    exact ⟨rfl, rfl⟩
  rw [if_neg h3]
  replace h3 : (s.toList == [47]) = false := beq_false_of_ne h3
  by_cases h4 : s.toList = [37]
  · rw [if_pos h4]
    go_enter Tryd.func26, Tryd.ntmps26
    go_wp2_with fail
    go_ret
    exact ⟨rfl, rfl⟩
  rw [if_neg h4]
  replace h4 : (s.toList == [37]) = false := beq_false_of_ne h4
  by_cases h5 : s.toList = [61, 61]
  · rw [if_pos h5]
    go_enter Tryd.func26, Tryd.ntmps26
    go_wp2_with fail
    go_ret
    exact ⟨rfl, rfl⟩
  rw [if_neg h5]
  replace h5 : (s.toList == [61, 61]) = false := beq_false_of_ne h5
  by_cases h6 : s.toList = [33, 61]
  · rw [if_pos h6]
    go_enter Tryd.func26, Tryd.ntmps26
    go_wp2_with fail
    go_ret
    exact ⟨rfl, rfl⟩
  rw [if_neg h6]
  replace h6 : (s.toList == [33, 61]) = false := beq_false_of_ne h6
  by_cases h7 : s.toList = [60]
  · rw [if_pos h7]
    go_enter Tryd.func26, Tryd.ntmps26
    go_wp2_with fail
    go_ret
    exact ⟨rfl, rfl⟩
  rw [if_neg h7]
  replace h7 : (s.toList == [60]) = false := beq_false_of_ne h7
  by_cases h8 : s.toList = [60, 61]
  · rw [if_pos h8]
    go_enter Tryd.func26, Tryd.ntmps26
    go_wp2_with fail
    go_ret
    exact ⟨rfl, rfl⟩
  rw [if_neg h8]
  replace h8 : (s.toList == [60, 61]) = false := beq_false_of_ne h8
  by_cases h9 : s.toList = [62]
  · rw [if_pos h9]
    go_enter Tryd.func26, Tryd.ntmps26
    go_wp2_with fail
    go_ret
    exact ⟨rfl, rfl⟩
  rw [if_neg h9]
  replace h9 : (s.toList == [62]) = false := beq_false_of_ne h9
  by_cases h10 : s.toList = [62, 61]
  · rw [if_pos h10]
    go_enter Tryd.func26, Tryd.ntmps26
    go_wp2_with fail
    go_ret
    exact ⟨rfl, rfl⟩
  rw [if_neg h10]
  replace h10 : (s.toList == [62, 61]) = false := beq_false_of_ne h10
  go_enter Tryd.func26, Tryd.ntmps26
  go_wp2_with fail
  go_ret
  exact ⟨rfl, rfl⟩
end Go.Proofs.YtkdknilkhngdfaaDoor.Ck
