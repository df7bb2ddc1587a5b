/- The operators' numbers, as plain choices. -/
import Derived.Test.YtlheflkdapckbaaDoorCn
namespace Go.Proofs.YtlheflkdapckbaaDoor.Ck
open Go.RowKit

theorem tl_0 : (⟨#[45]⟩ : ByteArray).toList = [45] := by first | rfl | simp | decide +kernel
theorem tl_1 : (⟨#[33]⟩ : ByteArray).toList = [33] := by first | rfl | simp | decide +kernel
theorem tl_2 : (⟨#[105, 110, 116]⟩ : ByteArray).toList = [105, 110, 116] := by first | rfl | simp | decide +kernel
theorem tl_3 : (⟨#[102, 108, 111, 97, 116]⟩ : ByteArray).toList = [102, 108, 111, 97, 116] := by first | rfl | simp | decide +kernel
theorem tl_4 : (⟨#[43]⟩ : ByteArray).toList = [43] := by first | rfl | simp | decide +kernel
theorem tl_5 : (⟨#[42]⟩ : ByteArray).toList = [42] := by first | rfl | simp | decide +kernel
theorem tl_6 : (⟨#[47]⟩ : ByteArray).toList = [47] := by first | rfl | simp | decide +kernel
theorem tl_7 : (⟨#[37]⟩ : ByteArray).toList = [37] := by first | rfl | simp | decide +kernel
theorem tl_8 : (⟨#[61, 61]⟩ : ByteArray).toList = [61, 61] := by first | rfl | simp | decide +kernel
theorem tl_9 : (⟨#[33, 61]⟩ : ByteArray).toList = [33, 61] := by first | rfl | simp | decide +kernel
theorem tl_10 : (⟨#[60]⟩ : ByteArray).toList = [60] := by first | rfl | simp | decide +kernel
theorem tl_11 : (⟨#[60, 61]⟩ : ByteArray).toList = [60, 61] := by first | rfl | simp | decide +kernel
theorem tl_12 : (⟨#[62]⟩ : ByteArray).toList = [62] := by first | rfl | simp | decide +kernel
theorem tl_13 : (⟨#[62, 61]⟩ : ByteArray).toList = [62, 61] := by first | rfl | simp | decide +kernel

theorem num10 (s : ByteArray) : numF ops10 s 0 = if s.toList = [45] then 1 else (if s.toList = [33] then 2 else (if s.toList = [105, 110, 116] then 3 else (if s.toList = [102, 108, 111, 97, 116] then 4 else 0))) := by
  simp only [numF, ops10, tl_0, tl_1, tl_2, tl_3]
  rfl
theorem num11 (s : ByteArray) : numF ops11 s 0 = if s.toList = [43] then 1 else (if s.toList = [45] then 2 else (if s.toList = [42] then 3 else (if s.toList = [47] then 4 else (if s.toList = [37] then 5 else (if s.toList = [61, 61] then 6 else (if s.toList = [33, 61] then 7 else (if s.toList = [60] then 8 else (if s.toList = [60, 61] then 9 else (if s.toList = [62] then 10 else (if s.toList = [62, 61] then 11 else 0)))))))))) := by
  simp only [numF, ops11, tl_0, tl_4, tl_5, tl_6, tl_7, tl_8, tl_9, tl_10, tl_11, tl_12, tl_13]
  rfl
end Go.Proofs.YtlheflkdapckbaaDoor.Ck
