/- The contract of Line. -/
import Derived.Test.YtpeebpnoldadjaaDoorTx
namespace Go.Proofs.YtpeebpnoldadjaaDoor.Ck
open Go.RowKit

def ln (s : ByteArray) : Nat → Nat
  | 0 => 1
  | k + 1 => if byte s k = 10 then ln s k + 1 else ln s k
def col (s : ByteArray) : Nat → Nat
  | 0 => 1
  | k + 1 => if byte s k = 10 then 1 else col s k + 1
theorem ln_le (s : ByteArray) (k : Nat) : ln s k ≤ k + 1 := by
  induction k with
  | zero => exact Nat.le_refl _
  | succ k ih => unfold ln; split <;> omega
theorem col_le (s : ByteArray) (k : Nat) : col s k ≤ k + 1 := by
  induction k with
  | zero => exact Nat.le_refl _
  | succ k ih => unfold col; split <;> omega
theorem eq10 (a : UInt8) : (a == 10) = decide (((a.toNat : Nat) : Int) = 10) := by
  have := eq8 a 10 (by omega)
  rw [show UInt8.ofNat 10 = 10 from rfl] at this
  rw [← this, Bool.eq_iff_iff]
  simp
theorem count_ln (s : ByteArray) (k : Nat) (hk : k ≤ s.size) : 1 + Lib.countByte (s.data.toList.take k) 10 = ln s k := by
  unfold Lib.countByte
  induction k with
  | zero => simp [ln]
  | succ k ih =>
    have hl : k < s.data.toList.length := by have : s.data.toList.length = s.size := rfl; omega
    rw [List.take_succ_eq_append_getElem hl, List.count_append, ← Nat.add_assoc, ih (by omega), List.count_singleton, eq10, ← byte_list s k hl]
    show _ = if byte s k = 10 then ln s k + 1 else ln s k
    by_cases h : byte s k = 10
    · rw [if_pos h]; simp [h]
    · rw [if_neg h]; simp [h]
theorem col_last (s t : ByteArray) (m k : Nat) (hk : k ≤ m) (ht : ∀ j, j < m → (((t.data[j]!).toNat : Nat) : Int) = byte s j) : (k : Int) - Lib.lastIdx t 10 k = col s k := by
  induction k with
  | zero => rfl
  | succ k ih =>
    have ih := ih (by omega)
    have hb := ht k (by omega)
    unfold Lib.lastIdx col
    rw [hb]
    by_cases h : byte s k = 10
    · rw [if_pos h]
      simp [h]
      omega
    · rw [if_neg h]
      simp [h]
      omega
def mAt (s : ByteArray) (a : Int) : Nat := (min (max a 0) (s.size : Int)).toNat
theorem mAt_le (s : ByteArray) (a : Int) : mAt s a ≤ s.size := by unfold mAt; omega

set_option maxHeartbeats 1000000 in
theorem line_any (s : ByteArray) (a : Int) (w : World) (hs : s.size ≤ 9000) :
    Calls Tryd.prog 14 #[.string s, .int .i64 a] w fun e w' => e = .returned (.tuple #[.int .i64 (ln s (mAt s a)), .int .i64 (col s (mAt s a))]) ∧ w = w' := by
  have hm := mAt_le s a
  have hz : (s.extract 0 (mAt s a)).size = mAt s a := by rw [ByteArray.size_extract]; omega
  have h1 : Hid (∀ w, Calls Tryd.prog 23 #[.string (s.extract 0 (mAt s a)), .string ⟨#[10]⟩] w fun e w' => e = .returned (.int .i64 (((ln s (mAt s a)) : Int) - 1)) ∧ w = w') := fun w => by
    have := Tryd.strings_Count_one (s.extract 0 (mAt s a)) 10 w
    have e1 : (s.extract 0 (mAt s a)).data.toList = s.data.toList.take (mAt s a) := by rw [cut_list]; rfl
    have e2 := count_ln s (mAt s a) hm
    rw [e1] at this
    refine this.mono fun _ _ h => ⟨?_, h.2.symm⟩
    rw [h.1, show ((Lib.countByte (s.data.toList.take (mAt s a)) 10 : Nat) : Int) = ((ln s (mAt s a)) : Int) - 1 by omega]
  have h2 : Hid (∀ w, Calls Tryd.prog 24 #[.string (s.extract 0 (mAt s a)), .int .u8 10] w fun e w' => e = .returned (.int .i64 ((mAt s a : Int) - col s (mAt s a))) ∧ w = w') := fun w => by
    have := Tryd.strings_LastIndexByte (s.extract 0 (mAt s a)) 10 (by omega) w
    have e2 := col_last s (s.extract 0 (mAt s a)) (mAt s a) (mAt s a) (Nat.le_refl _) (fun j hj => by
      have hj2 : j < (s.extract 0 (mAt s a)).data.size := by have : (s.extract 0 (mAt s a)).data.size = (s.extract 0 (mAt s a)).size := rfl; omega
      rw [getElem!_pos (s.extract 0 (mAt s a)).data j hj2, byte_eq s j (by omega)]
      have e3 : (s.extract 0 (mAt s a)).data[j] = s.data[j]'(show j < s.data.size by have : s.data.size = s.size := rfl; omega) := by
        simp [ByteArray.data_extract]
      rw [e3]
      rfl)
    refine this.mono fun _ _ h => ⟨?_, h.2.symm⟩
    rw [h.1]
    unfold Lib.lastIndexByte
    rw [hz, show Lib.lastIdx (s.extract 0 (mAt s a)) 10 (mAt s a) = (mAt s a : Int) - col s (mAt s a) by omega]
  have hl := ln_le s (mAt s a)
  have hc := col_le s (mAt s a)
  have hmi : (0 : Int) ≤ min (max a 0) (s.size : Int) := by omega
  have hmi2 : min (max a 0) (s.size : Int) ≤ (s.size : Int) := by omega
  have e0 : (min (max a 0) (s.size : Int)).toNat = mAt s a := rfl
  generalize mAt s a = m at *
  go_enter Tryd.func14, Tryd.ntmps14
  go_wp2_with (first | (go_at_call 23; refine (h1.out _).mono ?_; rintro e w1 ⟨rfl, rfl⟩) | (go_at_call 24; refine (h2.out _).mono ?_; rintro e w2 ⟨rfl, rfl⟩))
  go_ret2
  have e4 : (1 : Int) + ((ln s m : Int) - 1) = ln s m := by omega
  have e5 : (m : Int) - ((m : Int) - (col s m : Int)) = col s m := by omega
  refine ⟨?_, rfl⟩
  show Ending.returned (.tuple #[.int .i64 (1 + ((ln s m : Int) - 1)), .int .i64 ((m : Int) - ((m : Int) - (col s m : Int)))]) = _
  rw [e4, e5]

end Go.Proofs.YtpeebpnoldadjaaDoor.Ck
