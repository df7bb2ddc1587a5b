/- Package value: unary operators, by types. (Written by mk_v.py.) -/
import Derived.Test.YtmdfciiejenpnaaV3
namespace Go.Proofs.Ytmdfciiejenpnaa.Ck
open Go.RowKit

def Vi4 (w : World) (r : Int × Int × Int × Int) (e : Ending) (w' : World) : Prop := Vi w r.1 r.2.1 r.2.2.1 r.2.2.2 e w'
def noneR : Int × Int × Int × Int := (0, 0, 0, -1)
def ofIntF (op : List UInt8) (n : Int) : Int × Int × Int × Int :=
  if op = [45] then (1, wrap64 (-n), 0, 0) else if op = [102, 108, 111, 97, 116] then (2, 0, (floatOfInt .f64 n : Nat), 0) else noneR
/-- the other sign bit -/
def flipU (u : Nat) : Nat := (bits .xor .u64 (u : Nat) 9223372036854775808).toNat
def wholeR (u : Nat) : Int × Int × Int × Int := if inB u then (1, wholeN u, 0, 0) else (0, 0, 0, 3)
def ofFloatF (op : List UInt8) (u : Nat) : Int × Int × Int × Int :=
  if op = [45] then (2, 0, (outU (flipU u) : Nat), 0) else if op = [105, 110, 116] then wholeR u else noneR
def ofBoolF (op : List UInt8) (b : Bool) : Int × Int × Int × Int := if op = [33] then (3, (!b).toInt, 0, 0) else noneR
theorem wholeR_any (u : Nat) (hu : u < 18446744073709551616) (w : World) : Calls Try.prog 38 #[.float .f64 u] w (Vi4 w (wholeR u)) := by
  have h := whole_any u hu w
  unfold wholeR Vi4
  cases hi : inB u <;> rw [hi] at h <;> exact h

set_option maxRecDepth 20000 in
set_option maxHeartbeats 1000000 in
theorem ofInt_any (op : ByteArray) (n : Int) (w : World) : Calls Try.prog 26 #[.string op, .int .i64 n] w (Vi4 w (ofIntF op.toList n)) := by
  have V1 := hide (Val.new w 0 0 0)
  have B1 := hide (bel_new w (.cells #[.int .i64 0, .int .i64 0, .int .u64 0] 24))
  unfold ofIntF
  by_cases h1 : op.toList = [45]
  · rw [if_pos h1]
    show Calls _ _ _ _ (Vi w 1 (wrap64 (-n)) 0 0)
    go_enter Try.func26, Try.ntmps26
    go_wp2_with fail
    refine (int_any _ _).mono ?_
    rintro e w2 ⟨rfl, hb⟩
    have V2 := V1.out.al hb
    have B2 := hide (bel_trans B1.out hb)
    obtain ⟨⟨f0, f1, f2⟩, c0, c1, c2⟩ := V2.all
    replace V2 := hide V2
    clear hb
    go_wp2_with fail
    exact ret_vi w.heap.size rfl rfl rfl (V2.out.set _ _ _) rfl (Vi.mk ⟨rfl, rfl, rfl, rfl⟩ (bel_set B2.out (by omega) _ _ _))
  rw [if_neg h1]
  have d1 : (op.toList == [45]) = false := by simpa using h1
  clear h1
  by_cases h2 : op.toList = [102, 108, 111, 97, 116]
  · rw [if_pos h2]
    show Calls _ _ _ _ (Vi w 2 0 _ 0)
    go_enter Try.func26, Try.ntmps26
    go_wp2_with fail
    refine (float_any _ _).mono ?_
    rintro e w2 ⟨rfl, hb⟩
    have V2 := V1.out.al hb
    have B2 := hide (bel_trans B1.out hb)
    obtain ⟨⟨f0, f1, f2⟩, c0, c1, c2⟩ := V2.all
    replace V2 := hide V2
    clear hb
    go_wp2_with fail
    exact ret_vi w.heap.size rfl rfl rfl (V2.out.set _ _ _) rfl (Vi.mk ⟨rfl, rfl, rfl, rfl⟩ (bel_set B2.out (by omega) _ _ _))
  rw [if_neg h2]
  have d2 : (op.toList == [102, 108, 111, 97, 116]) = false := by simpa using h2
  clear h2
  show Calls _ _ _ _ (Vi w 0 0 0 (-1))
  go_enter Try.func26, Try.ntmps26
  go_wp2_with fail
  exact ret_vi w.heap.size rfl rfl rfl (Val.new w _ _ _) rfl (Vi.mk ⟨rfl, rfl, rfl, rfl⟩ B1.out)
set_option maxRecDepth 20000 in
set_option maxHeartbeats 1000000 in
theorem ofFloat_any (op : ByteArray) (u : Nat) (hu : u < 18446744073709551616) (w : World) : Calls Try.prog 27 #[.string op, .float .f64 u] w (Vi4 w (ofFloatF op.toList u)) := by
  have V1 := hide (Val.new w 0 0 0)
  have B1 := hide (bel_new w (.cells #[.int .i64 0, .int .i64 0, .int .u64 0] 24))
  have cb := callBits
  have cf := callFrom
  unfold ofFloatF
  by_cases h1 : op.toList = [45]
  · rw [if_pos h1]
    show Calls _ _ _ _ (Vi w 2 0 _ 0)
    go_enter Try.func27, Try.ntmps27
    go_wp2_with fail
    refine (outcome_any _ _).mono ?_
    rintro e w2 ⟨rfl, hb⟩
    have V2 := V1.out.al hb
    have B2 := hide (bel_trans B1.out hb)
    obtain ⟨⟨f0, f1, f2⟩, c0, c1, c2⟩ := V2.all
    replace V2 := hide V2
    clear hb
    go_wp2_with fail
    exact ret_vi w.heap.size rfl rfl rfl (V2.out.set _ _ _) rfl (Vi.mk ⟨rfl, rfl, rfl, rfl⟩ (bel_set B2.out (by omega) _ _ _))
  rw [if_neg h1]
  have d1 : (op.toList == [45]) = false := by simpa using h1
  clear h1
  by_cases h2 : op.toList = [105, 110, 116]
  · rw [if_pos h2]
    have HW := fun w => wholeR_any u hu w
    obtain ⟨⟨t1, n1, b1, k1⟩, hr⟩ : ∃ r, wholeR u = r := ⟨_, rfl⟩
    rw [hr] at HW ⊢
    show Calls _ _ _ _ (Vi w t1 n1 b1 k1)
    clear hr
    go_enter Try.func27, Try.ntmps27
    go_wp2_with fail
    refine (HW _).mono ?_
    rintro e w2 ⟨rfl, hb⟩
    have V2 := V1.out.al hb
    have B2 := hide (bel_trans B1.out hb)
    obtain ⟨⟨f0, f1, f2⟩, c0, c1, c2⟩ := V2.all
    replace V2 := hide V2
    clear hb
    go_wp2_with fail
    exact ret_vi w.heap.size rfl rfl rfl (V2.out.set _ _ _) rfl (Vi.mk ⟨rfl, rfl, rfl, rfl⟩ (bel_set B2.out (by omega) _ _ _))
  rw [if_neg h2]
  have d2 : (op.toList == [105, 110, 116]) = false := by simpa using h2
  clear h2
  show Calls _ _ _ _ (Vi w 0 0 0 (-1))
  go_enter Try.func27, Try.ntmps27
  go_wp2_with fail
  exact ret_vi w.heap.size rfl rfl rfl (Val.new w _ _ _) rfl (Vi.mk ⟨rfl, rfl, rfl, rfl⟩ B1.out)
set_option maxRecDepth 20000 in
set_option maxHeartbeats 1000000 in
theorem ofBool_any (op : ByteArray) (b : Bool) (w : World) : Calls Try.prog 28 #[.string op, .bool b] w (Vi4 w (ofBoolF op.toList b)) := by
  have V1 := hide (Val.new w 0 0 0)
  have B1 := hide (bel_new w (.cells #[.int .i64 0, .int .i64 0, .int .u64 0] 24))
  unfold ofBoolF
  by_cases h1 : op.toList = [33]
  · rw [if_pos h1]
    show Calls _ _ _ _ (Vi w 3 (!b).toInt 0 0)
    go_enter Try.func28, Try.ntmps28
    go_wp2_with fail
    refine (bool_any _ _).mono ?_
    rintro e w2 ⟨rfl, hb⟩
    have V2 := V1.out.al hb
    have B2 := hide (bel_trans B1.out hb)
    obtain ⟨⟨f0, f1, f2⟩, c0, c1, c2⟩ := V2.all
    replace V2 := hide V2
    clear hb
    go_wp2_with fail
    exact ret_vi w.heap.size rfl rfl rfl (V2.out.set _ _ _) rfl (Vi.mk ⟨rfl, rfl, rfl, rfl⟩ (bel_set B2.out (by omega) _ _ _))
  rw [if_neg h1]
  have d1 : (op.toList == [33]) = false := by simpa using h1
  clear h1
  show Calls _ _ _ _ (Vi w 0 0 0 (-1))
  go_enter Try.func28, Try.ntmps28
  go_wp2_with fail
  exact ret_vi w.heap.size rfl rfl rfl (Val.new w _ _ _) rfl (Vi.mk ⟨rfl, rfl, rfl, rfl⟩ B1.out)
end Go.Proofs.Ytmdfciiejenpnaa.Ck
