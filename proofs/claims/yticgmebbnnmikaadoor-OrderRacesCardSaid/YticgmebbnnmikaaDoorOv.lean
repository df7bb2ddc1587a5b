/- Package slices' SortFunc over no race, or one. -/
import Derived.Test.YticgmebbnnmikaaDoorOu
namespace Go.Proofs.YticgmebbnnmikaaDoor.Ck
open Go.RowKit

set_option maxRecDepth 100000 in
theorem len64_0 (w : World) : Calls Tryd.prog 69 #[.int .u64 0] w (fun e w' => e = .returned (.int .i64 0) ∧ w = w') := by
  go_enter Tryd.func69, Tryd.ntmps69
  go_wp2_with fail
  go_ret
  exact ⟨by kernel_rfl, rfl⟩
set_option maxRecDepth 100000 in
theorem len64_1 (w : World) : Calls Tryd.prog 69 #[.int .u64 1] w (fun e w' => e = .returned (.int .i64 1) ∧ w = w') := by
  go_enter Tryd.func69, Tryd.ntmps69
  go_wp2_with fail
  go_ret
  exact ⟨by kernel_rfl, rfl⟩
theorem len_0 (w : World) : Calls Tryd.prog 56 #[.int .u64 0] w (fun e w' => e = .returned (.int .i64 0) ∧ w = w') := by
  go_enter Tryd.func56, Tryd.ntmps56
  go_wp2_with fail
  refine (len64_0 _).mono ?_
  rintro e w1 ⟨rfl, rfl⟩
  go_wp2_with fail
  go_ret
  exact ⟨rfl, rfl⟩
theorem len_1 (w : World) : Calls Tryd.prog 56 #[.int .u64 1] w (fun e w' => e = .returned (.int .i64 1) ∧ w = w') := by
  go_enter Tryd.func56, Tryd.ntmps56
  go_wp2_with fail
  refine (len64_1 _).mono ?_
  rintro e w1 ⟨rfl, rfl⟩
  go_wp2_with fail
  go_ret
  exact ⟨rfl, rfl⟩
theorem insert_small (v cmp : Value) (n : Nat) (hn : n ≤ 1) (w : World) : Calls Tryd.prog 60 #[v, .int .i64 0, .int .i64 (n : Nat), cmp] w (fun e w' => e = .returned (.tuple #[]) ∧ w = w') := by
  have HN := hide hn
  clear hn
  go_enter Tryd.func60, Tryd.ntmps60
  go_wp2_with fail
  go_loopw [8] (fun x8 wr => x8 = .int .i64 1 ∧ Hid (wr = w)) (fun _ _ => 0)
  case atStart => exact ⟨by first | rfl | go_num, hide rfl⟩
  case round =>
    obtain ⟨rfl, hw⟩ := hrel
    have h : ¬ (1 : Int) < (n : Int) := by have := HN.out; omega
    have h2 : (n : Int) ≤ 1 := by omega
    go_wp2_with fail
    go_end0
    exact ⟨rfl, hw.out.symm⟩
set_option maxRecDepth 20000 in
theorem pdq_small (v cmp : Value) (n : Nat) (hn : n ≤ 1) (m : Int) (w : World) : Calls Tryd.prog 55 #[v, .int .i64 0, .int .i64 (n : Nat), .int .i64 m, cmp] w (fun e w' => e = .returned (.tuple #[]) ∧ w = w') := by
  have HN := hide hn
  clear hn
  go_enter Tryd.func55, Tryd.ntmps55
  have h1 : (n : Int) ≤ 12 := by have := HN.out; omega
  go_upto_region 2 with fail
  go_loopw [1, 2, 3, 10, 11] (fun x1 x2 x3 x10 x11 wr => x1 = .int .i64 0 ∧ x2 = .int .i64 (n : Nat) ∧ Hid (wr = w)) (fun _ _ _ _ _ _ => 0)
  case atStart => exact ⟨rfl, rfl, hide rfl⟩
  case round =>
    obtain ⟨rfl, rfl, hw⟩ := hrel
    have IS := hide (show Calls Tryd.prog 60 #[v, .int .i64 0, .int .i64 (n : Nat), cmp] wr (fun e w' => e = .returned (.tuple #[]) ∧ wr = w') from insert_small v cmp n HN.out wr)
    go_wp2_with fail
    refine IS.out.mono ?_
    rintro e w1 ⟨rfl, rfl⟩
    go_wp2_with fail
    refine bodyPost_ret (results_none rfl _ _ _) rfl ?_
    exact ⟨rfl, hw.out.symm⟩
set_option maxRecDepth 20000 in
theorem sort_small (a : Option Addr) (c : Nat) (cmp : Value) (n : Nat) (hn : n ≤ 1) (w : World) : Calls Tryd.prog 44 #[.slice a n c, cmp] w (fun e w' => e = .returned (.tuple #[]) ∧ w = w') := by
  have PQ := hide (fun m => pdq_small (.slice a n c) cmp n hn m w)
  rcases (by omega : n = 0 ∨ n = 1) with rfl | rfl
  · go_enter Tryd.func44, Tryd.ntmps44
    go_wp2_with fail
    refine (len_0 _).mono ?_
    rintro e w1 ⟨rfl, rfl⟩
    go_wp2_with fail
    refine (PQ.out _).mono ?_
    rintro e w1 ⟨rfl, rfl⟩
    go_wp2_with fail
    go_end0
    exact ⟨rfl, rfl⟩
  · go_enter Tryd.func44, Tryd.ntmps44
    go_wp2_with fail
    refine (len_1 _).mono ?_
    rintro e w1 ⟨rfl, rfl⟩
    go_wp2_with fail
    refine (PQ.out _).mono ?_
    rintro e w1 ⟨rfl, rfl⟩
    go_wp2_with fail
    go_end0
    exact ⟨rfl, rfl⟩
end Go.Proofs.YticgmebbnnmikaaDoor.Ck
