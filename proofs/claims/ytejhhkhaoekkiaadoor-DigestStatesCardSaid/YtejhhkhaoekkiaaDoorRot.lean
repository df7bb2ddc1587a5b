/- The contracts of the small functions on words. -/
import Derived.Test.YtejhhkhaoekkiaaDoorSha
namespace Go.Proofs.YtejhhkhaoekkiaaDoor.Ck
open Go.RowKit

set_option maxHeartbeats 400000 in
theorem word_any (a b c d : Int) (w : World) (ha : 0 ≤ a ∧ a < 256) (hb : 0 ≤ b ∧ b < 256) (hc : 0 ≤ c ∧ c < 256) (hd : 0 ≤ d ∧ d < 256) :
    Calls Tryd.prog 35 #[.int .u8 a, .int .u8 b, .int .u8 c, .int .u8 d] w fun e w' => e = .returned (.int .u32 (wd a b c d)) ∧ w = w' := by
  go_enter Tryd.func35, Tryd.ntmps35
  go_wp2
  go_ret
  exact ⟨rfl, rfl⟩

set_option maxHeartbeats 400000 in
theorem rotl_any (x c : Int) (w : World) (h1 : 0 < c) (h2 : c < 32) (hc : bits .and .u64 (IntKind.u64.wrap (-c)) 31 = 32 - c) :
    Calls Tryd.prog 36 #[.int .u32 x, .int .i64 (-c)] w fun e w' => e = .returned (.int .u32 (rotr x c)) ∧ w = w' := by
  go_enter Tryd.func36, Tryd.ntmps36
  go_wp2
  go_ret
  refine ⟨ret_int ?_, rfl⟩
  rw [show (32 - (32 - c)) = c by omega]
  rfl

set_option maxHeartbeats 400000 in
theorem right_of (x c : Int) (w : World) (h1 : 0 < c) (h2 : c < 32) (hc : bits .and .u64 (IntKind.u64.wrap (-c)) 31 = 32 - c) :
    Calls Tryd.prog 32 #[.int .u32 x, .int .i64 c] w fun e w' => e = .returned (.int .u32 (rotr x c)) ∧ w' = w := by
  have H := hide hc
  clear hc
  go_enter Tryd.func32, Tryd.ntmps32
  go_wp2_with fail
  refine (rotl_any x c w h1 h2 H.out).mono ?_
  rintro e w' ⟨rfl, rfl⟩
  go_wp2_with fail
  go_ret
  exact ⟨rfl, rfl⟩

def turnsOk (c : Int) : Bool := [2, 6, 7, 11, 13, 17, 18, 19, 22, 25].contains c
theorem right_any (x c : Int) (w : World) (h : turnsOk c = true) :
    Calls Tryd.prog 32 #[.int .u32 x, .int .i64 c] w fun e w' => e = .returned (.int .u32 (rotr x c)) ∧ w' = w := by
  have h2 : c = 2 ∨ c = 6 ∨ c = 7 ∨ c = 11 ∨ c = 13 ∨ c = 17 ∨ c = 18 ∨ c = 19 ∨ c = 22 ∨ c = 25 := by simpa [turnsOk] using h
  rcases h2 with h | h | h | h | h | h | h | h | h | h <;> subst h <;> exact right_of x _ w (by decide) (by decide) (by decide)

set_option maxHeartbeats 400000 in
theorem rot_any (x c : Int) (w : World) (h1 : 0 < c) (h2 : c < 32) :
    Calls Tryd.prog 27 #[.int .u32 x, .int .u64 c] w fun e w' => e = .returned (.int .u32 (rotr x c)) ∧ w' = w := by
  go_enter Tryd.func27, Tryd.ntmps27
  go_wp2
  go_ret
  exact ⟨ret_int (bits_comm _ _), rfl⟩

end Go.Proofs.YtejhhkhaoekkiaaDoor.Ck
