/- TokenLines: lines and columns are counted as told; and which words are keywords. -/
import Derived.Test.YtpeebpnoldadjaaDoorTy
namespace Go.Proofs.YtpeebpnoldadjaaDoor.Ck
open Go.RowKit

set_option maxHeartbeats 1000000 in
theorem lines_any (s : ByteArray) (a : Int) (p : List Addr) (w : World) (he : Ev w p) :
    Calls Tryd.prog 5 #[.string s, .int .i64 a] w fun e w' => e = .returned (.bool true) ∧ Below w.heap.size w w' := by
  by_cases hs : s.size ≤ 9000
  · have hs2 : ¬ (9000 : Int) < (s.size : Int) := by omega
    go_enter Tryd.func5, Tryd.ntmps5
    go_wp2_with fail
    refine (alive_any p w he).mono ?_
    rintro e w1 ⟨rfl, hb1⟩
    go_wp2_with fail
    go_loop [5, 6, 17] (fun vl vc vi => ∃ k : Nat, k ≤ s.size ∧ vi = .int .i64 k ∧ vl = .int .i64 (ln s k) ∧ vc = .int .i64 (col s k) ∧ (k = 0 ∨ ((k - 1 : Nat) : Int) < a)) (fun _ _ vi => s.size - (intOf vi).toNat)
    case atStart => exact ⟨0, Nat.zero_le _, rfl, rfl, rfl, .inl rfl⟩
    case round =>
      obtain ⟨k, hk, rfl, rfl, rfl, hka⟩ := hrel
      have hl := ln_le s k
      have hc := col_le s k
      by_cases hks : k < s.size
      · by_cases hlt : a ≤ (k : Int)
        · have hm : Hid (k = mAt s a) := by show _ = _; unfold mAt; omega
          have h1 : (k : Int) < (s.size : Int) := by omega
          clear hka
          go_wp2_with fail
          refine (line_any s a _ hs).mono ?_
          rintro e w2 ⟨rfl, rfl⟩
          rw [← hm.out]
          generalize ((ln s k : Nat) : Int) = x at *
          generalize ((col s k : Nat) : Int) = y at *
          have hxx : (x == x) = true := by simp
          have hyy : (y == y) = true := by simp
          go_wp2_with (first | (go_at_call 15; refine (tokenKey_any _ _).mono ?_; rintro e w3 ⟨rfl, rfl⟩) | (go_at_call 16; refine (ref05Key_any _ _).mono ?_; rintro e w4 ⟨rfl, rfl⟩))
          go_ret
          exact ⟨by simp, hb1⟩
        · have h1 : (k : Int) < (s.size : Int) := by omega
          have h2 : ¬ a ≤ (k : Int) := hlt
          by_cases hb : byte s k = 10
          · have hL : Hid (ln s (k + 1) = ln s k + 1) := by show _ = _; show (if byte s k = 10 then _ else _) = _; rw [if_pos hb]
            have hC : Hid (col s (k + 1) = 1) := by show _ = _; show (if byte s k = 10 then _ else _) = _; rw [if_pos hb]
            rw [byte_eq s k hks] at hb
            generalize ln s k = L at *
            generalize col s k = C at *
            go_wp2_with fail
            go_round
            case rel => exact ⟨k + 1, by omega, by go_num, by rw [hL.out]; go_num, by rw [hC.out]; rfl, .inr (by rw [Nat.add_sub_cancel]; omega)⟩
            case measure => simp [intOf]; omega
          · have hL : Hid (ln s (k + 1) = ln s k) := by show _ = _; show (if byte s k = 10 then _ else _) = _; rw [if_neg hb]
            have hC : Hid (col s (k + 1) = col s k + 1) := by show _ = _; show (if byte s k = 10 then _ else _) = _; rw [if_neg hb]
            rw [byte_eq s k hks] at hb
            have hb : (((s[k]'hks).toNat : Int) == 10) = false := by simpa using hb
            generalize ln s k = L at *
            generalize col s k = C at *
            go_wp2_with fail
            go_round
            case rel => exact ⟨k + 1, by omega, by go_num, by rw [hL.out], by rw [hC.out]; go_num, .inr (by rw [Nat.add_sub_cancel]; omega)⟩
            case measure => simp [intOf]; omega
      · have hm : Hid (k = mAt s a) := by show _ = _; unfold mAt; omega
        have h1 : ¬ (k : Int) < (s.size : Int) := by omega
        clear hka
        go_wp2_with fail
        refine (line_any s a _ hs).mono ?_
        rintro e w2 ⟨rfl, rfl⟩
        rw [← hm.out]
        generalize ((ln s k : Nat) : Int) = x at *
        generalize ((col s k : Nat) : Int) = y at *
        have hxx : (x == x) = true := by simp
        have hyy : (y == y) = true := by simp
        go_wp2_with (first | (go_at_call 15; refine (tokenKey_any _ _).mono ?_; rintro e w3 ⟨rfl, rfl⟩) | (go_at_call 16; refine (ref05Key_any _ _).mono ?_; rintro e w4 ⟨rfl, rfl⟩))
        go_ret
        exact ⟨by simp, hb1⟩
  · have hs2 : (9000 : Int) < (s.size : Int) := by omega
    go_enter Tryd.func5, Tryd.ntmps5
    go_wp2_with fail
    refine (alive_any p w he).mono ?_
    rintro e w1 ⟨rfl, hb1⟩
    go_wp2_with fail
    go_ret
    exact ⟨rfl, hb1⟩

end Go.Proofs.YtpeebpnoldadjaaDoor.Ck
