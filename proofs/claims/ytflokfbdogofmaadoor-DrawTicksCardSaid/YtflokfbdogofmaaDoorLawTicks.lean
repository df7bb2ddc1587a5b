/- The walk of the statement DrawTicks. -/
import Derived.Test.YtflokfbdogofmaaDoorLaidR
namespace Go.Proofs.YtflokfbdogofmaaDoor.Ck
open Go.RowKit

set_option maxRecDepth 20000 in
set_option maxHeartbeats 1000000 in
theorem ticks_main (a0 : Option Addr) (len cap : Nat) (zs : List Int) (pe : Addr) (w : World) (hz : Sl w (.slice a0 len cap) zs) (htab : Tab w) (hE : w.cell? ⟨0, 0, none⟩ = some (.iface 115 (.pointer (some pe)))) (hEl : 0 < w.heap.size) :
    Calls Tryd.prog 7 #[.slice a0 len cap] w fun e w' => e = .returned (.bool true) ∧ Below w.heap.size w w' := by
  have HZ := hide hz
  have EL := hide hz.len
  have HLn : Hid (len ≤ maxLen) := by
    obtain ⟨_, a', c', e, h1, h2, _⟩ := hz
    cases e
    show _ ≤ _
    omega
  clear hz
  have h0 := htab.1
  go_enter Tryd.func7, Tryd.ntmps7
  go_wp2_with fail
  refine (dalive_any w htab).mono ?_
  rintro e w1 ⟨rfl, hb1⟩
  go_wp2_with fail
  refine (dnew_any [] _ w1 (SB.nilS w1) (by decide) (htab.bel hb1)).mono ?_
  rintro e w2 ⟨g, rfl, d2, hg, hb2⟩
  have Hg : Hid (w.heap.size ≤ g) := Nat.le_trans hb1.size hg
  have hb12 := bel_trans hb1 hb2
  generalize sha [] = S at *
  clear hb1 hb2 hg
  go_wp2_with fail
  go_loopw [13, 4] (fun i u wr => ∃ k n : Nat, k ≤ len ∧ n ≤ 1099511627776 ∧ i = .int .i64 k ∧ u = .int .i64 n ∧ Dw wr g S 0 n ∧ Below w.heap.size w wr) (fun i _ _ => len - (intOf i).toNat)
  case atStart => exact ⟨0, 0, Nat.zero_le _, by decide, rfl, rfl, d2, hb12⟩
  case round =>
    obtain ⟨k, n, hk, hn, rfl, rfl, d, hb⟩ := hrel
    have hlm := HLn.out
    unfold maxLen at hlm
    by_cases hlt : k < len
    · obtain ⟨b, off, rfl, hbl, q0⟩ := (HZ.out.below (Nat.le_refl _) hb).at k hlt
      have hzf : -9223372036854775808 ≤ zs.getD k 0 ∧ zs.getD k 0 ≤ 9223372036854775807 := by
        have hkl : k < zs.length := by rw [← EL.out]; exact hlt
        have := HZ.out.1 (zs.getD k 0) (by simp [List.getD, hkl])
        exact this
      have d5 : decide ((k : Int) < (len : Int)) = true := decide_eq_true (by omega)
      have i5 : (0 : Int) ≤ (k : Int) ∧ (k : Int) < (len : Int) := by omega
      have hEr := (hb.cell (p := ⟨0, 0, none⟩) hEl).trans hE
      generalize zs.getD k 0 = z at *
      by_cases h100 : k ≤ 100
      · have d6 : decide ((100 : Int) < (k : Int)) = false := decide_eq_false (by omega)
        by_cases hz0 : 0 ≤ z
        · have d7 : decide (0 ≤ z) = true := decide_eq_true hz0
          by_cases hz1 : z ≤ 1099511627776 - (n : Int)
          · have d8 : decide (z ≤ 1099511627776 - (n : Int)) = true := decide_eq_true hz1
            go_wp2_with fail
            refine (dtick_ok g S 0 n z wr d hz0 hz1).mono ?_
            rintro e w3 ⟨rfl, d3, t3⟩
            obtain ⟨j, ej⟩ : ∃ j : Nat, z = (j : Int) := ⟨z.toNat, by omega⟩
            subst ej
            rw [Int.toNat_natCast] at d3
            obtain ⟨c, ec⟩ : ∃ c : Nat, n + j = c := ⟨_, rfl⟩
            rw [ec] at d3
            have hc : (n : Int) + (j : Int) = (c : Int) := by omega
            have hc2 : c ≤ 1099511627776 := by omega
            have hb3 : Below w.heap.size w w3 := hb.trans (t3.bel Hg.out hb.size)
            clear ec d7 d8 hz0 hz1 hzf
            go_wp2_with fail
            refine (dnow_any g S 0 c w3 d3).mono ?_
            rintro e w4 ⟨rfl, rfl⟩
            go_wp2_with fail
            refine (dtaken_any g S 0 c w3 d3).mono ?_
            rintro e w4 ⟨rfl, rfl⟩
            go_wp2_with fail
            go_roundw
            case rel => exact ⟨k + 1, c, by omega, hc2, by go_num, rfl, d3, hb3⟩
            case measure => simp [intOf]; omega
          · have d8 : decide (z ≤ 1099511627776 - (n : Int)) = false := decide_eq_false hz1
            go_wp2_with fail
            refine (dtick_bad g S 0 n z _ wr d hn (by omega) hEr).mono ?_
            rintro e w3 ⟨rfl, rfl⟩
            go_wp2_with fail
            refine (dnow_any g S 0 n wr d).mono ?_
            rintro e w4 ⟨rfl, rfl⟩
            go_wp2_with fail
            refine (dtaken_any g S 0 n wr d).mono ?_
            rintro e w4 ⟨rfl, rfl⟩
            go_wp2_with fail
            go_roundw
            case rel => exact ⟨k + 1, n, by omega, hn, by go_num, rfl, d, hb⟩
            case measure => simp [intOf]; omega
        · have d7 : decide (0 ≤ z) = false := decide_eq_false hz0
          go_wp2_with fail
          refine (dtick_bad g S 0 n z _ wr d hn (by omega) hEr).mono ?_
          rintro e w3 ⟨rfl, rfl⟩
          go_wp2_with fail
          refine (dnow_any g S 0 n wr d).mono ?_
          rintro e w4 ⟨rfl, rfl⟩
          go_wp2_with fail
          refine (dtaken_any g S 0 n wr d).mono ?_
          rintro e w4 ⟨rfl, rfl⟩
          go_wp2_with fail
          go_roundw
          case rel => exact ⟨k + 1, n, by omega, hn, by go_num, rfl, d, hb⟩
          case measure => simp [intOf]; omega
      · have d6 : decide ((100 : Int) < (k : Int)) = true := decide_eq_true (by omega)
        go_wp2_with fail
        go_ret
        exact ⟨rfl, hb⟩
    · have d5 : decide ((k : Int) < (len : Int)) = false := decide_eq_false (by omega)
      go_wp2_with fail
      go_ret
      exact ⟨rfl, hb⟩

theorem drawTicks_walk {W : World} {a0 : Option Addr} {len0 cap0 : Nat} {z0 : List Int} (s0 : Sl W (.slice a0 len0 cap0) z0) (hL : laidMetH Tryd.prog laidR W) :
    Calls Tryd.prog 7 #[.slice a0 len0 cap0] W fun e w' => e = .returned (.bool true) ∧ Below W.heap.size W w' := by
  obtain ⟨ht, pe, hE, hEl⟩ := of_laidR hL
  exact ticks_main _ _ _ z0 pe W s0 ht hE hEl

end Go.Proofs.YtflokfbdogofmaaDoor.Ck
