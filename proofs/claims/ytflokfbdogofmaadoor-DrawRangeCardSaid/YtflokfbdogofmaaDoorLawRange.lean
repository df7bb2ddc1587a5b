/- The walk of the statement DrawRange. -/
import Derived.Test.YtflokfbdogofmaaDoorLaidE
namespace Go.Proofs.YtflokfbdogofmaaDoor.Ck
open Go.RowKit

set_option maxRecDepth 20000 in
set_option maxHeartbeats 1000000 in
theorem range_main (v0 : Value) (seed : List Int) (n : Int) (p : List Addr) (w : World) (hv : SB w v0 seed) (hn : -9223372036854775808 ≤ n ∧ n ≤ 9223372036854775807) (htab : Tab w) (he : Errs17 w p) :
    Calls Tryd.prog 6 #[v0, .int .i64 n] w fun e w' => e = .returned (.bool true) ∧ Below w.heap.size w w' := by
  obtain ⟨a0, c0, rfl, hc0, hcm⟩ := hv.form
  unfold maxLen at hcm
  obtain ⟨l, el⟩ : ∃ l, l = seed.length := ⟨_, rfl⟩
  have EL := hide el
  rw [← el] at hv hc0 ⊢
  clear el
  have h0 := htab.1
  go_enter Tryd.func6, Tryd.ntmps6
  go_wp2_with fail
  refine (dalive_any w htab).mono ?_
  rintro e w1 ⟨rfl, hb1⟩
  by_cases hl : l ≤ 1000
  · have d1 : decide ((1000 : Int) < (l : Int)) = false := decide_eq_false (by omega)
    go_wp2_with fail
    refine (dnew_any seed _ w1 (hv.bel hb1) (by have := EL.out; omega) (htab.bel hb1)).mono ?_
    rintro e w2 ⟨g, rfl, d2, hg, hb2⟩
    have Hg : Hid (w.heap.size ≤ g) := Nat.le_trans hb1.size hg
    have hgT : g ≠ 17 := by have := Hg.out; omega
    have hb12 := bel_trans hb1 hb2
    generalize sha seed = S at *
    clear hb1 hb2 hg
    by_cases hn1 : n < 1
    · have d2' : decide (n < 1) = true := decide_eq_true hn1
      have hq := (he.below (Nat.le_refl _) hb12).cell 0 (by decide)
      go_wp2_with fail
      refine (dpick_bad g n (errV p 0) w2 hn1 hq).mono ?_
      rintro e w3 ⟨rfl, hb3, hh3⟩
      have d3 := d2.bel hb3
      have hb3w := bel_trans hb12 hb3
      go_wp2_with fail
      refine (num_err p 0 w3 (he.below (Nat.le_refl _) hb3w) (by decide)).mono ?_
      rintro e w4 ⟨rfl, hb4⟩
      have d4 := d3.bel hb4
      go_wp2_with fail
      refine (dtaken_any g S 0 0 w4 d4).mono ?_
      rintro e w5 ⟨rfl, rfl⟩
      go_wp2_with fail
      go_ret
      exact ⟨rfl, bel_trans hb3w hb4⟩
    · have d2' : decide (n < 1) = false := decide_eq_false hn1
      obtain ⟨m, rfl⟩ : ∃ m : Nat, n = (m : Int) := ⟨n.toNat, by omega⟩
      have hm1 : 1 ≤ m := by omega
      go_wp2_with fail
      refine (dpick_ok g S 0 0 m w2 d2 (by decide) hm1 (by omega) (htab.bel hb12) hgT).mono ?_
      rintro e w3 ⟨rfl, d3, t3⟩
      have hb3 := bel_tn hb12 t3 Hg.out
      have hvf := pickV_fit S 0 (m : Int) (by omega)
      obtain ⟨T, eT⟩ : ∃ T, T = pickT S 0 (m : Int) := ⟨_, rfl⟩
      have hT : (m = 1 ∧ T = 0) ∨ (1 < m ∧ 1 ≤ T ∧ T ≤ 64) := by
        by_cases h : m = 1
        · left
          subst h
          exact ⟨rfl, eT⟩
        · right
          have := pickT_bounds S 0 (m : Int) (by omega)
          omega
      rw [← eT] at d3
      generalize pickV S 0 (m : Int) = x at *
      clear eT
      have d4 : decide (0 ≤ x) = true := decide_eq_true hvf.1
      have d5 : decide (x < (m : Int)) = true := decide_eq_true hvf.2
      have d6 : decide ((T : Int) ≤ 64) = true := decide_eq_true (by omega)
      by_cases hm : m = 1
      · have d7 : decide ((1 : Int) ≤ (T : Int)) = false := decide_eq_false (by omega)
        have d8 : decide ((1 : Int) < (m : Int)) = false := decide_eq_false (by omega)
        clear hT
        go_wp2_with fail
        refine (dtaken_any g S T 0 w3 d3).mono ?_
        rintro e w5 ⟨rfl, rfl⟩
        go_wp2_with fail
        refine (dtaken_any g S T 0 w3 d3).mono ?_
        rintro e w5 ⟨rfl, rfl⟩
        go_wp2_with fail
        go_ret
        exact ⟨rfl, hb3⟩
      · have d7 : decide ((1 : Int) ≤ (T : Int)) = true := decide_eq_true (by omega)
        have d8 : decide ((1 : Int) < (m : Int)) = true := decide_eq_true (by omega)
        clear hT
        go_wp2_with fail
        refine (dtaken_any g S T 0 w3 d3).mono ?_
        rintro e w5 ⟨rfl, rfl⟩
        go_wp2_with fail
        refine (dtaken_any g S T 0 w3 d3).mono ?_
        rintro e w5 ⟨rfl, rfl⟩
        go_wp2_with fail
        go_ret
        exact ⟨rfl, hb3⟩
  · have d1 : decide ((1000 : Int) < (l : Int)) = true := decide_eq_true (by omega)
    go_wp2_with fail
    go_ret
    exact ⟨rfl, hb1⟩

theorem drawRange_walk {W : World} {a0 : Option Addr} {len0 cap0 : Nat} {z0 : List Int} {a1 : Int} (s0 : SB W (.slice a0 len0 cap0) z0) (w1 : (Lit.int .i64 a1).wf = true) (hL : laidMetH Tryd.prog laidE W) :
    Calls Tryd.prog 6 #[.slice a0 len0 cap0, .int .i64 a1] W fun e w' => e = .returned (.bool true) ∧ Below W.heap.size W w' := by
  obtain ⟨ht, p, he⟩ := of_laidE hL
  exact range_main _ z0 a1 p W s0 (wf_i64 w1) ht he

end Go.Proofs.YtflokfbdogofmaaDoor.Ck
