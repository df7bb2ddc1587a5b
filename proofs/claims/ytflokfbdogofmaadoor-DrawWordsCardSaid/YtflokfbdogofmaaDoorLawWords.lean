/- The walk of the statement DrawWords. -/
import Derived.Test.YtflokfbdogofmaaDoorLaidE
import Derived.Test.YtflokfbdogofmaaDoorRw
namespace Go.Proofs.YtflokfbdogofmaaDoor.Ck
open Go.RowKit

set_option maxRecDepth 20000 in
set_option maxHeartbeats 2000000 in
theorem words_main (v0 : Value) (seed : List Int) (f n : Int) (p : List Addr) (w : World) (hv : SB w v0 seed) (hf : -9223372036854775808 ≤ f ∧ f ≤ 9223372036854775807) (hn : -9223372036854775808 ≤ n ∧ n ≤ 9223372036854775807) (htab : Tab w) (he : Errs17 w p) :
    Calls Tryd.prog 4 #[v0, .int .i64 f, .int .i64 n] w fun e w' => e = .returned (.bool true) ∧ Below w.heap.size w w' := by
  obtain ⟨a0, c0, rfl, hc0, hcm⟩ := hv.form
  unfold maxLen at hcm
  obtain ⟨l, el⟩ : ∃ l, l = seed.length := ⟨_, rfl⟩
  have EL := hide el
  rw [← el] at hv hc0 ⊢
  clear el
  have h0 := htab.1
  go_enter Tryd.func4, Tryd.ntmps4
  go_wp2_with fail
  refine (dalive_any w htab).mono ?_
  rintro e w1 ⟨rfl, hb1⟩
  by_cases hl : l ≤ 3000
  · have d1 : decide ((3000 : Int) < (l : Int)) = false := decide_eq_false (by omega)
    by_cases hn2 : n ≤ 200
    · have d2 : decide ((200 : Int) < n) = false := decide_eq_false (by omega)
      by_cases hbad : f < 0 ∨ 1099511627776 < f ∨ n < 0
      · have hq := (he.below (Nat.le_refl _) hb1).cell 0 (by decide)
        go_wp2_with fail
        refine (words_bad _ f n (errV p 0) w1 (by omega) hq).mono ?_
        rintro e w2 ⟨rfl, hb2⟩
        have hb12 := bel_trans hb1 hb2
        by_cases b1 : f < 0
        · have e1 : decide (f < 0) = true := decide_eq_true b1
          clear hbad
          go_wp2_with fail
          refine (num_err p 0 w2 (he.below (Nat.le_refl _) hb12) (by decide)).mono ?_
          rintro e w3 ⟨rfl, hb3⟩
          go_wp2_with fail
          go_ret
          exact ⟨rfl, bel_trans hb12 hb3⟩
        · have e1 : decide (f < 0) = false := decide_eq_false b1
          by_cases b2 : 1099511627776 < f
          · have e2 : decide (1099511627776 < f) = true := decide_eq_true b2
            clear hbad
            go_wp2_with fail
            refine (num_err p 0 w2 (he.below (Nat.le_refl _) hb12) (by decide)).mono ?_
            rintro e w3 ⟨rfl, hb3⟩
            go_wp2_with fail
            go_ret
            exact ⟨rfl, bel_trans hb12 hb3⟩
          · have e2 : decide (1099511627776 < f) = false := decide_eq_false b2
            have b3 : n < 0 := by omega
            have e3 : decide (n < 0) = true := decide_eq_true b3
            clear hbad
            go_wp2_with fail
            refine (num_err p 0 w2 (he.below (Nat.le_refl _) hb12) (by decide)).mono ?_
            rintro e w3 ⟨rfl, hb3⟩
            go_wp2_with fail
            go_ret
            exact ⟨rfl, bel_trans hb12 hb3⟩
      · obtain ⟨F, rfl⟩ : ∃ F : Nat, f = (F : Int) := ⟨f.toNat, by omega⟩
        obtain ⟨N, rfl⟩ : ∃ N : Nat, n = (N : Int) := ⟨n.toNat, by omega⟩
        have e1 : decide ((F : Int) < 0) = false := decide_eq_false (by omega)
        have e2 : decide (1099511627776 < (F : Int)) = false := decide_eq_false (by omega)
        have e3 : decide ((N : Int) < 0) = false := decide_eq_false (by omega)
        have hF : (F : Int) ≤ 1099511627776 := by omega
        have hN : (N : Int) ≤ 200 := by omega
        have h3 : seed.length ≤ 3000 := by have := EL.out; omega
        have H3 := hide h3
        clear hbad hf hn h3
        go_wp2_with fail
        refine (words_ok seed _ F N w1 (hv.bel hb1) (by have := H3.out; omega) (by omega) (by omega) (htab.bel hb1)).mono ?_
        rintro e w2 ⟨g4, rfl, o2, hb2⟩
        have hb12 := bel_trans hb1 hb2
        go_wp2_with fail
        refine (rnew_ha w2).mono ?_
        rintro e w3 ⟨gh, gS, cS, gT, cT, rfl, hh3, hb3⟩
        have hb3w := bel_trans hb12 hb3
        have o3 := o2.below hb3
        go_wp2_with fail
        refine (rof_any gh gS cS gT cT _ seed w3 hh3 (hv.bel hb3w) (by have := H3.out; omega)).mono ?_
        rintro e w4 ⟨gr, cr, rfl, or4, hb4⟩
        have hb4w := bel_trans hb3w hb4
        have o4 := o3.below hb4
        have hh4 := hh3.bel hb4
        have sR : SB w4 (.slice (some ⟨gr, 0, none⟩) 32 cr) (sha seed) := by
          have := or4.sl (sha_fit' seed)
          rw [sha_len] at this
          exact this
        have hSl : Hid ((sha seed).length = 32) := sha_len seed
        generalize sha seed = S at *
        clear hb1 hb2 hb12 hb3 hb3w hb4 o2 o3 hh3 or4
        go_wp2_with fail
        go_loopw [61] (fun z wr => ∃ k : Nat, k ≤ N ∧ z = .int .i64 k ∧ Below w4.heap.size w4 wr) (fun z _ => N - (intOf z).toNat)
        case atStart => exact ⟨0, Nat.zero_le _, rfl, Below.refl _ _⟩
        case round =>
          obtain ⟨k, hk, rfl, hb⟩ := hrel
          by_cases hkN : k < N
          · have d5 : decide ((k : Int) < (N : Int)) = true := decide_eq_true (by omega)
            have i5 : (0 : Int) ≤ (k : Int) ∧ (k : Int) < (N : Int) := by omega
            have q0 := (o4.below hb).cell k (by rw [wordsL_len]; exact hkN)
            rw [wordsL_at _ _ _ _ hkN] at q0
            obtain ⟨c, ec⟩ : ∃ c, c = F + k := ⟨_, rfl⟩
            rw [← ec] at q0
            have hc : (F : Int) + (k : Int) = (c : Int) := by omega
            have hc2 : c ≤ 4611686018427387904 := by omega
            obtain ⟨x, ex⟩ : ∃ x, wordN S c = x := ⟨_, rfl⟩
            have EX := hide ex
            rw [ex] at q0
            clear ec ex
            go_wp2_with fail
            refine (rword_any gh gS cS gT cT _ S c wr (hh4.bel hb) (sR.bel hb) hSl.out hc2).mono ?_
            rintro e w5 ⟨rfl, hb5⟩
            rw [EX.out]
            go_wp2_with fail
            go_roundw
            case rel => exact ⟨k + 1, by omega, by go_num, bel_trans hb hb5⟩
            case measure => simp [intOf]; omega
          · have ek : k = N := by omega
            subst ek
            have d5 : decide ((k : Int) < (k : Int)) = false := decide_eq_false (by omega)
            go_wp2_with fail
            go_ret
            exact ⟨rfl, bel_trans hb4w hb⟩
    · have d2 : decide ((200 : Int) < n) = true := decide_eq_true (by omega)
      go_wp2_with fail
      go_ret
      exact ⟨rfl, hb1⟩
  · have d1 : decide ((3000 : Int) < (l : Int)) = true := decide_eq_true (by omega)
    go_wp2_with fail
    go_ret
    exact ⟨rfl, hb1⟩

theorem drawWords_walk {W : World} {a0 : Option Addr} {len0 cap0 : Nat} {z0 : List Int} {a1 a2 : Int} (s0 : SB W (.slice a0 len0 cap0) z0) (w1 : (Lit.int .i64 a1).wf = true) (w2 : (Lit.int .i64 a2).wf = true) (hL : laidMetH Tryd.prog laidE W) :
    Calls Tryd.prog 4 #[.slice a0 len0 cap0, .int .i64 a1, .int .i64 a2] W fun e w' => e = .returned (.bool true) ∧ Below W.heap.size W w' := by
  obtain ⟨ht, p, he⟩ := of_laidE hL
  exact words_main _ z0 a1 a2 p W s0 (wf_i64 w1) (wf_i64 w2) ht he

end Go.Proofs.YtflokfbdogofmaaDoor.Ck
