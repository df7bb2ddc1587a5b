/- The walk of the statement DrawNumbers. -/
import Derived.Test.YtflokfbdogofmaaDoorLaidR
namespace Go.Proofs.YtflokfbdogofmaaDoor.Ck
open Go.RowKit

theorem pow_fair (b : Nat) (hb : b ≤ 62) : lastF ((2 ^ b : Nat) : Int) = 18446744073709551615 := by
  unfold lastF
  have h1 : ((18446744073709551616 : Int) - ((2 ^ b : Nat) : Int)) % ((2 ^ b : Nat) : Int) = 0 := by
    have e : (18446744073709551616 : Int) = ((2 ^ b : Nat) : Int) * ((2 ^ (64 - b) : Nat) : Int) := by
      rw [← Int.natCast_mul, ← Nat.pow_add, show b + (64 - b) = 64 by omega]
      rfl
    rw [e]
    have e2 : ((2 ^ b : Nat) : Int) * ((2 ^ (64 - b) : Nat) : Int) - ((2 ^ b : Nat) : Int) = ((2 ^ b : Nat) : Int) * (((2 ^ (64 - b) : Nat) : Int) - 1) := by rw [Int.mul_sub, Int.mul_one]
    rw [e2]
    exact Int.mul_emod_right _ _
  omega
theorem pick_pow (S : List Int) (t b : Nat) (h1 : 1 ≤ b) (hb : b ≤ 62) : pickV S t ((2 ^ b : Nat) : Int) = wordN S t % ((2 ^ b : Nat) : Int) := by
  have hp : 2 ≤ 2 ^ b := by
    have := Nat.pow_le_pow_right (show 0 < 2 by decide) h1
    simpa using this
  have hne : ¬ ((2 ^ b : Nat) : Int) = 1 := by omega
  have hw := wordN_fit S t
  have e : pickT S t ((2 ^ b : Nat) : Int) = t + 1 := by
    unfold pickT
    rw [if_neg hne, pow_fair b hb]
    exact pkT_stop S _ 63 (t + 1) (by simpa using (by omega : wordN S t ≤ 18446744073709551615))
  unfold pickV
  rw [if_neg hne, e]
  rfl

set_option maxRecDepth 20000 in
set_option maxHeartbeats 1000000 in
theorem numbers_main (v0 : Value) (seed : List Int) (x y : Int) (w : World) (hv : SB w v0 seed) (_hx : -9223372036854775808 ≤ x ∧ x ≤ 9223372036854775807) (_hy : -9223372036854775808 ≤ y ∧ y ≤ 9223372036854775807) (htab : Tab w) :
    Calls Tryd.prog 8 #[v0, .int .i64 x, .int .i64 y] w fun e w' => e = .returned (.bool true) ∧ Below w.heap.size w w' := by
  obtain ⟨a0, c0, rfl, hc0, hcm⟩ := hv.form
  unfold maxLen at hcm
  obtain ⟨l, el⟩ : ∃ l, l = seed.length := ⟨_, rfl⟩
  have EL := hide el
  rw [← el] at hv hc0 ⊢
  clear el
  have h0 := htab.1
  go_enter Tryd.func8, Tryd.ntmps8
  go_wp2_with fail
  refine (dalive_any w htab).mono ?_
  rintro e w1 ⟨rfl, hb1⟩
  by_cases hl : l ≤ 1000
  · have d1 : decide ((1000 : Int) < (l : Int)) = false := decide_eq_false (by omega)
    obtain ⟨u, hu⟩ : ∃ u, IntKind.u64.wrap x = u := ⟨_, rfl⟩
    obtain ⟨v, hv2⟩ : ∃ v, IntKind.u64.wrap y = v := ⟨_, rfl⟩
    have hu0 : 0 ≤ u ∧ u < 18446744073709551616 := by rw [← hu, IntKind.wrap_u64]; omega
    have hv0 : 0 ≤ v ∧ v < 18446744073709551616 := by rw [← hv2, IntKind.wrap_u64]; omega
    obtain ⟨c, ec⟩ : ∃ c : Nat, u % 30 = (c : Int) := ⟨(u % 30).toNat, by omega⟩
    obtain ⟨b, eb⟩ : ∃ b : Nat, v % 60 = (b : Int) := ⟨(v % 60).toNat, by omega⟩
    have hc : (c : Int) < 30 := by omega
    have hb : (b : Int) < 60 := by omega
    obtain ⟨n1, en1⟩ : ∃ n1 : Nat, (c : Int) + 1 = (n1 : Int) := ⟨c + 1, by omega⟩
    obtain ⟨b1, eb1⟩ : ∃ b1 : Nat, 1 + (b : Int) = (b1 : Int) := ⟨b + 1, by omega⟩
    go_wp2_with fail
    refine (words_ok seed _ 0 n1 w1 (hv.bel hb1) (by have := EL.out; omega) (by decide) (by omega) (htab.bel hb1)).mono ?_
    rintro e w2 ⟨g4, rfl, o2, hb2⟩
    have hb12 := bel_trans hb1 hb2
    go_wp2_with fail
    refine (dnew_any seed _ w2 (hv.bel hb12) (by have := EL.out; omega) (htab.bel hb12)).mono ?_
    rintro e w3 ⟨g, rfl, d3, hg, hb3⟩
    have hge := o2.ge
    have hlt4 := o2.lt
    have hz1 := hb1.size
    have hz2 := hb2.size
    have Hg : Hid (w.heap.size ≤ g) := by show _ ≤ _; omega
    have hgT : g ≠ 17 := by omega
    have hne : g4 ≠ g := by omega
    have o3 : OwnD w3 0 g4 n1 (wordsL (sha seed) 0 n1) := (o2.below hb3).down (Nat.zero_le _)
    have hb3w := bel_trans hb12 hb3
    generalize sha seed = S at *
    clear hge hlt4 hz1 hz2 hg hb1 hb2 hb12 hb3 o2 hu hv2
    go_wp2_with fail
    go_loopw [45] (fun i wr => ∃ k : Nat, k ≤ c ∧ i = .int .i64 k ∧ Dw wr g S k 0 ∧ OwnD wr 0 g4 n1 (wordsL S 0 n1) ∧ Below w.heap.size w wr) (fun i _ => c - (intOf i).toNat)
    case atStart => exact ⟨0, Nat.zero_le _, rfl, d3, o3, hb3w⟩
    case round =>
      obtain ⟨k, hk, rfl, d, o, hbw⟩ := hrel
      have q0 := o.cell k (by rw [wordsL_len]; omega)
      rw [wordsL_at _ _ _ _ (by omega), Nat.zero_add] at q0
      have hg4 := o.lt
      by_cases hkc : k < c
      · have d5 : decide ((k : Int) < (c : Int)) = true := decide_eq_true (by omega)
        have i5 : (0 : Int) ≤ (k : Int) ∧ (k : Int) < (n1 : Int) := by omega
        obtain ⟨z, ez⟩ : ∃ z, wordN S k = z := ⟨_, rfl⟩
        have EZ := hide ez
        rw [ez] at q0
        clear ez
        have htr := htab.bel hbw
        go_wp2_with fail
        go_region_held3 (fun w' => w'.cell? ⟨g4, k, none⟩ = some (.int .u64 z)) (first | assumption)
          (first | (go_at_call 14; refine (dword_any g S k 0 _ d.drew (by omega) htr).mono ?_; rintro e w5 ⟨rfl, d5', t5⟩; rw [EZ.out]; have q5 := (t5.cell ⟨g4, k, none⟩ hg4 hne).trans q0))
        have hb5 := bel_tn hbw (show Tn g wr w5 from ⟨t5.os, t5.tape, t5.output, t5.size, t5.blk⟩) Hg.out
        have o5 := o.tn (show Tn g wr w5 from ⟨t5.os, t5.tape, t5.output, t5.size, t5.blk⟩) hne
        clear q0 q5 t5
        go_wp2_with fail
        go_roundw
        case rel => exact ⟨k + 1, by omega, by go_num, d5', o5, hb5⟩
        case measure => simp [intOf]; omega
      · have ek : k = c := by omega
        subst ek
        have d5 : decide ((k : Int) < (k : Int)) = false := decide_eq_false (by omega)
        obtain ⟨P, eP⟩ : ∃ P : Nat, P = 2 ^ b1 := ⟨_, rfl⟩
        have hP : (2 : Int) ^ b1 = (P : Int) := by rw [eP, Int.natCast_pow]; rfl
        have hP2 : P ≤ 2 ^ 60 := by rw [eP]; exact Nat.pow_le_pow_right (by decide) (by omega)
        have hP1 : 2 ≤ P := by
          rw [eP]
          have := Nat.pow_le_pow_right (show 0 < 2 by decide) (show 1 ≤ b1 by omega)
          simpa using this
        have iP : (2 : Int) ≤ (P : Int) ∧ (P : Int) ≤ 1152921504606846976 := by omega
        have EV : Hid (pickV S k (P : Int) = wordN S k % (P : Int)) := by show _ = _; rw [eP]; exact pick_pow S k b1 (by omega) (by omega)
        have hw := wordN_fit S k
        have i6 : (0 : Int) ≤ (k : Int) ∧ (k : Int) < (n1 : Int) := by omega
        clear eP hP2
        go_wp2_with fail
        refine (dpick_ok g S k 0 P wr d (by omega) (by omega) (by omega) (htab.bel hbw) hgT).mono ?_
        rintro e w5 ⟨rfl, d5', t5⟩
        have q5 := (t5.cell ⟨g4, k, none⟩ hg4 hne).trans q0
        have hb5 := bel_tn hbw t5 Hg.out
        rw [EV.out]
        generalize wordN S k = z at *
        have hm0 := Int.emod_nonneg z (show (P : Int) ≠ 0 by omega)
        have hm1 := Int.emod_lt_of_pos z (show 0 < (P : Int) by omega)
        clear EV q0 d5' t5
        go_wp2_with fail
        go_quiet (fail)
        go_wp2_with fail
        go_ret
        exact ⟨rfl, ⟨hb5.os, hb5.tape, hb5.output, hb5.size, hb5.block⟩⟩
  · have d1 : decide ((1000 : Int) < (l : Int)) = true := decide_eq_true (by omega)
    go_wp2_with fail
    go_ret
    exact ⟨rfl, hb1⟩

theorem drawNumbers_walk {W : World} {a0 : Option Addr} {len0 cap0 : Nat} {z0 : List Int} {a1 a2 : Int} (s0 : SB W (.slice a0 len0 cap0) z0) (w1 : (Lit.int .i64 a1).wf = true) (w2 : (Lit.int .i64 a2).wf = true) (hL : laidMetH Tryd.prog laidR W) :
    Calls Tryd.prog 8 #[.slice a0 len0 cap0, .int .i64 a1, .int .i64 a2] W fun e w' => e = .returned (.bool true) ∧ Below W.heap.size W w' :=
  numbers_main _ z0 a1 a2 W s0 (wf_i64 w1) (wf_i64 w2) (of_laidR hL).1

end Go.Proofs.YtflokfbdogofmaaDoor.Ck
