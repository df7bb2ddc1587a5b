/- The walk of the statement PoolBounds: it answers true. -/
import Derived.Test.YtlkdfiiipheagaaDoorLawSizes
namespace Go.Proofs.YtlkdfiiipheagaaDoor.Ck
open Go.ChangeShapes Go.WideShapes Go.RowKit

theorem in_S1 (P n : Nat) (at_ : Int) (h : P ≤ n) : InRun (S1 P) n at_ ↔ 0 ≤ at_ ∧ at_ < 16 * (P : Int) := by
  constructor
  · rintro ⟨q, r, rfl, hq, hr, hne⟩
    unfold S1 at hne
    by_cases e : q < P
    · omega
    · rw [if_neg e] at hne
      exact absurd rfl hne
  · rintro ⟨h0, h1⟩
    refine ⟨at_.toNat / 16, at_.toNat % 16, by omega, by omega, by omega, ?_⟩
    unfold S1
    rw [if_pos (by omega)]
    omega
theorem end_S1 (P n : Nat) (h : P ≤ n) (hP : 0 < P) : IsEnd (S1 P) n 0 P :=
  ⟨hP, by omega, fun k _ h2 => by unfold S1; rw [if_pos h2]; rfl, fun _ => by
    unfold S1
    rw [if_neg (by omega)]
    omega⟩
theorem ne_S1 (P q : Nat) (h : q < P) : S1 P q ≠ 0 := by
  unfold S1
  rw [if_pos h]
  omega

set_option maxHeartbeats 1000000 in
theorem bounds_main (a at_ v : Int) (w : World) (p : List Addr) (hp : Errs17 w p) :
    Calls Tryd.prog 7 #[.int .i64 a, .int .i64 at_, .int .i64 v] w fun e w' => e = .returned (.bool true) ∧ Below w.heap.size w w' := by
  obtain ⟨x, hx, hx2⟩ := umod a 100 (by omega)
  rw [show ((100 : Nat) : Int) = 100 from rfl] at hx
  obtain ⟨P, hP, hP3, hP4⟩ : ∃ P : Nat, need (1 + (x : Int)) = P ∧ 0 < P ∧ P ≤ 7 := ⟨x / 16 + 1, by unfold need; omega, by omega, by omega⟩
  have NP := hide hP
  clear hP
  go_enter Tryd.func7, Tryd.ntmps7
  go_wp2_with fail
  refine (alive_any _ p hp).mono ?_
  rintro e w1 ⟨rfl, b1⟩
  go_wp2_with fail
  refine (sole_any 16 _ (by omega) (by omega)).mono ?_
  rintro e w2 ⟨⟨L, rfl, hn, hA, hM⟩, hb2⟩
  have hM : Mine w.heap.size L := ⟨Nat.le_trans b1.size hM.1, Nat.le_trans b1.size hM.2⟩
  have b2 := bel_trans b1 hb2
  clear b1 hb2
  go_wp2_with fail
  refine (alloc_any L _ _ (1 + x) _ p hA (hp.below (Nat.le_refl _) b2) (by omega)).mono ?_
  rintro e w3 ⟨x3, e3, R', rfl, hr3, hA3, u3⟩
  obtain ⟨rfl, rfl, rfl⟩ := hr3.ok (by omega) (f := 0) (by rw [hn, NP.out]; exact gap_zero 16 P (by omega))
  have b3 := b2.trans (hM.bel u3)
  have hA3' : Ar w3 L (S1 P) (fun _ => 0) := hA3.congr (fun k _ => by rw [NP.out]; exact S1_of P k) (fun _ _ => rfl)
  clear hr3 hA3 u3 hA b2
  by_cases h0 : at_ < 0
  · have hno : Hid (¬ InRun (S1 P) L.n at_) := by rw [hn]; exact fun h => by have := (in_S1 P 16 at_ (by omega)).1 h; omega
    go_wp2_with fail
    refine (set_not_u L _ _ _ _ _ p hA3' (hp.below (Nat.le_refl _) b3) hno.out).mono ?_
    rintro e w4 ⟨rfl, hA4, u4⟩
    have b4 := b3.trans (hM.bel u4)
    clear hA3' u4 b3
    go_wp2_with fail
    refine (get_not_u L _ _ _ _ p hA4 (hp.below (Nat.le_refl _) b4) hno.out).mono ?_
    rintro e w5 ⟨rfl, hA5, u5⟩
    have b5 := b4.trans (hM.bel u5)
    clear hA4 hA5 u5 b4 hno
    go_wp2_with fail
    refine (num_err p 0 _ (hp.below (Nat.le_refl _) b5) (by omega)).mono ?_
    rintro e w6 ⟨rfl, hb6⟩
    have b6 := bel_trans b5 hb6
    clear hb6 b5
    go_wp2_with fail
    refine (num_err p 0 _ (hp.below (Nat.le_refl _) b6) (by omega)).mono ?_
    rintro e w7 ⟨rfl, hb7⟩
    have b7 := bel_trans b6 hb7
    clear hb7 b6
    go_wp2_with fail
    go_ret
    exact ⟨rfl, b7⟩
  · go_wp2_with fail
    refine (size_u L _ _ _ _ hA3').mono ?_
    rintro e w4 ⟨⟨f4, t4, rfl, hr4⟩, hA4, u4⟩
    obtain ⟨ef4, et4⟩ := hr4.ok (f' := 0) (t' := P) (by omega) (by rw [hn]; exact end_S1 P 16 (by omega) hP3)
    have b4 := b3.trans (hM.bel u4)
    rw [ef4, et4, show ((P : Int) - ((0 : Nat) : Int)) * 16 = 16 * (P : Int) by omega]
    clear hr4 ef4 et4 hA3' b3 u4
    by_cases h1 : at_ < 16 * (P : Int)
    · obtain ⟨q, r, hat, hq, hr⟩ : ∃ q r : Nat, at_ = 16 * (q : Int) + r ∧ q < P ∧ r < 16 := ⟨at_.toNat / 16, at_.toNat % 16, by omega, by omega, by omega⟩
      have Hat := hide hat
      clear hat
      go_wp2_with fail
      refine (set_in_u L _ _ _ q r _ _ hA4 Hat.out (by omega) hr (ne_S1 P q hq)).mono ?_
      rintro e w5 ⟨rfl, hA5, u5⟩
      have b5 := b4.trans (hM.bel u5)
      clear hA4 u5 b4
      go_wp2_with fail
      refine (get_in_u L _ _ _ q r _ hA5 Hat.out (by omega) hr (ne_S1 P q hq)).mono ?_
      rintro e w6 ⟨rfl, hA6, u6⟩
      have b6 := b5.trans (hM.bel u6)
      rw [if_pos rfl]
      have ev : (v == v) = true := by simp
      clear hA5 hA6 u6 b5
      go_wp2_with fail
      go_ret
      exact ⟨rfl, b6⟩
    · have hno : Hid (¬ InRun (S1 P) L.n at_) := by rw [hn]; exact fun h => by have := (in_S1 P 16 at_ (by omega)).1 h; omega
      have hd : decide (at_ < 16 * (P : Int)) = false := by simp; omega
      go_wp2_with fail
      refine (set_not_u L _ _ _ _ _ p hA4 (hp.below (Nat.le_refl _) b4) hno.out).mono ?_
      rintro e w5 ⟨rfl, hA5, u5⟩
      have b5 := b4.trans (hM.bel u5)
      clear hA4 u5 b4
      go_wp2_with fail
      refine (get_not_u L _ _ _ _ p hA5 (hp.below (Nat.le_refl _) b5) hno.out).mono ?_
      rintro e w6 ⟨rfl, hA6, u6⟩
      have b6 := b5.trans (hM.bel u6)
      clear hA5 hA6 u6 b5 hno
      go_wp2_with fail
      refine (num_err p 0 _ (hp.below (Nat.le_refl _) b6) (by omega)).mono ?_
      rintro e w7 ⟨rfl, hb7⟩
      have b7 := bel_trans b6 hb7
      clear hb7 b6
      go_wp2_with fail
      refine (num_err p 0 _ (hp.below (Nat.le_refl _) b7) (by omega)).mono ?_
      rintro e w8 ⟨rfl, hb8⟩
      have b8 := bel_trans b7 hb8
      clear hb8 b7
      go_wp2_with fail
      go_ret
      exact ⟨rfl, b8⟩

theorem poolBounds_walk {W : World} {a b c : Int} (_wa : (Lit.int .i64 a).wf = true) (_wb : (Lit.int .i64 b).wf = true) (_wc : (Lit.int .i64 c).wf = true) (hL : laidMetH Tryd.prog laid17 W) :
    Calls Tryd.prog 7 #[.int .i64 a, .int .i64 b, .int .i64 c] W fun e w' => e = .returned (.bool true) ∧ Below W.heap.size W w' := by
  obtain ⟨p, hp⟩ := errs17_of_laid hL
  exact bounds_main a b c W p hp

end Go.Proofs.YtlkdfiiipheagaaDoor.Ck
