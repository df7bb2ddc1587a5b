/- The walk of the statement PoolFrees: it answers true. -/
import Derived.Test.YtlkdfiiipheagaaDoorLawBounds
namespace Go.Proofs.YtlkdfiiipheagaaDoor.Ck
open Go.ChangeShapes Go.WideShapes Go.RowKit

set_option maxHeartbeats 1000000 in
theorem frees_main (a at_ v : Int) (w : World) (p : List Addr) (hp : Errs17 w p) :
    Calls Tryd.prog 8 #[.int .i64 a, .int .i64 at_, .int .i64 v] w fun e w' => e = .returned (.bool true) ∧ Below w.heap.size w w' := by
  obtain ⟨x, hx, hx2⟩ := umod a 100 (by omega)
  rw [show ((100 : Nat) : Int) = 100 from rfl] at hx
  obtain ⟨y, hy, hy2⟩ := umod at_ (1 + x) (by omega)
  rw [show ((1 + x : Nat) : Int) = 1 + (x : Int) by omega] at hy
  have hwu : IntKind.u64.wrap (1 + (x : Int)) = 1 + (x : Int) := by
    show (1 + (x : Int)) % _ = _
    have e : ((2 : Int) ^ IntKind.u64.bits) = 18446744073709551616 := by decide
    exact Int.emod_eq_of_lt (by omega) (by rw [e]; omega)
  obtain ⟨P, hP, hP3, hP4, hP5⟩ : ∃ P : Nat, need (1 + (x : Int)) = P ∧ 0 < P ∧ P ≤ 7 ∧ y < 16 * P := ⟨x / 16 + 1, by unfold need; omega, by omega, by omega, by omega⟩
  obtain ⟨q, r, hqr, hq, hr⟩ : ∃ q r : Nat, y = 16 * q + r ∧ q < P ∧ r < 16 := ⟨y / 16, y % 16, by omega, by omega, by omega⟩
  have NP := hide hP
  have Hqr := hide hqr
  clear hP hqr
  go_enter Tryd.func8, Tryd.ntmps8
  go_wp2_with fail
  refine (alive_any _ p hp).mono ?_
  rintro e w1 ⟨rfl, b1⟩
  go_wp2_with fail
  refine (sole_any 16 _ (by omega) (by omega)).mono ?_
  rintro e w2 ⟨⟨L, rfl, hn, hA, hM⟩, hb2⟩
  have hM : Mine w.heap.size L := ⟨Nat.le_trans b1.size hM.1, Nat.le_trans b1.size hM.2⟩
  have b2 := bel_trans b1 hb2
  clear b1 hb2
  go_wp2_with fail
  refine (alloc_any L _ _ (1 + x) _ p hA (hp.below (Nat.le_refl _) b2) (by omega)).mono ?_
  rintro e w3 ⟨x3, e3, R', rfl, hr3, hA3, u3⟩
  obtain ⟨rfl, rfl, rfl⟩ := hr3.ok (by omega) (f := 0) (by rw [hn, NP.out]; exact gap_zero 16 P (by omega))
  have b3 := b2.trans (hM.bel u3)
  have hA3' : Ar w3 L (S1 P) (fun _ => 0) := hA3.congr (fun k _ => by rw [NP.out]; exact S1_of P k) (fun _ _ => rfl)
  clear hr3 hA3 u3 hA b2
  go_wp2_with fail
  refine (set_in_u L _ _ _ q r _ _ hA3' (by have := Hqr.out; omega) (by omega) hr (ne_S1 P q hq)).mono ?_
  rintro e w4 ⟨rfl, hA4, u4⟩
  have b4 := b3.trans (hM.bel u4)
  clear hA3' u4 b3
  go_wp2_with fail
  refine (free_any L _ _ _ _ p hA4 (hp.below (Nat.le_refl _) b4)).mono ?_
  rintro e w5 ⟨f5, t5, hr5, rfl, hA5, u5⟩
  obtain ⟨ef5, et5⟩ := hr5.ok (f' := 0) (t' := P) (by omega) (by rw [hn]; exact end_S1 P 16 (by omega) hP3)
  have b5 := b4.trans (hM.bel u5)
  have hA5' : Ar w5 L (fun _ => 0) (fun _ => 0) := hA5.congr (fun k _ => by
    rw [ef5, et5]
    unfold S1
    by_cases h : k < P
    · rw [if_pos (by omega)]
    · rw [if_neg (by omega), if_neg h]) (fun k _ => by
    rw [ef5, et5]
    by_cases h : k < 16 * P
    · rw [if_pos (by omega)]
    · rw [if_neg (by omega), if_neg (by omega)])
  rw [if_pos (by omega)]
  clear hr5 hA5 u5 hA4 b4 ef5 et5
  go_wp2_with fail
  refine (free_any L _ _ _ _ p hA5' (hp.below (Nat.le_refl _) b5)).mono ?_
  rintro e w6 ⟨f6, t6, hr6, rfl, hA6, u6⟩
  have ef6 := hr6.no (fun f' _ _ => by show (0 : Int) ≠ _; omega)
  have b6 := b5.trans (hM.bel u6)
  have hA6' : Ar w6 L (fun _ => 0) (fun _ => 0) := hA6.congr (fun k _ => by split <;> rfl) (fun k _ => by split <;> rfl)
  rw [if_neg (by omega)]
  clear hr6 hA6 u6 hA5' b5 ef6
  go_wp2_with fail
  refine (alloc_any L _ _ (1 + x) _ p hA6' (hp.below (Nat.le_refl _) b6) (by omega)).mono ?_
  rintro e w7 ⟨x7, e7, R', rfl, hr7, hA7, u7⟩
  obtain ⟨rfl, rfl, rfl⟩ := hr7.ok (by omega) (f := 0) (by rw [hn, NP.out]; exact gap_zero 16 P (by omega))
  have b7 := b6.trans (hM.bel u7)
  have hA7' : Ar w7 L (S1 P) (fun _ => 0) := hA7.congr (fun k _ => by rw [NP.out]; exact S1_of P k) (fun _ _ => rfl)
  clear hr7 hA7 u7 hA6' b6
  go_wp2_with fail
  refine (get_in_u L _ _ _ q r _ hA7' (by have := Hqr.out; omega) (by omega) hr (ne_S1 P q hq)).mono ?_
  rintro e w8 ⟨rfl, hA8, u8⟩
  have b8 := b7.trans (hM.bel u8)
  clear hA7' hA8 u8 b7
  go_wp2_with fail
  refine (num_err p 7 _ (hp.below (Nat.le_refl _) b8) (by omega)).mono ?_
  rintro e w9 ⟨rfl, hb9⟩
  have b9 := bel_trans b8 hb9
  clear hb9 b8
  go_wp2_with fail
  go_ret
  exact ⟨rfl, b9⟩

theorem poolFrees_walk {W : World} {a b c : Int} (_wa : (Lit.int .i64 a).wf = true) (_wb : (Lit.int .i64 b).wf = true) (_wc : (Lit.int .i64 c).wf = true) (hL : laidMetH Tryd.prog laid17 W) :
    Calls Tryd.prog 8 #[.int .i64 a, .int .i64 b, .int .i64 c] W fun e w' => e = .returned (.bool true) ∧ Below W.heap.size W w' := by
  obtain ⟨p, hp⟩ := errs17_of_laid hL
  exact frees_main a b c W p hp

end Go.Proofs.YtlkdfiiipheagaaDoor.Ck
