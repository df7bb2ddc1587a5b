/- The walk of the statement PoolSizes: it answers true. -/
import Derived.Test.YtlkdfiiipheagaaDoorFact
import Derived.Test.YtlkdfiiipheagaaDoorLaid17
import Derived.Test.YtlkdfiiipheagaaDoorOpen
namespace Go.Proofs.YtlkdfiiipheagaaDoor.Ck
open Go.ChangeShapes Go.WideShapes Go.RowKit

theorem umod (a : Int) (n : Nat) (hn : 0 < n) : ∃ x : Nat, (IntKind.u64.wrap a).tmod (n : Int) = (x : Int) ∧ x < n := by
  have h0 : 0 ≤ IntKind.u64.wrap a := by
    show 0 ≤ a % _
    exact Int.emod_nonneg _ (by decide)
  rw [Int.tmod_eq_emod_of_nonneg h0]
  have h1 := Int.emod_nonneg (IntKind.u64.wrap a) (show (n : Int) ≠ 0 by omega)
  have h2 := Int.emod_lt_of_pos (IntKind.u64.wrap a) (show (0 : Int) < n by omega)
  exact ⟨((IntKind.u64.wrap a) % n).toNat, by omega, by omega⟩

/-- two runs, of P and Q pages, from page 0 on -/
def S2 (P Q k : Nat) : Int := if k < P then 1 else if k < P + Q then (P : Int) + 1 else 0
def S1 (P k : Nat) : Int := if k < P then 1 else 0

theorem gap_S1 (P Q n : Nat) (h : P + Q ≤ n) (hQ : 0 < Q) : IsGap (S1 P) n Q P := by
  refine ⟨h, fun k h1 h2 => by unfold S1; rw [if_neg (by omega)], fun f' hf h => ?_⟩
  have := h f' (by omega) (by omega)
  unfold S1 at this
  rw [if_pos (by omega)] at this
  omega
theorem S1_of (P k : Nat) : (if 0 ≤ k ∧ k < 0 + P then ((0 : Nat) : Int) + 1 else 0) = S1 P k := by
  unfold S1
  by_cases h : k < P
  · rw [if_pos (by omega), if_pos h]; rfl
  · rw [if_neg (by omega), if_neg h]
theorem S2_of (P Q k : Nat) : (if P ≤ k ∧ k < P + Q then (P : Int) + 1 else S1 P k) = S2 P Q k := by
  unfold S1 S2
  by_cases h : k < P
  · rw [if_neg (by omega), if_pos h, if_pos h]
  · by_cases h2 : k < P + Q
    · rw [if_pos (by omega), if_neg h, if_pos h2]
    · rw [if_neg (by omega), if_neg h, if_neg h, if_neg h2]
theorem end_S2a (P Q n : Nat) (h : P + Q ≤ n) (hP : 0 < P) : IsEnd (S2 P Q) n 0 P :=
  ⟨hP, by omega, fun k _ h2 => by unfold S2; rw [if_pos h2]; rfl, fun _ => by
    unfold S2
    rw [if_neg (by omega)]
    split <;> omega⟩
theorem end_S2b (P Q n : Nat) (h : P + Q ≤ n) (hQ : 0 < Q) : IsEnd (S2 P Q) n P (P + Q) :=
  ⟨by omega, h, fun k h1 h2 => by unfold S2; rw [if_neg (by omega), if_pos h2], fun _ => by
    unfold S2
    rw [if_neg (by omega), if_neg (by omega)]
    omega⟩
theorem uc_first (R : Nat → Int) (T : Nat) (h : ∀ k, R k = 0 ↔ T ≤ k) (k : Nat) : uc R k = min k T := by
  induction k with
  | zero => simp [uc]
  | succ k ih =>
    rw [uc, ih]
    by_cases e : T ≤ k
    · rw [if_pos ((h k).2 e)]; omega
    · rw [if_neg (fun e' => e ((h k).1 e'))]; omega
theorem uc_S2 (P Q n : Nat) (h : P + Q ≤ n) : uc (S2 P Q) n = P + Q := by
  rw [uc_first (S2 P Q) (P + Q) (fun k => by
    unfold S2
    by_cases h1 : k < P
    · rw [if_pos h1]; constructor <;> (intro; omega)
    · rw [if_neg h1]
      by_cases h2 : k < P + Q
      · rw [if_pos h2]; constructor <;> (intro; omega)
      · rw [if_neg h2]; constructor <;> (intro; omega))]
  omega
theorem need_of (q r : Nat) (hr : r < 16) : need (1 + ((16 * q + r : Nat) : Int)) = q + 1 := by
  unfold need
  omega

set_option maxHeartbeats 1000000 in
theorem sizes_main (a b : Int) (w : World) (p : List Addr) (hp : Errs17 w p) :
    Calls Tryd.prog 6 #[.int .i64 a, .int .i64 b] w fun e w' => e = .returned (.bool true) ∧ Below w.heap.size w w' := by
  obtain ⟨x, hx, hx2⟩ := umod a 200 (by omega)
  obtain ⟨y, hy, hy2⟩ := umod b 200 (by omega)
  rw [show ((200 : Nat) : Int) = 200 from rfl] at hx hy
  obtain ⟨P, hP, hP2, hP3, hP4⟩ : ∃ P : Nat, need (1 + (x : Int)) = P ∧ (1 + (x : Int) + 15).tdiv 16 = P ∧ 0 < P ∧ P ≤ 13 := by
    refine ⟨x / 16 + 1, ?_, ?_, by omega, by omega⟩
    · unfold need; omega
    · rw [Int.tdiv_eq_ediv_of_nonneg (by omega)]; omega
  obtain ⟨Q, hQ, hQ2, hQ3, hQ4⟩ : ∃ Q : Nat, need (1 + (y : Int)) = Q ∧ (1 + (y : Int) + 15).tdiv 16 = Q ∧ 0 < Q ∧ Q ≤ 13 := by
    refine ⟨y / 16 + 1, ?_, ?_, by omega, by omega⟩
    · unfold need; omega
    · rw [Int.tdiv_eq_ediv_of_nonneg (by omega)]; omega
  have NP := hide hP
  have NQ := hide hQ
  clear hP hQ
  go_enter Tryd.func6, Tryd.ntmps6
  go_wp2_with fail
  refine (alive_any _ p hp).mono ?_
  rintro e w1 ⟨rfl, b1⟩
  go_wp2_with fail
  refine (sole_any 64 _ (by omega) (by omega)).mono ?_
  rintro e w2 ⟨⟨L, rfl, hn, hA, hM⟩, hb2⟩
  have hM : Mine w.heap.size L := ⟨Nat.le_trans b1.size hM.1, Nat.le_trans b1.size hM.2⟩
  have b2 := bel_trans b1 hb2
  clear b1 hb2
  go_wp2_with fail
  refine (alloc_any L _ _ (1 + x) _ p hA (hp.below (Nat.le_refl _) b2) (by omega)).mono ?_
  rintro e w3 ⟨x3, e3, R', rfl, hr3, hA3, u3⟩
  obtain ⟨rfl, rfl, rfl⟩ := hr3.ok (by omega) (f := 0) (by rw [hn, NP.out]; exact gap_zero 64 P (by omega))
  have b3 := b2.trans (hM.bel u3)
  have hA3' : Ar w3 L (S1 P) (fun _ => 0) := hA3.congr (fun k _ => by rw [NP.out]; exact S1_of P k) (fun _ _ => rfl)
  clear hr3 hA3 u3 hA b2
  go_wp2_with fail
  refine (alloc_any L _ _ (1 + y) _ p hA3' (hp.below (Nat.le_refl _) b3) (by omega)).mono ?_
  rintro e w4 ⟨x4, e4, R', rfl, hr4, hA4, u4⟩
  obtain ⟨rfl, rfl, rfl⟩ := hr4.ok (by omega) (f := P) (by rw [hn, NQ.out]; exact gap_S1 P Q 64 (by omega) hQ3)
  have b4 := b3.trans (hM.bel u4)
  have hA4' : Ar w4 L (S2 P Q) (fun _ => 0) := hA4.congr (fun k _ => by rw [NQ.out]; exact S2_of P Q k) (fun _ _ => rfl)
  clear hr4 hA4 u4 hA3' b3
  have ea : (16 * (P : Int) == 16 * (P : Int)) = true := by simp
  go_wp2_with fail
  refine (size_u L _ _ _ _ hA4').mono ?_
  rintro e w5 ⟨⟨f5, t5, rfl, hr5⟩, hA5, u5⟩
  obtain ⟨ef5, et5⟩ := hr5.ok (f' := 0) (t' := P) (by omega) (by rw [hn]; exact end_S2a P Q 64 (by omega) hP3)
  have b5 := b4.trans (hM.bel u5)
  have eb : ((P : Int) - ((0 : Nat) : Int)) * 16 = 16 * (P : Int) := by omega
  rw [ef5, et5, eb]
  clear hr5 hA4' b4 eb ef5 et5
  go_wp2_with fail
  refine (size_u L _ _ _ _ hA5).mono ?_
  rintro e w6 ⟨⟨f6, t6, rfl, hr6⟩, hA6, u6⟩
  obtain ⟨ef6, et6⟩ := hr6.ok (f' := P) (t' := P + Q) (by omega) (by rw [hn]; exact end_S2b P Q 64 (by omega) hQ3)
  have b6 := b5.trans (hM.bel u6)
  have eb : (((P + Q : Nat) : Int) - (P : Int)) * 16 = 16 * (Q : Int) := by omega
  rw [ef6, et6, eb]
  have eq2 : (16 * (Q : Int) == 16 * (Q : Int)) = true := by simp
  clear hr6 hA5 b5 eb ef6 et6
  go_wp2_with fail
  refine (used_any L _ _ _ hA6).mono ?_
  rintro e w7 ⟨rfl, rfl⟩
  rw [hn, uc_S2 P Q 64 (by omega), show ((P + Q : Nat) : Int) = (P : Int) + Q by omega]
  have ed : ((P : Int) + Q == (P : Int) + Q) = true := by simp
  go_wp2_with fail
  refine (size_u L _ _ _ _ hA6).mono ?_
  rintro e w8 ⟨⟨f8, t8, rfl, hr8⟩, hA8, u8⟩
  obtain rfl := hr8.no (fun f' h => by omega)
  have b8 := b6.trans (hM.bel u8)
  have eb : ((f8 : Int) - (f8 : Int)) * 16 = 0 := by omega
  rw [eb]
  clear hr8 hA6 b6 eb
  go_wp2_with fail
  go_ret
  exact ⟨rfl, b8⟩

theorem poolSizes_walk {W : World} {a b : Int} (_wa : (Lit.int .i64 a).wf = true) (_wb : (Lit.int .i64 b).wf = true) (hL : laidMetH Tryd.prog laid17 W) :
    Calls Tryd.prog 6 #[.int .i64 a, .int .i64 b] W fun e w' => e = .returned (.bool true) ∧ Below W.heap.size W w' := by
  obtain ⟨p, hp⟩ := errs17_of_laid hL
  exact sizes_main a b W p hp

end Go.Proofs.YtlkdfiiipheagaaDoor.Ck
