/- The contracts of Mul64 and Add64, as they reckon. -/
import Derived.Test.YtejhhkhaoekkiaaDoorRowEq
import Derived.Laws.Externs
import Derived.Laws.MathBits
namespace Go.Proofs.YtejhhkhaoekkiaaDoor.Ck
open Go.RowKit

theorem mask32 (a : Int) (h : 0 ≤ a ∧ a < 18446744073709551616) : bits .and .u64 a 4294967295 = a % 4294967296 := by
  rw [u64_and a 4294967295 h.1 (by omega) (by omega) (by omega)]
  have e : a.toNat &&& 4294967295 = a.toNat % 4294967296 := Nat.and_two_pow_sub_one_eq_mod a.toNat 32
  rw [show (4294967295 : Int).toNat = 4294967295 by rfl, e]
  omega

theorem ret2 {k : IntKind} {a b c d : Int} (h1 : a = c) (h2 : b = d) : Ending.returned (.tuple #[.int k a, .int k b]) = .returned (.tuple #[.int k c, .int k d]) := by rw [h1, h2]

set_option maxHeartbeats 1000000 in
theorem mul64_any (x y : Int) (hx : 0 ≤ x ∧ x < 18446744073709551616) (hy : 0 ≤ y ∧ y < 18446744073709551616) (w : World) :
    Calls Tryd.prog 33 #[.int .u64 x, .int .u64 y] w fun e w' => e = .returned (.tuple #[.int .u64 (x * y / 18446744073709551616), .int .u64 (x * y % 18446744073709551616)]) ∧ w' = w := by
  have m1 := mask32 x hx
  have m2 := mask32 y hy
  have key := hide (mul64_arith x y hx.1 hx.2 hy.1 hy.2)
  go_enter Tryd.func33, Tryd.ntmps33
  go_wp2
  go_ret2
  refine ⟨ret2 ?_ ?_, rfl⟩
  · rw [mask32 (IntKind.u64.wrap _) (by rw [IntKind.wrap_u64]; omega)]
    simp only [IntKind.wrap_u64]
    exact key.out
  · rw [IntKind.wrap_u64]

theorem add64_any (x y : Int) (hx : 0 ≤ x) (hy : 0 ≤ y) (w : World) :
    (callFunc 34 #[.int .u64 x, .int .u64 y, .int .u64 0]).run Tryd.prog w = .ok (.value (.tuple #[.int .u64 ((x + y) % 18446744073709551616), .int .u64 ((x + y) / 18446744073709551616)])) w := by
  rw [run_callFunc_extern Tryd.func34 (by kernel_rfl) (by kernel_rfl) (by kernel_rfl) (e := add64Entry) (by kernel_rfl), run_add64 x y 0 hx hy (by decide) (by decide)]
  simp only [Result.andThen, Int.add_zero]

/-- is the k-th power of r at most p times 2 to the 32 k? -/
def belowB (r p : Int) (k : Nat) : Bool :=
  let hi := r * r / 18446744073709551616
  let lo := r * r % 18446744073709551616
  if k = 2 then decide (hi < p) || (hi == p && lo == 0)
  else
    let top := (lo * r / 18446744073709551616 + hi * r % 18446744073709551616) % 18446744073709551616
    let car := (lo * r / 18446744073709551616 + hi * r % 18446744073709551616) / 18446744073709551616
    car == 0 && (decide (top < p * 4294967296) || (top == p * 4294967296 && lo * r % 18446744073709551616 == 0))

set_option maxHeartbeats 1000000 in
theorem below_any (r p : Int) (k : Nat) (hk : k = 2 ∨ k = 3) (hr : 0 ≤ r ∧ r < 18446744073709551616) (hp : 0 ≤ p ∧ p < 4294967296) (w : World) :
    Calls Tryd.prog 30 #[.int .u64 r, .int .u64 p, .int .i64 k] w fun e w' => e = .returned (.bool (belowB r p k)) ∧ w' = w := by
  obtain ⟨hi, ehi⟩ : ∃ hi, hi = r * r / 18446744073709551616 := ⟨_, rfl⟩
  obtain ⟨lo, elo⟩ : ∃ lo, lo = r * r % 18446744073709551616 := ⟨_, rfl⟩
  have hlo : 0 ≤ lo ∧ lo < 18446744073709551616 := by rw [elo]; omega
  have hhi : 0 ≤ hi ∧ hi < 18446744073709551616 := by
    have h1 : 0 ≤ r * r := Int.mul_nonneg hr.1 hr.1
    have h2 : r * r ≤ 18446744073709551615 * 18446744073709551615 := Int.mul_le_mul (by omega) (by omega) hr.1 (by decide)
    rw [ehi]
    omega
  have hm := mul64_any r r hr hr w
  rw [← ehi, ← elo] at hm
  have EB : Hid (belowB r p k = if k = 2 then decide (hi < p) || (hi == p && lo == 0) else
    ((lo * r / 18446744073709551616 + hi * r % 18446744073709551616) / 18446744073709551616 == 0 && (decide ((lo * r / 18446744073709551616 + hi * r % 18446744073709551616) % 18446744073709551616 < p * 4294967296) || ((lo * r / 18446744073709551616 + hi * r % 18446744073709551616) % 18446744073709551616 == p * 4294967296 && lo * r % 18446744073709551616 == 0)))) := by
    show _ = _
    rw [ehi, elo]
    rfl
  have HM := hide hm
  clear hm ehi elo
  rcases hk with hk | hk
  · subst hk
    rw [if_pos rfl] at EB
    go_enter Tryd.func30, Tryd.ntmps30
    go_wp2_with fail
    refine HM.out.mono ?_
    rintro e w' ⟨rfl, rfl⟩
    go_wp2_with fail
    all_goals
      go_ret
      refine ⟨ret_bool ?_, rfl⟩
      rw [EB.out]
      simp_all
  · subst hk
    rw [if_neg (by decide)] at EB
    have hm2 := hide (mul64_any lo r hlo hr w)
    have hm3 := hide (mul64_any hi r hhi hr w)
    have hl1 : 0 ≤ lo * r := Int.mul_nonneg hlo.1 hr.1
    have hl2 : 0 ≤ hi * r := Int.mul_nonneg hhi.1 hr.1
    obtain ⟨u, eu⟩ : ∃ u, u = lo * r / 18446744073709551616 := ⟨_, rfl⟩
    obtain ⟨v, ev⟩ : ∃ v, v = hi * r % 18446744073709551616 := ⟨_, rfl⟩
    obtain ⟨b, eb⟩ : ∃ b, b = lo * r % 18446744073709551616 := ⟨_, rfl⟩
    have hu : 0 ≤ u := by rw [eu]; omega
    have hv : 0 ≤ v := by rw [ev]; omega
    rw [← eu, ← ev, ← eb] at EB
    rw [← eu, ← eb] at hm2
    rw [← ev] at hm3
    have hadd := add64_any u v hu hv
    obtain ⟨top, et⟩ : ∃ top, top = (u + v) % 18446744073709551616 := ⟨_, rfl⟩
    obtain ⟨car, ecr⟩ : ∃ car, car = (u + v) / 18446744073709551616 := ⟨_, rfl⟩
    have htop : 0 ≤ top := by rw [et]; omega
    have hcar : 0 ≤ car := by rw [ecr]; omega
    rw [← et, ← ecr] at EB
    simp only [← et, ← ecr] at hadd
    clear et ecr eu ev eb hl1 hl2
    go_enter Tryd.func30, Tryd.ntmps30
    go_wp2_with fail
    refine HM.out.mono ?_
    rintro e w' ⟨rfl, rfl⟩
    go_wp2_with fail
    refine hm2.out.mono ?_
    rintro e w' ⟨rfl, rfl⟩
    go_wp2_with fail
    refine hm3.out.mono ?_
    rintro e w' ⟨rfl, rfl⟩
    go_wp2_with fail
    all_goals
      go_ret
      refine ⟨ret_bool ?_, rfl⟩
      rw [EB.out]
      clear HM hm2 hm3 hadd EB
      simp_all

def itF (p : Int) (k : Nat) : Nat → Int × Int
  | 0 => (0, 137438953472)
  | j + 1 => if belowB (((itF p k j).1 + (itF p k j).2) / 2) p k then (((itF p k j).1 + (itF p k j).2) / 2, (itF p k j).2) else ((itF p k j).1, ((itF p k j).1 + (itF p k j).2) / 2)
def fracP (p : Int) (k : Nat) : Int := (itF p k 37).1 % 4294967296
theorem itF_gap (p : Int) (k : Nat) : ∀ j, j ≤ 37 → 0 ≤ (itF p k j).1 ∧ (itF p k j).2 ≤ 137438953472 ∧ (itF p k j).2 = (itF p k j).1 + ((2 ^ (37 - j) : Nat) : Int)
  | 0, _ => by simp [itF]
  | j + 1, h => by
    obtain ⟨h1, h2, h3⟩ := itF_gap p k j (by omega)
    have e : (2 ^ (37 - j) : Nat) = 2 * 2 ^ (37 - (j + 1)) := by rw [show 37 - j = (37 - (j + 1)) + 1 by omega, Nat.pow_succ, Nat.mul_comm]
    rw [e] at h3
    unfold itF
    generalize (itF p k j).1 = lo at *
    generalize (itF p k j).2 = hi at *
    generalize (2 ^ (37 - (j + 1)) : Nat) = d at *
    split
    · refine ⟨?_, ?_, ?_⟩ <;> simp only <;> omega
    · refine ⟨?_, ?_, ?_⟩ <;> simp only <;> omega

set_option maxRecDepth 10000 in
set_option maxHeartbeats 1000000 in
theorem fraction_any (p : Int) (k : Nat) (hk : k = 2 ∨ k = 3) (hp : 0 ≤ p ∧ p < 4294967296) (w : World) :
    Calls Tryd.prog 22 #[.int .u64 p, .int .i64 k] w fun e w' => e = .returned (.int .u32 (fracP p k)) ∧ w' = w := by
  have HK := hide hk
  clear hk
  go_enter Tryd.func22, Tryd.ntmps22
  go_wp2_with fail
  go_loop [5, 6] (fun x y => ∃ (j : Nat) (lo hi : Int), j ≤ 37 ∧ x = .int .u64 lo ∧ y = .int .u64 hi ∧ Hid (itF p k j = (lo, hi))) (fun x y => (intOf y - intOf x).toNat)
  case atStart => exact ⟨0, 0, 137438953472, by decide, rfl, rfl, rfl⟩
  case round =>
    obtain ⟨j, lo, hi, hj, rfl, rfl, EI⟩ := hrel
    have G := itF_gap p k j hj
    rw [EI.out] at G
    simp only at G
    obtain ⟨g1, g2, g3⟩ := G
    by_cases hj37 : j < 37
    · obtain ⟨d, ed, hd⟩ : ∃ d : Int, ((2 ^ (37 - j) : Nat) : Int) = 2 * d ∧ 1 ≤ d := ⟨((2 ^ (37 - (j + 1)) : Nat) : Int), by rw [show 37 - j = (37 - (j + 1)) + 1 by omega, Nat.pow_succ, Nat.mul_comm]; omega, by have := Nat.two_pow_pos (37 - (j + 1)); omega⟩
      rw [ed] at g3
      clear ed
      obtain ⟨mid, emid⟩ : ∃ mid : Int, (lo + hi) / 2 = mid := ⟨_, rfl⟩
      have hmid : mid = lo + d := by omega
      have EN : Hid (itF p k (j + 1) = if belowB mid p k then (mid, hi) else (lo, mid)) := by
        show _ = _
        unfold itF
        rw [EI.out]
        simp only [emid]
      have b1 : lo < mid ∧ mid < hi := by omega
      have b2 : 2 ≤ hi - lo := by omega
      clear g3 hmid hd
      go_wp2_with fail
      refine (below_any mid p k HK.out (by omega) hp _).mono ?_
      rintro e w' ⟨rfl, rfl⟩
      cases hq : belowB mid p k with
      | true =>
        rw [hq] at EN
        go_wp2_with fail
        go_round
        case rel => exact ⟨j + 1, mid, hi, by omega, rfl, rfl, EN⟩
        case measure => simp [intOf]; omega
      | false =>
        rw [hq] at EN
        go_wp2_with fail
        go_round
        case rel => exact ⟨j + 1, lo, mid, by omega, rfl, rfl, EN⟩
        case measure => simp [intOf]; omega
    · have e : j = 37 := by omega
      subst e
      have g4 : hi = lo + 1 := by simpa using g3
      have EF : Hid (fracP p k = lo % 4294967296) := by show _ = _; unfold fracP; rw [EI.out]
      clear g3 EI
      have b2 : hi - lo ≤ 1 := by omega
      have b3 : lo < hi := by omega
      clear g4
      go_wp2_with fail
      go_ret
      exact ⟨ret_int EF.out.symm, rfl⟩

end Go.Proofs.YtejhhkhaoekkiaaDoor.Ck
