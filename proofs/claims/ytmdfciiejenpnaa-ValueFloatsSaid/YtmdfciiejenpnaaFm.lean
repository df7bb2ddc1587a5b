/- Float64s by their bits: which are NaNs, how they compare, their whole part, and those of ints; no Go text is walked here. -/
import Derived.Laws.FloatArith
namespace Go.Proofs.Ytmdfciiejenpnaa.Ck
open Ieee

/-- is a float64 of these bits a NaN? -/
def nanB (u : Nat) : Bool := decide (9218868437227405312 < u % 9223372036854775808)
/-- the place of a float64 in the order of all: the rung with its sign -/
def srB (u : Nat) : Int := if u / 9223372036854775808 % 2 = 1 then -((u % 9223372036854775808 : Nat) : Int) else ((u % 9223372036854775808 : Nat) : Int)
def negB (u : Nat) : Bool := u / 9223372036854775808 % 2 == 1

/-- the size of the number at a rung, in units of the last place -/
def valN (r : Nat) : Nat := if r < 4503599627370496 then r else (4503599627370496 + r % 4503599627370496) * 2 ^ (r / 4503599627370496 - 1)

theorem valN_step (r : Nat) : valN r < valN (r + 1) := by
  unfold valN
  by_cases h1 : r + 1 < 4503599627370496
  · rw [if_pos (by omega), if_pos h1]; omega
  · rw [if_neg h1]
    by_cases h2 : r < 4503599627370496
    · obtain rfl : r = 4503599627370495 := by omega
      decide
    · rw [if_neg h2]
      by_cases h3 : (r + 1) % 4503599627370496 = 0
      · have e1 : (r + 1) / 4503599627370496 - 1 = (r / 4503599627370496 - 1) + 1 := by omega
        have e2 : r % 4503599627370496 = 4503599627370495 := by omega
        rw [e1, e2, h3, Nat.pow_succ]
        have := Nat.two_pow_pos (r / 4503599627370496 - 1)
        omega
      · have e1 : (r + 1) / 4503599627370496 = r / 4503599627370496 := by omega
        have e2 : (r + 1) % 4503599627370496 = r % 4503599627370496 + 1 := by omega
        rw [e1, e2]
        exact Nat.mul_lt_mul_of_pos_right (by omega) (Nat.two_pow_pos _)
theorem valN_lt {a b : Nat} (h : a < b) : valN a < valN b := by
  induction b with
  | zero => omega
  | succ b ih =>
    by_cases e : a = b
    · subst e; exact valN_step a
    · exact Nat.lt_trans (ih (by omega)) (valN_step b)
theorem valN_iff (a b : Nat) : valN a < valN b ↔ a < b := by
  refine ⟨fun h => ?_, valN_lt⟩
  rcases Nat.lt_trichotomy a b with h1 | h1 | h1
  · exact h1
  · subst h1; omega
  · have := valN_lt h1; omega
theorem valN_zero : valN 0 = 0 := by decide

theorem read_nan {u : Nat} (h : nanB u = true) : ∃ s f, double.read u = .nan s f := by
  unfold nanB at h
  replace h := of_decide_eq_true h
  unfold Format.read
  have e1 : double.signWeight = 9223372036854775808 := by decide
  have e2 : double.binade = 4503599627370496 := by decide
  have e3 : double.infRung = 9218868437227405312 := by decide
  simp only [e1, e2, e3]
  rw [if_neg (by omega), if_neg (by omega), if_neg (by omega)]
  exact ⟨_, _, rfl⟩
theorem read_inf {u : Nat} (h : u % 9223372036854775808 = 9218868437227405312) : double.read u = .infinity (negB u) := by
  unfold Format.read
  have e1 : double.signWeight = 9223372036854775808 := by decide
  have e2 : double.binade = 4503599627370496 := by decide
  have e3 : double.infRung = 9218868437227405312 := by decide
  simp only [e1, e2, e3]
  rw [if_neg (by omega), if_neg (by omega), if_pos h]
  rfl
/-- a number: its digits and their place; mag * 2 ^ (place - least) is valN -/
theorem read_num {u : Nat} (h : u % 9223372036854775808 < 9218868437227405312) :
    ∃ m k, double.read u = .number (negB u) m (-1074 + (k : Nat)) ∧ valN (u % 9223372036854775808) = m * 2 ^ k := by
  unfold Format.read
  have e1 : double.signWeight = 9223372036854775808 := by decide
  have e2 : double.binade = 4503599627370496 := by decide
  have e3 : double.infRung = 9218868437227405312 := by decide
  have e4 : double.leastPlace = -1074 := by decide
  simp only [e1, e2, e3, e4]
  by_cases h1 : u % 9223372036854775808 < 4503599627370496
  · refine ⟨u % 9223372036854775808, 0, ?_, ?_⟩
    · rw [if_pos h1]; rfl
    · simp [valN, h1]
  · refine ⟨4503599627370496 + u % 9223372036854775808 % 4503599627370496, u % 9223372036854775808 / 4503599627370496 - 1, ?_, ?_⟩
    · rw [if_neg h1, if_pos h]; rfl
    · rw [valN, if_neg h1]

theorem cmp_scale (a b : Int) (k : Nat) : compare (a * 2 ^ k) (b * 2 ^ k) = compare a b := by
  have hk : (0 : Int) < 2 ^ k := Int.pow_pos (by decide)
  rcases Int.lt_trichotomy a b with h | h | h
  · rw [Int.compare_eq_lt.2 h, Int.compare_eq_lt.2 (Int.mul_lt_mul_of_pos_right h hk)]
  · subst h; rw [Int.compare_eq_eq.2 rfl, Int.compare_eq_eq.2 rfl]
  · rw [Int.compare_eq_gt.2 h, Int.compare_eq_gt.2 (Int.mul_lt_mul_of_pos_right h hk)]


theorem signed_scale (s : Bool) (m k : Nat) : signed s m k = (if s then -((m * 2 ^ k : Nat) : Int) else ((m * 2 ^ k : Nat) : Int)) := by
  unfold signed
  rw [Nat.shiftLeft_eq]
theorem srB_eq (u : Nat) : srB u = (if negB u then -((u % 9223372036854775808 : Nat) : Int) else ((u % 9223372036854775808 : Nat) : Int)) := by
  unfold srB negB
  by_cases h : u / 9223372036854775808 % 2 = 1
  · rw [if_pos h, if_pos (by simp [h])]
  · rw [if_neg h, if_neg (by simp [h])]
def sgnI (s : Bool) (n : Nat) : Int := if s then -(n : Int) else (n : Int)
theorem cmp_sgn (s t : Bool) (a b : Nat) : compare (sgnI s (valN a)) (sgnI t (valN b)) = compare (sgnI s a) (sgnI t b) := by
  have z := valN_zero
  have h1 := valN_iff a b
  have h2 := valN_iff b a
  have h3 := valN_iff 0 a
  have h4 := valN_iff 0 b
  rw [z] at h3 h4
  generalize valN a = x at *
  generalize valN b = y at *
  have key : ∀ p q p' q' : Int, (p < q ↔ p' < q') → (q < p ↔ q' < p') → compare p q = compare p' q' := by
    intro p q p' q' e1 e2
    rcases Int.lt_trichotomy p q with h | h | h
    · rw [Int.compare_eq_lt.2 h, Int.compare_eq_lt.2 (e1.1 h)]
    · have : p' = q' := by omega
      rw [Int.compare_eq_eq.2 h, Int.compare_eq_eq.2 this]
    · rw [Int.compare_eq_gt.2 h, Int.compare_eq_gt.2 (e2.1 h)]
  cases s <;> cases t <;> (simp only [sgnI]; exact key _ _ _ _ (by simp <;> omega) (by simp <;> omega))
theorem sgnI_mul (s : Bool) (m k : Nat) : sgnI s (m * 2 ^ k) = sgnI s m * 2 ^ k := by
  cases s <;> simp [sgnI, Int.neg_mul]
theorem srB_sgn (u : Nat) : srB u = sgnI (negB u) (u % 9223372036854775808) := srB_eq u

/-- how two float64 compare: by their signed rungs; a NaN with nothing -/
theorem order_eq (u v : Nat) : double.order u v = if nanB u || nanB v then none else some (compare (srB u) (srB v)) := by
  unfold Format.order
  by_cases hu : nanB u = true
  · obtain ⟨s, f, e⟩ := read_nan hu
    rw [e, hu]; rfl
  by_cases hv : nanB v = true
  · obtain ⟨s, f, e⟩ := read_nan hv
    rw [e, hv, Bool.or_true, if_pos rfl]
    cases double.read u <;> rfl
  have hu' : nanB u = false := by simpa using hu
  have hv' : nanB v = false := by simpa using hv
  rw [hu', hv']
  have hu2 : u % 9223372036854775808 ≤ 9218868437227405312 := by simpa [nanB] using hu'
  have hv2 : v % 9223372036854775808 ≤ 9218868437227405312 := by simpa [nanB] using hv'
  show _ = some _
  rw [srB_sgn, srB_sgn]
  by_cases iu : u % 9223372036854775808 = 9218868437227405312
  · rw [read_inf iu]
    by_cases iv : v % 9223372036854775808 = 9218868437227405312
    · rw [read_inf iv, iu, iv]
      cases negB u <;> cases negB v <;> decide
    · obtain ⟨n, j, e, _⟩ := read_num (u := v) (by omega)
      rw [e, iu]
      have hlt : v % 9223372036854775808 < 9218868437227405312 := by omega
      generalize v % 9223372036854775808 = y at *
      show some _ = some _
      refine congrArg some (Eq.symm ?_)
      cases negB u <;> cases negB v <;> simp only [sgnI] <;> first | (refine (Int.compare_eq_lt.2 ?_).trans rfl; simp <;> omega) | (refine (Int.compare_eq_gt.2 ?_).trans rfl; simp <;> omega)
  · obtain ⟨m, i, e, ev⟩ := read_num (u := u) (by omega)
    rw [e]
    by_cases iv : v % 9223372036854775808 = 9218868437227405312
    · rw [read_inf iv, iv]
      have hlt : u % 9223372036854775808 < 9218868437227405312 := by omega
      generalize u % 9223372036854775808 = y at *
      show some _ = some _
      refine congrArg some (Eq.symm ?_)
      cases negB u <;> cases negB v <;> simp only [sgnI] <;> first | (refine (Int.compare_eq_lt.2 ?_).trans rfl; simp <;> omega) | (refine (Int.compare_eq_gt.2 ?_).trans rfl; simp <;> omega)
    · obtain ⟨n, j, e2, ev2⟩ := read_num (u := v) (by omega)
      rw [e2]
      show some (compare (signed _ m _) (signed _ n _)) = _
      congr 1
      rw [← cmp_sgn, ev, ev2]
      have g1 : ∀ s a k, signed s a k = sgnI s a * 2 ^ k := fun s a k => by rw [signed_scale, ← sgnI_mul, sgnI]
      rw [g1, g1, sgnI_mul, sgnI_mul]
      by_cases hij : i ≤ j
      · have a1 : (-1074 + (i : Int) - min (-1074 + (i : Int)) (-1074 + (j : Int))).toNat = 0 := by omega
        have a2 : (-1074 + (j : Int) - min (-1074 + (i : Int)) (-1074 + (j : Int))).toNat = j - i := by omega
        rw [a1, a2]
        have : ((2 : Int) ^ j) = 2 ^ (j - i) * 2 ^ i := by rw [← Int.pow_add]; congr 1; omega
        rw [this, ← Int.mul_assoc, cmp_scale, Int.pow_zero, Int.mul_one]
      · have a1 : (-1074 + (i : Int) - min (-1074 + (i : Int)) (-1074 + (j : Int))).toNat = i - j := by omega
        have a2 : (-1074 + (j : Int) - min (-1074 + (i : Int)) (-1074 + (j : Int))).toNat = 0 := by omega
        rw [a1, a2]
        have : ((2 : Int) ^ i) = 2 ^ (i - j) * 2 ^ j := by rw [← Int.pow_add]; congr 1; omega
        rw [this, ← Int.mul_assoc, cmp_scale, Int.pow_zero, Int.mul_one]


theorem order_self (u : Nat) : (double.order u u != some .eq) = nanB u := by
  rw [order_eq, Bool.or_self]
  cases nanB u
  · simp
  · rfl
/-- x != x -/
theorem order_nan (u v : Nat) : double.order u v = none ↔ (nanB u = true ∨ nanB v = true) := by
  rw [order_eq]
  cases nanB u <;> cases nanB v <;> simp

/-- the whole part of a float64 that lies within the ints, as plain numbers: e the exponent's field, m the digits -/
def truncN (u : Nat) : Nat :=
  let e := u / 4503599627370496 % 2048
  let m := u % 4503599627370496 + 4503599627370496
  if e < 1023 then 0 else if e < 1075 then m / 2 ^ (1075 - e) else m * 2 ^ (e - 1075)

theorem log2_m {m : Nat} (h1 : 4503599627370496 ≤ m) (h2 : m < 9007199254740992) : m.log2 = 52 := by
  rw [Nat.log2_eq_iff (by omega)]
  exact ⟨h1, h2⟩
theorem cut_zero (s : Bool) (n k : Nat) : Toward.zero.cut s n k = n / 2 ^ min k (n.log2 + 2) := by
  simp [Toward.cut, Nat.shiftLeft_eq]
theorem cut_zero' (s : Bool) (n k : Nat) : Toward.zero.cut s n k = n / 2 ^ k := by
  rw [cut_zero]
  by_cases h : k ≤ n.log2 + 2
  · rw [Nat.min_eq_left h]
  · rw [Nat.min_eq_right (by omega)]
    have h1 : n < 2 ^ (n.log2 + 1) := Nat.lt_log2_self
    have h2 : 2 ^ (n.log2 + 1) ≤ 2 ^ (n.log2 + 2) := Nat.pow_le_pow_right (by decide) (by omega)
    have h3 : 2 ^ (n.log2 + 2) ≤ 2 ^ k := Nat.pow_le_pow_right (by decide) (by omega)
    rw [Nat.div_eq_of_lt (by omega), Nat.div_eq_of_lt (by omega)]
theorem toInt_num (s : Bool) (m : Nat) (i : Int) : (Datum.number s m i).toInt .zero = some (sgnI s (m * 2 ^ i.toNat / 2 ^ (-i).toNat)) := by
  unfold Datum.toInt Datum.integral
  simp only
  rw [signed_scale, cut_zero', Nat.shiftLeft_eq, Nat.pow_zero, Nat.mul_one]
  rfl

/-- int(f) of a float64 below 2^63 in size: its whole part -/
theorem toInt_small {u : Nat} (h : u % 9223372036854775808 < 4890909195324358656) :
    (double.read u).toInt .zero = some (sgnI (negB u) (truncN u)) ∧ truncN u < 9223372036854775808 := by
  unfold Format.read
  have e1 : double.signWeight = 9223372036854775808 := by decide
  have e2 : double.binade = 4503599627370496 := by decide
  have e3 : double.infRung = 9218868437227405312 := by decide
  have e4 : double.leastPlace = -1074 := by decide
  simp only [e1, e2, e3, e4]
  have E : u % 9223372036854775808 / 4503599627370496 = u / 4503599627370496 % 2048 := by omega
  have M : u % 9223372036854775808 % 4503599627370496 = u % 4503599627370496 := by omega
  have El : u / 4503599627370496 % 2048 < 1086 := by omega
  have Ml : u % 4503599627370496 < 4503599627370496 := Nat.mod_lt _ (by decide)
  have NB : (u / 9223372036854775808 % 2 == 1) = negB u := rfl
  rw [NB]
  by_cases h1 : u % 9223372036854775808 < 4503599627370496
  · rw [if_pos h1, toInt_num]
    have t : truncN u = 0 := by unfold truncN; simp only; rw [if_pos (by omega)]
    rw [t]
    refine ⟨?_, by decide⟩
    have k1 : (-1074 : Int).toNat = 0 := by decide
    obtain ⟨k, hk⟩ : ∃ k : Nat, (-(-1074 : Int)).toNat = k := ⟨_, rfl⟩
    have hk52 : 52 ≤ k := by omega
    have : (2 : Nat) ^ 52 ≤ 2 ^ k := Nat.pow_le_pow_right (by decide) hk52
    have e52 : (2 : Nat) ^ 52 = 4503599627370496 := by decide
    rw [k1, hk, Nat.pow_zero, Nat.mul_one]
    generalize (2 : Nat) ^ k = big at *
    rw [Nat.div_eq_of_lt (a := u % 9223372036854775808) (b := big) (by omega)]
  · rw [if_neg h1, if_pos (by omega), toInt_num, E, M]
    generalize hE : u / 4503599627370496 % 2048 = e at *
    generalize hM : u % 4503599627370496 = f at *
    have hT : truncN u = if e < 1023 then 0 else if e < 1075 then (f + 4503599627370496) / 2 ^ (1075 - e) else (f + 4503599627370496) * 2 ^ (e - 1075) := by
      unfold truncN
      simp only [hE, hM]
    have he1 : 1 ≤ e := by omega
    rw [hT, Nat.add_comm 4503599627370496 f]
    by_cases h2 : e < 1023
    · rw [if_pos h2]
      refine ⟨?_, by decide⟩
      have k1 : (-1074 + ((e - 1 : Nat) : Int)).toNat = 0 := by omega
      have k2 : (-(-1074 + ((e - 1 : Nat) : Int))).toNat = 1075 - e := by omega
      have : (2 : Nat) ^ 53 ≤ 2 ^ (1075 - e) := Nat.pow_le_pow_right (by decide) (by omega)
      have e53 : (2 : Nat) ^ 53 = 9007199254740992 := by decide
      rw [k1, k2, Nat.pow_zero, Nat.mul_one]
      rw [Nat.div_eq_of_lt (a := f + 4503599627370496) (b := 2 ^ (1075 - e)) (by omega)]
    · rw [if_neg h2]
      by_cases h3 : e < 1075
      · rw [if_pos h3]
        have k1 : (-1074 + ((e - 1 : Nat) : Int)).toNat = 0 := by omega
        have k2 : (-(-1074 + ((e - 1 : Nat) : Int))).toNat = 1075 - e := by omega
        rw [k1, k2, Nat.pow_zero, Nat.mul_one]
        refine ⟨rfl, ?_⟩
        have := Nat.div_le_self (f + 4503599627370496) (2 ^ (1075 - e))
        omega
      · rw [if_neg h3]
        have k1 : (-1074 + ((e - 1 : Nat) : Int)).toNat = e - 1075 := by omega
        have k2 : (-(-1074 + ((e - 1 : Nat) : Int))).toNat = 0 := by omega
        rw [k1, k2, Nat.pow_zero, Nat.div_one]
        refine ⟨rfl, ?_⟩
        have : (2 : Nat) ^ (e - 1075) ≤ 2 ^ 10 := Nat.pow_le_pow_right (by decide) (by omega)
        have : (f + 4503599627370496) * 2 ^ (e - 1075) ≤ (f + 4503599627370496) * 2 ^ 10 := Nat.mul_le_mul_left _ this
        omega

/-- float64(n) of an int of at most 53 bits: its bits -/
theorem ofInt_read (n : Int) (h : n.natAbs < 9007199254740992) : ∃ u, floatOfInt .f64 n = u ∧ u < 18446744073709551616 ∧ u % 9223372036854775808 < 4890909195324358656 ∧ sgnI (negB u) (truncN u) = n := by
  refine ⟨_, rfl, ?_⟩
  unfold floatOfInt FloatKind.nearest FloatKind.encode
  show double.nearest _ _ _ < _ ∧ double.nearest _ _ _ % _ < _ ∧ sgnI (negB (double.nearest _ _ _)) (truncN (double.nearest _ _ _)) = n
  by_cases h0 : n = 0
  · subst h0; decide
  have hm : n.natAbs ≠ 0 := by omega
  have hl : n.natAbs.log2 ≤ 52 := by
    have : n.natAbs.log2 < 53 := (Nat.log2_lt hm).2 h
    omega
  have hlo : 2 ^ n.natAbs.log2 ≤ n.natAbs := Nat.log2_self_le hm
  have hhi : n.natAbs < 2 ^ (n.natAbs.log2 + 1) := Nat.lt_log2_self
  have hR : ∃ r, double.nearest (decide (n < 0)) n.natAbs 0 = (if decide (n < 0) = true then 9223372036854775808 + r else r) ∧ r = (n.natAbs.log2 + 1022) * 4503599627370496 + n.natAbs * 2 ^ (52 - n.natAbs.log2) := by
    refine ⟨_, ?_, rfl⟩
    unfold Format.nearest
    rw [if_neg hm]
    have e1 : double.signWeight = 9223372036854775808 := by decide
    have e2 : double.binade = 4503599627370496 := by decide
    have e3 : double.infRung = 9218868437227405312 := by decide
    have e4 : double.leastPlace = -1074 := by decide
    have e5 : double.fractionBits = 52 := by decide
    simp only [e2, e3, e4, e5, Format.word, e1]
    generalize n.natAbs.log2 = l at *
    have k0 : max (0 + (l : Int) - ((52 : Nat) : Int)) (-1074) = (l : Int) - 52 := by omega
    rw [k0]
    have k1 : (0 - ((l : Int) - 52)).toNat = 52 - l := by omega
    have k2 : ((l : Int) - 52 - 0).toNat = 0 := by omega
    have k3 : ((l : Int) - 52 - -1074).toNat = l + 1022 := by omega
    rw [k1, k2, k3]
    have k4 : ∀ x : Nat, Toward.even.cut (decide (n < 0)) x 0 = x := by
      intro x
      simp [Toward.cut, Nat.mod_one]
    rw [k4, Nat.shiftLeft_eq]
    have k5 : n.natAbs * 2 ^ (52 - l) < 2 ^ (l + 1) * 2 ^ (52 - l) := Nat.mul_lt_mul_of_pos_right hhi (Nat.two_pow_pos _)
    rw [← Nat.pow_add] at k5
    have k6 : l + 1 + (52 - l) = 53 := by omega
    rw [k6] at k5
    rw [Nat.min_eq_left (by omega)]
  obtain ⟨r, hr, er⟩ := hR
  rw [hr]
  generalize hL : n.natAbs.log2 = l at *
  have k5 : n.natAbs * 2 ^ (52 - l) < 2 ^ (l + 1) * 2 ^ (52 - l) := Nat.mul_lt_mul_of_pos_right hhi (Nat.two_pow_pos _)
  have k7 : 2 ^ l * 2 ^ (52 - l) ≤ n.natAbs * 2 ^ (52 - l) := Nat.mul_le_mul_right _ hlo
  rw [← Nat.pow_add] at k5 k7
  have k6 : l + 1 + (52 - l) = 53 := by omega
  have k8 : l + (52 - l) = 52 := by omega
  rw [k6] at k5
  rw [k8] at k7
  have hT : ∀ u, u % 9223372036854775808 = r → truncN u = n.natAbs := by
    intro u hu
    have hE : u / 4503599627370496 % 2048 = l + 1023 := by omega
    have hM : u % 4503599627370496 + 4503599627370496 = n.natAbs * 2 ^ (52 - l) := by omega
    unfold truncN
    simp only [hE, hM]
    rw [if_neg (by omega)]
    by_cases h2 : l + 1023 < 1075
    · rw [if_pos h2]
      have : 1075 - (l + 1023) = 52 - l := by omega
      rw [this, Nat.mul_div_cancel _ (Nat.two_pow_pos _)]
    · rw [if_neg h2]
      have a1 : 52 - l = 0 := by omega
      have a2 : l + 1023 - 1075 = 0 := by omega
      rw [a1, a2, Nat.pow_zero, Nat.mul_one, Nat.mul_one]
  by_cases hn : n < 0
  · rw [if_pos (by simp [hn])]
    refine ⟨by omega, by omega, ?_⟩
    rw [hT _ (by omega)]
    have : negB (9223372036854775808 + r) = true := by unfold negB; simp; omega
    rw [this, sgnI, if_pos rfl]
    omega
  · rw [if_neg (by simp [hn])]
    refine ⟨by omega, by omega, ?_⟩
    rw [hT _ (by omega)]
    have : negB r = false := by unfold negB; simp; omega
    rw [this, sgnI]
    simp
    omega

end Go.Proofs.Ytmdfciiejenpnaa.Ck
