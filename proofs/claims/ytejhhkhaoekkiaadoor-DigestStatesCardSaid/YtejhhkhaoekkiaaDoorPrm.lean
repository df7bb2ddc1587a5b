/- The first 64 primes, and the words that their roots give, reckoned; no Go text is walked here. -/
import Derived.Test.YtejhhkhaoekkiaaDoorMul
namespace Go.Proofs.YtejhhkhaoekkiaaDoor.Ck
open Go.RowKit

/-- no number from 2 on and below q, whose square is at most p, divides p -/
def prB (p q : Nat) : Bool := (List.range q).all fun x => decide (x < 2) || (decide (p < x * x) || (p % x != 0))
def isP (p : Nat) : Bool := prB p 18
def primesB (p : Nat) : List Nat := (List.range p).filter fun x => decide (2 ≤ x) && isP x
def startL (p : Nat) : List Int := ((primesB p).take 8).map fun (x : Nat) => fracP (x : Int) 2
def turnsL (p : Nat) : List Int := (primesB p).map fun (x : Nat) => fracP (x : Int) 3

theorem prB_succ (p q : Nat) : prB p (q + 1) = (prB p q && (decide (q < 2) || (decide (p < q * q) || (p % q != 0)))) := by simp [prB, List.range_succ]
theorem prB_exit (p q : Nat) (h : p < q * q) : ∀ d, prB p (q + d) = prB p q
  | 0 => rfl
  | d + 1 => by
    have hd : p < (q + d) * (q + d) := Nat.lt_of_lt_of_le h (Nat.mul_le_mul (by omega) (by omega))
    rw [← Nat.add_assoc, prB_succ, prB_exit p q h d, decide_eq_true hd]
    simp
theorem prB_18 (p q : Nat) (h : p < q * q) (hq : q ≤ 18) : prB p q = isP p := by
  have := prB_exit p q h (18 - q)
  rw [show q + (18 - q) = 18 by omega] at this
  exact this.symm
theorem primesB_succ (p : Nat) (hp : 2 ≤ p) : primesB (p + 1) = if isP p then primesB p ++ [p] else primesB p := by
  unfold primesB
  rw [List.range_succ, List.filter_append]
  cases h : isP p <;> simp [h, hp]
theorem primes_lt (p : Nat) (h : p ≤ 311) : (primesB p).length ≤ 63 := by
  have h1 : (primesB p).Sublist (primesB 311) := (List.range_sublist.2 h).filter _
  have h2 : (primesB 311).length = 63 := by decide +kernel
  have := h1.length_le
  omega
theorem primes_len : (primesB 312).length = 64 := by decide +kernel
theorem turns_all : turnsL 312 = kTab := by decide +kernel
theorem start_all : startL 312 = start8 := by decide +kernel

end Go.Proofs.YtejhhkhaoekkiaaDoor.Ck
