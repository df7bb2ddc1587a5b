/- The words of a stream by themselves, and picks, as plain functions; no Go text is walked here. -/
import Derived.Test.YtflokfbdogofmaaDoorEnd
import Derived.Laws.BitsAllLaws
namespace Go.Proofs.YtflokfbdogofmaaDoor.Ck
open Go.RowKit

def dv (L : List Int) : List Value := L.map (Value.int .u64)
theorem dv_len (B : List Int) : (dv B).length = B.length := by simp [dv]
theorem dv_one (B : List Int) : ∀ v ∈ dv B, v.oneCell' = true := fun u hu => by obtain ⟨z, _, rfl⟩ := List.mem_map.1 hu; rfl
theorem dv_at (B : List Int) (i : Nat) (h : i < B.length) : (dv B)[i]? = some (.int .u64 (B.getD i 0)) := by simp [dv, List.getD, h]

/-- a number as eight bytes, the high one first -/
def row8 (n : Nat) : List Int := (List.range 8).map fun i => (n : Int) / 2 ^ (56 - 8 * i) % 256
theorem row8_len (n : Nat) : (row8 n).length = 8 := by simp [row8]
theorem row8_fit (n : Nat) : Fit8 (row8 n) := fun z hz => by
  obtain ⟨i, _, rfl⟩ := List.mem_map.1 hz
  omega
theorem row8_at (n k : Nat) (h : k < 8) : (row8 n)[k]? = some ((n : Int) / 2 ^ (56 - 8 * k) % 256) := by simp [row8, h]
def fill8 (n k : Nat) : List Value := bv ((row8 n).take k) ++ List.replicate (8 - k) (.int .u8 0)
theorem fill8_len (n k : Nat) (h : k ≤ 8) : (fill8 n k).length = 8 := by simp [fill8, bv_len, row8_len]; omega
theorem fill8_set (n k : Nat) (h : k < 8) : (fill8 n k).set k (.int .u8 ((n : Int) / 2 ^ (56 - 8 * k) % 256)) = fill8 n (k + 1) := by
  have hl : (bv ((row8 n).take k)).length = k := by simp [bv_len, row8_len]; omega
  have e : (row8 n).take (k + 1) = (row8 n).take k ++ [((n : Int) / 2 ^ (56 - 8 * k) % 256)] := by rw [List.take_add_one, row8_at n k h]; rfl
  unfold fill8
  rw [List.set_append_right _ _ (by omega), hl, Nat.sub_self, e, show 8 - k = (8 - (k + 1)) + 1 by omega, List.replicate_succ]
  simp [bv]

/-- what the first k of some bytes are, the high one first -/
def numK (b : List Int) : Nat → Int
  | 0 => 0
  | k + 1 => (256 * numK b k + b.getD k 0) % 18446744073709551616
def num8 (b : List Int) : Int := numK b 8
theorem numK_fit (b : List Int) (k : Nat) : 0 ≤ numK b k ∧ numK b k < 18446744073709551616 := by
  cases k with
  | zero => simp [numK]
  | succ k => simp only [numK]; omega
theorem or_low (a x : Int) (hx : 0 ≤ x ∧ x < 256) : bits .or .u64 (256 * a % 18446744073709551616) x = (256 * a + x) % 18446744073709551616 := by
  rw [u64_or _ _ (by omega) (by omega) (by omega) (by omega)]
  obtain ⟨q, hq⟩ : ∃ q : Nat, 256 * a % 18446744073709551616 = ((2 ^ 8 * q : Nat) : Int) := ⟨(a % 72057594037927936).toNat, by omega⟩
  rw [hq, Int.toNat_natCast, ← Nat.two_pow_add_eq_or_of_lt (show x.toNat < 2 ^ 8 by omega)]
  omega

/-- block n of the stream whose seed's digest is S, and the stream's word t -/
def blkN (S : List Int) (n : Nat) : List Int := sha (S ++ row8 n)
def cut8 (B : List Int) (k : Nat) : List Int := (B.drop (8 * k)).take 8
def wordN (S : List Int) (t : Nat) : Int := num8 (cut8 (blkN S (t / 4)) (t % 4))
theorem wordN_fit (S : List Int) (t : Nat) : 0 ≤ wordN S t ∧ wordN S t < 18446744073709551616 := numK_fit _ _
theorem blkN_len (S : List Int) (n : Nat) : (blkN S n).length = 32 := sha_len _

/-- the last number that a pick below n leaves in -/
def lastF (n : Int) : Int := 18446744073709551615 - (18446744073709551616 - n) % n
/-- how many words are taken, if u of them were, the last one in this pick, which may take f more -/
def pkT (S : List Int) (last : Int) : Nat → Nat → Nat
  | 0, u => u
  | f + 1, u => if wordN S (u - 1) ≤ last then u else pkT S last f (u + 1)
theorem pkT_bounds (S : List Int) (last : Int) : ∀ f u, u ≤ pkT S last f u ∧ pkT S last f u ≤ u + f
  | 0, u => by simp [pkT]
  | f + 1, u => by
    have := pkT_bounds S last f (u + 1)
    simp only [pkT]
    split <;> omega
/-- words taken, and the pick, behind a pick below n of a stream of which t words were taken -/
def pickT (S : List Int) (t : Nat) (n : Int) : Nat := if n = 1 then t else pkT S (lastF n) 63 (t + 1)
def pickV (S : List Int) (t : Nat) (n : Int) : Int := if n = 1 then 0 else wordN S (pickT S t n - 1) % n
theorem pickT_bounds (S : List Int) (t : Nat) (n : Int) (h : n ≠ 1) : t + 1 ≤ pickT S t n ∧ pickT S t n ≤ t + 64 := by
  have := pkT_bounds S (lastF n) 63 (t + 1)
  unfold pickT
  rw [if_neg h]
  omega
theorem pickV_fit (S : List Int) (t : Nat) (n : Int) (h : 1 ≤ n) : 0 ≤ pickV S t n ∧ pickV S t n < n := by
  unfold pickV
  split
  · omega
  · exact ⟨Int.emod_nonneg _ (by omega), Int.emod_lt_of_pos _ (by omega)⟩

end Go.Proofs.YtflokfbdogofmaaDoor.Ck
