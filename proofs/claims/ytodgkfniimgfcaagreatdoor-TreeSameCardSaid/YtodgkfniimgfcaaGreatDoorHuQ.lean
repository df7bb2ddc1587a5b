/- Counts of a tree that is small. No Go text is walked here. -/
import Derived.Test.YtodgkfniimgfcaaGreatDoorHsQ
namespace Go.Proofs.YtodgkfniimgfcaaGreatDoor.Ck
open Go.RowKit

mutual
theorem same_self : ∀ (n : Nd), sameN n n = true
  | .mk k p nm t n z o b ks => by simp [sameN, same_selfK ks]
theorem same_selfK : ∀ (ks : List Nd), sameK ks ks = true
  | [] => by simp [sameK]
  | n :: ks => by simp [sameK, same_self n, same_selfK ks]
end
mutual
/-- how many nodes there are -/
def nN : Nd → Nat
  | .mk _ _ _ _ _ _ _ _ ks => nK ks + 1
def nK : List Nd → Nat
  | [] => 0
  | n :: ks => nN n + nK ks
end
theorem nN_pos (n : Nd) : 0 < nN n := by cases n; simp only [nN]; omega
mutual
theorem cnt_small : ∀ (n : Nd), nN n ≤ 1000000000 → cntW n = nN n
  | .mk k p nm t n z o b ks, h => by
    simp only [nN] at h ⊢
    simp only [cntW]
    rw [cnt_smallK ks 1 (by omega) (by omega)]
    omega
theorem cnt_smallK : ∀ (ks : List Nd) (c : Int), 0 ≤ c → c + nK ks ≤ 1000000000 → cntK ks c = c + nK ks
  | [], c, _, _ => by simp [cntK, nK]
  | n :: ks, c, h0, h => by
    simp only [nK] at h ⊢
    simp only [cntK]
    have hn := nN_pos n
    by_cases hs : nN n ≤ 1000000000
    · rw [cnt_small n hs]
      have e : wrap64 (c + (nN n : Int)) = c + nN n := by unfold wrap64; omega
      rw [e, cnt_smallK ks (c + nN n) (by omega) (by omega)]
      omega
    · exfalso
      omega
end
mutual
theorem nod_min : ∀ (n : Nd) (m : Int), 0 ≤ m → m ≤ 2000000000 → nodW n m = min (nN n : Int) (m + 1)
  | .mk k p nm t n z o b ks, m, h0, h1 => by
    simp only [nodW, nN]
    rw [nod_minK ks 1 m (by omega) (by omega) h1]
    omega
theorem nod_minK : ∀ (ks : List Nd) (c m : Int), 1 ≤ c → c ≤ m + 1 → m ≤ 2000000000 → nodK ks c m = min (c + nK ks) (m + 1)
  | [], c, m, h0, h1, h2 => by
    simp only [nodK, nK]
    omega
  | n :: ks, c, m, h0, h1, h2 => by
    simp only [nodK, nK]
    by_cases hc : m < c
    · rw [if_pos hc]
      have e : wrap64 (m + 1) = m + 1 := by unfold wrap64; omega
      rw [e]
      omega
    · rw [if_neg hc]
      have e : wrap64 (m - c) = m - c := by unfold wrap64; omega
      have hn := nN_pos n
      rw [e, nod_min n (m - c) (by omega) (by omega)]
      generalize hx : min (nN n : Int) (m - c + 1) = x
      have e2 : wrap64 (c + x) = c + x := by unfold wrap64; omega
      rw [e2, nod_minK ks (c + x) m (by omega) (by omega) h2]
      omega
end
mutual
/-- how deep a tree is -/
def dN : Nd → Nat
  | .mk _ _ _ _ _ _ _ _ ks => dK ks + 1
def dK : List Nd → Nat
  | [] => 0
  | n :: ks => max (dN n) (dK ks)
end
mutual
theorem dep_small : ∀ (n : Nd), dN n ≤ 1000000000 → depW n = dN n
  | .mk k p nm t n z o b ks, h => by
    simp only [dN] at h ⊢
    simp only [depW]
    rw [dep_smallK ks 0 (by omega) (by omega)]
    unfold wrap64
    omega
theorem dep_smallK : ∀ (ks : List Nd) (c : Int), 0 ≤ c → dK ks ≤ 1000000000 → depK ks c = max c (dK ks)
  | [], c, _, _ => by simp only [depK, dK]; omega
  | n :: ks, c, h0, h => by
    simp only [dK] at h ⊢
    simp only [depK]
    rw [dep_small n (by omega), dep_smallK ks _ (by omega) (by omega)]
    omega
end
mutual
theorem dee_min : ∀ (n : Nd) (m : Int), 0 ≤ m → m ≤ 2000000000 → deeW n m = min (dN n : Int) (m + 1)
  | .mk k p nm t n z o b ks, m, h0, h1 => by
    simp only [deeW, dN]
    by_cases hm : m < 1
    · rw [if_pos hm]
      omega
    · rw [if_neg hm, dee_minK ks 0 m (by omega) (by omega) (by omega) h1]
      unfold wrap64
      omega
theorem dee_minK : ∀ (ks : List Nd) (d m : Int), 0 ≤ d → d ≤ m → 1 ≤ m → m ≤ 2000000000 → deeK ks d m = max d (min (dK ks : Int) m)
  | [], d, m, h0, h1, h2, h3 => by
    simp only [deeK, dK]
    omega
  | n :: ks, d, m, h0, h1, h2, h3 => by
    simp only [deeK, dK]
    have e : wrap64 (m - 1) = m - 1 := by unfold wrap64; omega
    rw [e, dee_min n (m - 1) (by omega) (by omega)]
    generalize hx : min (dN n : Int) (m - 1 + 1) = x
    by_cases hd : d < x
    · rw [if_pos hd, dee_minK ks x m (by omega) (by omega) h2 h3]
      omega
    · rw [if_neg hd, dee_minK ks d m h0 h1 h2 h3]
      omega
end
theorem counts_same {n : Nd} (h : ¬ (3000 : Int) < nodW n 3000) : cntW n = nodW n 1073741824 := by
  rw [nod_min n 3000 (by omega) (by omega)] at h
  rw [nod_min n 1073741824 (by omega) (by omega), cnt_small n (by omega)]
  omega
theorem depths_same {n : Nd} (h : ¬ (500 : Int) < deeW n 500) : depW n = deeW n 1073741824 := by
  rw [dee_min n 500 (by omega) (by omega)] at h
  rw [dee_min n 1073741824 (by omega) (by omega), dep_small n (by omega)]
  omega

end Go.Proofs.YtodgkfniimgfcaaGreatDoor.Ck
