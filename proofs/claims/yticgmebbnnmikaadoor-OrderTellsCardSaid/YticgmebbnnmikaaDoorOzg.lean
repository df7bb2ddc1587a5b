/- The races of a trace's beginning are the first ones of the whole. No Go text is walked here. -/
import Derived.Test.YticgmebbnnmikaaDoorOza
namespace Go.Proofs.YticgmebbnnmikaaDoor.Ck
open Go.RowKit

theorem pasts_cut (R : List Int) (T : List Ev) {n a : Nat} (ha : a < n) (hn : n ≤ T.length) : (pastsM R (T.take n)).getD a sn0 = (pastsM R T).getD a sn0 := by
  obtain ⟨b, rfl⟩ : ∃ b, n = b + 1 := ⟨n - 1, by omega⟩
  exact pasts_take R T a b (by omega) (by omega)
theorem unk_cut (R : List Int) (T : List Ev) {n k : Nat} {x : Int} (hx : x = -1 ∨ 0 ≤ x ∧ x < k) (hk : k < n) (hn : n ≤ T.length) : unkM (T.take n) (pastsM R (T.take n)) x k = unkM T (pastsM R T) x k := by
  rcases hx with rfl | hx
  · rfl
  · unfold unkM
    rw [pasts_cut R T (show x.toNat < n by omega) hn, pasts_cut R T hk hn, takeE T n _ (by omega)]
theorem last_cut (R : List Int) (T : List Ev) {n k : Nat} {s : Sp} (hs : SpOk s k) (hk : k < n) (hn : n ≤ T.length) : ∀ i, i ≤ 8 → lastM (T.take n) (pastsM R (T.take n)) s k i = lastM T (pastsM R T) s k i
  | 0, _ => rfl
  | i + 1, hi => by
    unfold lastM
    rw [unk_cut R T (hs i (by omega)).2 hk hn, last_cut R T hs hk hn i (by omega)]
theorem read_cut (R : List Int) (T : List Ev) {n k : Nat} {s : Sp} (hs : SpOk s k) (hk : k < n) (hn : n ≤ T.length) : ∀ r, r ≤ 8 → readF (T.take n) (pastsM R (T.take n)) s k r = readF T (pastsM R T) s k r
  | 0, _ => rfl
  | r + 1, hr => by
    unfold readF
    rw [unk_cut R T (hs _ (by omega)).1 hk hn, read_cut R T hs hk hn r (by omega)]
theorem first_cut (R : List Int) (T : List Ev) {n k : Nat} {s : Sp} (hs : SpOk s k) (hk : k < n) (hn : n ≤ T.length) : firstM (T.take n) (pastsM R (T.take n)) s k = firstM T (pastsM R T) s k := by
  unfold firstM
  rw [last_cut R T hs hk hn 8 (by omega), read_cut R T hs hk hn 8 (by omega), takeE T n k hk]
theorem take_cut (R : List Int) (T : List Ev) {n k : Nat} {F : Int → Option Sp} (hF : FsOk F k) (hk : k < n) (hn : n ≤ T.length) : takeM (T.take n) (pastsM R (T.take n)) F k = takeM T (pastsM R T) F k := by
  have hs : SpOk ((F (T.getD k zE).o).getD sp1) k := by
    cases e : F (T.getD k zE).o with
    | none => exact sp1_ok k
    | some s => exact hF _ s e
  unfold takeM
  rw [takeE T n k hk, first_cut R T hs hk hn]
theorem race_cut (R : List Int) (T : List Ev) {n : Nat} (hn : n ≤ T.length) : ∀ k, k ≤ n → raceF (T.take n) (pastsM R (T.take n)) k = raceF T (pastsM R T) k
  | 0, _ => rfl
  | k + 1, hk => by
    have ih := race_cut R T hn k (by omega)
    have ok := race_ok T (pastsM R T) k
    have tk := (take_ok (T := T) (ps := pastsM R T) ok).2
    unfold raceF
    rw [ih, take_cut R T ok (by omega) hn, takeE T n k (by omega)]
    split
    · refine Prod.ext ?_ rfl
      show (if _ then _ else _) = (if _ then _ else _)
      split
      · rename_i h
        rw [takeE T n _ (by omega)]
      · rfl
    · rfl
/-- races are only ever added -/
theorem race_more (T : List Ev) (ps : List Sn) : ∀ m k, k ≤ m → ∃ l, (raceF T ps m).1 = (raceF T ps k).1 ++ l
  | 0, k, h => by
    obtain rfl : k = 0 := by omega
    exact ⟨[], by simp⟩
  | m + 1, k, h => by
    by_cases e : k = m + 1
    · subst e
      exact ⟨[], by simp⟩
    · obtain ⟨l, hl⟩ := race_more T ps m k (by omega)
      have step : ∃ l2, (raceF T ps (m + 1)).1 = (raceF T ps m).1 ++ l2 := by
        rw [raceF]
        split
        · simp only
          split
          · exact ⟨_, rfl⟩
          · exact ⟨[], by simp⟩
        · exact ⟨[], by simp⟩
      obtain ⟨l2, hl2⟩ := step
      exact ⟨l ++ l2, by rw [hl2, hl, List.append_assoc]⟩
/-- a race of a trace's beginning is one of the whole -/
theorem races_cut (R : List Int) (T : List Ev) {n : Nat} (hn : n ≤ T.length) : ∃ l, racesM R T = racesM R (T.take n) ++ l := by
  unfold racesM
  rw [List.length_take, Nat.min_eq_left hn, race_cut R T hn n (Nat.le_refl _)]
  exact race_more T _ T.length n hn
end Go.Proofs.YticgmebbnnmikaaDoor.Ck
