/- What joins, ticks and short forms are, count by count; when a clock is at most another one. -/
import Derived.Test.YtogabncehoehjaaDoorTick
namespace Go.Proofs.YtogabncehoehjaaDoor.Ck

theorem tl_tail (c : List Int) (k i : Nat) (h : tl c k ≤ i) (hi : i < k) : c.getD i 0 = 0 := by
  induction k with
  | zero => omega
  | succ k ih =>
    rw [tl] at h
    split at h
    · by_cases e : i = k
      · subst e; assumption
      · exact ih h (by omega)
    · omega
theorem tl_last (c : List Int) (k : Nat) (h : tl c k ≠ 0) : c.getD (tl c k - 1) 0 ≠ 0 := by
  induction k with
  | zero => exact absurd rfl h
  | succ k ih =>
    by_cases e : c.getD k 0 = 0
    · rw [tl_zero c k e] at h ⊢
      exact ih h
    · rw [tl_stop c k e]
      exact e

theorem mk_length (m : Nat → Int) (n : Nat) : (mk m n).length = tl ((List.range n).map m) n := by
  have := tl_le ((List.range n).map m) n
  simp [mk]
  omega
theorem mk_le (m : Nat → Int) (n : Nat) : (mk m n).length ≤ n := by rw [mk_length]; exact tl_le _ _
theorem mk_getD (m : Nat → Int) (n i : Nat) (h : i < (mk m n).length) : (mk m n).getD i 0 = m i := by
  rw [mk_length] at h
  have hn := tl_le ((List.range n).map m) n
  have hi : i < n := by omega
  unfold mk
  simp [List.getD, h, hi]
theorem cnt_mk (m : Nat → Int) (n : Nat) (h0 : ∀ i, 0 ≤ m i) (h1 : ∀ i, n ≤ i → m i = 0) (i : Nat) : cnt (mk m n) i = m i := by
  by_cases h : i < (mk m n).length
  · unfold cnt
    rw [mk_getD m n i h]
    have := h0 i
    omega
  · rw [cnt_out _ _ (by omega)]
    by_cases hi : i < n
    · have := tl_tail ((List.range n).map m) n i (by rw [← mk_length]; omega) hi
      rw [range_getD m n i hi] at this
      exact this.symm
    · exact (h1 i (by omega)).symm

theorem cnt_join (a b : List Int) (i : Nat) : cnt (join a b) i = max (cnt a i) (cnt b i) := by
  unfold join
  rw [cnt_mk (joinF a b)]
  · rfl
  · intro j; have := cnt_nonneg a j; unfold joinF; omega
  · intro j hj; unfold joinF; rw [cnt_out a j (by omega), cnt_out b j (by omega)]; rfl
theorem cnt_short (a : List Int) (i : Nat) : cnt (short a) i = cnt a i := by
  unfold short
  rw [cnt_mk (cnt a)]
  · exact cnt_nonneg a
  · exact fun j hj => cnt_out a j hj
theorem cnt_tick (a : List Int) (g i : Nat) : cnt (tick a g) i = cnt a i + if i = g then 1 else 0 := by
  unfold tick
  rw [cnt_mk (tickF a g)]
  · unfold tickF; rw [cnt_one]
  · intro j; have := cnt_nonneg a j; have := cnt_nonneg (one g) j; unfold tickF; omega
  · intro j hj; unfold tickF; rw [cnt_out a j (by omega), cnt_one, if_neg (by omega)]; rfl
theorem join_le (a b : List Int) : (join a b).length ≤ max a.length b.length := mk_le _ _
theorem short_le (a : List Int) : (short a).length ≤ a.length := mk_le _ _
theorem tick_le (a : List Int) (g : Nat) : (tick a g).length ≤ max a.length (g + 1) := mk_le _ _

theorem get_join (a b : List Int) (g : Int) : get (join a b) g = max (get a g) (get b g) := by
  by_cases h : 0 ≤ g
  · obtain ⟨i, rfl⟩ := Int.eq_ofNat_of_zero_le h
    rw [get_nat, get_nat, get_nat, cnt_join]
  · rw [get_neg _ _ (by omega), get_neg _ _ (by omega), get_neg _ _ (by omega)]; rfl
theorem get_tick (a : List Int) (k : Nat) (g : Int) : get (tick a k) g = get a g + if g = k then 1 else 0 := by
  by_cases h : 0 ≤ g
  · obtain ⟨i, rfl⟩ := Int.eq_ofNat_of_zero_le h
    rw [get_nat, get_nat, cnt_tick]
    by_cases e : i = k
    · subst e; simp
    · rw [if_neg e, if_neg (by omega)]
  · rw [get_neg _ _ (by omega), get_neg _ _ (by omega), if_neg (by omega)]; rfl

theorem all_iff (p : Nat → Bool) (n : Nat) : all p n = true ↔ ∀ i, i < n → p i = true := by
  induction n with
  | zero => simp [all]
  | succ n ih =>
    simp only [all, Bool.and_eq_true, ih]
    exact ⟨fun h i hi => by by_cases e : i = n; { rw [e]; exact h.2 }; { exact h.1 i (by omega) }, fun h => ⟨fun i hi => h i (by omega), h n (by omega)⟩⟩
theorem leB_iff (a b : List Int) : leB a b = true ↔ ∀ i, cnt a i ≤ cnt b i := by
  unfold leB
  rw [all_iff]
  simp only [decide_eq_true_eq]
  refine ⟨fun h i => ?_, fun h i _ => h i⟩
  by_cases hi : i < max a.length b.length
  · exact h i hi
  · rw [cnt_out a i (by omega)]; exact cnt_nonneg b i
theorem eqB_iff (a b : List Int) : eqB a b = true ↔ ∀ i, cnt a i = cnt b i := by
  unfold eqB
  rw [all_iff]
  simp only [beq_iff_eq]
  refine ⟨fun h i => ?_, fun h i _ => h i⟩
  by_cases hi : i < max a.length b.length
  · exact h i hi
  · rw [cnt_out a i (by omega), cnt_out b i (by omega)]
theorem leB_false (a b : List Int) (i : Nat) (h : cnt b i < cnt a i) : leB a b = false := by
  cases e : leB a b
  · rfl
  · have := (leB_iff a b).1 e i; omega

end Go.Proofs.YtogabncehoehjaaDoor.Ck
