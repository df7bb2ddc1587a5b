/- ProofreadStack's codes, by the model. No Go text is walked here. -/
import Derived.Test.YtidjbgemnohbnaaDoorQeQ
namespace Go.Proofs.YtidjbgemnohbnaaDoor.Ck
open Go.RowKit

def i1 : In5 := ⟨1, 0, 0, 0, 0⟩
def i11 : In5 := ⟨11, 1, 0, 0, 0⟩
def i7 : In5 := ⟨7, 0, 0, 0, 0⟩
def i25 : In5 := ⟨25, 0, 0, 0, 0⟩
def oneP (B : List In5) : Cd := ⟨[1], 0, 0, [], [⟨0, 0, []⟩], B, 0⟩
def stackL (n : Nat) : List In5 := List.replicate n i1 ++ List.replicate (n - 1) i11 ++ [i7, i25]
def ssN (n i : Nat) : List Int := List.replicate (min i (2 * n - i)) 1
theorem stack_len {n : Nat} (h : 1 ≤ n) : (stackL n).length = 2 * n + 1 := by
  unfold stackL
  simp
  omega
theorem stack_1 {n i : Nat} (h : i < n) : (stackL n).getD i zI = i1 := by
  unfold stackL
  rw [List.getD_eq_getElem?_getD, List.append_assoc, List.getElem?_append_left (by simpa using h), List.getElem?_replicate, if_pos h]
  rfl
theorem stack_2 {n i : Nat} (h : n ≤ i) (h2 : i < 2 * n - 1) : (stackL n).getD i zI = i11 := by
  unfold stackL
  rw [List.getD_eq_getElem?_getD, List.append_assoc, List.getElem?_append_right (by simpa using h), List.getElem?_append_left (by simp; omega), List.getElem?_replicate, if_pos (by simp; omega)]
  rfl
theorem stack_3 {n : Nat} (h : 1 ≤ n) : (stackL n).getD (2 * n - 1) zI = i7 := by
  unfold stackL
  rw [List.getD_eq_getElem?_getD, List.getElem?_append_right (by simp; omega)]
  simp only [List.length_append, List.length_replicate]
  rw [show 2 * n - 1 - (n + (n - 1)) = 0 by omega]
  rfl
theorem stack_4 {n : Nat} (h : 1 ≤ n) : (stackL n).getD (2 * n) zI = i25 := by
  unfold stackL
  rw [List.getD_eq_getElem?_getD, List.getElem?_append_right (by simp; omega)]
  simp only [List.length_append, List.length_replicate]
  rw [show 2 * n - (n + (n - 1)) = 1 by omega]
  rfl
theorem pop_rep (k : Nat) : popM (List.replicate (k + 1) 1) = some (1, List.replicate k 1) := by
  unfold popM
  rw [List.replicate_succ', List.getLast?_concat, List.dropLast_concat]
theorem bin_rep (k : Nat) : binS 1 (List.replicate (k + 2) 1) = some (List.replicate (k + 1) 1) := by
  unfold binS
  rw [pop_rep (k + 1), Option.bind_some, pop_rep k, Option.bind_some]
  show (binM 1 1 1).map _ = _
  rw [show binM 1 1 1 = some 1 from rfl, List.replicate_succ' (n := k)]
  rfl
theorem stack_str {n i : Nat} (h : i < 2 * n) (lo : List Int) : Str (oneP (stackL n)) lo (ssN n) i := by
  unfold Str
  show _ ∧ _ ∧ _ ∧ _ ∧ _ ∧ changeM (oneP (stackL n)) lo ((stackL n).getD i zI) (ssN n i) = _
  have e0 : (oneP (stackL n)).B = stackL n := rfl
  rw [e0]
  by_cases h1 : i < n
  · rw [stack_1 h1]
    refine ⟨by decide, by decide, by decide, by decide, by decide, ?_⟩
    unfold ssN
    rw [show min i (2 * n - i) = i by omega, show min (i + 1) (2 * n - (i + 1)) = i + 1 by omega, List.replicate_succ']
    rfl
  · by_cases h2 : i < 2 * n - 1
    · rw [stack_2 (by omega) h2]
      refine ⟨by decide, by decide, by decide, by decide, by decide, ?_⟩
      unfold ssN
      obtain ⟨k, hk⟩ : ∃ k, 2 * n - i = k + 2 := ⟨2 * n - i - 2, by omega⟩
      rw [show min i (2 * n - i) = k + 2 by omega, show min (i + 1) (2 * n - (i + 1)) = k + 1 by omega]
      exact bin_rep k
    · obtain rfl : i = 2 * n - 1 := by omega
      rw [stack_3 (by omega)]
      refine ⟨by decide, by decide, by decide, by decide, by decide, ?_⟩
      unfold ssN
      rw [show min (2 * n - 1) (2 * n - (2 * n - 1)) = 1 by omega, show min (2 * n - 1 + 1) (2 * n - (2 * n - 1 + 1)) = 0 by omega]
      rfl
theorem stack_form {n : Nat} (h : 1 ≤ n) (h2 : n ≤ 100) : formB (oneP (stackL n)) = true := by
  have hl := stack_len h
  have e1 : ∀ B, insB (oneP B) i1 = true := fun B => rfl
  have e2 : ∀ B, insB (oneP B) i11 = true := fun B => rfl
  have e3 : ∀ B, insB (oneP B) i7 = true := fun B => rfl
  have e4 : ∀ B, insB (oneP B) i25 = true := fun B => rfl
  have hb : (stackL n).all (insB (oneP (stackL n))) = true := by
    rw [List.all_eq_true]
    intro x hx
    unfold stackL at hx
    simp only [List.mem_append, List.mem_replicate, List.mem_cons, List.not_mem_nil, or_false] at hx
    rcases hx with (⟨_, rfl⟩ | ⟨_, rfl⟩) | rfl | rfl
    · exact e1 _
    · exact e2 _
    · exact e3 _
    · exact e4 _
  unfold formB
  have e0 : (oneP (stackL n)).B = stackL n := rfl
  rw [e0, hb, hl]
  have m0 : mainB (oneP (stackL n)) = true := rfl
  rw [m0]
  simp [oneP, typB, fnB, stB, inN]
  omega
theorem le_deep {l : List (List Int)} {s : List Int} (h : s ∈ l) : s.length ≤ deepM l := by
  have hg : ∀ (m : List (List Int)) (a : Nat), a ≤ m.foldl (fun a s => max a s.length) a ∧ (∀ x ∈ m, x.length ≤ m.foldl (fun a s => max a s.length) a) := by
    intro m
    induction m with
    | nil => exact fun a => ⟨Nat.le_refl _, fun _ h => by cases h⟩
    | cons y m ih =>
      intro a
      obtain ⟨h1, h2⟩ := ih (max a y.length)
      refine ⟨Nat.le_trans (Nat.le_max_left _ _) h1, fun x hx => ?_⟩
      rcases List.mem_cons.1 hx with rfl | hx
      · exact Nat.le_trans (Nat.le_max_right _ _) h1
      · exact h2 x hx
  exact (hg l 0).2 s h
theorem stack_read {n : Nat} (h : 1 ≤ n) (h2 : n ≤ 100) : readM (oneP (stackL n)) = if n ≤ 64 then some ((List.range (2 * n + 1)).map (ssN n)) else none := by
  unfold readM
  rw [if_pos (stack_form h h2)]
  have hl : (oneP (stackL n)).B.length = 2 * n + 1 := stack_len h
  have hs : ∀ i, (ssN n i).length = min i (2 * n - i) := fun i => by unfold ssN; simp
  have e : funcsM (oneP (stackL n)) (oneP (stackL n)).F (beginM (oneP (stackL n))) = (goW (oneP (stackL n)) ⟨0, 0, []⟩ (oneP (stackL n)).B.length (stS (oneP (stackL n)).B.length (ssN n) 0)).bind (fun m => some m) := by
    show (functionM (oneP (stackL n)) ⟨0, 0, []⟩ (oneP (stackL n)).B.length (beginM (oneP (stackL n)))).bind _ = _
    unfold functionM
    rw [begin_str (ss := ssN n) (by unfold ssN; simp) (by omega)]
    rfl
  rw [e]
  unfold goW
  have hm : muW (stS (oneP (stackL n)).B.length (ssN n) 0) = 4 * n + 1 := by
    unfold muW stS
    rw [hl]
    simp
    omega
  rw [hm]
  by_cases h64 : n ≤ 64
  · rw [if_pos h64, show 4 * n + 1 = (2 * n + 1) + (2 * n - 0) by omega, go_run rfl (by omega) (Nat.zero_le _) (fun k _ hk => ⟨stack_str (by omega) _, by rw [hs]; omega⟩), go_ret (c := oneP (stackL n)) (ss := ssN n) (i := 2 * n) (by show ((stackL n).getD (2 * n) zI).op = 25; rw [stack_4 h]; rfl) (by unfold ssN; simp)]
    simp only [Option.bind_some, Option.map_some]
    unfold stE stS
    rw [hl]
    simp
  · rw [if_neg h64, show 4 * n + 1 = (4 * n - 64 + 1) + (64 - 0) by omega, go_run rfl (by omega) (Nat.zero_le _) (fun k _ hk => ⟨stack_str (by omega) _, by rw [hs]; omega⟩), go_no rfl (by rw [hs]; omega) (stack_str (by omega) _)]
    rfl
theorem stack_deep {n : Nat} (h : 1 ≤ n) (h2 : n ≤ 64) : deepM ((List.range (2 * n + 1)).map (ssN n)) = n := by
  apply Nat.le_antisymm
  · refine deep_le _ _ (fun s hs => ?_)
    obtain ⟨i, _, rfl⟩ := List.mem_map.1 hs
    unfold ssN
    simp
    omega
  · have := le_deep (l := (List.range (2 * n + 1)).map (ssN n)) (s := ssN n n) (List.mem_map.2 ⟨n, List.mem_range.2 (by omega), rfl⟩)
    unfold ssN at this
    simp at this
    unfold ssN
    omega
end Go.Proofs.YtidjbgemnohbnaaDoor.Ck
