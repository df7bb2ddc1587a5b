/- What the document calls happening before, as plain functions, held against package order's walk. No Go text is walked here. -/
import Derived.Test.YticgmebbnnmikaaDoorOy
namespace Go.Proofs.YticgmebbnnmikaaDoor.Ck
open Go.RowKit

def kOf (T : List Ev) (i : Nat) : Int := (T.getD i zE).k
def oOf (T : List Ev) (i : Nat) : Int := (T.getD i zE).o
/-- how many of the first n events are of a kind and an object -/
def cntE (T : List Ev) (kd o : Int) : Nat → Nat
  | 0 => 0
  | n + 1 => if kOf T n = kd ∧ oOf T n = o then cntE T kd o n + 1 else cntE T kd o n
theorem cntE_le (T : List Ev) (kd o : Int) (i : Nat) : ∀ j, i ≤ j → cntE T kd o i ≤ cntE T kd o j
  | 0, h => by
    obtain rfl : i = 0 := by omega
    exact Nat.le_refl _
  | j + 1, h => by
    by_cases e : i = j + 1
    · rw [e]; exact Nat.le_refl _
    · have ih := cntE_le T kd o i j (by omega)
      show _ ≤ if kOf T j = kd ∧ oOf T j = o then _ else _
      split <;> omega
theorem cntE_lt (T : List Ev) (kd o : Int) {i j : Nat} (h : i < j) (hi : kOf T i = kd ∧ oOf T i = o) : cntE T kd o i < cntE T kd o j := by
  have h1 : cntE T kd o (i + 1) = cntE T kd o i + 1 := by
    show (if kOf T i = kd ∧ oOf T i = o then _ else _) = _
    rw [if_pos hi]
  have h2 := cntE_le T kd o (i + 1) j h
  omega
theorem cntE_inj (T : List Ev) (kd o : Int) {i j : Nat} (hi : kOf T i = kd ∧ oOf T i = o) (hj : kOf T j = kd ∧ oOf T j = o) (e : cntE T kd o i = cntE T kd o j) : i = j := by
  rcases Nat.lt_trichotomy i j with h | h | h
  · have := cntE_lt T kd o h hi; omega
  · exact h
  · have := cntE_lt T kd o h hj; omega
theorem cntE_self (T : List Ev) (kd o : Int) : ∀ i, cntE T kd o i ≤ i
  | 0 => Nat.le_refl _
  | i + 1 => by
    have ih := cntE_self T kd o i
    unfold cntE
    split <;> omega
/-- the k-th event of a kind and an object among the last r -/
def nthF (T : List Ev) (kd o : Int) (k : Nat) : Nat → Int
  | 0 => -1
  | r + 1 => if (kOf T (T.length - (r + 1)) = kd ∧ oOf T (T.length - (r + 1)) = o) ∧ cntE T kd o (T.length - (r + 1)) = k then ((T.length - (r + 1) : Nat) : Int) else nthF T kd o k r
def nthM (T : List Ev) (kd o : Int) (k : Nat) : Int := nthF T kd o k T.length
theorem nthF_out (T : List Ev) (kd o : Int) (k : Nat) : ∀ r, r ≤ T.length → (nthF T kd o k r = -1 ∧ ∀ i, T.length - r ≤ i → i < T.length → ¬ ((kOf T i = kd ∧ oOf T i = o) ∧ cntE T kd o i = k)) ∨ ∃ i : Nat, i < T.length ∧ nthF T kd o k r = i ∧ (kOf T i = kd ∧ oOf T i = o) ∧ cntE T kd o i = k
  | 0, _ => .inl ⟨rfl, fun i h1 h2 => by omega⟩
  | r + 1, h => by
    unfold nthF
    split
    · rename_i hc
      exact .inr ⟨_, by omega, rfl, hc⟩
    · rename_i hc
      rcases nthF_out T kd o k r (by omega) with ⟨h1, h2⟩ | h1
      · refine .inl ⟨h1, fun i hi hl => ?_⟩
        by_cases e : i = T.length - (r + 1)
        · rw [e]; exact hc
        · exact h2 i (by omega) hl
      · exact .inr h1
def whM (T : List Ev) (i : Nat) : Nat := cntE T (kOf T i) (oOf T i) i
def atB (k : Int) : Bool := k == 7 || k == 8 || k == 9
/-- did a goroutine send what an event took? -/
def backB (T : List Ev) (i : Nat) (g : Int) : Bool := decide (0 ≤ nthM T 5 (oOf T i) (whM T i)) && decide (nthM T 5 (oOf T i) (whM T i) < i) && decide ((T.getD (nthM T 5 (oOf T i) (whM T i)).toNat zE).g = g)
/-- the document's Direct -/
def dirM (T : List Ev) (R : List Int) (i j : Nat) : Bool :=
  decide ((T.getD i zE).g = (T.getD j zE).g) || (decide (kOf T i = 10) && decide (oOf T i = (T.getD j zE).g)) || (decide (kOf T i = 6) && decide (roomM R (oOf T i) = 0) && backB T i (T.getD j zE).g) ||
  (decide (oOf T i = oOf T j) && ((decide (kOf T i = 4) && decide (kOf T j = 3)) || (atB (kOf T i) && atB (kOf T j)) || (decide (kOf T i = 5) && decide (kOf T j = 6) && decide (whM T i = whM T j)) ||
    (decide (kOf T i = 6) && decide (kOf T j = 5) && decide (0 < roomM R (oOf T i)) && decide (roomM R (oOf T i) ≤ whM T j) && decide ((whM T j : Int) - roomM R (oOf T i) = whM T i))))
/-- a row of the document's Before, when r earlier events are done -/
def rowF (T : List Ev) (R : List Int) (M : Nat → Nat → Bool) (j : Nat) : Nat → Nat → Bool
  | 0 => fun _ => false
  | r + 1 => if (rowF T R M j r (j - (r + 1)) || !dirM T R (j - (r + 1)) j) = true then rowF T R M j r else fun k => if k = j - (r + 1) then true else rowF T R M j r k || (decide (k < j - (r + 1)) && M (j - (r + 1)) k)
/-- the document's Before, when n rows are done -/
def matM (T : List Ev) (R : List Int) : Nat → Nat → Nat → Bool
  | 0 => fun _ _ => false
  | n + 1 => fun j => if j = n then rowF T R (matM T R n) n n else matM T R n j
def Chm (T : List Ev) (R : List Int) (M : Nat → Nat → Bool) (n : Nat) : Prop := ∀ j, j < n → ∀ i, M j i = true ↔ ∃ k, k < j ∧ dirM T R k j = true ∧ (i = k ∨ M k i = true)
theorem Chm.lt {T : List Ev} {R : List Int} {M : Nat → Nat → Bool} {n : Nat} (h : Chm T R M n) : ∀ j, j < n → ∀ i, M j i = true → i < j := fun j => by
  induction j using Nat.strongRecOn with
  | _ j ih =>
    intro hj i hi
    obtain ⟨k, hk, _, e | e⟩ := (h j hj i).1 hi
    · omega
    · have := ih k hk (by omega) i e
      omega
theorem Chm.trans {T : List Ev} {R : List Int} {M : Nat → Nat → Bool} {n : Nat} (h : Chm T R M n) : ∀ k, k < n → ∀ m i, M k m = true → M m i = true → M k i = true := fun k => by
  induction k using Nat.strongRecOn with
  | _ k ih =>
    intro hk m i h1 h2
    obtain ⟨q, hq, hd, e | e⟩ := (h k hk m).1 h1
    · subst e
      exact (h k hk i).2 ⟨m, hq, hd, .inr h2⟩
    · exact (h k hk i).2 ⟨q, hq, hd, .inr (ih q hq (by omega) m i e h2)⟩
theorem row_spec {T : List Ev} {R : List Int} {M : Nat → Nat → Bool} {n : Nat} (h : Chm T R M n) : ∀ r, r ≤ n → ∀ i, rowF T R M n r i = true ↔ ∃ k, n - r ≤ k ∧ k < n ∧ dirM T R k n = true ∧ (i = k ∨ M k i = true)
  | 0, _, i => ⟨fun e => (by cases e), fun ⟨k, h1, h2, _⟩ => by omega⟩
  | r + 1, hr, i => by
    have ih := row_spec h r (by omega)
    obtain ⟨m, hm⟩ : ∃ m, m = n - (r + 1) := ⟨_, rfl⟩
    have step : ∀ k, n - (r + 1) ≤ k ↔ k = m ∨ n - r ≤ k := fun k => by omega
    unfold rowF
    rw [← hm]
    cases hd : dirM T R m n with
    | false =>
      rw [if_pos (by simp), ih i]
      refine ⟨fun ⟨k, h1, h2⟩ => ⟨k, by omega, h2⟩, fun ⟨k, h1, h2, h3, h4⟩ => ?_⟩
      by_cases e : k = m
      · rw [e, hd] at h3; cases h3
      · exact ⟨k, by omega, h2, h3, h4⟩
    | true =>
      cases hr0 : rowF T R M n r m with
      | true =>
        rw [if_pos (by simp), ih i]
        refine ⟨fun ⟨k, h1, h2⟩ => ⟨k, by omega, h2⟩, fun ⟨k, h1, h2, h3, h4⟩ => ?_⟩
        by_cases e : k = m
        · obtain ⟨q, q1, q2, q3, q4⟩ := (ih m).1 hr0
          have q5 : M q m = true := by
            rcases q4 with e1 | e1
            · omega
            · exact e1
          rcases h4 with e1 | e1
          · exact ⟨q, q1, q2, q3, .inr (by rw [e1, e]; exact q5)⟩
          · exact ⟨q, q1, q2, q3, .inr (h.trans q q2 m i q5 (by rw [← e]; exact e1))⟩
        · exact ⟨k, by omega, h2, h3, h4⟩
      | false =>
        rw [if_neg (by simp)]
        show (if i = m then true else rowF T R M n r i || (decide (i < m) && M m i)) = true ↔ _
        by_cases e : i = m
        · rw [if_pos e]
          exact ⟨fun _ => ⟨m, by omega, by omega, hd, .inl e⟩, fun _ => rfl⟩
        · rw [if_neg e]
          simp only [Bool.or_eq_true, Bool.and_eq_true, decide_eq_true_eq]
          rw [ih i]
          refine ⟨fun hx => ?_, fun ⟨k, h1, h2, h3, h4⟩ => ?_⟩
          · rcases hx with ⟨k, h1, h2⟩ | ⟨_, h2⟩
            · exact ⟨k, by omega, h2⟩
            · exact ⟨m, by omega, by omega, hd, .inr h2⟩
          · by_cases ek : k = m
            · subst ek
              rcases h4 with e1 | e1
              · exact absurd e1 e
              · exact .inr ⟨h.lt k h2 i e1, e1⟩
            · exact .inl ⟨k, by omega, h2, h3, h4⟩
theorem mat_keep (T : List Ev) (R : List Int) (n j : Nat) (h : j < n) : matM T R (n + 1) j = matM T R n j := by
  show (if j = n then _ else _) = _
  rw [if_neg (by omega)]
theorem mat_ch (T : List Ev) (R : List Int) : ∀ n, Chm T R (matM T R n) n
  | 0 => fun j h => by omega
  | n + 1 => fun j hj i => by
    have ih := mat_ch T R n
    by_cases e : j = n
    · subst e
      have e1 : matM T R (j + 1) j = rowF T R (matM T R j) j j := by
        show (if j = j then _ else _) = _
        rw [if_pos rfl]
      rw [e1, row_spec ih j (Nat.le_refl _) i]
      refine ⟨fun ⟨k, h1, h2, h3, h4⟩ => ⟨k, h2, h3, ?_⟩, fun ⟨k, h2, h3, h4⟩ => ⟨k, by omega, h2, h3, ?_⟩⟩
      · rw [mat_keep T R j k h2]; exact h4
      · rw [mat_keep T R j k h2] at h4; exact h4
    · rw [mat_keep T R n j (by omega), ih j (by omega) i]
      refine ⟨fun ⟨k, h1, h2, h3⟩ => ⟨k, h1, h2, ?_⟩, fun ⟨k, h1, h2, h3⟩ => ⟨k, h1, h2, ?_⟩⟩
      · rw [mat_keep T R n k (by omega)]; exact h3
      · rw [mat_keep T R n k (by omega)] at h3; exact h3
/-- the document's Before -/
def hbM (T : List Ev) (R : List Int) : Nat → Nat → Bool := matM T R T.length
/-- an event itself, and what happens before it -/
def Dn (T : List Ev) (R : List Int) (j i : Nat) : Prop := i = j ∨ hbM T R j i = true
theorem Dn_step {T : List Ev} {R : List Int} {j : Nat} (hj : j < T.length) (i : Nat) : Dn T R j i ↔ i = j ∨ ∃ k, k < j ∧ dirM T R k j = true ∧ Dn T R k i := by
  unfold Dn
  have := mat_ch T R T.length j hj i
  unfold hbM
  rw [this]
theorem Dn_le {T : List Ev} {R : List Int} {j i : Nat} (hj : j < T.length) (h : Dn T R j i) : i ≤ j := by
  rcases h with e | e
  · omega
  · have := (mat_ch T R T.length).lt j hj i e
    omega
/-- how many of the first n events are a goroutine's -/
def gcnt (T : List Ev) (g : Nat) : Nat → Nat
  | 0 => 0
  | n + 1 => if gOf T n = g then gcnt T g n + 1 else gcnt T g n
def cM (T : List Ev) (i : Nat) : Int := gcnt T (gOf T i) i + 1
theorem gcnt_le (T : List Ev) (g i : Nat) : ∀ j, i ≤ j → gcnt T g i ≤ gcnt T g j
  | 0, h => by
    obtain rfl : i = 0 := by omega
    exact Nat.le_refl _
  | j + 1, h => by
    by_cases e : i = j + 1
    · rw [e]; exact Nat.le_refl _
    · have ih := gcnt_le T g i j (by omega)
      show _ ≤ if gOf T j = g then _ else _
      split <;> omega
theorem gcnt_self (T : List Ev) (g : Nat) : ∀ i, gcnt T g i ≤ i
  | 0 => Nat.le_refl _
  | i + 1 => by
    have ih := gcnt_self T g i
    unfold gcnt
    split <;> omega
theorem gcnt_succ (T : List Ev) {g i : Nat} (h : gOf T i = g) : gcnt T g (i + 1) = gcnt T g i + 1 := by
  show (if gOf T i = g then _ else _) = _
  rw [if_pos h]
theorem cM_lt {T : List Ev} {i j : Nat} (h : i < j) (e : gOf T i = gOf T j) : cM T i < cM T j := by
  unfold cM
  have h1 := gcnt_succ T (g := gOf T i) (i := i) rfl
  have h2 := gcnt_le T (gOf T i) (i + 1) j h
  rw [e] at h1 h2 ⊢
  omega
/-- the last event of a goroutine ahead of a place -/
theorem gcnt_last (T : List Ev) (g : Nat) : ∀ n, gcnt T g n = 0 ∨ ∃ i, i < n ∧ gOf T i = g ∧ cM T i = gcnt T g n
  | 0 => .inl rfl
  | n + 1 => by
    by_cases e : gOf T n = g
    · refine .inr ⟨n, Nat.lt_succ_self _, e, ?_⟩
      rw [gcnt_succ T e]
      unfold cM
      rw [e]
      omega
    · have e1 : gcnt T g (n + 1) = gcnt T g n := by
        show (if gOf T n = g then _ else _) = _
        rw [if_neg e]
      rw [e1]
      rcases gcnt_last T g n with h | ⟨i, h1, h2⟩
      · exact .inl h
      · exact .inr ⟨i, by omega, h2⟩
/-- what is known is the greatest counts of a row of events -/
structure Rp (T : List Ev) (s : Sn) (D : Nat → Prop) : Prop where
  up : ∀ i, D i → cM T i ≤ s (gOf T i)
  dn : ∀ g, g < 8 → s g = 0 ∨ ∃ i, D i ∧ gOf T i = g ∧ s g = cM T i
theorem cM_pos (T : List Ev) (i : Nat) : 1 ≤ cM T i := by unfold cM; omega
theorem Rp.nil (T : List Ev) : Rp T sn0 (fun _ => False) := ⟨fun _ h => h.elim, fun _ _ => .inl rfl⟩
theorem Rp.iff {T : List Ev} {s : Sn} {D E : Nat → Prop} (h : Rp T s D) (e : ∀ i, D i ↔ E i) : Rp T s E :=
  ⟨fun i hi => h.up i ((e i).2 hi), fun g hg => (h.dn g hg).imp_right fun ⟨i, h1, h2⟩ => ⟨i, (e i).1 h1, h2⟩⟩
theorem Rp.jn {T : List Ev} {s t : Sn} {D E : Nat → Prop} (h : Rp T s D) (k : Rp T t E) : Rp T (jn s t) (fun i => D i ∨ E i) := by
  refine ⟨fun i hi => ?_, fun g hg => ?_⟩
  · unfold Ck.jn
    rcases hi with hi | hi
    · have := h.up i hi; omega
    · have := k.up i hi; omega
  · unfold Ck.jn
    rcases h.dn g hg with e1 | ⟨i, d1, g1, e1⟩ <;> rcases k.dn g hg with e2 | ⟨j, d2, g2, e2⟩
    · left; omega
    · have := cM_pos T j
      exact .inr ⟨j, .inr d2, g2, by omega⟩
    · have := cM_pos T i
      exact .inr ⟨i, .inl d1, g1, by omega⟩
    · by_cases c : s g ≤ t g
      · exact .inr ⟨j, .inr d2, g2, by omega⟩
      · exact .inr ⟨i, .inl d1, g1, by omega⟩
end Go.Proofs.YticgmebbnnmikaaDoor.Ck
