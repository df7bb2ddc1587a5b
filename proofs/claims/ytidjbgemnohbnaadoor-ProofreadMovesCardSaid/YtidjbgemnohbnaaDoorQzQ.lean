/- A code with a Turn put ahead of all, whole; no Go text is walked here. -/
import Derived.Test.YtidjbgemnohbnaaDoorQyQ
namespace Go.Proofs.YtidjbgemnohbnaaDoor.Ck
open Go.RowKit

theorem movF_st {c : Cd} {k : Nat} (hk : k < c.F.length) : ((movC c).F.getD k zF).st = if k = 0 then (c.F.getD k zF).st else (c.F.getD k zF).st + 1 := by
  unfold movC
  cases hF : c.F with
  | nil => rw [hF] at hk; cases hk
  | cons f l =>
    cases k with
    | zero => rfl
    | succ k =>
      rw [hF] at hk
      have hk' : k < l.length := by simpa using hk
      simp [List.getD_eq_getElem?_getD, hk', movF]
theorem movB_len (c : Cd) : (movC c).B.length = c.B.length + 1 := by simp [movC]
theorem getD_repB (N i : Nat) : (List.replicate N false).getD i false = false := by
  rw [List.getD_eq_getElem?_getD, List.getElem?_replicate]
  split <;> rfl
theorem inN_succ {n : Int} {k : Nat} (h : inN n k = true) : inN n (k + 1) = true ∧ inN (n + 1) (k + 1) = true := by
  unfold inN at *
  simp only [Bool.and_eq_true, decide_eq_true_eq] at *
  omega
theorem mov_ins {c : Cd} {x : In5} (h : insB c x = true) : insB (movC c) (movI x) = true := by
  have hl := movB_len c
  have hF := movF_len c
  by_cases hj : 12 ≤ x.op ∧ x.op ≤ 14
  · have e : movI x = { x with a := x.a + 1 } := by unfold movI; rw [if_pos hj]
    rw [e]
    unfold insB at h ⊢
    rcases (by omega : x.op = 12 ∨ x.op = 13 ∨ x.op = 14) with h9 | h9 | h9
    · simp [h9, hl] at h ⊢
      exact ⟨h.1, h.2.1, (inN_succ h.2.2.1).2, h.2.2.2⟩
    · simp [h9, hl] at h ⊢
      exact ⟨h.1, h.2.1, ⟨(inN_succ h.2.2.1.1).2, h.2.2.1.2⟩, h.2.2.2⟩
    · simp [h9, hl] at h ⊢
      exact ⟨h.1, h.2.1, ⟨(inN_succ h.2.2.1.1).2, h.2.2.1.2⟩, h.2.2.2⟩
  · have e : movI x = x := by unfold movI; rw [if_neg hj]
    rw [e]
    unfold insB at h ⊢
    rw [hl, hF]
    have h12 : ¬ x.op = 12 := by omega
    have h13 : ¬ (x.op = 13 ∨ x.op = 14) := by omega
    simp only [if_neg h12, if_neg h13] at h ⊢
    exact h
theorem mov_stB : ∀ (p : Int) (l : List Fn3), stB p l = true → stB (p + 1) (l.map movF) = true
  | _, [], _ => rfl
  | p, f :: l, h => by
    unfold stB at h
    simp only [Bool.and_eq_true, decide_eq_true_eq] at h
    simp only [List.map_cons]
    unfold stB
    simp only [Bool.and_eq_true, decide_eq_true_eq]
    exact ⟨by show p + 1 < f.st + 1; omega, mov_stB f.st l h.2⟩
theorem stB_le {p q : Int} (hp : q ≤ p) : ∀ (l : List Fn3), stB p l = true → stB q l = true
  | [], _ => rfl
  | f :: l, h => by
    unfold stB at h ⊢
    simp only [Bool.and_eq_true, decide_eq_true_eq] at h ⊢
    exact ⟨by omega, h.2⟩
theorem mov_form {c : Cd} (h : formB c = true) (hl : c.B.length < 8192) : formB (movC c) = true := by
  have h0 := h
  unfold formB at h
  simp only [Bool.and_eq_true, decide_eq_true_eq, List.all_eq_true] at h
  obtain ⟨⟨⟨⟨⟨⟨⟨a1, a2⟩, a3⟩, a4⟩, a5⟩, a6⟩, a7⟩, ⟨⟨⟨b1, b2⟩, b3⟩, b4⟩, b5⟩ := h
  unfold formB
  simp only [Bool.and_eq_true, decide_eq_true_eq, List.all_eq_true]
  refine ⟨⟨⟨⟨⟨⟨⟨a1, a2⟩, a3⟩, a4⟩, by rw [movF_len]; exact a5⟩, by rw [movB_len]; omega⟩, ?_⟩, ⟨⟨⟨b1, b2⟩, ?_⟩, ?_⟩, ?_⟩
  · unfold mainB at a7 ⊢
    show (if 0 ≤ c.mn then (match (movC c).F[c.mn.toNat]? with | some f => f.pa == 0 | none => false) else false) = true
    split at a7
    · rename_i hm
      rw [if_pos hm]
      unfold movC
      cases hF : c.F with
      | nil => rw [hF] at a7; exact a7
      | cons f l =>
        rw [hF] at a7
        simp only
        cases hk : c.mn.toNat with
        | zero => rw [hk] at a7; exact a7
        | succ k =>
          rw [hk] at a7
          simp only [List.getElem?_cons_succ, List.getElem?_map] at a7 ⊢
          cases hh : l[k]? with
          | none => rw [hh] at a7; exact a7
          | some f => rw [hh] at a7; exact a7
    · cases a7
  · intro f hf
    rw [movB_len]
    have key : ∀ g ∈ c.F, fnB (c.B.length + 1) g = true ∧ fnB (c.B.length + 1) (movF g) = true := fun g hg => by
      have := b3 g hg
      unfold fnB at this ⊢
      simp only [Bool.and_eq_true] at this ⊢
      exact ⟨⟨(inN_succ this.1).1, this.2⟩, ⟨(inN_succ this.1).2, this.2⟩⟩
    unfold movC at hf
    cases hF : c.F with
    | nil => rw [hF] at hf; cases hf
    | cons g l =>
      rw [hF] at hf key
      simp only [List.mem_cons, List.mem_map] at hf
      rcases hf with rfl | ⟨g', hg', rfl⟩
      · exact (key f (by simp)).1
      · exact (key g' (by simp [hg'])).2
  · unfold movC
    cases hF : c.F with
    | nil => rfl
    | cons f l =>
      rw [hF] at b4
      simp only [Bool.and_eq_true, beq_iff_eq] at b4 ⊢
      exact ⟨b4.1, stB_le (by omega) _ (mov_stB 0 l b4.2)⟩
  · intro x hx
    show insB (movC c) x = true
    have hx' : x ∈ i24 :: c.B.map movI := hx
    rw [List.mem_cons] at hx'
    rcases hx' with rfl | hx'
    · unfold insB i24
      simp
    · rw [List.mem_map] at hx'
      obtain ⟨y, hy, rfl⟩ := hx'
      exact mov_ins (b5 y hy)
theorem funcs_fin {c : Cd} (hf : formB c = true) {k : Nat} (hk : k < c.F.length) {lo hi : Nat} (hst : (c.F.getD k zF).st = lo) (hhi : (if k + 1 < c.F.length then (c.F.getD (k + 1) zF).st else (c.B.length : Int)) = hi) (h1 : hi ≤ c.B.length) (h2 : lo < hi) {m m' : Rw16} (hml : m.met.length = c.B.length) (hsl : m.st.length = c.B.length) (hu : ∀ i, lo ≤ i → i < hi → m.met.getD i false = false) (hleft : m.left = []) (h : funcsM c (c.F.drop k) m = some m') :
    ∃ met out, Fin16 (sucD c (c.F.getD k zF).lo) lo hi c.B.length m.met m.st met out ∧ funcsM c (c.F.drop (k + 1)) ⟨met, out, []⟩ = some m' := by
  have hlo := (tyC_of hf).F k hk
  have q := function_fin hf hlo.2.2 hst h1 h2 hml hsl hu hleft
  rw [funcs_drop hk, hhi] at h
  cases e : functionM c (c.F.getD k zF) hi m with
  | none => rw [e] at h; cases h
  | some m1 =>
    rw [e] at q h
    obtain ⟨a, b, d⟩ := m1
    obtain ⟨ql, qf⟩ := q
    simp only at ql
    subst ql
    exact ⟨a, b, qf, h⟩
theorem mov_funcs {c : Cd} (hf : formB c = true) (hfd : formB (movC c) = true) : ∀ (r k : Nat) (m m' : Rw16), k + r = c.F.length → 1 ≤ k → m.left = [] → m.met.length = c.B.length → m.st.length = c.B.length → (k < c.F.length → ∀ i : Nat, (c.F.getD k zF).st ≤ i → m.met.getD i false = false) → funcsM c (c.F.drop k) m = some m' →
    funcsM (movC c) ((movC c).F.drop k) ⟨true :: m.met, [] :: m.st, []⟩ = some ⟨true :: m'.met, [] :: m'.st, []⟩ := by
  intro r
  induction r with
  | zero =>
    intro k m m' hk _ hl hml hsl hu h
    obtain rfl : k = c.F.length := by omega
    rw [funcs_end] at h
    cases h
    have h9 := funcs_end (movC c) ⟨true :: m.met, [] :: m.st, []⟩
    rw [movF_len] at h9
    exact h9
  | succ r ih =>
    intro k m m' hk h1k hl hml hsl hu h
    have hlt : k < c.F.length := by omega
    obtain ⟨lo, hi, e1, e2, e3, e4, _⟩ := entry_next hf hlt
    obtain ⟨met, out, F, hn⟩ := funcs_fin hf hlt e1 e2 e3 e4 hml hsl (fun i a _ => hu hlt i (by omega)) hl h
    have hlo := (movF_at c k).2
    have F' := mov_fin1 (mov_S hf (c.F.getD k zF).lo) (fun i s L hs => suc_pos hf hs) true F
    rw [← hlo, ← movB_len] at F'
    have hst' : ((movC c).F.getD k zF).st = ((lo + 1 : Nat) : Int) := by rw [movF_st hlt, if_neg (by omega)]; omega
    have hhi' : (if k + 1 < (movC c).F.length then ((movC c).F.getD (k + 1) zF).st else ((movC c).B.length : Int)) = ((hi + 1 : Nat) : Int) := by
      rw [movF_len, movB_len]
      by_cases hx : k + 1 < c.F.length
      · rw [if_pos hx] at e2 ⊢
        rw [movF_st hx, if_neg (by omega)]
        omega
      · rw [if_neg hx] at e2 ⊢
        omega
    have q := (funcs_step hfd (by rw [movF_len]; exact hlt) hst' hhi' (by rw [movB_len]; omega) (by omega) (m := ⟨true :: m.met, [] :: m.st, []⟩) (by rw [movB_len]; simp [hml]) (by rw [movB_len]; simp [hsl]) (fun i a b => by
      obtain ⟨j, rfl⟩ : ∃ j, i = j + 1 := ⟨i - 1, by omega⟩
      have := hu hlt j (by omega)
      simpa using this) rfl).2 _ _ F'
    rw [q]
    exact ih (k + 1) ⟨met, out, []⟩ m' (by omega) (by omega) rfl F.ml F.sl (fun hx i hi' => by
      rw [if_pos hx] at e2
      have := F.os i (by omega)
      rw [this]
      exact hu hlt i (by omega)) hn
/-- a right code with a Turn ahead is right again, with the same stacks behind -/
theorem mov_read {c : Cd} {st : List (List Int)} (h : readM c = some st) (hl : c.B.length < 8192) : formB (movC c) = true ∧ readM (movC c) = some ([] :: st) := by
  unfold readM at h
  split at h
  · rename_i hf
    obtain ⟨m', hm, rfl⟩ := Option.map_eq_some_iff.1 h
    have hfd := mov_form hf hl
    refine ⟨hfd, ?_⟩
    unfold readM
    rw [if_pos hfd]
    have hF : 0 < c.F.length := by
      cases hF : c.F with
      | nil =>
        unfold formB mainB at hf
        simp only [Bool.and_eq_true, hF] at hf
        have := hf.1.2
        simp at this
      | cons => simp
    obtain ⟨lo, hi, e1, e2, e3, e4, e5⟩ := entry_next hf hF
    have elo := e5 rfl
    subst elo
    obtain ⟨met, out, F, hn⟩ := funcs_fin hf hF e1 e2 e3 e4 (m := beginM c) (by simp [beginM]) (by simp [beginM]) (fun i _ _ => getD_repB _ i) rfl (by rw [List.drop_zero]; exact hm)
    have F' := mov_fin0 (mov_S hf (c.F.getD 0 zF).lo) (fun i s L hs => suc_pos hf hs) (mov_S0 c _) F
    rw [← (movF_at c 0).2, ← movB_len] at F'
    have hst' : ((movC c).F.getD 0 zF).st = ((0 : Nat) : Int) := by rw [movF_st hF, if_pos rfl]; exact e1
    have hhi' : (if 0 + 1 < (movC c).F.length then ((movC c).F.getD (0 + 1) zF).st else ((movC c).B.length : Int)) = ((hi + 1 : Nat) : Int) := by
      rw [movF_len, movB_len]
      by_cases hx : 0 + 1 < c.F.length
      · rw [if_pos hx] at e2 ⊢
        rw [movF_st hx, if_neg (by omega)]
        omega
      · rw [if_neg hx] at e2 ⊢
        omega
    have eb : beginM (movC c) = ⟨false :: (beginM c).met, [] :: (beginM c).st, []⟩ := by
      unfold beginM
      rw [movB_len, List.replicate_succ, List.replicate_succ]
    have q := (funcs_step hfd (by rw [movF_len]; exact hF) hst' hhi' (by rw [movB_len]; omega) (by omega) (m := beginM (movC c)) (by simp [beginM]) (by simp [beginM]) (fun i _ _ => getD_repB _ i) rfl).2 (true :: met) ([] :: out) (by rw [eb]; exact F')
    rw [List.drop_zero] at q
    rw [q]
    rw [mov_funcs hf hfd (c.F.length - 1) 1 ⟨met, out, []⟩ m' (by omega) (Nat.le_refl _) rfl F.ml F.sl (fun hx i hi' => by
      rw [if_pos hx] at e2
      have e2' : (c.F.getD 1 zF).st = hi := e2
      have := F.os i (by omega)
      rw [this]
      exact getD_repB _ i) hn]
    rfl
  · cases h
end Go.Proofs.YtidjbgemnohbnaaDoor.Ck
