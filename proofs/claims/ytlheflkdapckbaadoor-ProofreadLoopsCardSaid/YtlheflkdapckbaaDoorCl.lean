/- Package code: its way of asking for the form is the document's; Check. -/
import Derived.Test.YtlheflkdapckbaaDoorCk
import Derived.Recover
namespace Go.Proofs.YtlheflkdapckbaaDoor.Ck
open Go.RowKit

theorem stB_iff : ∀ (l : List Fn3) (p : Int), stB p l = true ↔ ∀ i, i < l.length → (if i = 0 then p else (l.getD (i - 1) zF).st) < (l.getD i zF).st
  | [], p => ⟨fun _ i hi => absurd hi (Nat.not_lt_zero _), fun _ => rfl⟩
  | f :: l, p => by
    simp only [stB, Bool.and_eq_true, decide_eq_true_eq]
    rw [stB_iff l f.st]
    constructor
    · rintro ⟨h1, h2⟩ i hi
      cases i with
      | zero => exact h1
      | succ i =>
        have h3 := h2 i (by simpa using hi)
        rw [if_neg (by omega)]
        cases i with
        | zero => exact h3
        | succ i =>
          rw [if_neg (by omega)] at h3
          exact h3
    · intro h
      refine ⟨h 0 (by simp), fun i hi => ?_⟩
      have h3 := h (i + 1) (by simpa using hi)
      rw [if_neg (by omega)] at h3
      cases i with
      | zero => exact h3
      | succ i =>
        rw [if_neg (by omega)]
        exact h3
theorem get_mem {F : List Fn3} {i : Nat} (h : i < F.length) : F.getD i zF ∈ F := by
  rw [List.getD_eq_getElem?_getD, List.getElem?_eq_getElem h]
  exact List.getElem_mem h
theorem funs_eq (c : Cd) : funsB c = (mainB c && (c.F.all (fnB c.B.length) && (match c.F with | [] => true | f :: l => f.st == 0 && stB 0 l))) := by
  rw [Bool.eq_iff_iff]
  simp only [Bool.and_eq_true, funsB, has_inN, inN, decide_eq_true_eq, beq_iff_eq, List.all_eq_true, List.mem_range]
  have hmain : mainB c = true ↔ (0 ≤ c.mn ∧ c.mn < (c.F.length : Int)) ∧ (c.F.getD c.mn.toNat zF).pa = 0 := by
    unfold mainB
    by_cases h0 : 0 ≤ c.mn
    · rw [if_pos h0]
      by_cases h1 : c.mn.toNat < c.F.length
      · rw [List.getElem?_eq_getElem h1, List.getD_eq_getElem?_getD, List.getElem?_eq_getElem h1]
        simp only [Option.getD_some, beq_iff_eq]
        exact ⟨fun h => ⟨⟨h0, by omega⟩, h⟩, fun h => h.2⟩
      · rw [List.getElem?_eq_none (by omega)]
        exact ⟨fun h => (by cases h), fun h => (by omega)⟩
    · rw [if_neg h0]
      exact ⟨fun h => (by cases h), fun h => absurd h.1.1 h0⟩
  rw [hmain]
  have hent : ∀ f, fnB c.B.length f = true ↔ (0 ≤ f.st ∧ f.st < (c.B.length : Int)) ∧ entB f = true := fun f => by
    simp only [fnB, entB, inN, Bool.and_eq_true, decide_eq_true_eq]
    constructor
    · rintro ⟨h1, h2, h3, h4, h5, h6⟩
      exact ⟨h1, ⟨h2, h3⟩, ⟨h4, h5⟩, h6⟩
    · rintro ⟨h1, ⟨h2, h3⟩, ⟨h4, h5⟩, h6⟩
      exact ⟨h1, h2, h3, h4, h5, h6⟩
  have hrnd : ∀ i, rnd c i = true ↔ (i = 0 ∨ (c.F.getD (i - 1) zF).st < (c.F.getD i zF).st) ∧ (c.F.getD i zF).st < (c.B.length : Int) ∧ entB (c.F.getD i zF) = true := fun i => by
    simp only [rnd, Bool.and_eq_true, Bool.or_eq_true, decide_eq_true_eq, beq_iff_eq]
  simp only [hrnd, hent]
  constructor
  · rintro ⟨h1, h2, h3, h4⟩
    have hst : ∀ i, i < c.F.length → 0 ≤ (c.F.getD i zF).st := fun i => by
      induction i with
      | zero => intro _; omega
      | succ i ih =>
        intro hi
        have h5 := (h4 (i + 1) hi).1
        have h6 := ih (by omega)
        rcases h5 with h5 | h5
        · omega
        · rw [Nat.add_sub_cancel] at h5
          omega
    refine ⟨⟨h1, h2⟩, fun f hf => ?_, ?_⟩
    · obtain ⟨i, hi, rfl⟩ := List.mem_iff_getElem.1 hf
      have e : c.F.getD i zF = c.F[i] := by rw [List.getD_eq_getElem?_getD, List.getElem?_eq_getElem hi]; rfl
      have h5 := h4 i hi
      have h6 := hst i hi
      rw [e] at h5 h6
      exact ⟨⟨h6, h5.2.1⟩, h5.2.2⟩
    · cases hF : c.F with
      | nil => rfl
      | cons f l =>
        rw [hF] at h3 h4
        simp only [Bool.and_eq_true, beq_iff_eq]
        refine ⟨h3, (stB_iff l 0).2 fun i hi => ?_⟩
        have h5 := (h4 (i + 1) (by simpa using hi)).1
        rcases h5 with h5 | h5
        · omega
        · rw [Nat.add_sub_cancel] at h5
          cases i with
          | zero =>
            have h6 : f.st = 0 := h3
            have h7 : f.st < (l.getD 0 zF).st := h5
            rw [if_pos rfl]
            omega
          | succ i => rw [if_neg (by omega)]; exact h5
  · rintro ⟨⟨h1, h2⟩, h3, h4⟩
    have hne : 0 < c.F.length := by omega
    cases hF : c.F with
    | nil => rw [hF] at hne; exact absurd hne (by simp)
    | cons f l =>
      rw [hF] at h4
      simp only [Bool.and_eq_true, beq_iff_eq] at h4
      rw [hF] at h1 h2 h3
      refine ⟨h1, h2, h4.1, fun i hi => ?_⟩
      have h5 := h3 _ (get_mem hi)
      refine ⟨?_, h5.1.2, h5.2⟩
      cases i with
      | zero => exact .inl rfl
      | succ i =>
        right
        have h6 := (stB_iff l 0).1 h4.2 i (by simpa using hi)
        rw [Nat.add_sub_cancel]
        cases i with
        | zero =>
          rw [if_pos rfl] at h6
          have h7 : f.st = 0 := h4.1
          show f.st < (l.getD 0 zF).st
          omega
        | succ i => rw [if_neg (by omega)] at h6; exact h6
theorem formG_eq (c : Cd) (hi : ∀ x ∈ c.B, InX x) : formG c = formB c := by
  have e : c.B.all (insG c) = c.B.all (insB c) := by
    rw [Bool.eq_iff_iff]
    simp only [List.all_eq_true]
    exact ⟨fun h x hx => by rw [← insG_eq c x (hi x hx).1 (by have := (hi x hx).1.1; omega)]; exact h x hx, fun h x hx => by rw [insG_eq c x (hi x hx).1 (by have := (hi x hx).1.1; omega)]; exact h x hx⟩
  unfold formG formB
  rw [e, funs_eq]
  rw [Bool.eq_iff_iff]
  simp only [Bool.and_eq_true, sizesB, decide_eq_true_eq]
  constructor
  · rintro ⟨⟨⟨⟨⟨⟨s1, s2, s3⟩, s4, s5⟩, s6⟩, s7⟩, s8⟩, hp, hc, ⟨hm, hf, ht⟩, hb⟩
    exact ⟨⟨⟨⟨⟨⟨⟨s1, s2⟩, s4⟩, s6⟩, s7⟩, s8⟩, hm⟩, ⟨⟨⟨hp, hc⟩, hf⟩, ht⟩, hb⟩
  · rintro ⟨⟨⟨⟨⟨⟨⟨s1, s2⟩, s4⟩, s6⟩, s7⟩, s8⟩, hm⟩, ⟨⟨⟨hp, hc⟩, hf⟩, ht⟩, hb⟩
    exact ⟨⟨⟨⟨⟨⟨s1, s2, by omega⟩, s4, by omega⟩, s6⟩, s7⟩, s8⟩, hp, hc, ⟨hm, hf, ht⟩, hb⟩
end Go.Proofs.YtlheflkdapckbaaDoor.Ck
