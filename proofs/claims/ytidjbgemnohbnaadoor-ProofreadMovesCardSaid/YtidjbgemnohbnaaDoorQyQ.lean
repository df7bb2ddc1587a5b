/- A code with a Turn put ahead of all is right, and has the same stacks behind; no Go text is walked here. -/
import Derived.Test.YtidjbgemnohbnaaDoorQxQ
namespace Go.Proofs.YtidjbgemnohbnaaDoor.Ck
open Go.RowKit

section
variable {S S' : Suc} {lo hi n : Nat} {met0 met : List Bool} {out0 out : List (List Int)}
theorem mov_fin1 (hS : ∀ i s, S' (i + 1) s = (S i s).map sucUp) (hN : ∀ i s L, S i s = some L → ∀ p ∈ L, 0 ≤ p.1) (b : Bool) (h : Fin16 S lo hi n met0 out0 met out) : Fin16 S' (lo + 1) (hi + 1) (n + 1) (b :: met0) ([] :: out0) (b :: met) ([] :: out) := by
  obtain ⟨m1, m2⟩ := mov_rch hS hN (lo := lo)
  refine ⟨⟨by have := h.right.1; omega, fun j s r => ?_⟩, by simp [h.ml], by simp [h.sl], fun i hi' => ?_, fun i hi' => ?_, fun i a1 a2 a3 => ?_, fun j s r => ?_⟩
  · obtain ⟨i, rfl, r0⟩ := m2 r
    obtain ⟨⟨L, h1, h2⟩, h3⟩ := h.right.2 i s r0
    refine ⟨⟨sucUp L, by rw [hS, h1]; rfl, fun p hp => ?_⟩, fun s' r' => ?_⟩
    · unfold sucUp at hp
      rw [List.mem_map] at hp
      obtain ⟨q, hq, rfl⟩ := hp
      have := h2 q hq
      simp only
      omega
    · obtain ⟨i', e, r1⟩ := m2 r'
      obtain rfl : i = i' := by omega
      exact h3 s' r1
  · cases i with
    | zero => rfl
    | succ i => simpa using h.os i (by omega)
  · cases i with
    | zero => rfl
    | succ i =>
      have := h.un i (fun e => by simpa using hi' (by omega))
      simpa using this
  · obtain ⟨i, rfl⟩ : ∃ k, i = k + 1 := ⟨i - 1, by omega⟩
    simp only [List.getD_cons_succ] at a3 ⊢
    exact m1 (h.rc i (by omega) (by omega) a3)
  · obtain ⟨i, rfl, r0⟩ := m2 r
    obtain ⟨⟨a1, a2⟩, a3, a4⟩ := h.all i s r0
    exact ⟨by omega, by simpa using a3, by simpa using a4⟩
theorem mov_rch0 (hS : ∀ i s, S' (i + 1) s = (S i s).map sucUp) (hN : ∀ i s L, S i s = some L → ∀ p ∈ L, 0 ≤ p.1) (h0 : S' 0 [] = some [(1, [])]) : (∀ {i s}, Rch S 0 i s → Rch S' 0 (i + 1) s) ∧ (∀ {j s}, Rch S' 0 j s → (j = 0 ∧ s = []) ∨ ∃ i, j = i + 1 ∧ Rch S 0 i s) := by
  refine ⟨fun {i s} r => ?_, fun {j s} r => ?_⟩
  · induction r with
    | zero => exact Rch.zero.next h0 (by simp)
    | @next i j s t L r h1 h2 ih =>
      refine ih.next (L := sucUp L) (by rw [hS, h1]; rfl) ?_
      show (((j + 1 : Nat) : Int), t) ∈ sucUp L
      unfold sucUp
      rw [List.mem_map]
      exact ⟨_, h2, by simp⟩
  · induction r with
    | zero => exact .inl ⟨rfl, rfl⟩
    | @next i j s t L r h1 h2 ih =>
      right
      rcases ih with ⟨rfl, rfl⟩ | ⟨i0, rfl, r0⟩
      · rw [h0] at h1
        cases h1
        rw [List.mem_singleton] at h2
        injection h2 with e1 e2
        subst e2
        obtain rfl : j = 1 := by omega
        exact ⟨0, rfl, Rch.zero⟩
      · rw [hS] at h1
        obtain ⟨L0, h3, rfl⟩ := Option.map_eq_some_iff.1 h1
        unfold sucUp at h2
        rw [List.mem_map] at h2
        obtain ⟨p, hp, e⟩ := h2
        injection e with e1 e2
        have hn := hN _ _ _ h3 p hp
        obtain ⟨k, hk⟩ : ∃ k : Nat, p.1 = k := ⟨p.1.toNat, by omega⟩
        obtain ⟨p1, p2⟩ := p
        simp only at e1 e2 hk
        subst hk e2
        exact ⟨k, by omega, r0.next h3 hp⟩
theorem mov_fin0 (hS : ∀ i s, S' (i + 1) s = (S i s).map sucUp) (hN : ∀ i s L, S i s = some L → ∀ p ∈ L, 0 ≤ p.1) (h0 : S' 0 [] = some [(1, [])]) (h : Fin16 S 0 hi n met0 out0 met out) : Fin16 S' 0 (hi + 1) (n + 1) (false :: met0) ([] :: out0) (true :: met) ([] :: out) := by
  obtain ⟨m1, m2⟩ := mov_rch0 hS hN h0
  refine ⟨⟨by omega, fun j s r => ?_⟩, by simp [h.ml], by simp [h.sl], fun i hi' => ?_, fun i hi' => ?_, fun i a1 a2 a3 => ?_, fun j s r => ?_⟩
  · rcases m2 r with ⟨rfl, rfl⟩ | ⟨i, rfl, r0⟩
    · refine ⟨⟨_, h0, fun p hp => ?_⟩, fun s' r' => ?_⟩
      · rw [List.mem_singleton] at hp
        subst hp
        have := h.right.1
        simp only [List.length_nil]
        omega
      · rcases m2 r' with ⟨_, e⟩ | ⟨i, e, _⟩
        · exact e
        · omega
    · obtain ⟨⟨L, h1, h2⟩, h3⟩ := h.right.2 i s r0
      refine ⟨⟨sucUp L, by rw [hS, h1]; rfl, fun p hp => ?_⟩, fun s' r' => ?_⟩
      · unfold sucUp at hp
        rw [List.mem_map] at hp
        obtain ⟨q, hq, rfl⟩ := hp
        have := h2 q hq
        simp only
        omega
      · rcases m2 r' with ⟨e, _⟩ | ⟨i', e, r1⟩
        · omega
        · obtain rfl : i = i' := by omega
          exact h3 s' r1
  · cases i with
    | zero => omega
    | succ i => simpa using h.os i (by omega)
  · cases i with
    | zero => rfl
    | succ i =>
      have := h.un i (fun e => by simpa using hi' (by omega))
      simpa using this
  · cases i with
    | zero => exact Rch.zero
    | succ i =>
      simp only [List.getD_cons_succ] at a3 ⊢
      exact m1 (h.rc i (by omega) (by omega) a3)
  · rcases m2 r with ⟨rfl, rfl⟩ | ⟨i, rfl, r0⟩
    · exact ⟨by omega, rfl, rfl⟩
    · obtain ⟨⟨a1, a2⟩, a3, a4⟩ := h.all i s r0
      exact ⟨by omega, by simpa using a3, by simpa using a4⟩
end
theorem suc_pos {c : Cd} (hf : formB c = true) {lo : List Int} {i : Nat} {s : List Int} {L : List (Int × List Int)} (h : sucD c lo i s = some L) : ∀ p ∈ L, 0 ≤ p.1 := by
  have ha : (c.B.getD i zI).op = 12 ∨ (c.B.getD i zI).op = 13 ∨ (c.B.getD i zI).op = 14 → 0 ≤ (c.B.getD i zI).a := fun e => by
    by_cases hi : i < c.B.length
    · have hx : insB c (c.B.getD i zI) = true := by
        rw [List.getD_eq_getElem?_getD, List.getElem?_eq_getElem hi]
        exact body_of hf _ (List.getElem_mem hi)
      obtain ⟨_, _, _, _, _, j12, j13, _⟩ := insB_at (show insB c ⟨(c.B.getD i zI).op, (c.B.getD i zI).a, (c.B.getD i zI).b, (c.B.getD i zI).bits, (c.B.getD i zI).at_⟩ = true from hx)
      rcases e with e | e
      · obtain ⟨k, hk, _⟩ := in_of (j12 e)
        omega
      · obtain ⟨k, hk, _⟩ := in_of (j13 e)
        omega
    · rw [List.getD_eq_getElem?_getD, List.getElem?_eq_none (by omega)] at e
      exact absurd e (by decide)
  unfold sucD at h
  obtain ⟨t, _, h⟩ := Option.bind_eq_some_iff.1 h
  split at h
  · cases h
  · cases h
    intro p hp
    simp only [List.mem_append] at hp
    rcases hp with hp | hp | hp
    · split at hp
      · rw [List.mem_singleton] at hp; subst hp; exact ha (by omega)
      · cases hp
    · split at hp
      · rw [List.mem_singleton] at hp; subst hp; exact ha (by omega)
      · cases hp
    · split at hp
      · rw [List.mem_singleton] at hp; subst hp; simp only; omega
      · cases hp
theorem mov_S {c : Cd} (hf : formB c = true) (lo : List Int) : ∀ i s, sucD (movC c) lo (i + 1) s = (sucD c lo i s).map sucUp := fun i s => mov_suc lo i s (fun hj => by
  unfold isJ at hj
  have e := of_decide_eq_true hj
  by_cases hi : i < c.B.length
  · have hx : insB c (c.B.getD i zI) = true := by
      rw [List.getD_eq_getElem?_getD, List.getElem?_eq_getElem hi]
      exact body_of hf _ (List.getElem_mem hi)
    obtain ⟨_, _, _, _, _, j12, j13, _⟩ := insB_at (show insB c ⟨(c.B.getD i zI).op, (c.B.getD i zI).a, (c.B.getD i zI).b, (c.B.getD i zI).bits, (c.B.getD i zI).at_⟩ = true from hx)
    rcases e with e | e
    · obtain ⟨k, hk, _⟩ := in_of (j12 e)
      omega
    · obtain ⟨k, hk, _⟩ := in_of (j13 e)
      omega
  · rw [List.getD_eq_getElem?_getD, List.getElem?_eq_none (by omega)] at e
    exact absurd e (by decide))
theorem mov_S0 (c : Cd) (lo : List Int) : sucD (movC c) lo 0 [] = some [(1, [])] := by
  have e : (movC c).B.getD 0 zI = i24 := rfl
  unfold sucD
  rw [e]
  have e2 : stepD (movC c) lo i24 [] = some [] := by unfold stepD; simp [i24]
  rw [e2]
  simp [isJ, i24]
end Go.Proofs.YtidjbgemnohbnaaDoor.Ck
