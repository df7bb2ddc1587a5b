/- Runs that are held: the plain mathematics of the statement PoolZeroes. -/
import Derived.Test.YtlkdfiiipheagaaDoorLawBounds
import Derived.Test.YtlkdfiiipheagaaDoorApp
namespace Go.Proofs.YtlkdfiiipheagaaDoor.Ck
open Go.RowKit

structure Well (n : Nat) (H : List (Nat × Nat)) (R V : Nat → Int) : Prop where
  pos : ∀ x ∈ H, 0 < x.2 ∧ x.1 + x.2 ≤ n
  nd : (H.map Prod.fst).Nodup
  run : ∀ x ∈ H, ∀ k, x.1 ≤ k → k < x.1 + x.2 → R k = (x.1 : Int) + 1
  free : ∀ k, k < n → R k ≠ 0 → ∃ x ∈ H, x.1 ≤ k ∧ k < x.1 + x.2
  word : ∀ x ∈ H, ∀ i, 16 * x.1 ≤ i → i < 16 * (x.1 + x.2) → V i = 16 * (x.1 : Int) + 1
  zero : ∀ i, i < 16 * n → R (i / 16) = 0 → V i = 0
  sum : uc R n = (H.map Prod.snd).sum

theorem uc_zero (n : Nat) : uc (fun _ => 0) n = 0 := by
  induction n with
  | zero => rfl
  | succ n ih => rw [uc, ih]; rfl
theorem Well.start (n : Nat) : Well n [] (fun _ => 0) (fun _ => 0) :=
  ⟨fun _ h => absurd h List.not_mem_nil, List.nodup_nil, fun _ h => absurd h List.not_mem_nil, fun _ _ h => absurd rfl h, fun _ h => absurd h List.not_mem_nil, fun _ _ _ => rfl, uc_zero n⟩

theorem nd_eq {H : List (Nat × Nat)} (h : (H.map Prod.fst).Nodup) {x y : Nat × Nat} (hx : x ∈ H) (hy : y ∈ H) (e : x.1 = y.1) : x = y := by
  induction H with
  | nil => cases hx
  | cons a H ih =>
    simp only [List.map_cons, List.nodup_cons] at h
    rcases List.mem_cons.1 hx with ex | hx'
    · rcases List.mem_cons.1 hy with ey | hy'
      · rw [ex, ey]
      · exact absurd (List.mem_map.2 ⟨y, hy', by rw [← e, ex]⟩) h.1
    · rcases List.mem_cons.1 hy with ey | hy'
      · exact absurd (List.mem_map.2 ⟨x, hx', by rw [e, ey]⟩) h.1
      · exact ih h.2 hx' hy'

theorem Well.isEnd {n : Nat} {H : List (Nat × Nat)} {R V : Nat → Int} (h : Well n H R V) {x : Nat × Nat} (hx : x ∈ H) : IsEnd R n x.1 (x.1 + x.2) := by
  have hp := h.pos x hx
  refine ⟨by omega, by omega, h.run x hx, fun hl e => ?_⟩
  obtain ⟨y, hy, h1, h2⟩ := h.free (x.1 + x.2) hl (by omega)
  have := h.run y hy _ h1 h2
  have e2 : x = y := nd_eq h.nd hx hy (by omega)
  rw [← e2] at h1 h2
  omega

theorem uc_if (R R' : Nat → Int) (f c : Nat) (h1 : ∀ k, f ≤ k → k < f + c → R k = 0) (h2 : ∀ k, f ≤ k → k < f + c → R' k ≠ 0) (h3 : ∀ k, ¬ (f ≤ k ∧ k < f + c) → R' k = R k) (k : Nat) :
    uc R' k = uc R k + (min k (f + c) - min k f) := by
  induction k with
  | zero => simp [uc]
  | succ k ih =>
    rw [uc, uc, ih]
    by_cases e : f ≤ k ∧ k < f + c
    · rw [if_neg (h2 k e.1 e.2), if_pos (h1 k e.1 e.2)]
      omega
    · rw [h3 k e]
      by_cases e2 : R k = 0
      · rw [if_pos e2]; omega
      · rw [if_neg e2]; omega

theorem Well.alloc {n : Nat} {H : List (Nat × Nat)} {R V : Nat → Int} (h : Well n H R V) {f c : Nat} (hg : IsGap R n c f) (hc : 0 < c) :
    Well n (H ++ [(f, c)]) (fun k => if f ≤ k ∧ k < f + c then (f : Int) + 1 else R k) (fun i => if 16 * f ≤ i ∧ i < 16 * (f + c) then 16 * (f : Int) + 1 else V i) := by
  have hap : ∀ x ∈ H, ∀ k, x.1 ≤ k → k < x.1 + x.2 → ¬ (f ≤ k ∧ k < f + c) := fun x hx k h1 h2 hk => by
    have e1 := h.run x hx k h1 h2
    have e2 := hg.2.1 k hk.1 hk.2
    omega
  refine ⟨fun x hx => ?_, ?_, fun x hx k h1 h2 => ?_, fun k hk hne => ?_, fun x hx i h1 h2 => ?_, fun i hi hz => ?_, ?_⟩
  · rcases List.mem_append.1 hx with hx | hx
    · exact h.pos x hx
    · obtain rfl := List.mem_singleton.1 hx
      exact ⟨hc, hg.1⟩
  · rw [List.map_append, List.nodup_append]
    refine ⟨h.nd, by simp, fun a ha b hb e => ?_⟩
    simp only [List.map_cons, List.map_nil, List.mem_singleton] at hb
    obtain ⟨x, hx, rfl⟩ := List.mem_map.1 ha
    have hp := h.pos x hx
    exact hap x hx x.1 (Nat.le_refl _) (by omega) (by omega)
  · rcases List.mem_append.1 hx with hx | hx
    · rw [if_neg (hap x hx k h1 h2)]
      exact h.run x hx k h1 h2
    · obtain rfl := List.mem_singleton.1 hx
      exact if_pos ⟨h1, h2⟩
  · by_cases e : f ≤ k ∧ k < f + c
    · exact ⟨(f, c), by simp, e⟩
    · simp only [if_neg e] at hne
      obtain ⟨x, hx, h1⟩ := h.free k hk hne
      exact ⟨x, List.mem_append_left _ hx, h1⟩
  · rcases List.mem_append.1 hx with hx | hx
    · have := hap x hx (i / 16) (by omega) (by omega)
      rw [if_neg (by omega)]
      exact h.word x hx i h1 h2
    · obtain rfl := List.mem_singleton.1 hx
      exact if_pos ⟨h1, h2⟩
  · by_cases e : f ≤ i / 16 ∧ i / 16 < f + c
    · simp only [if_pos e] at hz
      omega
    · simp only [if_neg e] at hz
      rw [if_neg (by omega)]
      exact h.zero i hi hz
  · rw [uc_if R _ f c hg.2.1 (fun k h1 h2 => by rw [if_pos ⟨h1, h2⟩]; omega) (fun k hk => if_neg hk), h.sum, List.map_append, List.sum_append]
    have := hg.1
    simp
    omega

theorem Well.drop {n : Nat} {A B : List (Nat × Nat)} {x : Nat × Nat} {R V : Nat → Int} (h : Well n (A ++ x :: B) R V) :
    Well n (A ++ B) (fun k => if x.1 ≤ k ∧ k < x.1 + x.2 then 0 else R k) (fun i => if 16 * x.1 ≤ i ∧ i < 16 * (x.1 + x.2) then 0 else V i) := by
  have hx : x ∈ A ++ x :: B := by simp
  have hp := h.pos x hx
  have hm : ∀ y ∈ A ++ B, y ∈ A ++ x :: B := fun y hy => by
    rcases List.mem_append.1 hy with hy | hy
    · exact List.mem_append_left _ hy
    · exact List.mem_append_right _ (List.mem_cons_of_mem _ hy)
  have hne : ∀ y ∈ A ++ B, y.1 ≠ x.1 := fun y hy e => by
    have hnd := h.nd
    rw [List.map_append, List.map_cons, List.nodup_append] at hnd
    rcases List.mem_append.1 hy with hy | hy
    · exact hnd.2.2 y.1 (List.mem_map.2 ⟨y, hy, rfl⟩) x.1 (by simp) e
    · exact (List.nodup_cons.1 hnd.2.1).1 (List.mem_map.2 ⟨y, hy, e⟩)
  have hap : ∀ y ∈ A ++ B, ∀ k, y.1 ≤ k → k < y.1 + y.2 → ¬ (x.1 ≤ k ∧ k < x.1 + x.2) := fun y hy k h1 h2 hk => by
    have e1 := h.run y (hm y hy) k h1 h2
    have e2 := h.run x hx k hk.1 hk.2
    exact hne y hy (by omega)
  refine ⟨fun y hy => h.pos y (hm y hy), ?_, fun y hy k h1 h2 => ?_, fun k hk hn => ?_, fun y hy i h1 h2 => ?_, fun i hi hz => ?_, ?_⟩
  · have hnd := h.nd
    exact List.Nodup.sublist (List.Sublist.map _ (List.Sublist.append (List.Sublist.refl _) (List.sublist_cons_self _ _))) hnd
  · rw [if_neg (hap y hy k h1 h2)]
    exact h.run y (hm y hy) k h1 h2
  · by_cases e : x.1 ≤ k ∧ k < x.1 + x.2
    · simp only [if_pos e] at hn
      exact absurd rfl hn
    · simp only [if_neg e] at hn
      obtain ⟨y, hy, h1, h2⟩ := h.free k hk hn
      have hyx : y ≠ x := fun e2 => e (by rw [← e2]; exact ⟨h1, h2⟩)
      refine ⟨y, ?_, h1, h2⟩
      rcases List.mem_append.1 hy with hy | hy
      · exact List.mem_append_left _ hy
      · rcases List.mem_cons.1 hy with hy | hy
        · exact absurd hy hyx
        · exact List.mem_append_right _ hy
  · have := hap y hy (i / 16) (by omega) (by omega)
    rw [if_neg (by omega)]
    exact h.word y (hm y hy) i h1 h2
  · by_cases e : 16 * x.1 ≤ i ∧ i < 16 * (x.1 + x.2)
    · rw [if_pos e]
    · rw [if_neg e]
      rw [if_neg (by omega)] at hz
      exact h.zero i hi hz
  · have h1 := uc_if (fun k => if x.1 ≤ k ∧ k < x.1 + x.2 then 0 else R k) R x.1 x.2 (fun k h1 h2 => if_pos ⟨h1, h2⟩) (fun k h1 h2 => by rw [h.run x hx k h1 h2]; omega) (fun k hk => (if_neg hk).symm) n
    have h2 := h.sum
    rw [List.map_append, List.sum_append, List.map_cons, List.sum_cons] at h2
    rw [List.map_append, List.sum_append]
    omega

end Go.Proofs.YtlkdfiiipheagaaDoor.Ck
