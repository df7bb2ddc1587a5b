/- The document's runs against the program's: the plain mathematics of the statement PoolPlays. -/
import Derived.Test.YtndhgdjcbegjdaaDoorRc
import Derived.Test.YtndhgdjcbegjdaaDoorFact
namespace Go.Proofs.YtndhgdjcbegjdaaDoor.Ck
open Go.RowKit

structure WR (n : Nat) (H : List Rn) (R V : Nat → Int) : Prop where
  pos : ∀ x ∈ H, 0 < x.c ∧ x.f + x.c ≤ n
  nd : (H.map Rn.f).Nodup
  run : ∀ x ∈ H, ∀ k, x.has k → R k = (x.f : Int) + 1
  free : ∀ k, k < n → R k ≠ 0 → ∃ x ∈ H, x.has k
  zero : ∀ i, i < 16 * n → R (i / 16) = 0 → V i = 0
  sum : uc R n = (H.map Rn.c).sum

theorem ucz (n : Nat) : uc (fun _ => 0) n = 0 := by
  induction n with
  | zero => rfl
  | succ n ih => rw [uc, ih]; rfl
theorem WR.start (n : Nat) : WR n [] (fun _ => 0) (fun _ => 0) :=
  ⟨fun _ h => absurd h List.not_mem_nil, List.nodup_nil, fun _ h => absurd h List.not_mem_nil, fun _ _ h => absurd rfl h, fun _ _ _ => rfl, ucz n⟩

section
variable {n : Nat} {H : List Rn} {R V : Nat → Int}

theorem WR.free_iff (h : WR n H R V) {f c : Nat} (hf : f + c ≤ n) : FreeH H f c ↔ Free R f c := by
  constructor
  · intro hF k h1 h2
    by_cases e : R k = 0
    · exact e
    · obtain ⟨x, hx, hh⟩ := h.free k (by omega) e
      exact absurd hh (hF k h1 h2 x hx)
  · intro hF k h1 h2 x hx hh
    have := h.run x hx k hh
    have := hF k h1 h2
    omega
theorem WR.len (h : WR n H R V) : H.length ≤ uc R n := by
  rw [h.sum]
  have : ∀ L : List Rn, (∀ x ∈ L, 0 < x.c) → L.length ≤ (L.map Rn.c).sum := fun L => by
    induction L with
    | nil => intro _; simp
    | cons x L ih =>
      intro hL
      have h1 := ih (fun y hy => hL y (List.mem_cons_of_mem _ hy))
      have h2 := hL x (by simp)
      simp only [List.length_cons, List.map_cons, List.sum_cons]
      omega
  exact this H (fun x hx => (h.pos x hx).1)
/-- the run of a page, and that of an address -/
theorem WR.same (h : WR n H R V) {x y : Rn} (hx : x ∈ H) (hy : y ∈ H) {k : Nat} (h1 : x.has k) (h2 : y.has k) : x.f = y.f := by
  have := h.run x hx k h1
  have := h.run y hy k h2
  omega
theorem uc_ifR (R R' : Nat → Int) (f c : Nat) (h1 : ∀ k, f ≤ k → k < f + c → R k = 0) (h2 : ∀ k, f ≤ k → k < f + c → R' k ≠ 0) (h3 : ∀ k, ¬ (f ≤ k ∧ k < f + c) → R' k = R k) (k : Nat) :
    uc R' k = uc R k + (min k (f + c) - min k f) := by
  induction k with
  | zero => simp [uc]
  | succ k ih =>
    rw [uc, uc, ih]
    by_cases e : f ≤ k ∧ k < f + c
    · rw [if_neg (h2 k e.1 e.2), if_pos (h1 k e.1 e.2)]
      omega
    · rw [h3 k e]
      by_cases e2 : R k = 0
      · rw [if_pos e2]; omega
      · rw [if_neg e2]; omega

theorem WR.alloc (h : WR n H R V) {f c : Nat} (b : Nat) (hg : IsGap R n c f) (hc : 0 < c) :
    WR n (H ++ [⟨f, c, b⟩]) (fun k => if f ≤ k ∧ k < f + c then (f : Int) + 1 else R k) V := by
  have hap : ∀ x ∈ H, ∀ k, x.has k → ¬ (f ≤ k ∧ k < f + c) := fun x hx k h1 hk => by
    have e1 := h.run x hx k h1
    have e2 := hg.2.1 k hk.1 hk.2
    omega
  refine ⟨fun x hx => ?_, ?_, fun x hx k h1 => ?_, fun k hk hne => ?_, fun i hi hz => ?_, ?_⟩
  · rcases List.mem_append.1 hx with hx | hx
    · exact h.pos x hx
    · obtain rfl := List.mem_singleton.1 hx
      exact ⟨hc, hg.1⟩
  · rw [List.map_append, List.nodup_append]
    refine ⟨h.nd, by simp, fun a ha b hb e => ?_⟩
    simp only [List.map_cons, List.map_nil, List.mem_singleton] at hb
    obtain ⟨x, hx, rfl⟩ := List.mem_map.1 ha
    have hp := h.pos x hx
    exact hap x hx x.f ⟨Nat.le_refl _, by omega⟩ (by omega)
  · rcases List.mem_append.1 hx with hx | hx
    · rw [if_neg (hap x hx k h1)]
      exact h.run x hx k h1
    · obtain rfl := List.mem_singleton.1 hx
      exact if_pos h1
  · by_cases e : f ≤ k ∧ k < f + c
    · exact ⟨⟨f, c, b⟩, by simp, e⟩
    · simp only [if_neg e] at hne
      obtain ⟨x, hx, h1⟩ := h.free k hk hne
      exact ⟨x, List.mem_append_left _ hx, h1⟩
  · by_cases e : f ≤ i / 16 ∧ i / 16 < f + c
    · simp only [if_pos e] at hz
      omega
    · simp only [if_neg e] at hz
      exact h.zero i hi hz
  · rw [uc_ifR R _ f c hg.2.1 (fun k h1 h2 => by rw [if_pos ⟨h1, h2⟩]; omega) (fun k hk => if_neg hk), h.sum, List.map_append, List.sum_append]
    have := hg.1
    simp
    omega
end

theorem WR.drop {n : Nat} {A B : List Rn} {x : Rn} {R V : Nat → Int} (h : WR n (A ++ x :: B) R V) :
    WR n (A ++ B) (fun k => if x.f ≤ k ∧ k < x.f + x.c then 0 else R k) (fun i => if 16 * x.f ≤ i ∧ i < 16 * (x.f + x.c) then 0 else V i) := by
  have hx : x ∈ A ++ x :: B := by simp
  have hp := h.pos x hx
  have hm : ∀ y ∈ A ++ B, y ∈ A ++ x :: B := fun y hy => by
    rcases List.mem_append.1 hy with hy | hy
    · exact List.mem_append_left _ hy
    · exact List.mem_append_right _ (List.mem_cons_of_mem _ hy)
  have hne : ∀ y ∈ A ++ B, y.f ≠ x.f := fun y hy e => by
    have hnd := h.nd
    rw [List.map_append, List.map_cons, List.nodup_append] at hnd
    rcases List.mem_append.1 hy with hy | hy
    · exact hnd.2.2 y.f (List.mem_map.2 ⟨y, hy, rfl⟩) x.f (by simp) e
    · exact (List.nodup_cons.1 hnd.2.1).1 (List.mem_map.2 ⟨y, hy, e⟩)
  have hap : ∀ y ∈ A ++ B, ∀ k, y.has k → ¬ (x.f ≤ k ∧ k < x.f + x.c) := fun y hy k h1 hk => by
    have e1 := h.run y (hm y hy) k h1
    have e2 := h.run x hx k hk
    exact hne y hy (by omega)
  refine ⟨fun y hy => h.pos y (hm y hy), ?_, fun y hy k h1 => ?_, fun k hk hn => ?_, fun i hi hz => ?_, ?_⟩
  · exact List.Nodup.sublist (List.Sublist.map _ (List.Sublist.append (List.Sublist.refl _) (List.sublist_cons_self _ _))) h.nd
  · rw [if_neg (hap y hy k h1)]
    exact h.run y (hm y hy) k h1
  · by_cases e : x.f ≤ k ∧ k < x.f + x.c
    · simp only [if_pos e] at hn
      exact absurd rfl hn
    · simp only [if_neg e] at hn
      obtain ⟨y, hy, h1⟩ := h.free k hk hn
      have hyx : y ≠ x := fun e2 => e (by rw [← e2]; exact h1)
      refine ⟨y, ?_, h1⟩
      rcases List.mem_append.1 hy with hy | hy
      · exact List.mem_append_left _ hy
      · rcases List.mem_cons.1 hy with hy | hy
        · exact absurd hy hyx
        · exact List.mem_append_right _ hy
  · by_cases e : 16 * x.f ≤ i ∧ i < 16 * (x.f + x.c)
    · rw [if_pos e]
    · rw [if_neg e]
      rw [if_neg (by omega)] at hz
      exact h.zero i hi hz
  · have h1 := uc_ifR (fun k => if x.f ≤ k ∧ k < x.f + x.c then 0 else R k) R x.f x.c (fun k h1 h2 => if_pos ⟨h1, h2⟩) (fun k h1 h2 => by rw [h.run x hx k ⟨h1, h2⟩]; omega) (fun k hk => (if_neg hk).symm) n
    have h2 := h.sum
    rw [List.map_append, List.sum_append, List.map_cons, List.sum_cons] at h2
    rw [List.map_append, List.sum_append]
    omega

end Go.Proofs.YtndhgdjcbegjdaaDoor.Ck
