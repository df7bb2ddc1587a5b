/- Bytes of a call's own: more of them, pieces of them; how many a code has; no Go text is walked here. -/
import Derived.Test.YtoboeipmhfnfdaaDoorEi
import Derived.Test.YtoboeipmhfnfdaaDoorDe
namespace Go.Proofs.YtoboeipmhfnfdaaDoor.Ck
open Go.RowKit

theorem yys_app (l m : List Int) : yys (l ++ m) = yys l ++ yys m := by simp [yys]
theorem yys_at (l : List Int) (i : Nat) (hi : i < l.length) : (yys l)[i]? = some (.int .u8 (l.getD i 0)) := by
  simp [yys, hi, List.getD]
/-- bytes behind bytes of one's own -/
theorem pushM {w : World} {B : Nat} {v : Value} {l m : List Int} {n k gx cx : Nat} (hn : n = l.length) (hk : k = m.length) (hl : n + k ≤ 10000000) (ho : w.ownsRow B 5 1 v n (yys l)) (hx : ∀ j, j < k → w.cell? ⟨gx, j, none⟩ = some (.int .u8 (m.getD j 0))) (hB : B ≤ w.heap.size) (ty : TypeId) :
    ∃ v' w', (Builtin.append_ #[33, 33] ty #[v, .slice (some ⟨gx, 0, none⟩) k cx]).run Tryd.prog w = .ok v' w' ∧ ((∃ a c, v' = .slice a (n + k) c) ∧ w'.ownsRow B 5 1 v' (n + k) (yys (l ++ m)) ∧ w.grownBy w' v.ownBlock) := by
  obtain ⟨ie, hi, hz0, hz1, hz2⟩ := info_parts info_u8
  have hc : ∀ (j : Nat) (u : Value), (yys m)[j]? = some u → w.cell? ((⟨gx, 0, none⟩ : Addr).add j) = some u := fun j u hu => by
    have hj : j < m.length := by
      have := (List.getElem?_eq_some_iff.1 hu).1
      simpa [yys] using this
    rw [yys_at m j hj] at hu
    rw [show (Addr.mk gx 0 none).add j = ⟨gx, j, none⟩ by unfold Addr.add; by_cases h : j = 0 <;> simp [h], hx j (by omega)]
    exact hu
  obtain ⟨v', w', hr, ho', hg, _⟩ := run_append_own (P := Tryd.prog) w B 33 ty 5 ie _ 1 1 Tryd.underlying33 hi hz0 hz1 hz2 rfl (by decide) v n (yys l) ho ⟨gx, 0, none⟩ k cx (yys m) (by simp [yys, hk]) hc (fun u hu => by
    obtain ⟨x, _, rfl⟩ := List.mem_map.1 (show u ∈ m.map (Value.int .u8) from hu)
    rfl) (by unfold maxLen; omega) (by omega) hB
  obtain ⟨a9, c9, e9, _⟩ := own_slice ho'
  exact ⟨v', w', hr, ⟨a9, c9, e9⟩, by rw [yys_app]; exact ho', hg⟩
theorem own_none {w : World} {B k : Nat} {T : TypeId} {sz : Nat} (hk : w.heap[k]? = some (.cells #[] T (0, 0))) (hBk : B ≤ k) : w.ownsRow B T sz (.slice (some ⟨k, 0, none⟩) 0 0) 0 [] :=
  ⟨by simp, .inr ⟨k, 0, #[], rfl, hBk, hk, Nat.le_refl _, by unfold maxLen; omega, by simp, by simp⟩⟩
/-- an append of bytes to none: a copy -/
theorem pushM0 {w : World} {B : Nat} {m : List Int} {k gx cx b : Nat} (hk : k = m.length) (hl : k ≤ 10000000) (hb : w.heap[b]? = some (.cells #[] 5 (0, 0))) (hBb : B ≤ b) (hx : ∀ j, j < k → w.cell? ⟨gx, j, none⟩ = some (.int .u8 (m.getD j 0))) (hB : B ≤ w.heap.size) (ty : TypeId) :
    ∃ v' w', (Builtin.append_ #[33, 33] ty #[.slice (some ⟨b, 0, none⟩) 0 0, .slice (some ⟨gx, 0, none⟩) k cx]).run Tryd.prog w = .ok v' w' ∧ ((∃ a c, v' = .slice a k c) ∧ w'.ownsRow B 5 1 v' k (yys m) ∧ w.grownBy w' (some b)) := by
  have := pushM (l := []) (m := m) (n := 0) rfl hk (by omega) (own_none (sz := 1) hb hBb) hx hB ty (cx := cx)
  rw [Nat.zero_add, List.nil_append] at this
  exact this
theorem Below.grown {w w' : World} {B : Nat} {b : Option Nat} (h : w.grownBy w' b) (hb : ∀ k, b = some k → B ≤ k) (hB : B ≤ w.heap.size) : Below B w w' := ⟨h.os, h.tape, h.output, h.size, fun k hk => h.block k (by omega) (fun e => by have := hb k e.symm; omega)⟩
theorem Ys.of_own {w : World} {B : Nat} {v : Value} {l : List Int} (h : w.ownsRow B 5 1 v l.length (yys l)) : Ys w v l := by
  rcases own_cells h with ⟨rfl, h0⟩ | ⟨g, cap, rfl, h1, h2, h3, h4⟩
  · have : l = [] := List.length_eq_zero_iff.1 h0
    subst this
    exact ⟨none, 0, rfl, Nat.le_refl _, Nat.zero_le _, fun i hi => absurd hi (Nat.not_lt_zero _)⟩
  · exact ⟨_, cap, rfl, h1, h2, fun i hi => ⟨g, 0, rfl, h3, Nat.ne_of_lt h3, by rw [Nat.zero_add]; exact h4 i _ (by omega) (yys_at l i hi)⟩⟩
theorem Ys.take {w : World} {a : Option Addr} {n cap k : Nat} {l : List Int} (h : Ys w (.slice a n cap) l) (hk : k ≤ l.length) : Ys w (.slice a k cap) (l.take k) := by
  obtain ⟨a', cap', e, h1, h2, h3⟩ := h
  cases e
  refine ⟨_, _, by rw [List.length_take, Nat.min_eq_left hk], by rw [List.length_take]; omega, h2, fun i hi => ?_⟩
  rw [List.length_take] at hi
  obtain ⟨b, off, ea, hb, hn, hc⟩ := h3 i (by omega)
  refine ⟨b, off, ea, hb, hn, ?_⟩
  rw [hc, List.getD_eq_getElem?_getD, List.getD_eq_getElem?_getD, List.getElem?_take_of_lt (by omega)]
theorem flat_len {α β : Type} (f : α → List β) (n : Nat) : ∀ (l : List α), (∀ x ∈ l, (f x).length ≤ n) → (l.flatMap f).length ≤ l.length * n
  | [], _ => by simp
  | x :: l, h => by
    have ih := flat_len f n l (fun y hy => h y (List.mem_cons_of_mem _ hy))
    have h1 := h x (List.mem_cons_self ..)
    rw [List.flatMap_cons, List.length_append, List.length_cons, Nat.add_mul, Nat.one_mul]
    omega
theorem bytes_len {c : Cd} (hf : formB c = true) : 28 ≤ (bytesL c).length ∧ (bytesL c).length ≤ 300000 := by
  simp only [formB, fnB, Bool.and_eq_true, decide_eq_true_eq, List.all_eq_true] at hf
  obtain ⟨⟨⟨⟨⟨⟨⟨hP, hM⟩, hA⟩, hS⟩, hF⟩, hB⟩, hm⟩, ⟨⟨⟨_, _⟩, kF⟩, _⟩, _⟩ := hf
  have l1 := flat_len (bigL 4) 4 c.P (fun x _ => by rw [bigL_len]; exact Nat.le_refl _)
  have l2 := flat_len wChan 8 c.C (fun x _ => by simp [wChan, bigL_len])
  have l3 := flat_len wFn 140 c.F (fun f hf => by
    have h1 := flat_len (bigL 4) 4 f.lo (fun x _ => by rw [bigL_len]; exact Nat.le_refl _)
    have := (kF f hf).2.2.2.2.1
    simp only [wFn, List.length_append, bigL_len]
    omega)
  have l4 := flat_len wIns 25 c.B (fun x _ => by simp [wIns, bigL_len])
  simp only [bytesL, List.length_append, bigL_len]
  omega
theorem Byt.app {l m : List Int} (h1 : Byt l) (h2 : Byt m) : Byt (l ++ m) := fun b hb => (List.mem_append.1 hb).elim (h1 b) (h2 b)
theorem Byt.flat {α : Type} {f : α → List Int} {l : List α} (h : ∀ x, Byt (f x)) : Byt (l.flatMap f) := fun b hb => by
  obtain ⟨x, _, hx⟩ := List.mem_flatMap.1 hb
  exact h x b hx
theorem bytes_byt (c : Cd) : Byt (bytesL c) :=
  (bigL_byt _ _).app ((bigL_byt _ _).app ((bigL_byt _ _).app ((bigL_byt _ _).app ((bigL_byt _ _).app ((bigL_byt _ _).app ((bigL_byt _ _).app ((Byt.flat (fun _ => bigL_byt _ _)).app ((Byt.flat (fun _ => (bigL_byt _ _).app (bigL_byt _ _))).app ((Byt.flat (fun _ => (bigL_byt _ _).app ((bigL_byt _ _).app ((bigL_byt _ _).app (Byt.flat (fun _ => bigL_byt _ _)))))).app (Byt.flat (fun _ => (bigL_byt _ _).app ((bigL_byt _ _).app ((bigL_byt _ _).app ((bigL_byt _ _).app (bigL_byt _ _)))))))))))))))
theorem Cl.inw {c : Cd} (h : Cl c) : ∀ x ∈ c.B, InW x := fun x hx => (h.I x hx).1
end Go.Proofs.YtoboeipmhfnfdaaDoor.Ck
