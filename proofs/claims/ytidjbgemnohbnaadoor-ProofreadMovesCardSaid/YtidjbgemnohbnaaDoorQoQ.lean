/- The document's package of layer 16: what Step leaves. (Written by mk_w.py.) -/
import Derived.Test.YtidjbgemnohbnaaDoorGq12
import Derived.Test.YtidjbgemnohbnaaDoorGq13
import Derived.Test.YtidjbgemnohbnaaDoorGq9
import Derived.Deep.Cut
namespace Go.Proofs.YtidjbgemnohbnaaDoor.Ck
open Go.RowKit

/-- what the document's Step leaves: a stack of its own or the one that it was given -/
def StpP (w : World) (v : Value) (s : List Int) (o : Option (List Int)) (e : Ending) (w' : World) : Prop := Below w.heap.size w w' ∧ match o with
  | some t => ∃ v', e = .returned (.tuple #[v', .bool true]) ∧ t.length ≤ 64 ∧ ((v' = v ∧ t = s) ∨ w'.ownsRow w.heap.size 3 1 v' t.length (nts t))
  | none => ∃ v', e = .returned (.tuple #[v', .bool false])
theorem stp_with {w w3 w9 : World} {v v9 : Value} {s t : List Int} {o : Option (List Int)} (ho : o = capD t) (hb : Below w.heap.size w w3) (h9 : w9.ownsRow w3.heap.size 3 1 v9 t.length (nts t)) (b9 : Below w3.heap.size w3 w9) : StpP w v s o (.returned (.tuple #[v9, .bool (decide (t.length ≤ 64))])) w9 := by
  subst ho
  refine ⟨hb.trans (b9.mono hb.size), ?_⟩
  unfold capD
  by_cases hl : t.length ≤ 64
  · rw [if_pos hl, decide_eq_true hl]
    exact ⟨v9, rfl, hl, .inr (own_low h9 hb.size)⟩
  · rw [if_neg hl, decide_eq_false hl]
    exact ⟨v9, rfl⟩
theorem stp_no {w w3 : World} {v v9 : Value} {s : List Int} {o : Option (List Int)} (ho : o = none) (hb : Below w.heap.size w w3) : StpP w v s o (.returned (.tuple #[v9, .bool false])) w3 := by
  subst ho
  exact ⟨hb, v9, rfl⟩
theorem stp_same {w w3 : World} {v : Value} {s : List Int} {o : Option (List Int)} (ho : o = some s) (hl : s.length ≤ 64) (hb : Below w.heap.size w w3) : StpP w v s o (.returned (.tuple #[v, .bool true])) w3 := by
  subst ho
  exact ⟨hb, v, rfl, hl, .inl ⟨rfl, rfl⟩⟩
theorem SlC.at {w : World} {a : Option Addr} {n k : Nat} {l : List (Int × Int)} (h : SlC w (.slice a n k) l) (i : Nat) (hi : i < l.length) : ∃ b off, a = some ⟨b, off, none⟩ ∧ b < w.heap.size ∧ w.cell? ⟨b, off + i * 2, none⟩ = some (.int .i64 (l.getD i z2).1) := by
  obtain ⟨a', k', e, _, _, h3⟩ := h
  cases e
  obtain ⟨b, off, e1, e2, e3, _⟩ := h3 i hi
  exact ⟨b, off, e1, e2, e3⟩
theorem SlF.at {w : World} {a : Option Addr} {n k : Nat} {l : List Fn3} (h : SlF w (.slice a n k) l) (i : Nat) (hi : i < l.length) : ∃ b off vl, a = some ⟨b, off, none⟩ ∧ b < w.heap.size ∧ w.cell? ⟨b, off + i * 3, none⟩ = some (.int .i64 (l.getD i zF).st) ∧ w.cell? ⟨b, off + i * 3 + 1, none⟩ = some (.int .i64 (l.getD i zF).pa) ∧ w.cell? ⟨b, off + i * 3 + 2, none⟩ = some vl ∧ Sl w vl (l.getD i zF).lo := by
  obtain ⟨a', k', e, _, _, h3⟩ := h
  cases e
  exact h3 i hi
theorem topD_at {s : List Int} {n : Nat} (hn : n = s.length) : topD s = s.getD (n - 1) 0 := by subst hn; rfl
theorem belD_at {s : List Int} {n : Nat} (hn : n = s.length) (h : 1 < n) : belD s = s.getD (n - 2) 0 := by subst hn; unfold belD; rw [if_pos h]
theorem belD_no {s : List Int} (h : ¬ 1 < s.length) : belD s = 0 := by unfold belD; rw [if_neg h]
theorem ty_top {s : List Int} (ty : Ty3 s) : topD s = 0 ∨ topD s = 1 ∨ topD s = 2 ∨ topD s = 3 := by
  by_cases h : s = []
  · subst h
    exact .inl rfl
  · obtain ⟨t, y, rfl⟩ := snoc_ne h
    rw [topD_snoc]
    have := ty.snoc.2
    omega
theorem top_len {s : List Int} (h : topD s ≠ 0) : 1 ≤ s.length := by
  cases s with
  | nil => exact absurd rfl h
  | cons => simp
theorem bel_len {s : List Int} (h : belD s ≠ 0) : 2 ≤ s.length := by
  by_cases h1 : 1 < s.length
  · omega
  · exact absurd (belD_no h1) h
/-- a slice's end -/
theorem sl_suf {w : World} {b o n c j : Nat} {l : List Int} (h : Sl w (.slice (some ⟨b, o, none⟩) n c) l) (hj : j ≤ n) : Sl w (.slice (if c = j then some ⟨b, o, none⟩ else some ⟨b, o + j, none⟩) (n - j) (c - j)) (l.drop j) := by
  have hn := h.len
  obtain ⟨hf, a', c', e, h1, h2, h3⟩ := h
  cases e
  refine ⟨fun z hz => hf z (List.mem_of_mem_drop hz), _, _, by rw [List.length_drop], by rw [List.length_drop]; omega, by omega, fun i hi => ?_⟩
  rw [List.length_drop] at hi
  rw [if_neg (by omega)]
  obtain ⟨b', o', ha, hb, hc⟩ := h3 (j + i) (by omega)
  cases ha
  refine ⟨b, o + j, rfl, hb, ?_⟩
  rw [List.getD_eq_getElem?_getD, List.getElem?_drop, ← List.getD_eq_getElem?_getD, Nat.add_assoc]
  exact hc
theorem sl_zero {w : World} {a : Option Addr} {n c : Nat} (hn : n = 0) (h : c ≤ maxLen) : Sl w (.slice a n c) [] := ⟨fun z hz => (by cases hz), a, c, by rw [hn]; rfl, Nat.zero_le _, h, fun i hi => absurd hi (Nat.not_lt_zero _)⟩
theorem sl_to {w : World} {a : Option Addr} {n c k : Nat} {l : List Int} (h : Sl w (.slice a n c) l) (hk : k ≤ n) : Sl w (.slice a k c) (l.take k) := by
  have h1 := sl_pre h hk
  rwa [show (l.take k).length = k by rw [List.length_take]; have := h.len; omega] at h1
end Go.Proofs.YtidjbgemnohbnaaDoor.Ck
