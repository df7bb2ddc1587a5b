/- The document's Copy: what its row keeps. (Written by mk_y.py.) -/
import Derived.Test.YtghfjnnmpmfboaaDoorZj
namespace Go.Proofs.YtghfjnnmpmfboaaDoor.Ck
open Go.RowKit

theorem info_bool : (Tryd.prog.info? 4).map (fun i => (i.zero, i.size, i.bytes)) = some (some (.bool false), 1, 1) := by kernel_rfl
structure KC (W0 : World) (g : Nat) (v0 v1 v2 v3 v4 v5 : Value) (n0 n1 n2 n3 n4 n5 : Nat) (x0 x1 x2 x3 x4 x5 : List Value) : Prop where
  g0 : W0.heap[g]? = some (.cells #[v0, v1, v2, v3, v4, v5] 50 (0, 0))
  r0 : W0.ownsRow 0 41 3 v0 n0 x0 ∧ n0 ≤ 1000000 ∧ ∀ u ∈ x0, u.oneCell' = true
  r1 : W0.ownsRow 0 4 1 v1 n1 x1 ∧ n1 ≤ 1000000 ∧ ∀ u ∈ x1, u.oneCell' = true
  r2 : W0.ownsRow 0 52 2 v2 n2 x2 ∧ n2 ≤ 1000000 ∧ ∀ u ∈ x2, u.oneCell' = true
  r3 : W0.ownsRow 0 46 1 v3 n3 x3 ∧ n3 ≤ 1000000 ∧ ∀ u ∈ x3, u.oneCell' = true
  r4 : W0.ownsRow 0 3 1 v4 n4 x4 ∧ n4 ≤ 1000000 ∧ ∀ u ∈ x4, u.oneCell' = true
  r5 : W0.ownsRow 0 3 1 v5 n5 x5 ∧ n5 ≤ 1000000 ∧ ∀ u ∈ x5, u.oneCell' = true
def KF (W0 : World) (g : Nat) (v0 v1 v2 v3 v4 v5 : Value) (n0 n1 n2 n3 n4 n5 : Nat) (x0 x1 x2 x3 x4 x5 : List Value) (j : Nat) (u : Nat → Value) (w : World) : Prop := Below W0.heap.size W0 w ∧ match j with
  | 0 => ∃ k, u 0 = .slice (some ⟨k, 0, none⟩) 0 0 ∧ W0.heap.size ≤ k ∧ w.heap[k]? = some (.cells #[] 41 (0, 0))
  | 1 => u 1 = .pointer (some ⟨g, 0, none⟩)
  | 2 => u 2 = .pointer (some ⟨g, 0, none⟩)
  | 3 => u 3 = .pointer (some ⟨g, 0, none⟩)
  | 4 => u 4 = v0
  | 5 => (∃ a c, u 5 = .slice a n0 c) ∧ w.ownsRow W0.heap.size 41 3 (u 5) n0 x0
  | 6 => ∃ k, u 6 = .slice (some ⟨k, 0, none⟩) 0 0 ∧ W0.heap.size ≤ k ∧ w.heap[k]? = some (.cells #[] 4 (0, 0))
  | 7 => u 7 = .pointer (some ⟨g, 0, none⟩)
  | 8 => u 8 = .pointer (some ⟨g, 0, none⟩)
  | 9 => u 9 = .pointer (some ⟨g, 1, none⟩)
  | 10 => u 10 = v1
  | 11 => (∃ a c, u 11 = .slice a n1 c) ∧ w.ownsRow W0.heap.size 4 1 (u 11) n1 x1
  | 12 => ∃ k, u 12 = .slice (some ⟨k, 0, none⟩) 0 0 ∧ W0.heap.size ≤ k ∧ w.heap[k]? = some (.cells #[] 52 (0, 0))
  | 13 => u 13 = .pointer (some ⟨g, 0, none⟩)
  | 14 => u 14 = .pointer (some ⟨g, 0, none⟩)
  | 15 => u 15 = .pointer (some ⟨g, 2, none⟩)
  | 16 => u 16 = v2
  | 17 => (∃ a c, u 17 = .slice a n2 c) ∧ w.ownsRow W0.heap.size 52 2 (u 17) n2 x2
  | 18 => ∃ k, u 18 = .slice (some ⟨k, 0, none⟩) 0 0 ∧ W0.heap.size ≤ k ∧ w.heap[k]? = some (.cells #[] 46 (0, 0))
  | 19 => u 19 = .pointer (some ⟨g, 0, none⟩)
  | 20 => u 20 = .pointer (some ⟨g, 0, none⟩)
  | 21 => u 21 = .pointer (some ⟨g, 3, none⟩)
  | 22 => u 22 = v3
  | 23 => (∃ a c, u 23 = .slice a n3 c) ∧ w.ownsRow W0.heap.size 46 1 (u 23) n3 x3
  | 24 => ∃ k, u 24 = .slice (some ⟨k, 0, none⟩) 0 0 ∧ W0.heap.size ≤ k ∧ w.heap[k]? = some (.cells #[] 3 (0, 0))
  | 25 => u 25 = .pointer (some ⟨g, 0, none⟩)
  | 26 => u 26 = .pointer (some ⟨g, 0, none⟩)
  | 27 => u 27 = .pointer (some ⟨g, 4, none⟩)
  | 28 => u 28 = v4
  | 29 => (∃ a c, u 29 = .slice a n4 c) ∧ w.ownsRow W0.heap.size 3 1 (u 29) n4 x4
  | 30 => ∃ k, u 30 = .slice (some ⟨k, 0, none⟩) 0 0 ∧ W0.heap.size ≤ k ∧ w.heap[k]? = some (.cells #[] 3 (0, 0))
  | 31 => u 31 = .pointer (some ⟨g, 0, none⟩)
  | 32 => u 32 = .pointer (some ⟨g, 0, none⟩)
  | 33 => u 33 = .pointer (some ⟨g, 5, none⟩)
  | 34 => u 34 = v5
  | 35 => (∃ a c, u 35 = .slice a n5 c) ∧ w.ownsRow W0.heap.size 3 1 (u 35) n5 x5 ∧ ∀ k, (u 29).ownBlock = some k → (u 35).ownBlock = some k → n5 = 0
  | 36 => u 36 = .agg #[u 5, u 11, u 17, u 23, u 29, u 35]
  | 37 => ∃ gd cs, u 37 = .pointer (some ⟨gd, 0, none⟩) ∧ u 36 = .agg cs ∧ W0.heap.size ≤ gd ∧ w.heap[gd]? = some (.cells cs 50 (0, 0))
  | 38 => u 38 = u 37
  | _ => True
set_option maxRecDepth 20000 in
theorem kf_keep {W0 : World} {g : Nat} {v0 v1 v2 v3 v4 v5 : Value} {n0 n1 n2 n3 n4 n5 : Nat} {x0 x1 x2 x3 x4 x5 : List Value} (i j : Nat) (u : Nat → Value) (v : Value) (w w' : World) (hij : i ≠ j) (hd : (j = 35 → i ≠ 29) ∧ (j = 36 → i ≠ 5 ∧ i ≠ 11 ∧ i ≠ 17 ∧ i ≠ 23 ∧ i ≠ 29 ∧ i ≠ 35) ∧ (j = 37 → i ≠ 36) ∧ (j = 38 → i ≠ 37)) (hj : j < 39) (hr : Below w.heap.size w w') (hf : KF W0 g v0 v1 v2 v3 v4 v5 n0 n1 n2 n3 n4 n5 x0 x1 x2 x3 x4 x5 j u w) : KF W0 g v0 v1 v2 v3 v4 v5 n0 n1 n2 n3 n4 n5 x0 x1 x2 x3 x4 x5 j (upd u i v) w' := by
  obtain ⟨hB, hf⟩ := hf
  obtain ⟨d1, d2, d3, d4⟩ := hd
  obtain rfl | rfl | rfl | rfl | rfl | rfl | rfl | rfl | rfl | rfl | rfl | rfl | rfl | rfl | rfl | rfl | rfl | rfl | rfl | rfl | rfl | rfl | rfl | rfl | rfl | rfl | rfl | rfl | rfl | rfl | rfl | rfl | rfl | rfl | rfl | rfl | rfl | rfl | rfl : j = 0 ∨ j = 1 ∨ j = 2 ∨ j = 3 ∨ j = 4 ∨ j = 5 ∨ j = 6 ∨ j = 7 ∨ j = 8 ∨ j = 9 ∨ j = 10 ∨ j = 11 ∨ j = 12 ∨ j = 13 ∨ j = 14 ∨ j = 15 ∨ j = 16 ∨ j = 17 ∨ j = 18 ∨ j = 19 ∨ j = 20 ∨ j = 21 ∨ j = 22 ∨ j = 23 ∨ j = 24 ∨ j = 25 ∨ j = 26 ∨ j = 27 ∨ j = 28 ∨ j = 29 ∨ j = 30 ∨ j = 31 ∨ j = 32 ∨ j = 33 ∨ j = 34 ∨ j = 35 ∨ j = 36 ∨ j = 37 ∨ j = 38 := by omega
  · obtain ⟨k, h1, h2, h3⟩ := hf; exact ⟨bel_trans hB hr, k, (upd_ne u v (Ne.symm hij)).trans h1, h2, (hr.block k (lt_of_blk h3)).trans h3⟩
  · exact ⟨bel_trans hB hr, (upd_ne u v (Ne.symm hij)).trans hf⟩
  · exact ⟨bel_trans hB hr, (upd_ne u v (Ne.symm hij)).trans hf⟩
  · exact ⟨bel_trans hB hr, (upd_ne u v (Ne.symm hij)).trans hf⟩
  · exact ⟨bel_trans hB hr, (upd_ne u v (Ne.symm hij)).trans hf⟩
  · obtain ⟨⟨a, cc, h1⟩, h2⟩ := hf; refine ⟨bel_trans hB hr, ⟨a, cc, (upd_ne u v (Ne.symm hij)).trans h1⟩, ?_⟩
    · show World.ownsRow _ _ _ _ (upd u i v 5) _ _; rw [upd_ne u v (Ne.symm hij)]; exact own_keep h2 (fun k hk => hr.block k (own_type h2 hk).2.1)
  · obtain ⟨k, h1, h2, h3⟩ := hf; exact ⟨bel_trans hB hr, k, (upd_ne u v (Ne.symm hij)).trans h1, h2, (hr.block k (lt_of_blk h3)).trans h3⟩
  · exact ⟨bel_trans hB hr, (upd_ne u v (Ne.symm hij)).trans hf⟩
  · exact ⟨bel_trans hB hr, (upd_ne u v (Ne.symm hij)).trans hf⟩
  · exact ⟨bel_trans hB hr, (upd_ne u v (Ne.symm hij)).trans hf⟩
  · exact ⟨bel_trans hB hr, (upd_ne u v (Ne.symm hij)).trans hf⟩
  · obtain ⟨⟨a, cc, h1⟩, h2⟩ := hf; refine ⟨bel_trans hB hr, ⟨a, cc, (upd_ne u v (Ne.symm hij)).trans h1⟩, ?_⟩
    · show World.ownsRow _ _ _ _ (upd u i v 11) _ _; rw [upd_ne u v (Ne.symm hij)]; exact own_keep h2 (fun k hk => hr.block k (own_type h2 hk).2.1)
  · obtain ⟨k, h1, h2, h3⟩ := hf; exact ⟨bel_trans hB hr, k, (upd_ne u v (Ne.symm hij)).trans h1, h2, (hr.block k (lt_of_blk h3)).trans h3⟩
  · exact ⟨bel_trans hB hr, (upd_ne u v (Ne.symm hij)).trans hf⟩
  · exact ⟨bel_trans hB hr, (upd_ne u v (Ne.symm hij)).trans hf⟩
  · exact ⟨bel_trans hB hr, (upd_ne u v (Ne.symm hij)).trans hf⟩
  · exact ⟨bel_trans hB hr, (upd_ne u v (Ne.symm hij)).trans hf⟩
  · obtain ⟨⟨a, cc, h1⟩, h2⟩ := hf; refine ⟨bel_trans hB hr, ⟨a, cc, (upd_ne u v (Ne.symm hij)).trans h1⟩, ?_⟩
    · show World.ownsRow _ _ _ _ (upd u i v 17) _ _; rw [upd_ne u v (Ne.symm hij)]; exact own_keep h2 (fun k hk => hr.block k (own_type h2 hk).2.1)
  · obtain ⟨k, h1, h2, h3⟩ := hf; exact ⟨bel_trans hB hr, k, (upd_ne u v (Ne.symm hij)).trans h1, h2, (hr.block k (lt_of_blk h3)).trans h3⟩
  · exact ⟨bel_trans hB hr, (upd_ne u v (Ne.symm hij)).trans hf⟩
  · exact ⟨bel_trans hB hr, (upd_ne u v (Ne.symm hij)).trans hf⟩
  · exact ⟨bel_trans hB hr, (upd_ne u v (Ne.symm hij)).trans hf⟩
  · exact ⟨bel_trans hB hr, (upd_ne u v (Ne.symm hij)).trans hf⟩
  · obtain ⟨⟨a, cc, h1⟩, h2⟩ := hf; refine ⟨bel_trans hB hr, ⟨a, cc, (upd_ne u v (Ne.symm hij)).trans h1⟩, ?_⟩
    · show World.ownsRow _ _ _ _ (upd u i v 23) _ _; rw [upd_ne u v (Ne.symm hij)]; exact own_keep h2 (fun k hk => hr.block k (own_type h2 hk).2.1)
  · obtain ⟨k, h1, h2, h3⟩ := hf; exact ⟨bel_trans hB hr, k, (upd_ne u v (Ne.symm hij)).trans h1, h2, (hr.block k (lt_of_blk h3)).trans h3⟩
  · exact ⟨bel_trans hB hr, (upd_ne u v (Ne.symm hij)).trans hf⟩
  · exact ⟨bel_trans hB hr, (upd_ne u v (Ne.symm hij)).trans hf⟩
  · exact ⟨bel_trans hB hr, (upd_ne u v (Ne.symm hij)).trans hf⟩
  · exact ⟨bel_trans hB hr, (upd_ne u v (Ne.symm hij)).trans hf⟩
  · obtain ⟨⟨a, cc, h1⟩, h2⟩ := hf; refine ⟨bel_trans hB hr, ⟨a, cc, (upd_ne u v (Ne.symm hij)).trans h1⟩, ?_⟩
    · show World.ownsRow _ _ _ _ (upd u i v 29) _ _; rw [upd_ne u v (Ne.symm hij)]; exact own_keep h2 (fun k hk => hr.block k (own_type h2 hk).2.1)
  · obtain ⟨k, h1, h2, h3⟩ := hf; exact ⟨bel_trans hB hr, k, (upd_ne u v (Ne.symm hij)).trans h1, h2, (hr.block k (lt_of_blk h3)).trans h3⟩
  · exact ⟨bel_trans hB hr, (upd_ne u v (Ne.symm hij)).trans hf⟩
  · exact ⟨bel_trans hB hr, (upd_ne u v (Ne.symm hij)).trans hf⟩
  · exact ⟨bel_trans hB hr, (upd_ne u v (Ne.symm hij)).trans hf⟩
  · exact ⟨bel_trans hB hr, (upd_ne u v (Ne.symm hij)).trans hf⟩
  · obtain ⟨⟨a, cc, h1⟩, h2, h3⟩ := hf; refine ⟨bel_trans hB hr, ⟨a, cc, (upd_ne u v (Ne.symm hij)).trans h1⟩, ?_, ?_⟩
    · show World.ownsRow _ _ _ _ (upd u i v 35) _ _; rw [upd_ne u v (Ne.symm hij)]; exact own_keep h2 (fun k hk => hr.block k (own_type h2 hk).2.1)
    · show ∀ k, (upd u i v 29).ownBlock = some k → (upd u i v 35).ownBlock = some k → n5 = 0; rw [upd_ne u v (Ne.symm (d1 rfl)), upd_ne u v (Ne.symm hij)]; exact h3
  · obtain ⟨e1, e2, e3, e4, e5, e6⟩ := d2 rfl; refine ⟨bel_trans hB hr, ?_⟩; show upd u i v 36 = .agg #[upd u i v 5, upd u i v 11, upd u i v 17, upd u i v 23, upd u i v 29, upd u i v 35]; rw [upd_ne u v (Ne.symm hij), upd_ne u v (Ne.symm e1), upd_ne u v (Ne.symm e2), upd_ne u v (Ne.symm e3), upd_ne u v (Ne.symm e4), upd_ne u v (Ne.symm e5), upd_ne u v (Ne.symm e6)]; exact hf
  · obtain ⟨gd, cs, h1, h2, h3, h4⟩ := hf; exact ⟨bel_trans hB hr, gd, cs, (upd_ne u v (Ne.symm hij)).trans h1, (upd_ne u v (Ne.symm (d3 rfl))).trans h2, h3, (hr.block gd (lt_of_blk h4)).trans h4⟩
  · refine ⟨bel_trans hB hr, ?_⟩; show upd u i v 38 = upd u i v 37; rw [upd_ne u v (Ne.symm hij), upd_ne u v (Ne.symm (d4 rfl))]; exact hf

def slC (k : Nat) : Option Nat := if k = 2 then some 38 else if 3 ≤ k ∧ k ≤ 40 then some (k - 3) else none
theorem slC_inj {k i : Nat} (h : slC k = some i) : (i = 38 ∧ k = 2) ∨ (i < 38 ∧ k = 3 + i) := by
  unfold slC at h
  split at h
  · have := Option.some.inj h
    omega
  · split at h
    · have := Option.some.inj h
      omega
    · cases h
end Go.Proofs.YtghfjnnmpmfboaaDoor.Ck
