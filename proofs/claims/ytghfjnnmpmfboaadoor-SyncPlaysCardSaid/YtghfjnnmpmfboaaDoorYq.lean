/- Package sync: a state that is made. (Written by mk_y.py.) -/
import Derived.Test.YtghfjnnmpmfboaaDoorYp
namespace Go.Proofs.YtghfjnnmpmfboaaDoor.Ck
open Go.RowKit

/-- a state that is being made -/
def Mk (w wc : World) (g : Nat) (s : St) : Prop := ∃ F, Stt wc F g s ∧ (∀ k, F k → w.heap.size ≤ k) ∧ Below w.heap.size w wc
theorem own_nil (w : World) (T : TypeId) (n : Nat) : w.ownsRow 0 T n (.slice none 0 0) 0 [] := World.ownsRow_nil w 0 T n
theorem sv_new {W : World} {gb gi gs : Nat} {mn an : Nat} (hm : mn ≤ 32) (ha : an ≤ 32) (vb vi : Value) (hvb : vb = .slice (some ⟨gb, 0, none⟩) mn mn) (hvi : vi = .slice (some ⟨gi, 0, none⟩) an an) (ob : W.ownsRow 0 4 1 vb mn (List.replicate mn (.bool false))) (oi : W.ownsRow 0 3 1 vi an (List.replicate an (.int .i64 0)))
    (hg : W.heap[gs]? = some (.cells #[.slice none 0 0, vb, .slice none 0 0, vi] 96 (0, 0))) {B : Nat} (hb : B ≤ gb ∧ B ≤ gi ∧ B ≤ gs) : ∃ F, Stt W F gs ⟨[], List.replicate mn false, [], List.replicate an 0⟩ ∧ ∀ k, F k → B ≤ k := by
  refine ⟨fun k => k = gb ∨ k = gi ∨ k = gs, ⟨_, _, _, _, [], { at_ := hg, pl := own_nil _ _ _, mu := (by simpa [bls] using ob), ch := own_nil _ _ _, ato := (by simpa [nts] using oi), len := rfl, q := fun i q v h _ => (by simp at h), ne := fun i j v v' k _ h _ => (by simp at h), fg := .inr (.inr rfl), fP := fun k h => (by cases h), fM := fun k h => ?_, fC := fun k h => (by cases h), fA := fun k h => ?_, fb := fun k h => ?_, small := (by simp; omega), rooms := fun q h => (by cases h) }⟩, fun k h => by omega⟩
  · subst hvb
    cases h
    exact .inl rfl
  · subst hvi
    cases h
    exact .inr (.inl rfl)
  · rcases h with rfl | rfl | rfl
    · exact (own_type ob (by rw [hvb]; rfl)).2.1
    · exact (own_type oi (by rw [hvi]; rfl)).2.1
    · exact lt_of_blk hg
theorem mk_new {w W0 W : World} {mn an : Nat} (hm : mn ≤ 32) (ha : an ≤ 32) (hb0 : Below w.heap.size w W0) (hW : W = (W0.alloc (.cells (madeCells #[.bool false] mn) 4)).alloc (.cells (madeCells #[.int .i64 0] an) 3)) : Mk w (W.alloc (.cells #[.slice none 0 0, .slice (some ⟨W0.heap.size, 0, none⟩) mn mn, .slice none 0 0, .slice (some ⟨W0.heap.size + 1, 0, none⟩) an an] 96)) (W0.heap.size + 1 + 1) ⟨[], List.replicate mn false, [], List.replicate an 0⟩ := by
  subst hW
  have h1 := own_made W0 (.bool false) mn 4 hm
  have h2 := own_made (W0.alloc (.cells (madeCells #[.bool false] mn) 4)) (.int .i64 0) an 3 ha
  have hs1 : (W0.alloc (.cells (madeCells #[.bool false] mn) 4)).heap.size = W0.heap.size + 1 := by simp
  have hs2 : ((W0.alloc (.cells (madeCells #[.bool false] mn) 4)).alloc (.cells (madeCells #[.int .i64 0] an) 3)).heap.size = W0.heap.size + 1 + 1 := by simp
  rw [hs1] at h2
  have hz := hb0.size
  have hbB := bel_al (bel_al hb0 (.cells (madeCells #[.bool false] mn) 4)) (.cells (madeCells #[.int .i64 0] an) 3)
  have h3 := own_keep h1 (fun k hk => (bel_new _ (.cells (madeCells #[.int .i64 0] an) 3)).block k (own_type h1 hk).2.1)
  obtain ⟨F, hF, hl⟩ := sv_new (B := w.heap.size) hm ha _ _ rfl rfl (own_keep h3 (fun k hk => (bel_new _ _).block k (own_type h3 hk).2.1)) (own_keep h2 (fun k hk => (bel_new _ _).block k (own_type h2 hk).2.1)) (hs2 ▸ Go.Deep.blk_alloc_new _ _) ⟨by omega, by omega, by omega⟩
  exact ⟨F, hF, hl, bel_al hbB _⟩
theorem mk_new2 {w W0 W : World} {mn an : Nat} (hm : mn ≤ 32) (ha : an ≤ 32) (hb0 : Below w.heap.size w W0) (hW : W = (W0.alloc (.cells (madeCells #[.int .i64 0] an) 3)).alloc (.cells (madeCells #[.bool false] mn) 4)) : Mk w (W.alloc (.cells #[.slice none 0 0, .slice (some ⟨W0.heap.size + 1, 0, none⟩) mn mn, .slice none 0 0, .slice (some ⟨W0.heap.size, 0, none⟩) an an] 96)) (W0.heap.size + 1 + 1) ⟨[], List.replicate mn false, [], List.replicate an 0⟩ := by
  subst hW
  have h1 := own_made W0 (.int .i64 0) an 3 ha
  have h2 := own_made (W0.alloc (.cells (madeCells #[.int .i64 0] an) 3)) (.bool false) mn 4 hm
  have hs1 : (W0.alloc (.cells (madeCells #[.int .i64 0] an) 3)).heap.size = W0.heap.size + 1 := by simp
  have hs2 : ((W0.alloc (.cells (madeCells #[.int .i64 0] an) 3)).alloc (.cells (madeCells #[.bool false] mn) 4)).heap.size = W0.heap.size + 1 + 1 := by simp
  rw [hs1] at h2
  have hz := hb0.size
  have hbB := bel_al (bel_al hb0 (.cells (madeCells #[.int .i64 0] an) 3)) (.cells (madeCells #[.bool false] mn) 4)
  have h3 := own_keep h1 (fun k hk => (bel_new _ (.cells (madeCells #[.bool false] mn) 4)).block k (own_type h1 hk).2.1)
  obtain ⟨F, hF, hl⟩ := sv_new (B := w.heap.size) hm ha _ _ rfl rfl (own_keep h2 (fun k hk => (bel_new _ _).block k (own_type h2 hk).2.1)) (own_keep h3 (fun k hk => (bel_new _ _).block k (own_type h3 hk).2.1)) (hs2 ▸ Go.Deep.blk_alloc_new _ _) ⟨by omega, by omega, by omega⟩
  exact ⟨F, hF, hl, bel_al hbB _⟩
end Go.Proofs.YtghfjnnmpmfboaaDoor.Ck
