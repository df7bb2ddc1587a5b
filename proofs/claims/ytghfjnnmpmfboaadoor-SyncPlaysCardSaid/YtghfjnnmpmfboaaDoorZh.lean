/- The document's state: copies by append. (Written by mk_y.py.) -/
import Derived.Test.YtghfjnnmpmfboaaDoorZg
import Derived.Deep.AppendSrc
namespace Go.Proofs.YtghfjnnmpmfboaaDoor.Ck
open Go.RowKit

/-- an append to a slice of none, of the call's own: a copy -/
theorem app_copy {w : World} {T TS : TypeId} {sz bytes : Nat} {z src : Value} {n k B : Nat} {xs : List Value} (hu : Tryd.prog.underlying TS = some (.slice T)) (hinfo : (Tryd.prog.info? T).map (fun i => (i.zero, i.size, i.bytes)) = some (some z, sz, bytes)) (hz : z.cells.size = sz) (hby : bytes ≤ 100)
    (hk : w.heap[k]? = some (.cells #[] T (0, 0))) (hBk : B ≤ k) (hs : w.ownsRow 0 T sz src n xs) (hn : n ≤ 10000000) (h1 : ∀ u ∈ xs, u.oneCell' = true) (hB : B ≤ w.heap.size) (ty : TypeId) :
    ∃ v' w', (Builtin.append_ #[TS, TS] ty #[.slice (some ⟨k, 0, none⟩) 0 0, src]).run Tryd.prog w = .ok v' w' ∧ (∃ a c, v' = .slice a n c) ∧ w'.ownsRow B T sz v' n xs ∧ Below w.heap.size w w' ∧ (∀ j, v'.ownBlock = some j → w.heap.size ≤ j ∨ n = 0) := by
  obtain ⟨i, hi, hz0, hz1, hz2⟩ := info_parts hinfo
  have own0 : w.ownsRow B T sz (.slice (some ⟨k, 0, none⟩) 0 0) 0 [] := ⟨by simp, .inr ⟨k, 0, #[], rfl, hBk, hk, Nat.le_refl _, by unfold maxLen; omega, by simp, by simp⟩⟩
  have hS : Src Tryd.prog i.size TS src n xs w := by
    rcases own_form hs with ⟨rfl, rfl⟩ | ⟨b, c, rfl, _⟩
    · have e : xs = [] := by have := hs.1; simpa using this
      subst e
      exact Src.ofNil w hu 0
    · refine Src.ofSlice w hu ⟨b, 0, none⟩ n c xs (by rw [hz1]; exact hs.1) (fun j u hj => ?_) h1
      rw [show (⟨b, 0, none⟩ : Addr).add j = ⟨b, j, none⟩ by unfold Addr.add; by_cases h : j = 0 <;> simp [h]]
      exact (own_cell hs j u hj).1
  by_cases hn0 : n = 0
  · subst hn0
    have e : xs = [] := by have := hs.1; simpa using this
    subst e
    have hr := run_append_room_src (P := Tryd.prog) w TS TS ty T i hu hi k 0 0 0 src 0 [] hS (Nat.le_refl _) (fun j hj => absurd hj (Nat.not_lt_zero _)) (fun j hj => absurd hj (Nat.not_lt_zero _))
    exact ⟨_, w, hr, ⟨_, _, rfl⟩, own0, Below.refl _ _, fun _ _ => .inr rfl⟩
  · have hfit : Builtin.nextslicecap (0 + n) 0 * i.bytes ≤ 281474976710656 := growslice_fits (by omega) (by rw [hz2]; have : (0 + n) * bytes ≤ 10000000 * 100 := Nat.mul_le_mul (by omega) hby; omega)
    have hr := run_append_grow_src (P := Tryd.prog) w TS TS ty T i z hu hi hz0 (some ⟨k, 0, none⟩) 0 0 [] (run_firstCells_some w.drew i.size 0 ⟨k, 0, none⟩ 0 0 [] (by simp) (fun j u hj => by simp at hj)) src n xs hS (by omega) (by omega) hfit
    have hge := grownCap_ge w (0 + n) 0 T
    have hle := grownCap_le_maxLen w (0 + n) 0 T (by unfold maxLen; omega)
    refine ⟨_, _, hr, ⟨_, _, by rw [Nat.zero_add]⟩, ⟨hs.1, .inr ⟨w.heap.size, grownCap w (0 + n) 0 T, _, by rw [Nat.zero_add], hB, Go.Deep.blk_alloc_new w.drew _, by omega, hle, ?_, ?_⟩⟩, (bel_drawn (Below.refl _ _)).alloc (Nat.le_refl _) _, fun j hj => .inl (by have := Option.some.inj hj; simp at this; omega)⟩
    · simp [size_zeroCells, hz, hs.1]
      have h3 : n * sz + (grownCap w n 0 T - n) * sz = grownCap w n 0 T * sz := by
        rw [← Nat.add_mul]
        rw [Nat.zero_add] at hge
        rw [show n + (grownCap w n 0 T - n) = grownCap w n 0 T from Nat.add_sub_cancel' hge]
      exact h3
    · simp only [List.nil_append, Array.toList_append]
      exact List.take_left' hs.1
def Sx (w : World) (gb : Nat) (t m z : Int) (g : Nat) (v : Value) : Prop := Val w gb t m z ∧ w.cell? ⟨g, 3, none⟩ = some v ∧ g < w.heap.size
theorem Sx.al {w w' : World} {gb : Nat} {t m z : Int} {g : Nat} {v : Value} (h : Sx w gb t m z g v) (hb : Below w.heap.size w w') : Sx w' gb t m z g v := ⟨h.1.al hb, (hb.cell (p := ⟨g, 3, none⟩) h.2.2).trans h.2.1, Nat.lt_of_lt_of_le h.2.2 hb.size⟩
theorem Sx.set {w : World} {gb : Nat} {t m z : Int} {g : Nat} {v : Value} (h : Sx w gb t m z g v) {b : Nat} (h1 : gb ≠ b) (h2 : g ≠ b) (i : Nat) (x : Value) : Sx (w.setCell ⟨b, i, none⟩ x) gb t m z g v :=
  ⟨h.1.keep (Below.heap_setCell _ _ _ _ h1), (World.cell?_of_block (w := w) (a := ⟨g, 3, none⟩) (Below.heap_setCell _ _ _ _ h2)).trans h.2.1, by rw [size_setCell]; exact h.2.2⟩
theorem push_b {w : World} {v : Value} {l : List V3} {n gx B : Nat} (ho : w.ownsRow B 41 3 v n (vcs l)) (hB : B ≤ w.heap.size) (hn : n ≤ 10000000) (t m z : Int) (hx : Val w gx t m z) (ty : TypeId) :
    ∃ v' w', (Builtin.append_ #[46, 46] ty #[v, .slice (some ⟨gx, 0, none⟩) 1 1]).run Tryd.prog w = .ok v' w' ∧ (∃ a c, v' = .slice a (n + 1) c) ∧ w'.ownsRow B 41 3 v' (n + 1) (vcs (l ++ [(t, m, z)])) ∧ w.grownBy w' v.ownBlock := by
  obtain ⟨i, hi, hz0, hz1, hz2⟩ := info_parts info_val
  obtain ⟨v', w', hr, ho', hg, _, _⟩ := run_append_own_at (P := Tryd.prog) w B 46 ty 41 i _ 3 24 Tryd.underlying46 hi hz0 hz1 hz2 rfl (by decide) v n (vcs l) ho ⟨gx, 0, none⟩ 1 1 (vcs [(t, m, z)]) rfl (fun j u hj => by
    rw [show (⟨gx, 0, none⟩ : Addr).add j = ⟨gx, j, none⟩ by unfold Addr.add; by_cases h : j = 0 <;> simp [h]]
    exact blk_cell hx j u (by simpa [vcs] using hj)) (vcs_one _) (by unfold maxLen; omega) (by omega) hB
  obtain ⟨a, c, e, _⟩ := own_slice ho'
  exact ⟨v', w', hr, ⟨a, c, e⟩, by rw [vcs_app]; exact ho', hg⟩
end Go.Proofs.YtghfjnnmpmfboaaDoor.Ck
