/- The document's arena cleared, and a word of it set; no Go text is walked here. -/
import Derived.Test.YtndhgdjcbegjdaaDoorZr
import Derived.Test.YtndhgdjcbegjdaaDoorRg
namespace Go.Proofs.YtndhgdjcbegjdaaDoor.Ck
open Go.RowKit

theorem nd_inj {α β : Type} (g : α → β) {H : List α} (h : (H.map g).Nodup) {x y : α} (hx : x ∈ H) (hy : y ∈ H) (e : g x = g y) : x = y := by
  induction H with
  | nil => cases hx
  | cons a H ih =>
    simp only [List.map_cons, List.nodup_cons] at h
    rcases List.mem_cons.1 hx with ex | hx'
    · rcases List.mem_cons.1 hy with ey | hy'
      · rw [ex, ey]
      · exact absurd (List.mem_map.2 ⟨y, hy', by rw [← e, ex]⟩) h.1
    · rcases List.mem_cons.1 hy with ey | hy'
      · exact absurd (List.mem_map.2 ⟨x, hx', by rw [e, ey]⟩) h.1
      · exact ih h.2 hx' hy'

section
variable {w : World} {gm n : Nat} {v : Value} {H : List Rn} {V : Nat → Int}

theorem Rm.start (w : World) (n : Nat) (hn : n ≤ 256) (V : Nat → Int) : Rm (w.alloc (.cells #[.int .i64 n, .slice none 0 0] 43)) w.heap.size n (.slice none 0 0) [] V :=
  ⟨hn, Go.Deep.blk_alloc_new _ _, ⟨rfl, .inl ⟨rfl, rfl⟩⟩, fun _ h => absurd h List.not_mem_nil, by simp [blks, Value.ownBlock], by simp, fun _ h => absurd h List.not_mem_nil⟩

theorem Rm.clear (h : Rm w gm n v H V) (V' : Nat → Int) : Rm (w.setCell ⟨gm, 1, none⟩ (.slice none 0 0)) gm n (.slice none 0 0) [] V' ∧ Ef (blks gm v H) w (w.setCell ⟨gm, 1, none⟩ (.slice none 0 0)) := by
  refine ⟨⟨h.small, ?_, ⟨rfl, .inl ⟨rfl, rfl⟩⟩, fun _ h => absurd h List.not_mem_nil, by simp [blks, Value.ownBlock], by simp, fun _ h => absurd h List.not_mem_nil⟩, (Ef.set w gm 1 _).mono (fun b hb => by simp at hb; simp [blks, hb])⟩
  rw [heap_setCell_same _ _ _ _ _ _ h.st]; rfl
theorem Rm.runsF (h : Rm w gm n v H V) : w.frozen? ⟨gm, 1, none⟩ = false := by simp [World.frozen?, h.st]

theorem Rm.wordC (h : Rm w gm n v H V) {x : Rn} (hx : x ∈ H) (k : Nat) (hk : k < 16 * x.c) : w.cell? ⟨x.b, k, none⟩ = some (.int .i64 (V (16 * x.f + k))) ∧ w.frozen? ⟨x.b, k, none⟩ = false := by
  have hw := h.wd x hx
  refine ⟨?_, frozen_of_row _ _ _ _ _ hw⟩
  simp only [World.cell?, hw]
  exact wv_at V x k hk

theorem Rm.set (h : Rm w gm n v H V) {x : Rn} (hx : x ∈ H) (k : Nat) (hk : k < 16 * x.c) (z : Int) (hu : ∀ y ∈ H, 16 * y.f ≤ 16 * x.f + k → 16 * x.f + k < 16 * (y.f + y.c) → y = x) :
    Rm (w.setCell ⟨x.b, k, none⟩ (.int .i64 z)) gm n v H (fun j => if j = 16 * x.f + k then z else V j) ∧ Ef (blks gm v H) w (w.setCell ⟨x.b, k, none⟩ (.int .i64 z)) := by
  have hnd := h.nd
  rw [blks, List.nodup_cons, List.nodup_append] at hnd
  obtain ⟨n1, _, n3, n4⟩ := hnd
  have hxb : x.b ∈ H.map Rn.b := List.mem_map.2 ⟨x, hx, rfl⟩
  have oth : ∀ b, b ≠ x.b → (w.setCell ⟨x.b, k, none⟩ (.int .i64 z)).heap[b]? = w.heap[b]? := fun b hb => Below.heap_setCell _ _ _ _ hb
  refine ⟨⟨h.small, ?_, ?_, fun y hy => ?_, h.nd, h.hl, h.hb⟩, (Ef.set w x.b k _).mono (fun b hb => by simp only [List.mem_singleton] at hb; subst hb; simp only [blks, List.mem_cons, List.mem_append]; exact .inr (.inr hxb))⟩
  · rw [oth gm (fun e => n1 (List.mem_append_right _ (e ▸ hxb)))]
    exact h.st
  · exact own_keep h.own (fun g hg => oth g (fun e => n4 g (by simp [hg]) x.b hxb e))
  · by_cases e : y = x
    · subst e
      rw [heap_setCell_same _ _ _ _ _ _ (h.wd y hy)]
      congr 2
      apply Array.ext
      · simp [wv]
      · intro i h1 h2
        have hi : i < 16 * y.c := by simpa [wv] using h2
        rw [Array.getElem_setIfInBounds (by simpa [wv] using hi)]
        simp only [wv, List.getElem_toArray, List.getElem_map, List.getElem_range]
        by_cases e : k = i
        · subst e; simp
        · rw [if_neg e, if_neg (by omega)]
    · have hb : y.b ≠ x.b := fun e2 => e (nd_inj Rn.b n3 hy hx e2)
      rw [oth _ hb, h.wd y hy]
      have e3 : wv V y = wv (fun j => if j = 16 * x.f + k then z else V j) y := by
        unfold wv
        congr 1
        apply List.map_congr_left
        intro i hi
        have hi := List.mem_range.1 hi
        have hne : ¬ 16 * y.f + i = 16 * x.f + k := fun e4 => e (hu y hy (by omega) (by omega))
        simp only [if_neg hne]
      rw [e3]
end

end Go.Proofs.YtndhgdjcbegjdaaDoor.Ck
