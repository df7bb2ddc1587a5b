/- One more run of the document's arena; no Go text is walked here. -/
import Derived.Test.YtndhgdjcbegjdaaDoorRb
import Derived.Test.YtndhgdjcbegjdaaDoorMarks
import Derived.Deep.MidRow
namespace Go.Proofs.YtndhgdjcbegjdaaDoor.Ck
open Go.RowKit

/-- the pages from f on, c of them, are in no run -/
def FreeH (H : List Rn) (f c : Nat) : Prop := ∀ k, f ≤ k → k < f + c → ∀ x ∈ H, ¬ x.has k

theorem infoRun : (Tryd.prog.info? 50).map (fun i => (i.zero, i.size, i.bytes)) = some (some (.agg #[.int .i64 0, .int .i64 0, .slice none 0 0]), 3, 40) := by kernel_rfl

theorem made_wv (V : Nat → Int) (f c b : Nat) (hV : ∀ i, i < 16 * c → V (16 * f + i) = 0) : madeCells #[.int .i64 0] (16 * c) = wv V ⟨f, c, b⟩ := by
  apply Array.ext
  · simp [madeCells, wv]
  · intro i h1 h2
    have hi : i < 16 * c := by simpa [madeCells] using h1
    simp only [madeCells, wv, Array.getElem_map, List.getElem_toArray, List.getElem_map, List.getElem_range, hV i hi]
    simp [Nat.mod_one]

def newRun (w : World) (f c : Nat) : World := (w.alloc (.cells (madeCells #[.int .i64 0] (16 * c)) 3)).alloc (.cells #[.int .i64 f, .int .i64 c, .slice (some ⟨w.heap.size, 0, none⟩) (16 * c) (16 * c)] 50)

theorem Rm.push {w : World} {gm n : Nat} {v : Value} {H : List Rn} {V : Nat → Int} (h : Rm w gm n v H V) (f c : Nat) (hf : f + c ≤ n) (hl : H.length + 1 ≤ 256) (hV : ∀ i, i < 16 * c → V (16 * f + i) = 0) (ty : TypeId) :
    ∃ v' w3, (Builtin.append_ #[41, 41] ty #[v, .slice (some ⟨w.heap.size + 1, 0, none⟩) 1 1]).run Tryd.prog (newRun w f c) = .ok v' w3 ∧ (w3.cell? ⟨gm, 1, none⟩ = some v ∧ w3.frozen? ⟨gm, 1, none⟩ = false) ∧
      Rm (w3.setCell ⟨gm, 1, none⟩ v') gm n v' (H ++ [⟨f, c, w.heap.size⟩]) V ∧ Ef (blks gm v H) w (w3.setCell ⟨gm, 1, none⟩ v') ∧ ∀ b ∈ blks gm v' (H ++ [⟨f, c, w.heap.size⟩]), b ∈ blks gm v H ∨ w.heap.size ≤ b := by
  obtain ⟨i, hi, hz0, hz1, hz2⟩ := info_parts infoRun
  have hn := h.small
  have hb0 : Below w.heap.size w (newRun w f c) := bel_trans (bel_new w _) (bel_new _ _)
  have h0 : Rm (newRun w f c) gm n v H V := h.below hb0
  have hnew : (newRun w f c).heap[w.heap.size + 1]? = some (.cells #[.int .i64 f, .int .i64 c, .slice (some ⟨w.heap.size, 0, none⟩) (16 * c) (16 * c)] 50 (0, 0)) := by
    have e : (w.alloc (.cells (madeCells #[.int .i64 0] (16 * c)) 3)).heap.size = w.heap.size + 1 := by simp
    rw [← e]
    exact Go.Deep.blk_alloc_new _ _
  have hwd : (newRun w f c).heap[w.heap.size]? = some (.cells (madeCells #[.int .i64 0] (16 * c)) 3 (0, 0)) := by
    unfold newRun
    rw [Below.heap_alloc _ _ _ (by simp)]
    exact Go.Deep.blk_alloc_new _ _
  have hsz : (newRun w f c).heap.size = w.heap.size + 2 := by simp [newRun]
  obtain ⟨v', w3, hr, ho, hg, hnil, hbl⟩ := run_append_own_at (P := Tryd.prog) (newRun w f c) 0 41 ty 50 i _ 3 40 Tryd.underlying41 hi hz0 hz1 hz2 rfl (by decide) v H.length (rv H) h0.own ⟨w.heap.size + 1, 0, none⟩ 1 1
    (rv [⟨f, c, w.heap.size⟩]) rfl (fun j u hu => by
      rw [Addr.add_mid, Nat.zero_add]
      simp only [World.cell?, hnew]
      match j with
      | 0 => exact hu
      | 1 => exact hu
      | 2 => exact hu
      | j + 3 => simp [rv] at hu) (rv_one _) (by unfold maxLen; omega) (by omega) (by omega)
  have hgm : gm < (newRun w f c).heap.size := h0.lt gm (by simp [blks])
  have hgv : v.ownBlock ≠ some gm := fun e => by
    have := h.nd
    simp [blks, e] at this
  have hkeep : ∀ k, k < w.heap.size + 2 → v.ownBlock ≠ some k → w3.heap[k]? = (newRun w f c).heap[k]? := fun k hk hne => hg.block k (by omega) (fun e => hne e.symm)
  have hst : w3.heap[gm]? = some (.cells #[.int .i64 n, v] 43 (0, 0)) := (hkeep gm (by omega) hgv).trans h0.st
  have hlt := h.lt
  have hx : ∀ x ∈ H, v.ownBlock ≠ some x.b := fun x hx e => by
    have := h.nd
    rw [blks, List.nodup_cons, List.nodup_append] at this
    exact this.2.2.2 x.b (by simp [e]) x.b (List.mem_map.2 ⟨x, hx, rfl⟩) rfl
  have hvn : v.ownBlock ≠ some w.heap.size := fun e => by have := own_lt h.own _ e; omega
  have hxgm : ∀ x ∈ H, x.b ≠ gm := fun x hx e => by
    have := h.nd
    rw [blks, List.nodup_cons] at this
    exact this.1 (List.mem_append_right _ (List.mem_map.2 ⟨x, hx, e⟩))
  have hv' : ∀ g, v'.ownBlock = some g → v.ownBlock = some g ∨ g = w.heap.size + 2 := fun g hg' => by
    rcases hbl with e | e
    · left; rw [← e]; exact hg'
    · right; rw [hg', hsz] at e; simpa using e
  have hv'gm : v'.ownBlock ≠ some gm := fun e => by
    rcases hv' gm e with e2 | e2
    · exact hgv e2
    · have := hlt gm (by simp [blks]); omega
  have hset : ∀ k, k ≠ gm → (w3.setCell ⟨gm, 1, none⟩ v').heap[k]? = w3.heap[k]? := fun k hk => Below.heap_setCell _ _ _ _ hk
  refine ⟨v', w3, hr, ⟨by simp [World.cell?, hst], by simp [World.frozen?, hst]⟩, ?_, ?_, ?_⟩
  · refine ⟨hn, ?_, ?_, fun x hx' => ?_, ?_, by simp; omega, fun x hx' => ?_⟩
    · rw [heap_setCell_same _ _ _ _ _ _ hst]; rfl
    · rw [List.length_append, rv_app]
      exact own_keep ho (fun g hg' => hset g (fun e => hv'gm (e ▸ hg')))
    · rcases List.mem_append.1 hx' with hx1 | hx1
      · rw [hset _ (hxgm x hx1), hkeep x.b (by have := hlt x.b (by simp only [blks, List.mem_cons, List.mem_append, List.mem_map]; exact .inr (.inr ⟨x, hx1, rfl⟩)); omega) (hx x hx1)]
        exact h0.wd x hx1
      · obtain rfl := List.mem_singleton.1 hx1
        have := hlt gm (by simp [blks])
        simp only
        rw [hset _ (by omega), hkeep _ (by omega) hvn, hwd]
        rw [made_wv V f c w.heap.size hV]
    · have hnd := h.nd
      rw [blks, List.nodup_cons, List.nodup_append] at hnd
      obtain ⟨n1, n2, n3, n4⟩ := hnd
      have hH : ∀ b ∈ H.map Rn.b, b < w.heap.size := fun b hb => hlt b (by simp only [blks, List.mem_cons, List.mem_append]; exact .inr (.inr hb))
      have hg0 := hlt gm (by simp [blks])
      rw [blks, List.map_append, List.nodup_cons, List.nodup_append, List.nodup_append]
      refine ⟨fun hm => ?_, ?_, ⟨n3, by simp, fun a ha b hb e => ?_⟩, fun a ha b hb e => ?_⟩
      · rcases List.mem_append.1 hm with hm | hm
        · exact hv'gm (by simpa using hm)
        · rcases List.mem_append.1 hm with hm | hm
          · exact n1 (List.mem_append_right _ hm)
          · simp at hm; omega
      · cases v'.ownBlock <;> simp
      · have := hH a ha; simp at hb; omega
      · have ha' : v'.ownBlock = some a := by simpa using ha
        rcases List.mem_append.1 hb with hb | hb
        · rcases hv' a ha' with e2 | e2
          · exact n4 a (by simp [e2]) b hb e
          · have := hH b hb; omega
        · simp at hb
          rcases hv' a ha' with e2 | e2
          · have := own_lt h.own a e2; omega
          · omega
    · rcases List.mem_append.1 hx' with hx1 | hx1
      · exact h.hb x hx1
      · obtain rfl := List.mem_singleton.1 hx1
        exact hf
  · have h1 : Ef (blks gm v H) (newRun w f c) w3 := ⟨hg.os, hg.tape, hg.output, hg.size, fun k hk hs => hg.block k hk (fun e => hs (by simp [blks, ← e]))⟩
    exact ((Ef.of_bel hb0).trans h1).trans ((Ef.set w3 gm 1 v').mono (fun b hb => by simp at hb; simp [blks, hb]))
  · intro b hb
    simp only [blks, List.mem_cons, List.mem_append, Option.mem_toList, List.map_append, List.map_cons, List.map_nil] at hb
    rcases hb with e | e | e | e
    · left; simp [blks, e]
    · rcases hv' b e with e2 | e2
      · left; simp [blks, e2]
      · right; omega
    · left; simp only [blks, List.mem_cons, List.mem_append]; exact .inr (.inr e)
    · simp at e; right; omega

end Go.Proofs.YtndhgdjcbegjdaaDoor.Ck
