/- The contract of the statements' own alive: the chapter's examples. -/
import Derived.Test.YtpeebpnoldadjaaDoorTw
namespace Go.Proofs.YtpeebpnoldadjaaDoor.Ck
open Go.RowKit

theorem read1 : readF ⟨#[120, 58, 61, 49, 59]⟩ = .ok [⟨1, ⟨#[120]⟩, 0, 0, 0⟩, ⟨5, ⟨#[58, 61]⟩, 0, 0, 1⟩, ⟨3, ⟨#[49]⟩, 1, 0, 3⟩, ⟨5, ⟨#[59]⟩, 0, 0, 4⟩] := by kernel_rfl
theorem read2 : readF ⟨#[48, 49]⟩ = .bad 1 1 := by kernel_rfl

/-- the package's errors and the library's, and no block of a variable's is a new one -/
structure Ev (w : World) (p : List Addr) : Prop where
  errs : Errs17 w p
  cs : ∃ te pe, w.cell? ⟨19, 0, none⟩ = some (.iface te pe)
  big : 23 ≤ w.heap.size
theorem Ev.er {w : World} {p : List Addr} (h : Ev w p) : Er w p := ⟨h.errs.cell 0 (by omega), h.errs.cell 1 (by omega), h.errs.cell 5 (by omega), h.cs⟩
theorem Ev.bel {w w' : World} {p : List Addr} (h : Ev w p) (hb : Below w.heap.size w w') : Ev w' p := by
  obtain ⟨te, pe, hs⟩ := h.cs
  exact ⟨h.errs.below (Nat.le_refl _) hb, ⟨te, pe, (hb.cell (p := ⟨19, 0, none⟩) (World.block_lt_of_cell? w _ hs)).trans hs⟩, Nat.le_trans h.big hb.size⟩
theorem OwnT.at {w : World} {B : Nat} {v : Value} {ts : List Tk} (h : OwnT w B v ts) (hne : ts ≠ []) :
    ∃ g cap, v = .slice (some ⟨g, 0, none⟩) ts.length cap ∧ g < w.heap.size ∧ B ≤ g ∧ ts.length ≤ cap ∧ cap ≤ maxLen ∧ ∀ j u, (toks ts)[j]? = some u → w.cell? ⟨g, j, none⟩ = some u := by
  rcases h.2 with ⟨_, h0⟩ | ⟨g, cap, cur, rfl, hB, hg, h1, h2, h3, h4⟩
  · exact absurd (List.length_eq_zero_iff.1 h0) hne
  · refine ⟨g, cap, rfl, lt_of_blk hg, hB, h1, h2, fun j u hu => blk_cell hg j u ?_⟩
    rw [← h4] at hu
    have hj : j < ts.length * 5 := by
      have := (List.getElem?_eq_some_iff.1 hu).1
      rw [List.length_take] at this
      omega
    rw [List.getElem?_take_of_lt hj] at hu
    rw [← Array.getElem?_toList]
    exact hu

set_option maxHeartbeats 1000000 in
theorem alive_any (p : List Addr) (w : World) (he : Ev w p) :
    Calls Tryd.prog 9 #[] w fun e w' => e = .returned (.bool true) ∧ Below w.heap.size w w' := by
  have R1 := hide read1
  have R2 := hide read2
  go_enter Tryd.func9, Tryd.ntmps9
  go_wp2_with fail
  refine (tokens_any _ p w he.er he.big (by decide)).mono ?_
  intro e w1 hp
  rw [R1.out] at hp
  obtain ⟨v, rfl, ho, hb1⟩ := hp
  obtain ⟨g, cap, rfl, hg, _, hc1, hc2, hc⟩ := ho.at (by simp)
  have a1 := hc 6 _ rfl
  have a2 := hc 12 _ rfl
  have a3 := hc 19 _ rfl
  have e1 := he.bel hb1
  simp only [List.length_cons, List.length_nil, Nat.zero_add, Nat.reduceAdd] at *
  unfold maxLen at hc2
  clear hc ho
  go_wp2_with fail
  have hb2 := bel_new w1 (.cells #[.nilIface, .int .i64 0] 27)
  have k2 : (w1.alloc (.cells #[.nilIface, .int .i64 0] 27)).heap[w1.heap.size]? = some (.cells #[.nilIface, .int .i64 0] 27 (0, 0)) := Go.Deep.blk_alloc_new _ _
  have B2 := bel_trans hb1 hb2
  have e2 := e1.bel hb2
  have d1 := (hb2.cell (p := ⟨g, 6, none⟩) hg).trans a1
  have d2 := (hb2.cell (p := ⟨g, 12, none⟩) hg).trans a2
  have d3 := (hb2.cell (p := ⟨g, 19, none⟩) hg).trans a3
  have hg2 := Nat.lt_of_lt_of_le hg hb2.size
  clear a1 a2 a3 hb1 hb2 e1 hg
  generalize w1.alloc (.cells #[.nilIface, .int .i64 0] 27) = w2 at *
  generalize w1.heap.size = n1 at *
  refine (tokens_any _ p w2 e2.er e2.big (by decide)).mono ?_
  intro e w3 hp
  rw [R2.out] at hp
  obtain ⟨rfl, hb3⟩ := hp
  have hb4 := bel_new w3 (.cells #[errV p 1, .int .i64 1] 27)
  have B34 := bel_trans hb3 hb4
  have k4 : (w3.alloc (.cells #[errV p 1, .int .i64 1] 27)).heap[w3.heap.size]? = some (.cells #[errV p 1, .int .i64 1] 27 (0, 0)) := Go.Deep.blk_alloc_new _ _
  have k2' := (B34.block _ (lt_of_blk k2)).trans k2
  have a1 := (B34.cell (p := ⟨g, 6, none⟩) hg2).trans d1
  have a2 := (B34.cell (p := ⟨g, 12, none⟩) hg2).trans d2
  have a3 := (B34.cell (p := ⟨g, 19, none⟩) hg2).trans d3
  have c0 := blk_cell k2' 0 _ rfl
  have c1 := blk_cell k2' 1 _ rfl
  have c2 := blk_cell k4 0 _ rfl
  have c3 := blk_cell k4 1 _ rfl
  have E4 := hide (e2.bel B34).errs
  have B4 := hide (bel_trans B2 B34)
  have HL := hide (lt_of_blk k4)
  clear k2 k2' k4 hb3 hb4 B34 B2 e2 d1 d2 d3
  go_wp2_with (first | (go_at_call 11; refine (num_err p 1 _ E4.out (by omega)).mono ?_; rintro e w5 ⟨rfl, hb5⟩; have c5 := (hb5.cell (p := ⟨w3.heap.size, 1, none⟩) HL.out).trans c3))
  go_ret
  exact ⟨rfl, bel_trans B4.out hb5⟩

end Go.Proofs.YtpeebpnoldadjaaDoor.Ck
