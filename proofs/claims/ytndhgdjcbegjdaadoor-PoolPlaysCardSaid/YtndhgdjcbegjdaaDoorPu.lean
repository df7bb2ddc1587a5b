/- The statement's state within one round of its script: with the round's own call in memory; no text of the statement is walked here. -/
import Derived.Test.YtndhgdjcbegjdaaDoorPt
namespace Go.Proofs.YtndhgdjcbegjdaaDoor.Ck
open Go.RowKit

abbrev opCells (K ar at_ z : Int) : Obj := .cells #[.int .i64 K, .int .i64 ar, .int .i64 at_, .int .i64 z] 45 (0, 0)
/-- what a round reads -/
abbrev SC (gl gq ob j : Nat) (l q : Value) (K ar at_ z : Int) (w : World) : Prop :=
  w.cell? ⟨gl, j, none⟩ = some l ∧ w.cell? ⟨gq, j, none⟩ = some q ∧ w.cell? ⟨ob, 0, none⟩ = some (.int .i64 K) ∧ w.cell? ⟨ob, 1, none⟩ = some (.int .i64 ar) ∧ w.cell? ⟨ob, 2, none⟩ = some (.int .i64 at_) ∧ w.cell? ⟨ob, 3, none⟩ = some (.int .i64 z)

structure PO (w wi : World) (c : Cn) (gl cl gq cq k : Nat) (gm : Nat → Nat) (ob : Nat) (K ar at_ z : Int) (R V : Nat → Nat → Int) (vv : Nat → Value) (H : Nat → List Rn) : Prop where
  ps : PS w wi c gl cl gq cq k gm R V vv H
  o : wi.heap[ob]? = some (opCells K ar at_ z)

section
variable {w wi w' : World} {c : Cn} {gl cl gq cq k : Nat} {gm : Nat → Nat} {ob : Nat} {K ar at_ z : Int} {R V : Nat → Nat → Int} {vv : Nat → Value} {H : Nat → List Rn}

theorem PO.below (h : PO w wi c gl cl gq cq k gm ob K ar at_ z R V vv H) (hb : Below wi.heap.size wi w') : PO w w' c gl cl gq cq k gm ob K ar at_ z R V vv H :=
  ⟨h.ps.below hb, (hb.block ob (lt_of_blk h.o)).trans h.o⟩
theorem PO.sc (h : PO w wi c gl cl gq cq k gm ob K ar at_ z R V vv H) {j : Nat} (hj : j < k) : SC gl gq ob j (c.lay j).ptr (.pointer (some ⟨gm j, 0, none⟩)) K ar at_ z wi := by
  have ho := h.o
  exact ⟨h.ps.lcell hj, h.ps.qcell hj, by simp [World.cell?, ho], by simp [World.cell?, ho], by simp [World.cell?, ho], by simp [World.cell?, ho]⟩
theorem PO.make (h : PS w wi c gl cl gq cq k gm R V vv H) (K ar at_ z : Int) : PO w (wi.alloc (opCells K ar at_ z)) c gl cl gq cq k gm wi.heap.size K ar at_ z R V vv H ∧ ∀ j, j < k → ∀ b ∈ blks (gm j) (vv j) (H j), b ≠ wi.heap.size :=
  ⟨⟨h.below (bel_new _ _), Go.Deep.blk_alloc_new _ _⟩, fun j hj b hb e => by have := (h.rm j hj).lt b hb; omega⟩

theorem PO.do_ (h : PO w wi c gl cl gq cq k gm ob K ar at_ z R V vv H) {j : Nat} (hj : j < k) (hob : ∀ j, j < k → ∀ b ∈ blks (gm j) (vv j) (H j), b ≠ ob) (hU : c.U ≤ ob) (p : List Addr) (hN : ∀ w', Below w.heap.size w w' → Errs17 w' p) (hz : fit z) :
    Calls Tryd.prog 13 #[(c.lay j).ptr, .pointer (some ⟨gm j, 0, none⟩), .agg #[.int .i64 K, .int .i64 ar, .int .i64 at_, .int .i64 z]] wi fun e w' => e = .returned (.bool true) ∧ ∃ R' V' vv' H', PO w w' c gl cl gq cq k gm ob K ar at_ z R' V' vv' H' := by
  refine (do_any (h.ps.pr hj) K ar at_ z p (fun w' u => hN w' (h.ps.bel.trans (h.ps.ed_bel hj u))) hz).mono ?_
  rintro e w' ⟨rfl, hK⟩
  obtain ⟨R', V', vv', H', h'⟩ := h.ps.kept hj hK
  have h1 := h.ps.up
  have h2 := h1.2.2.2 j (Nat.lt_of_lt_of_le hj h.ps.kl)
  refine ⟨rfl, R', V', vv', H', h', (hK.ed.blk ob (lt_of_blk h.o) ?_ ?_ (fun hb => hob j hj _ hb rfl)).trans h.o⟩
  · show ob ≠ c.rb j
    omega
  · show ob ≠ c.pb
    omega
theorem PO.used (h : PO w wi c gl cl gq cq k gm ob K ar at_ z R V vv H) {j : Nat} (hj : j < k) :
    ∃ u : Nat, u ≤ 256 ∧ (∀ w2, PO w w2 c gl cl gq cq k gm ob K ar at_ z R V vv H → Calls Tryd.prog 14 #[(c.lay j).ptr] w2 fun e w' => e = .returned (.int .i64 u) ∧ PO w w' c gl cl gq cq k gm ob K ar at_ z R V vv H) ∧
      ∀ w2, PO w w2 c gl cl gq cq k gm ob K ar at_ z R V vv H → Calls Tryd.prog 15 #[.pointer (some ⟨gm j, 0, none⟩)] w2 fun e w' => e = .returned (.int .i64 u) ∧ PO w w' c gl cl gq cq k gm ob K ar at_ z R V vv H := by
  have hn := (h.ps.rm j hj).small
  refine ⟨uc (R j) (sh c.s j), Nat.le_trans (uc_le _ _) hn, fun w2 h2 => (used_any (c.lay j) (R j) (V j) w2 (h2.ps.is.ar j (Nat.lt_of_lt_of_le hj h.ps.kl))).mono ?_, fun w2 h2 => (h2.ps.rm j hj).used_.mono ?_⟩
  · rintro e w' ⟨rfl, rfl⟩
    exact ⟨rfl, h2⟩
  · rintro e w' ⟨rfl, hb⟩
    rw [psum_sum, ← (h.ps.wrs j hj).sum]
    exact ⟨rfl, h2.below hb⟩
/-- Find of the document, and what Size of the program then is -/
theorem PO.find (h : PO w wi c gl cl gq cq k gm ob K ar at_ z R V vv H) {j : Nat} (hj : j < k) :
    Calls Tryd.prog 16 #[.pointer (some ⟨gm j, 0, none⟩), .int .i64 at_] wi fun e w' => PO w w' c gl cl gq cq k gm ob K ar at_ z R V vv H ∧
      ∃ i y : Int, e = .returned (.int .i64 i) ∧ (∀ w2, PO w w2 c gl cl gq cq k gm ob K ar at_ z R V vv H → Calls Tryd.prog 17 #[(c.lay j).ptr, .int .i64 at_] w2 fun e w' => e = .returned (.int .i64 (y * 16)) ∧ PO w w' c gl cl gq cq k gm ob K ar at_ z R V vv H) ∧
        ((i = -1 ∧ y = 0) ∨ ∃ (n : Nat) (x : Rn) (b cap : Nat), i = n ∧ n < (H j).length ∧ (H j).length ≤ 256 ∧ y = x.c ∧ x.c ≤ 256 ∧ (H j).length ≤ cap ∧ cap ≤ maxLen ∧ vv j = .slice (some ⟨b, 0, none⟩) (H j).length cap ∧
          ∀ w2, PO w w2 c gl cl gq cq k gm ob K ar at_ z R V vv H → w2.cell? ⟨gm j, 1, none⟩ = some (.slice (some ⟨b, 0, none⟩) (H j).length cap) ∧ w2.cell? ⟨b, n * 3 + 1, none⟩ = some (.int .i64 x.c)) := by
  refine ((h.ps.rm j hj).find_ at_).mono ?_
  rintro e w' ⟨⟨i, rfl, hi⟩, hb⟩
  have hW := h.ps.wrs j hj
  have hsz : ∀ w2, PO w w2 c gl cl gq cq k gm ob K ar at_ z R V vv H → Calls Tryd.prog 17 #[(c.lay j).ptr, .int .i64 at_] w2 fun e w' => (∃ f t : Nat, e = .returned (.int .i64 (((t : Int) - f) * 16)) ∧ RunOf (R j) (sh c.s j) at_ f t) ∧ PO w w' c gl cl gq cq k gm ob K ar at_ z R V vv H := fun w2 h2 => by
    refine (size_any (c.lay j) (R j) (V j) at_ w2 (h2.ps.is.ar j (Nat.lt_of_lt_of_le hj h.ps.kl))).mono ?_
    rintro e w3 ⟨h1, n, rfl⟩
    exact ⟨h1, h2.below (below_drewN (Below.refl _ _) n)⟩
  rcases id hi with ⟨rfl, hno⟩ | ⟨n, hn, rfl, hat, _⟩
  · refine ⟨h.below hb, -1, 0, rfl, fun w2 h2 => (hsz w2 h2).mono ?_, .inl ⟨rfl, rfl⟩⟩
    rintro e w3 ⟨⟨f, t, rfl, hr⟩, h3⟩
    rcases hW.runOf hr hi with ⟨_, e⟩ | ⟨m, e, _⟩
    · subst e
      exact ⟨by simp, h3⟩
    · omega
  · have hx : rat (H j) n ∈ H j := List.mem_of_getElem? (rat_at (H j) n hn)
    have hp := hW.pos _ hx
    have hs := (h.ps.rm j hj).small
    obtain ⟨a, cap, hv, hc1, hc2, hR⟩ := (h.ps.rm j hj).slice
    obtain ⟨_, b, rfl, _⟩ := hR n hn
    refine ⟨h.below hb, n, (rat (H j) n).c, rfl, fun w2 h2 => (hsz w2 h2).mono ?_, .inr ⟨n, rat (H j) n, b, cap, rfl, hn, (h.ps.rm j hj).hl, rfl, by omega, hc1, hc2, hv, fun w2 h2 => ?_⟩⟩
    · rintro e w3 ⟨⟨f, t, rfl, hr⟩, h3⟩
      rcases hW.runOf hr hi with ⟨e, _⟩ | ⟨m, e, _, e1, e2, _⟩
      · omega
      · obtain rfl : n = m := by omega
        refine ⟨?_, h3⟩
        rw [e1, e2]
        congr 2
        omega
    · have hM := h2.ps.rm j hj
      obtain ⟨a2, cap2, hv2, _, _, hR2⟩ := hM.slice
      rw [hv] at hv2
      cases hv2
      obtain ⟨_, b2, e2, _, _, c1, _⟩ := hR2 n hn
      cases e2
      exact ⟨hv ▸ hM.runsC, c1⟩
end

end Go.Proofs.YtndhgdjcbegjdaaDoor.Ck
