/- A code that is made one instruction after another, in memory. No Go text is walked here. -/
import Derived.Test.YtidjbgemnohbnaaDoorQdQ
import Derived.Test.YtidjbgemnohbnaaDoorQfQ
namespace Go.Proofs.YtidjbgemnohbnaaDoor.Ck
open Go.RowKit

/-- some instructions more -/
theorem pushL {w : World} {B : Nat} {v : Value} {l xs : List In5} {n : Nat} (h : OwnB w B v l) (hn : n = xs.length) (b c : Nat) (hb : w.heap[b]? = some (.cells (insL xs).toArray 44 (0, 0))) (hl : l.length + xs.length ≤ 100000) (hB : B ≤ w.heap.size) (ty : TypeId) :
    ∃ v' w', (Builtin.append_ #[25, 25] ty #[v, .slice (some ⟨b, 0, none⟩) n c]).run Tryd.prog w = .ok v' w' ∧ (OwnB w' B v' (l ++ xs) ∧ Below B w w') := by
  subst hn
  obtain ⟨ie, hi, hz0, hz1, hz2⟩ := info_parts info_ins
  have hn : ∀ j u, (insL xs)[j]? = some u → w.cell? ((⟨b, 0, none⟩ : Addr).add j) = some u := fun j u hu => by
    have e2 : (Addr.mk b 0 none).add j = ⟨b, j, none⟩ := by unfold Addr.add; by_cases h : j = 0 <;> simp [h]
    rw [e2]
    exact blk_cell hb j u (by rw [← hu]; simp)
  obtain ⟨v', w', hr, ho, hg, _⟩ := run_append_own (P := Tryd.prog) w B 25 ty 44 ie (.agg #[.int .i64 0, .int .i64 0, .int .i64 0, .int .u64 0, .int .i64 0]) 5 40 Tryd.underlying25 hi hz0 hz1 hz2 rfl (by decide) v l.length (insL l) h ⟨b, 0, none⟩ xs.length c (insL xs) (insL_len xs) hn (insL_one xs) (by unfold maxLen; omega) (by omega) hB
  have hown : ∀ k, v.ownBlock = some k → B ≤ k := fun k hk => (own_type h hk).1
  refine ⟨v', w', hr, ?_, hg.os, hg.tape, hg.output, hg.size, fun k hk => hg.block k (by omega) (fun e => by have := hown k e.symm; omega)⟩
  unfold OwnB
  rw [insL_app, List.length_append]
  exact ho
/-- the code that is made: its variable, two blocks behind, and what it has -/
structure SG (w wr : World) (v : Value) (L : List In5) : Prop where
  pl : wr.heap[w.heap.size]? = some (.cells #[.int .i64 1] 3 (0, 0))
  fn : wr.heap[w.heap.size + 1]? = some (.cells #[.int .i64 0, .int .i64 0, .slice none 0 0] 46 (0, 0))
  at_ : wr.heap[w.heap.size + 1 + 1]? = some (.cells #[.slice (some ⟨w.heap.size, 0, none⟩) 1 1, .int .i64 0, .int .i64 0, .slice none 0 0, .slice (some ⟨w.heap.size + 1, 0, none⟩) 1 1, .int .i64 0, v] 27 (0, 0))
  own : OwnB wr (w.heap.size + 3) v L
  bel : Below w.heap.size w wr
theorem SG.push {w wr wz : World} {v v' : Value} {L L' : List In5} (h : SG w wr v L) (ho : OwnB wz (w.heap.size + 3) v' L') (hb : Below (w.heap.size + 3) wr wz) : SG w (wz.setCell ⟨w.heap.size + 1 + 1, 6, none⟩ v') v' L' := by
  have hs := lt_of_blk h.at_
  have k0 := (hb.block _ (by omega)).trans h.pl
  have k1 := (hb.block _ (by omega)).trans h.fn
  have k2 := (hb.block _ (by omega)).trans h.at_
  have hz := hb.size
  have hst := size_setCell wz ⟨w.heap.size + 1 + 1, 6, none⟩ v'
  refine ⟨(Below.heap_setCell _ _ _ _ (show w.heap.size ≠ w.heap.size + 1 + 1 by omega)).trans k0, (Below.heap_setCell _ _ _ _ (show w.heap.size + 1 ≠ w.heap.size + 1 + 1 by omega)).trans k1, ?_, ?_, ?_⟩
  · have := heap_setCell_same wz (w.heap.size + 1 + 1) 6 _ _ v' k2
    simpa using this
  · exact own_keep ho fun k hk => Below.heap_setCell _ _ _ _ (fun e => by have h1 := (own_type ho hk).1; have e' : k = w.heap.size + 1 + 1 := e; omega)
  · refine ⟨hb.os.trans h.bel.os, hb.tape.trans h.bel.tape, hb.output.trans h.bel.output, ?_, fun k hk => ?_⟩
    · rw [hst]
      exact Nat.le_trans h.bel.size hb.size
    · exact (Below.heap_setCell _ _ _ _ (show k ≠ w.heap.size + 1 + 1 by omega)).trans ((hb.block k (by omega)).trans (h.bel.block k hk))
theorem SG.cv {w wr : World} {v : Value} {L : List In5} (h : SG w wr v L) (hl : L.length ≤ 100000) (hI : ∀ x ∈ L, InX x) : Cv wr (.slice (some ⟨w.heap.size, 0, none⟩) 1 1) (.slice none 0 0) (.slice (some ⟨w.heap.size + 1, 0, none⟩) 1 1) v (oneP L) := by
  have hF := h.fn
  refine ⟨⟨by show 1 ≤ _; omega, Nat.zero_le _, by show 1 ≤ _; omega, by show L.length ≤ _; omega, fun f hf => ?_, hI, fun h hh => by cases hh⟩, ?_, SlC.nilS wr, ?_, h.own.sl hl⟩
  · simp [oneP] at hf
    subst hf
    exact Nat.zero_le _
  · refine ⟨fun z hz => ?_, some ⟨w.heap.size, 0, none⟩, 1, rfl, Nat.le_refl _, by unfold maxLen; omega, fun i hi => ?_⟩
    · simp [oneP] at hz
      subst hz
      decide
    · obtain rfl : i = 0 := by simp [oneP] at hi; omega
      exact ⟨w.heap.size, 0, rfl, lt_of_blk h.pl, blk_cell h.pl 0 _ rfl⟩
  · refine ⟨some ⟨w.heap.size + 1, 0, none⟩, 1, rfl, Nat.le_refl _, by unfold maxLen; omega, fun i hi => ?_⟩
    obtain rfl : i = 0 := by simp [oneP] at hi; omega
    exact ⟨w.heap.size + 1, 0, .slice none 0 0, rfl, lt_of_blk hF, blk_cell hF 0 _ rfl, blk_cell hF 1 _ rfl, blk_cell hF 2 _ rfl, Sl.nilS wr⟩
end Go.Proofs.YtidjbgemnohbnaaDoor.Ck
