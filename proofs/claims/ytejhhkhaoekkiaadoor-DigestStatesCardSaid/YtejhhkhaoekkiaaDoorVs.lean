/- Slices of pointers and of slices, of the call's own, by the values that they hold; append on them; no Go text is walked here. -/
import Derived.Test.YtejhhkhaoekkiaaDoorRowEq
import Derived.Maps.AppendAt
namespace Go.Proofs.YtejhhkhaoekkiaaDoor.Ck
open Go.RowKit

/-- the slice of block g, of the call's own, with room for cap, holds the values vs -/
def OwnV (TE : TypeId) (w : World) (B g cap : Nat) (vs : List Value) : Prop := w.ownsRow B TE 1 (.slice (some ⟨g, 0, none⟩) vs.length cap) vs.length vs

theorem OwnV.parts {TE : TypeId} {w : World} {B g cap : Nat} {vs : List Value} (h : OwnV TE w B g cap vs) :
    ∃ cur : Array Value, B ≤ g ∧ w.heap[g]? = some (.cells cur TE (0, 0)) ∧ vs.length ≤ cap ∧ cap ≤ maxLen ∧ cur.size = cap ∧ cur.toList.take vs.length = vs := by
  rcases h.2 with ⟨h, _⟩ | ⟨g', cap', cur, h, hbg, hg, hnc, hcm, hcs, htake⟩
  · simp at h
  · simp only [Value.slice.injEq, Option.some.injEq, Addr.mk.injEq, and_true, true_and] at h
    obtain ⟨rfl, rfl⟩ := h
    exact ⟨cur, hbg, hg, hnc, hcm, by simpa using hcs, by simpa using htake⟩
theorem OwnV.mk {TE : TypeId} {w : World} {B g cap : Nat} {vs : List Value} (cur : Array Value) (h1 : B ≤ g) (h2 : w.heap[g]? = some (.cells cur TE (0, 0))) (h3 : vs.length ≤ cap) (h4 : cap ≤ maxLen) (h5 : cur.size = cap) (h6 : cur.toList.take vs.length = vs) : OwnV TE w B g cap vs :=
  ⟨by simp, .inr ⟨g, cap, cur, rfl, h1, h2, h3, h4, by simpa using h5, by simpa using h6⟩⟩
theorem OwnV.ge {TE : TypeId} {w : World} {B g cap : Nat} {vs : List Value} (h : OwnV TE w B g cap vs) : B ≤ g := by obtain ⟨_, h1, _⟩ := h.parts; exact h1
theorem OwnV.lt {TE : TypeId} {w : World} {B g cap : Nat} {vs : List Value} (h : OwnV TE w B g cap vs) : g < w.heap.size := by obtain ⟨_, _, h1, _⟩ := h.parts; exact (Array.getElem?_eq_some_iff.1 h1).1
theorem OwnV.cell {TE : TypeId} {w : World} {B g cap : Nat} {vs : List Value} (h : OwnV TE w B g cap vs) (i : Nat) (v : Value) (hv : vs[i]? = some v) : w.cell? ⟨g, i, none⟩ = some v := by
  obtain ⟨cur, _, hg, hnc, _, hcs, ht⟩ := h.parts
  have hi : i < vs.length := (List.getElem?_eq_some_iff.1 hv).1
  have e : (cur.toList.take vs.length)[i]? = vs[i]? := by rw [ht]
  rw [List.getElem?_take_of_lt hi, hv] at e
  simp only [World.cell?, hg]
  rw [← Array.getElem?_toList]
  exact e
theorem OwnV.frozen {TE : TypeId} {w : World} {B g cap : Nat} {vs : List Value} (h : OwnV TE w B g cap vs) (i : Nat) : w.frozen? ⟨g, i, none⟩ = false := by
  obtain ⟨cur, _, hg, _⟩ := h.parts
  exact frozen_of_row w g i _ TE hg
theorem OwnV.below {TE : TypeId} {w w' : World} {B g cap : Nat} {vs : List Value} (h : OwnV TE w B g cap vs) (hb : Below w.heap.size w w') : OwnV TE w' B g cap vs := by
  obtain ⟨cur, h1, hg, h3, h4, h5, h6⟩ := h.parts
  exact OwnV.mk cur h1 ((hb.block g (Array.getElem?_eq_some_iff.1 hg).1).trans hg) h3 h4 h5 h6
theorem OwnV.tn {TE : TypeId} {w w' : World} {B g cap x : Nat} {vs : List Value} (h : OwnV TE w B g cap vs) (hb : Tn x w w') (hx : g ≠ x) : OwnV TE w' B g cap vs := by
  obtain ⟨cur, h1, hg, h3, h4, h5, h6⟩ := h.parts
  exact OwnV.mk cur h1 ((hb.blk g (Array.getElem?_eq_some_iff.1 hg).1 hx).trans hg) h3 h4 h5 h6
theorem OwnV.one {TE : TypeId} (w : World) (v : Value) {B : Nat} (hB : B ≤ w.heap.size) : OwnV TE (w.alloc (.cells #[v] TE)) B w.heap.size 1 [v] :=
  OwnV.mk _ hB (Go.Deep.blk_alloc_new _ _) (by simp) (by unfold maxLen; omega) (by simp) (by simp)
theorem OwnV.set {TE : TypeId} {w : World} {B g cap : Nat} {vs : List Value} (h : OwnV TE w B g cap vs) (i : Nat) (v : Value) : OwnV TE (w.setCell ⟨g, i, none⟩ v) B g cap (vs.set i v) ∧ Tn g w (w.setCell ⟨g, i, none⟩ v) := by
  obtain ⟨cur, h1, hg, h3, h4, h5, h6⟩ := h.parts
  refine ⟨OwnV.mk (cur.setIfInBounds i v) h1 (heap_setCell_same w g i _ TE _ hg) (by simpa using h3) h4 (by simpa using h5) ?_, rfl, rfl, rfl, by rw [size_setCell]; exact Nat.le_refl _, fun k _ hk => Below.heap_setCell _ _ _ _ hk⟩
  rw [List.length_set, Array.toList_setIfInBounds, List.take_set, h6]

/-- one more -/
theorem pushV {TS TE : TypeId} {z : Value} {bytes : Nat} (hu : Tryd.prog.underlying TS = some (.slice TE)) (hinfo : (Tryd.prog.info? TE).map (fun i => (i.zero, i.size, i.bytes)) = some (some z, 1, bytes)) (hz : z.cells.size = 1) (hby : bytes ≤ 24)
    {w : World} {B g cap gx n : Nat} {vs : List Value} {x : Value} (ty : TypeId) (h : OwnV TE w B g cap vs) (hn : n = vs.length) (hx : w.cell? ⟨gx, 0, none⟩ = some x) (h1 : x.oneCell' = true) (hlen : n + 1 ≤ 1000) (hB : B ≤ w.heap.size) :
    ∃ v' w', (Builtin.append_ #[TS, TS] ty #[.slice (some ⟨g, 0, none⟩) n cap, .slice (some ⟨gx, 0, none⟩) 1 1]).run Tryd.prog w = .ok v' w' ∧
      ((∃ g' cap', v' = .slice (some ⟨g', 0, none⟩) (n + 1) cap' ∧ OwnV TE w' B g' cap' (vs ++ [x]) ∧ (g' = g ∨ g' = w.heap.size)) ∧ Tn g w w') := by
  subst hn
  obtain ⟨i, hi, hz0, hz1, hz2⟩ := info_parts hinfo
  obtain ⟨v', w', hr, ho, hg, hnil, hbl⟩ := run_append_own_at (P := Tryd.prog) w B TS ty TE i z 1 bytes hu hi hz0 hz1 hz2 hz (by decide) (.slice (some ⟨g, 0, none⟩) vs.length cap) vs.length vs h ⟨gx, 0, none⟩ 1 1 [x] rfl
    (fun j q hq => by
      cases j with
      | zero =>
        simp only [List.getElem?_cons_zero, Option.some.injEq] at hq
        subst hq
        rw [Addr.add_mid, Nat.zero_add]
        exact hx
      | succ j => simp at hq) (fun u hu' => by simp at hu'; subst hu'; exact h1) (by unfold maxLen; omega) (by
        have : (vs.length + 1) * bytes ≤ 1000 * 24 := Nat.mul_le_mul hlen hby
        omega) hB
  have ht : Tn g w w' := ⟨hg.1, hg.2, hg.3, hg.4, fun k hk hgk => hg.5 k hk (by simpa [Value.ownBlock] using hgk)⟩
  refine ⟨v', w', hr, ?_, ht⟩
  have ho2 := ho
  rcases ho.2 with ⟨h1', _⟩ | ⟨g', cap', cur, h1', _⟩
  · have := hnil.1 h1'
    simp at this
  · refine ⟨g', cap', h1', ?_, ?_⟩
    · unfold OwnV
      rw [List.length_append]
      rw [h1'] at ho2
      exact ho2
    · rw [h1'] at hbl
      rcases hbl with e | e
      · left
        simpa [Value.ownBlock] using e
      · right
        simpa [Value.ownBlock] using e

end Go.Proofs.YtejhhkhaoekkiaaDoor.Ck
