/- Rows of tokens in memory, one at a time; where errors are told: no Go text is walked here. -/
import Derived.Test.YtpeebpnoldadjaaDoorSz
namespace Go.Proofs.YtpeebpnoldadjaaDoor.Ck
open Go.RowKit

theorem tokF_bad {s : ByteArray} {i : Nat} (h : i < s.size) {k j : Nat} (ht : tokF s i = .bad k j) : k < 17 ∧ j ≤ s.size := by
  unfold tokF at ht
  split at ht
  · unfold wordF at ht
    split at ht
    · cases ht; omega
    · cases ht
  · split at ht
    · rename_i hd
      have he := endI_gt s i h hd
      unfold intF at ht
      split at ht
      · split at ht
        · cases ht; omega
        · cases ht
      · cases ht; omega
    · split at ht
      · have := overH_le s i (i + 1) (by omega)
        unfold floatF at ht
        split at ht
        · split at ht
          · cases ht; omega
          · cases ht
        · cases ht; omega
      · unfold signF at ht
        split at ht
        · cases ht; omega
        · cases ht
theorem rdF_at {s : ByteArray} {i : Nat} {acc : List Tk} {k j : Nat} (h : rdF s i acc = .bad k j) : k < 17 ∧ j ≤ s.size := by
  by_cases h1 : i < s.size
  · by_cases h2 : acc.length = 2000
    · rw [rdF_full h1 h2] at h
      cases h
      omega
    · cases hq : tokF s i with
      | bad k' j' =>
        rw [rdF_bad h1 h2 hq] at h
        cases h
        exact tokF_bad h1 hq
      | ok t e =>
        have h3 := tokF_ok h1 hq
        have h4 := blF_ge s e
        rw [rdF_step h1 h2 hq] at h
        exact rdF_at h
  · rw [rdF_end h1] at h
    cases h
termination_by s.size - i
theorem readF_at {s : ByteArray} {k j : Nat} (h : readF s = .bad k j) : k < 17 ∧ j ≤ s.size := rdF_at h

theorem tokF_pos {s : ByteArray} {i : Nat} {t : Tk} {e : Nat} (ht : tokF s i = .ok t e) : t.pos = i ∧ t.text = cut s i e := by
  unfold tokF at ht
  split at ht
  · unfold wordF at ht
    split at ht
    · cases ht
    · cases ht; exact ⟨rfl, rfl⟩
  · split at ht
    · unfold intF at ht
      split at ht
      · split at ht
        · cases ht
        · cases ht; exact ⟨rfl, rfl⟩
      · cases ht
    · split at ht
      · unfold floatF at ht
        split at ht
        · split at ht
          · cases ht
          · cases ht; exact ⟨rfl, rfl⟩
        · cases ht
      · unfold signF at ht
        split at ht
        · cases ht
        · cases ht; exact ⟨rfl, rfl⟩
theorem rdF_pos {s : ByteArray} {i : Nat} {acc ts : List Tk} (ha : ∀ t ∈ acc, t.pos ≤ s.size) (h : rdF s i acc = .ok ts) : ∀ t ∈ ts, t.pos ≤ s.size := by
  by_cases h1 : i < s.size
  · by_cases h2 : acc.length = 2000
    · rw [rdF_full h1 h2] at h
      cases h
    · cases hq : tokF s i with
      | bad k' j' =>
        rw [rdF_bad h1 h2 hq] at h
        cases h
      | ok t e =>
        have h3 := tokF_ok h1 hq
        have h4 := blF_ge s e
        rw [rdF_step h1 h2 hq] at h
        refine rdF_pos (fun u hu => ?_) h
        rcases List.mem_append.1 hu with hu | hu
        · exact ha u hu
        · simp at hu
          rw [hu, (tokF_pos hq).1]
          omega
  · rw [rdF_end h1] at h
    cases h
    exact ha
termination_by s.size - i
theorem readF_pos {s : ByteArray} {ts : List Tk} (h : readF s = .ok ts) : ∀ t ∈ ts, t.pos ≤ s.size := rdF_pos (fun _ h => by cases h) h

def noTk : Tk := ⟨0, ⟨#[]⟩, 0, 0, 0⟩
/-- a token of place x lies at these five cells -/
structure TkAt (w : World) (g o : Nat) (t : Tk) (x : Int) : Prop where
  c0 : w.cell? ⟨g, o, none⟩ = some (.int .i64 t.kind)
  c1 : w.cell? ⟨g, o + 1, none⟩ = some (.string t.text)
  c2 : w.cell? ⟨g, o + 2, none⟩ = some (.int .i64 t.n)
  c3 : w.cell? ⟨g, o + 3, none⟩ = some (.int .u64 t.bits)
  c4 : w.cell? ⟨g, o + 4, none⟩ = some (.int .i64 x)
theorem toks_get : ∀ (ts : List Tk) (j f : Nat), j < ts.length → f < 5 → (toks ts)[j * 5 + f]? = (Tk.cells (ts.getD j noTk))[f]?
  | [], _, _, h, _ => absurd h (Nat.not_lt_zero _)
  | t :: ts, 0, f, _, hf => by
    have e : toks (t :: ts) = Tk.cells t ++ toks ts := by unfold toks; rw [List.flatMap_cons]
    rw [e, List.getElem?_append_left (by simp [Tk.cells]; omega)]
    simp
  | t :: ts, j + 1, f, h, hf => by
    have e : toks (t :: ts) = Tk.cells t ++ toks ts := by unfold toks; rw [List.flatMap_cons]
    have hl : (Tk.cells t).length = 5 := rfl
    rw [e, List.getElem?_append_right (by rw [hl]; omega), hl, show (j + 1) * 5 + f - 5 = j * 5 + f by omega, toks_get ts j f (by simpa using h) hf]
    simp
/-- the tokens ts lie in block g -/
structure Rowt (w : World) (g : Nat) (ts : List Tk) : Prop where
  blk : ∃ cur, w.heap[g]? = some (.cells cur 37 (0, 0)) ∧ ts.length * 5 ≤ cur.size
  tok : ∀ j, j < ts.length → TkAt w g (j * 5) (ts.getD j noTk) (ts.getD j noTk).pos
theorem OwnT.row {w : World} {B : Nat} {v : Value} {ts : List Tk} (h : OwnT w B v ts) (hne : ts ≠ []) : ∃ g cap, v = .slice (some ⟨g, 0, none⟩) ts.length cap ∧ B ≤ g ∧ g < w.heap.size ∧ ts.length ≤ cap ∧ cap ≤ maxLen ∧ Rowt w g ts := by
  rcases h.2 with ⟨_, h0⟩ | ⟨g, cap, cur, rfl, hB, hg, h1, h2, h3, h4⟩
  · exact absurd (List.length_eq_zero_iff.1 h0) hne
  · have hc : ∀ j u, (toks ts)[j]? = some u → w.cell? ⟨g, j, none⟩ = some u := fun j u hu => by
      refine blk_cell hg j u ?_
      rw [← h4] at hu
      have hj : j < ts.length * 5 := by
        have := (List.getElem?_eq_some_iff.1 hu).1
        rw [List.length_take] at this
        omega
      rw [List.getElem?_take_of_lt hj] at hu
      rw [← Array.getElem?_toList]
      exact hu
    refine ⟨g, cap, rfl, hB, lt_of_blk hg, h1, h2, ⟨cur, hg, by rw [h3]; exact Nat.mul_le_mul_right 5 h1⟩, fun j hj => ?_⟩
    exact ⟨hc _ _ (toks_get ts j 0 hj (by omega)), hc _ _ (toks_get ts j 1 hj (by omega)), hc _ _ (toks_get ts j 2 hj (by omega)), hc _ _ (toks_get ts j 3 hj (by omega)), hc _ _ (toks_get ts j 4 hj (by omega))⟩
theorem TkAt.bel {w w' : World} {g o : Nat} {t : Tk} {x : Int} (h : TkAt w g o t x) (hb : Below w.heap.size w w') : TkAt w' g o t x := by
  have hg : g < w.heap.size := World.block_lt_of_cell? w _ h.c0
  exact ⟨(hb.cell (p := ⟨g, o, none⟩) hg).trans h.c0, (hb.cell (p := ⟨g, o + 1, none⟩) hg).trans h.c1, (hb.cell (p := ⟨g, o + 2, none⟩) hg).trans h.c2, (hb.cell (p := ⟨g, o + 3, none⟩) hg).trans h.c3, (hb.cell (p := ⟨g, o + 4, none⟩) hg).trans h.c4⟩
theorem TkAt.tn {w w' : World} {g o n : Nat} {t : Tk} {x : Int} (h : TkAt w g o t x) (ht : Tn n w w') (hn : g ≠ n) : TkAt w' g o t x :=
  ⟨ht.cell hn h.c0, ht.cell hn h.c1, ht.cell hn h.c2, ht.cell hn h.c3, ht.cell hn h.c4⟩
theorem Rowt.bel {w w' : World} {g : Nat} {ts : List Tk} (h : Rowt w g ts) (hb : Below w.heap.size w w') : Rowt w' g ts := by
  obtain ⟨cur, hc, hz⟩ := h.blk
  exact ⟨⟨cur, (hb.block g (lt_of_blk hc)).trans hc, hz⟩, fun j hj => (h.tok j hj).bel hb⟩
theorem Rowt.tn {w w' : World} {g n : Nat} {ts : List Tk} (h : Rowt w g ts) (ht : Tn n w w') (hn : g ≠ n) : Rowt w' g ts := by
  obtain ⟨cur, hc, hz⟩ := h.blk
  exact ⟨⟨cur, (ht.blk g (lt_of_blk hc) hn).trans hc, hz⟩, fun j hj => (h.tok j hj).tn ht hn⟩
theorem set_cell {w : World} {g k : Nat} {cur : Array Value} {t : TypeId} (h : w.heap[g]? = some (.cells cur t (0, 0))) (hk : k < cur.size) (v : Value) (j : Nat) :
    (w.setCell ⟨g, k, none⟩ v).cell? ⟨g, j, none⟩ = if j = k then some v else w.cell? ⟨g, j, none⟩ := by
  have h1 := (set1 h k v).1
  by_cases e : j = k
  · subst e
    simp [World.cell?, h1, hk]
  · have e' : ¬ k = j := fun h => e h.symm
    simp [World.cell?, h1, h, e, e']
/-- the first i tokens moved -/
def moved (m i : Nat) (ts : List Tk) : List Tk := (ts.take i).map (Tk.move m) ++ ts.drop i
theorem moved_len (m i : Nat) (ts : List Tk) : (moved m i ts).length = ts.length := by simp [moved]; omega
theorem moved_at (m i : Nat) (ts : List Tk) (j : Nat) (hj : j < ts.length) : (moved m i ts).getD j noTk = if j < i then (ts.getD j noTk).move m else ts.getD j noTk := by
  have e : ts.getD j noTk = ts[j] := by simp [List.getD, hj]
  unfold moved
  by_cases h : j < i
  · rw [if_pos h, e, List.getD_eq_getElem?_getD, List.getElem?_append_left (by simp; omega), List.getElem?_map, List.getElem?_take_of_lt h, List.getElem?_eq_getElem hj]
    rfl
  · rw [if_neg h, e, List.getD_eq_getElem?_getD, List.getElem?_append_right (by simp; omega)]
    simp only [List.length_map, List.length_take, List.getElem?_drop]
    rw [show i + (j - min i ts.length) = j by omega, List.getElem?_eq_getElem hj]
    rfl
theorem Rowt.step {w : World} {g m i : Nat} {ts : List Tk} (h : Rowt w g (moved m i ts)) (hi : i < ts.length) (z : Int) (hz : z = ((ts.getD i noTk).pos + m : Nat)) :
    Rowt (w.setCell ⟨g, i * 5 + 4, none⟩ (.int .i64 z)) g (moved m (i + 1) ts) ∧ Tn g w (w.setCell ⟨g, i * 5 + 4, none⟩ (.int .i64 z)) := by
  obtain ⟨cur, hc, hs⟩ := h.blk
  rw [moved_len] at hs
  have hk : i * 5 + 4 < cur.size := by omega
  obtain ⟨h1, t1⟩ := set1 hc (i * 5 + 4) (.int .i64 z)
  refine ⟨⟨⟨_, h1, by rw [moved_len]; simpa using hs⟩, fun j hj => ?_⟩, t1⟩
  rw [moved_len] at hj
  have ha := h.tok j (by rw [moved_len]; exact hj)
  rw [moved_at m i ts j hj] at ha
  rw [moved_at m (i + 1) ts j hj]
  have hsc := fun q => set_cell hc hk (.int .i64 z) q
  by_cases e : j = i
  · subst e
    rw [if_neg (Nat.lt_irrefl _)] at ha
    rw [if_pos (by omega)]
    exact ⟨by rw [hsc, if_neg (by omega)]; exact ha.c0, by rw [hsc, if_neg (by omega)]; exact ha.c1, by rw [hsc, if_neg (by omega)]; exact ha.c2, by rw [hsc, if_neg (by omega)]; exact ha.c3, by rw [hsc, if_pos rfl, hz]; rfl⟩
  · have e2 : (if j < i + 1 then (ts.getD j noTk).move m else ts.getD j noTk) = if j < i then (ts.getD j noTk).move m else ts.getD j noTk := by
      by_cases h3 : j < i
      · rw [if_pos h3, if_pos (by omega)]
      · rw [if_neg h3, if_neg (by omega)]
    rw [e2]
    exact ⟨by rw [hsc, if_neg (by omega)]; exact ha.c0, by rw [hsc, if_neg (by omega)]; exact ha.c1, by rw [hsc, if_neg (by omega)]; exact ha.c2, by rw [hsc, if_neg (by omega)]; exact ha.c3, by rw [hsc, if_neg (by omega)]; exact ha.c4⟩
theorem moved_zero (m : Nat) (ts : List Tk) : moved m 0 ts = ts := by simp [moved]

end Go.Proofs.YtpeebpnoldadjaaDoor.Ck
