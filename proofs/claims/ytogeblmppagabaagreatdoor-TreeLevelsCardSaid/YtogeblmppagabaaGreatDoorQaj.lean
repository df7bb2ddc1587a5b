/- Texts of this proof, packed: contracts of the program's functions, and the plain model that they are held against. -/
import Derived.Test.YtogeblmppagabaaGreatDoorQai
/- Bytes ahead of a text: no Go text is walked here. -/
namespace Go.Proofs.YtogeblmppagabaaGreatDoor.Ck
open Go.RowKit

/-- t is m bytes, and then s -/
structure Sh (s t : ByteArray) (m : Nat) : Prop where
  byt : ∀ k, byte t (m + k) = byte s k
  siz : t.size = m + s.size
  lst : t.data.toList.drop m = s.data.toList
theorem byte_over {s : ByteArray} {k : Nat} (h : ¬ k < s.size) : byte s k = 0 := by
  unfold byte
  have h2 : s.data.size ≤ k := by have : s.data.size = s.size := rfl; omega
  rw [Array.getD_eq_getD_getElem?, Array.getElem?_eq_none h2]
  rfl
theorem Sh.mk' {b s t : ByteArray} (h : t.data.toList = b.data.toList ++ s.data.toList) : Sh s t b.size := by
  have e1 : t.data.toList.length = t.size := rfl
  have e2 : b.data.toList.length = b.size := rfl
  have e3 : s.data.toList.length = s.size := rfl
  have hz : t.size = b.size + s.size := by rw [← e1, h, List.length_append, e2, e3]
  refine ⟨fun k => ?_, hz, by rw [h, ← e2, List.drop_left]⟩
  by_cases hk : k < s.size
  · rw [byte_list t (b.size + k) (by omega), byte_list s k (by omega)]
    simp only [h]
    rw [List.getElem_append_right (by omega)]
    simp only [e2, Nat.add_sub_cancel_left]
  · rw [byte_over hk, byte_over (by omega)]
theorem Sh.overF {s t : ByteArray} {m : Nat} (h : Sh s t m) (p : Int → Bool) (i : Nat) : overF p t (m + i) = m + overF p s i := by
  have hz := h.siz
  by_cases hi : i < s.size
  · by_cases hp : p (byte s i) = true
    · rw [overF_pos p s i hi hp, overF_pos p t (m + i) (by omega) (by rw [h.byt]; exact hp), Nat.add_assoc]
      exact h.overF p (i + 1)
    · rw [overF_stop p s i (by simpa using hp), overF_stop p t (m + i) (by rw [h.byt]; simpa using hp)]
  · rw [overF_end p s i hi, overF_end p t (m + i) (by omega)]
termination_by s.size - i
theorem Sh.comm {s t : ByteArray} {m : Nat} (h : Sh s t m) (j : Nat) : comm t (m + j) = comm s j := by
  have hz := h.siz
  unfold Ck.comm
  rw [Nat.add_assoc, h.byt, h.byt, hz]
  congr 1
  exact decide_eq_decide.2 (by omega)
theorem Sh.skipC {s t : ByteArray} {m : Nat} (h : Sh s t m) (j : Nat) : skipC t (m + j) = m + skipC s j := by
  by_cases hc : Ck.comm s j = true
  · have h1 := pastC_gt hc
    have h2 := comm_lt hc
    have e : pastC t (m + j) = m + pastC s j := by unfold pastC; rw [h.overF, h.overF]
    rw [skipC_yes hc, skipC_yes (by rw [h.comm]; exact hc), e]
    exact h.skipC (pastC s j)
  · have hc : Ck.comm s j = false := by simpa using hc
    rw [skipC_no hc, skipC_no (show Ck.comm t (m + j) = false by rw [h.comm]; exact hc)]
termination_by s.size - j
theorem Sh.blF {s t : ByteArray} {m : Nat} (h : Sh s t m) (i : Nat) : blF t (m + i) = m + blF s i := by
  unfold Ck.blF
  rw [h.overF, h.skipC]
theorem ba_ext {a b : ByteArray} (h : a.data.toList = b.data.toList) : a = b := by
  have e2 : a.data = b.data := Array.toList_inj.1 h
  cases a
  cases b
  simp at e2
  rw [e2]
theorem Sh.cut {s t : ByteArray} {m : Nat} (h : Sh s t m) (i j : Nat) : cut t (m + i) (m + j) = cut s i j := by
  apply ba_ext
  unfold Ck.cut
  rw [cut_list, cut_list, ← List.drop_drop, h.lst]
  congr 1
  omega
theorem Sh.markF {s t : ByteArray} {m : Nat} (h : Sh s t m) (i : Nat) : markF t (m + i) = markF s i := by
  have hz := h.siz
  unfold Ck.markF
  rw [Nat.add_assoc, h.byt, h.byt, hz]
  by_cases h1 : i + 1 < s.size ∧ two (byte s i) (byte s (i + 1)) = true
  · rw [if_pos h1, if_pos ⟨by omega, h1.2⟩]
  · rw [if_neg h1, if_neg (fun h2 => h1 ⟨by omega, h2.2⟩)]
    by_cases h3 : i < s.size ∧ byte s i ∈ oneTab
    · rw [if_pos h3, if_pos ⟨by omega, h3.2⟩]
    · rw [if_neg h3, if_neg (fun h2 => h3 ⟨by omega, h2.2⟩)]
theorem Sh.overH {s t : ByteArray} {m : Nat} (h : Sh s t m) (i j : Nat) : overH t (m + i) (m + j) = m + overH s i j := by
  have hz := h.siz
  rw [Ck.overH.eq_def t, Ck.overH.eq_def s]
  rw [h.byt, show m + j - (m + i) = j - i by omega]
  by_cases hj : j < s.size
  · rw [if_pos hj, if_pos (by omega)]
    by_cases hp : (isHex (byte s j) && decide (j - i ≤ 16)) = true
    · rw [if_pos hp, if_pos hp, Nat.add_assoc]
      exact h.overH i (j + 1)
    · rw [if_neg hp, if_neg hp]
  · rw [if_neg hj, if_neg (by omega)]
termination_by s.size - j
theorem Sh.endI {s t : ByteArray} {m : Nat} (h : Sh s t m) (i : Nat) : endI t (m + i) = m + endI s i := by
  unfold Ck.endI
  rw [h.byt, h.overF]
  split <;> omega
theorem Sh.tight {s t : ByteArray} {m : Nat} (h : Sh s t m) (e : Nat) : tight t (m + e) = tight s e := by
  have hz := h.siz
  unfold Ck.tight
  rw [h.byt]
  congr 1
  exact decide_eq_decide.2 (by omega)
def Tk.move (m : Nat) (t : Tk) : Tk := ⟨t.kind, t.text, t.n, t.bits, t.pos + m⟩
def Got.move (m : Nat) : Got → Got
  | .ok t e => .ok (t.move m) (m + e)
  | .bad k i => .bad k (i + m)
def Ended.move (m : Nat) : Ended → Ended
  | .ok l => .ok (l.map (Tk.move m))
  | .bad k i => .bad k (i + m)
theorem Sh.tokF {s t : ByteArray} {m : Nat} (h : Sh s t m) (i : Nat) : tokF t (m + i) = (tokF s i).move m := by
  unfold Ck.tokF
  rw [h.byt]
  split
  · unfold wordF
    rw [h.overF, h.cut, show m + Ck.overF isWord s i - (m + i) = Ck.overF isWord s i - i by omega]
    split
    · simp [Got.move, Nat.add_comm]
    · simp [Got.move, Tk.move, Nat.add_comm]
  · split
    · rw [intF_rest, intF_rest, h.endI]
      unfold rest
      rw [h.cut, h.tight]
      split
      · split
        · simp [Got.move, Nat.add_comm]
        · simp [Got.move, Tk.move, Nat.add_comm]
      · simp [Got.move, Nat.add_comm]
    · split
      · unfold floatF
        rw [Nat.add_assoc, h.overH, h.tight, h.cut, h.cut, show m + Ck.overH s i (i + 1) - (m + i) = Ck.overH s i (i + 1) - i by omega]
        split
        · split
          · simp [Got.move, Nat.add_comm]
          · simp [Got.move, Tk.move, Nat.add_comm]
        · simp [Got.move, Nat.add_comm]
      · unfold signF
        rw [h.markF, Nat.add_assoc, h.cut]
        split
        · simp [Got.move, Nat.add_comm]
        · simp [Got.move, Tk.move, Nat.add_comm]
theorem Sh.rdF {s t : ByteArray} {m : Nat} (h : Sh s t m) (i : Nat) (acc : List Tk) : rdF t (m + i) (acc.map (Tk.move m)) = (rdF s i acc).move m := by
  have hz := h.siz
  by_cases hi : i < s.size
  · by_cases hl : acc.length = 2000
    · rw [rdF_full hi hl, rdF_full (by omega) (by rw [List.length_map]; exact hl)]
      simp [Ended.move, Nat.add_comm]
    · cases hq : Ck.tokF s i with
      | bad k j =>
        rw [rdF_bad hi hl hq, rdF_bad (by omega) (by rw [List.length_map]; exact hl) (by rw [h.tokF, hq]; rfl)]
        rfl
      | ok u e =>
        have h1 := tokF_ok hi hq
        have h2 := blF_ge s e
        rw [rdF_step hi hl hq, rdF_step (by omega) (by rw [List.length_map]; exact hl) (by rw [h.tokF, hq]; rfl), h.blF]
        have := h.rdF (Ck.blF s e) (acc ++ [u])
        rw [List.map_append] at this
        exact this
  · rw [rdF_end hi, rdF_end (by omega)]
    rfl
termination_by s.size - i
/-- blanks ahead of a text move all places -/
theorem Sh.readF {s t : ByteArray} {m : Nat} (h : Sh s t m) (hb : ∀ k, k < m → isBlank (byte t k) = true) : readF t = (readF s).move m := by
  have hz := h.siz
  have e : ∀ i, i ≤ m → Ck.overF isBlank t i = Ck.overF isBlank t m := by
    intro i hi
    induction hn : m - i generalizing i with
    | zero => rw [show i = m by omega]
    | succ n ih =>
      rw [overF_pos isBlank t i (by omega) (hb i (by omega))]
      exact ih (i + 1) (by omega) (by omega)
  have e2 : Ck.blF t 0 = m + Ck.blF s 0 := by
    rw [← h.blF]
    unfold Ck.blF
    rw [e 0 (Nat.zero_le _)]
    rfl
  unfold Ck.readF
  rw [e2]
  exact h.rdF (Ck.blF s 0) []

end Go.Proofs.YtogeblmppagabaaGreatDoor.Ck

/- Rows of tokens in memory, one at a time; where errors are told: no Go text is walked here. -/
namespace Go.Proofs.YtogeblmppagabaaGreatDoor.Ck
open Go.RowKit

theorem tokF_bad {s : ByteArray} {i : Nat} (h : i < s.size) {k j : Nat} (ht : tokF s i = .bad k j) : k < 17 ∧ j ≤ s.size := by
  unfold tokF at ht
  split at ht
  · unfold wordF at ht
    split at ht
    · cases ht; omega
    · cases ht
  · split at ht
    · rename_i hd
      have he := endI_gt s i h hd
      unfold intF at ht
      split at ht
      · split at ht
        · cases ht; omega
        · cases ht
      · cases ht; omega
    · split at ht
      · have := overH_le s i (i + 1) (by omega)
        unfold floatF at ht
        split at ht
        · split at ht
          · cases ht; omega
          · cases ht
        · cases ht; omega
      · unfold signF at ht
        split at ht
        · cases ht; omega
        · cases ht
theorem rdF_at {s : ByteArray} {i : Nat} {acc : List Tk} {k j : Nat} (h : rdF s i acc = .bad k j) : k < 17 ∧ j ≤ s.size := by
  by_cases h1 : i < s.size
  · by_cases h2 : acc.length = 2000
    · rw [rdF_full h1 h2] at h
      cases h
      omega
    · cases hq : tokF s i with
      | bad k' j' =>
        rw [rdF_bad h1 h2 hq] at h
        cases h
        exact tokF_bad h1 hq
      | ok t e =>
        have h3 := tokF_ok h1 hq
        have h4 := blF_ge s e
        rw [rdF_step h1 h2 hq] at h
        exact rdF_at h
  · rw [rdF_end h1] at h
    cases h
termination_by s.size - i
theorem readF_at {s : ByteArray} {k j : Nat} (h : readF s = .bad k j) : k < 17 ∧ j ≤ s.size := rdF_at h

theorem tokF_pos {s : ByteArray} {i : Nat} {t : Tk} {e : Nat} (ht : tokF s i = .ok t e) : t.pos = i ∧ t.text = cut s i e := by
  unfold tokF at ht
  split at ht
  · unfold wordF at ht
    split at ht
    · cases ht
    · cases ht; exact ⟨rfl, rfl⟩
  · split at ht
    · unfold intF at ht
      split at ht
      · split at ht
        · cases ht
        · cases ht; exact ⟨rfl, rfl⟩
      · cases ht
    · split at ht
      · unfold floatF at ht
        split at ht
        · split at ht
          · cases ht
          · cases ht; exact ⟨rfl, rfl⟩
        · cases ht
      · unfold signF at ht
        split at ht
        · cases ht
        · cases ht; exact ⟨rfl, rfl⟩
theorem rdF_pos {s : ByteArray} {i : Nat} {acc ts : List Tk} (ha : ∀ t ∈ acc, t.pos ≤ s.size) (h : rdF s i acc = .ok ts) : ∀ t ∈ ts, t.pos ≤ s.size := by
  by_cases h1 : i < s.size
  · by_cases h2 : acc.length = 2000
    · rw [rdF_full h1 h2] at h
      cases h
    · cases hq : tokF s i with
      | bad k' j' =>
        rw [rdF_bad h1 h2 hq] at h
        cases h
      | ok t e =>
        have h3 := tokF_ok h1 hq
        have h4 := blF_ge s e
        rw [rdF_step h1 h2 hq] at h
        refine rdF_pos (fun u hu => ?_) h
        rcases List.mem_append.1 hu with hu | hu
        · exact ha u hu
        · simp at hu
          rw [hu, (tokF_pos hq).1]
          omega
  · rw [rdF_end h1] at h
    cases h
    exact ha
termination_by s.size - i
theorem readF_pos {s : ByteArray} {ts : List Tk} (h : readF s = .ok ts) : ∀ t ∈ ts, t.pos ≤ s.size := rdF_pos (fun _ h => by cases h) h

def noTk : Tk := ⟨0, ⟨#[]⟩, 0, 0, 0⟩
/-- a token of place x lies at these five cells -/
structure TkAt (w : World) (g o : Nat) (t : Tk) (x : Int) : Prop where
  c0 : w.cell? ⟨g, o, none⟩ = some (.int .i64 t.kind)
  c1 : w.cell? ⟨g, o + 1, none⟩ = some (.string t.text)
  c2 : w.cell? ⟨g, o + 2, none⟩ = some (.int .i64 t.n)
  c3 : w.cell? ⟨g, o + 3, none⟩ = some (.int .u64 t.bits)
  c4 : w.cell? ⟨g, o + 4, none⟩ = some (.int .i64 x)
theorem toks_get : ∀ (ts : List Tk) (j f : Nat), j < ts.length → f < 5 → (toks ts)[j * 5 + f]? = (Tk.cells (ts.getD j noTk))[f]?
  | [], _, _, h, _ => absurd h (Nat.not_lt_zero _)
  | t :: ts, 0, f, _, hf => by
    have e : toks (t :: ts) = Tk.cells t ++ toks ts := by unfold toks; rw [List.flatMap_cons]
    rw [e, List.getElem?_append_left (by simp [Tk.cells]; omega)]
    simp
  | t :: ts, j + 1, f, h, hf => by
    have e : toks (t :: ts) = Tk.cells t ++ toks ts := by unfold toks; rw [List.flatMap_cons]
    have hl : (Tk.cells t).length = 5 := rfl
    rw [e, List.getElem?_append_right (by rw [hl]; omega), hl, show (j + 1) * 5 + f - 5 = j * 5 + f by omega, toks_get ts j f (by simpa using h) hf]
    simp
/-- the tokens ts lie in block g -/
structure Rowt (w : World) (g : Nat) (ts : List Tk) : Prop where
  blk : ∃ cur, w.heap[g]? = some (.cells cur 67 (0, 0)) ∧ ts.length * 5 ≤ cur.size
  tok : ∀ j, j < ts.length → TkAt w g (j * 5) (ts.getD j noTk) (ts.getD j noTk).pos
theorem OwnT.row {w : World} {B : Nat} {v : Value} {ts : List Tk} (h : OwnT w B v ts) (hne : ts ≠ []) : ∃ g cap, v = .slice (some ⟨g, 0, none⟩) ts.length cap ∧ B ≤ g ∧ g < w.heap.size ∧ ts.length ≤ cap ∧ cap ≤ maxLen ∧ Rowt w g ts := by
  rcases h.2 with ⟨_, h0⟩ | ⟨g, cap, cur, rfl, hB, hg, h1, h2, h3, h4⟩
  · exact absurd (List.length_eq_zero_iff.1 h0) hne
  · have hc : ∀ j u, (toks ts)[j]? = some u → w.cell? ⟨g, j, none⟩ = some u := fun j u hu => by
      refine blk_cell hg j u ?_
      rw [← h4] at hu
      have hj : j < ts.length * 5 := by
        have := (List.getElem?_eq_some_iff.1 hu).1
        rw [List.length_take] at this
        omega
      rw [List.getElem?_take_of_lt hj] at hu
      rw [← Array.getElem?_toList]
      exact hu
    refine ⟨g, cap, rfl, hB, lt_of_blk hg, h1, h2, ⟨cur, hg, by rw [h3]; exact Nat.mul_le_mul_right 5 h1⟩, fun j hj => ?_⟩
    exact ⟨hc _ _ (toks_get ts j 0 hj (by omega)), hc _ _ (toks_get ts j 1 hj (by omega)), hc _ _ (toks_get ts j 2 hj (by omega)), hc _ _ (toks_get ts j 3 hj (by omega)), hc _ _ (toks_get ts j 4 hj (by omega))⟩
theorem TkAt.bel {w w' : World} {g o : Nat} {t : Tk} {x : Int} (h : TkAt w g o t x) (hb : Below w.heap.size w w') : TkAt w' g o t x := by
  have hg : g < w.heap.size := World.block_lt_of_cell? w _ h.c0
  exact ⟨(hb.cell (p := ⟨g, o, none⟩) hg).trans h.c0, (hb.cell (p := ⟨g, o + 1, none⟩) hg).trans h.c1, (hb.cell (p := ⟨g, o + 2, none⟩) hg).trans h.c2, (hb.cell (p := ⟨g, o + 3, none⟩) hg).trans h.c3, (hb.cell (p := ⟨g, o + 4, none⟩) hg).trans h.c4⟩
theorem TkAt.tn {w w' : World} {g o n : Nat} {t : Tk} {x : Int} (h : TkAt w g o t x) (ht : Tn n w w') (hn : g ≠ n) : TkAt w' g o t x :=
  ⟨ht.cell hn h.c0, ht.cell hn h.c1, ht.cell hn h.c2, ht.cell hn h.c3, ht.cell hn h.c4⟩
theorem Rowt.bel {w w' : World} {g : Nat} {ts : List Tk} (h : Rowt w g ts) (hb : Below w.heap.size w w') : Rowt w' g ts := by
  obtain ⟨cur, hc, hz⟩ := h.blk
  exact ⟨⟨cur, (hb.block g (lt_of_blk hc)).trans hc, hz⟩, fun j hj => (h.tok j hj).bel hb⟩
theorem Rowt.tn {w w' : World} {g n : Nat} {ts : List Tk} (h : Rowt w g ts) (ht : Tn n w w') (hn : g ≠ n) : Rowt w' g ts := by
  obtain ⟨cur, hc, hz⟩ := h.blk
  exact ⟨⟨cur, (ht.blk g (lt_of_blk hc) hn).trans hc, hz⟩, fun j hj => (h.tok j hj).tn ht hn⟩
theorem set_cell {w : World} {g k : Nat} {cur : Array Value} {t : TypeId} (h : w.heap[g]? = some (.cells cur t (0, 0))) (hk : k < cur.size) (v : Value) (j : Nat) :
    (w.setCell ⟨g, k, none⟩ v).cell? ⟨g, j, none⟩ = if j = k then some v else w.cell? ⟨g, j, none⟩ := by
  have h1 := (set1 h k v).1
  by_cases e : j = k
  · subst e
    simp [World.cell?, h1, hk]
  · have e' : ¬ k = j := fun h => e h.symm
    simp [World.cell?, h1, h, e, e']
/-- the first i tokens moved -/
def moved (m i : Nat) (ts : List Tk) : List Tk := (ts.take i).map (Tk.move m) ++ ts.drop i
theorem moved_len (m i : Nat) (ts : List Tk) : (moved m i ts).length = ts.length := by simp [moved]; omega
theorem moved_at (m i : Nat) (ts : List Tk) (j : Nat) (hj : j < ts.length) : (moved m i ts).getD j noTk = if j < i then (ts.getD j noTk).move m else ts.getD j noTk := by
  have e : ts.getD j noTk = ts[j] := by simp [List.getD, hj]
  unfold moved
  by_cases h : j < i
  · rw [if_pos h, e, List.getD_eq_getElem?_getD, List.getElem?_append_left (by simp; omega), List.getElem?_map, List.getElem?_take_of_lt h, List.getElem?_eq_getElem hj]
    rfl
  · rw [if_neg h, e, List.getD_eq_getElem?_getD, List.getElem?_append_right (by simp; omega)]
    simp only [List.length_map, List.length_take, List.getElem?_drop]
    rw [show i + (j - min i ts.length) = j by omega, List.getElem?_eq_getElem hj]
    rfl
theorem Rowt.step {w : World} {g m i : Nat} {ts : List Tk} (h : Rowt w g (moved m i ts)) (hi : i < ts.length) (z : Int) (hz : z = ((ts.getD i noTk).pos + m : Nat)) :
    Rowt (w.setCell ⟨g, i * 5 + 4, none⟩ (.int .i64 z)) g (moved m (i + 1) ts) ∧ Tn g w (w.setCell ⟨g, i * 5 + 4, none⟩ (.int .i64 z)) := by
  obtain ⟨cur, hc, hs⟩ := h.blk
  rw [moved_len] at hs
  have hk : i * 5 + 4 < cur.size := by omega
  obtain ⟨h1, t1⟩ := set1 hc (i * 5 + 4) (.int .i64 z)
  refine ⟨⟨⟨_, h1, by rw [moved_len]; simpa using hs⟩, fun j hj => ?_⟩, t1⟩
  rw [moved_len] at hj
  have ha := h.tok j (by rw [moved_len]; exact hj)
  rw [moved_at m i ts j hj] at ha
  rw [moved_at m (i + 1) ts j hj]
  have hsc := fun q => set_cell hc hk (.int .i64 z) q
  by_cases e : j = i
  · subst e
    rw [if_neg (Nat.lt_irrefl _)] at ha
    rw [if_pos (by omega)]
    exact ⟨by rw [hsc, if_neg (by omega)]; exact ha.c0, by rw [hsc, if_neg (by omega)]; exact ha.c1, by rw [hsc, if_neg (by omega)]; exact ha.c2, by rw [hsc, if_neg (by omega)]; exact ha.c3, by rw [hsc, if_pos rfl, hz]; rfl⟩
  · have e2 : (if j < i + 1 then (ts.getD j noTk).move m else ts.getD j noTk) = if j < i then (ts.getD j noTk).move m else ts.getD j noTk := by
      by_cases h3 : j < i
      · rw [if_pos h3, if_pos (by omega)]
      · rw [if_neg h3, if_neg (by omega)]
    rw [e2]
    exact ⟨by rw [hsc, if_neg (by omega)]; exact ha.c0, by rw [hsc, if_neg (by omega)]; exact ha.c1, by rw [hsc, if_neg (by omega)]; exact ha.c2, by rw [hsc, if_neg (by omega)]; exact ha.c3, by rw [hsc, if_neg (by omega)]; exact ha.c4⟩
theorem moved_zero (m : Nat) (ts : List Tk) : moved m 0 ts = ts := by simp [moved]

end Go.Proofs.YtogeblmppagabaaGreatDoor.Ck

/- The parser in memory; the contracts of its looking at tokens. -/
namespace Go.Proofs.YtogeblmppagabaaGreatDoor.Ck
open Go.RowKit

/-- the parser of block g over the tokens L (the last one an end), at token i, in so many levels -/
structure Ps (w : World) (p : List Addr) (g gT : Nat) (L : List Tk) (i l : Nat) : Prop where
  blk : ∃ cap, w.heap[g]? = some (.cells #[.slice (some ⟨gT, 0, none⟩) L.length cap, .int .i64 i, .int .i64 l] 69 (0, 0)) ∧ L.length ≤ cap ∧ cap ≤ maxLen
  row : Rowt w gT L
  ne : g ≠ gT
  er : Er w p
  ed : w.cell? ⟨2, 0, none⟩ = some (errV p 2)
  big : 23 ≤ g
  lt : i < L.length
  len : L.length ≤ 2001
def tkAt (L : List Tk) (i : Nat) : Tk := L.getD i noTk
theorem Ps.drewN {w : World} {p : List Addr} {g gT : Nat} {L : List Tk} {i l : Nat} (h : Ps w p g gT L i l) (k : Nat) : Ps (w.drewN k) p g gT L i l :=
  ⟨h.blk, h.row.bel (below_drewN (Below.refl _ _) k), h.ne, h.er.drewN k, h.ed, h.big, h.lt, h.len⟩
theorem Ps.lt_g {w : World} {p : List Addr} {g gT : Nat} {L : List Tk} {i l : Nat} (h : Ps w p g gT L i l) : g < w.heap.size := by
  obtain ⟨cap, h1, _⟩ := h.blk
  exact lt_of_blk h1
theorem Ps.below {w w' : World} {p : List Addr} {g gT : Nat} {L : List Tk} {i l : Nat} (h : Ps w p g gT L i l) (hb : Below w.heap.size w w') : Ps w' p g gT L i l := by
  obtain ⟨cap, h1, h2⟩ := h.blk
  exact ⟨⟨cap, (hb.block g (lt_of_blk h1)).trans h1, h2⟩, h.row.bel hb, h.ne, h.er.bel hb, (hb.cell (p := ⟨2, 0, none⟩) (World.block_lt_of_cell? w _ h.ed)).trans h.ed, h.big, h.lt, h.len⟩
theorem Ps.tn {w w' : World} {p : List Addr} {g gT n : Nat} {L : List Tk} {i l : Nat} (h : Ps w p g gT L i l) (t : Tn n w w') (hn : 23 ≤ n) (h1 : g ≠ n) (h2 : gT ≠ n) : Ps w' p g gT L i l := by
  obtain ⟨cap, h3, h4⟩ := h.blk
  exact ⟨⟨cap, (t.blk g (lt_of_blk h3) h1).trans h3, h4⟩, h.row.tn t h2, h.ne, h.er.tn t hn, t.cell (by omega) h.ed, h.big, h.lt, h.len⟩
/-- a step on, or a level more or less -/
theorem Ps.set {w : World} {p : List Addr} {g gT : Nat} {L : List Tk} {i l : Nat} (h : Ps w p g gT L i l) (j : Nat) (hj : j < L.length) (z : Int) (hz : z = j) :
    Ps (w.setCell ⟨g, 1, none⟩ (.int .i64 z)) p g gT L j l ∧ Tn g w (w.setCell ⟨g, 1, none⟩ (.int .i64 z)) := by
  obtain ⟨cap, h1, h2⟩ := h.blk
  obtain ⟨k, t⟩ := set1 h1 1 (.int .i64 z)
  subst hz
  exact ⟨⟨⟨cap, k, h2⟩, h.row.tn t (Ne.symm h.ne), h.ne, h.er.tn t h.big, t.cell (by have := h.big; omega) h.ed, h.big, hj, h.len⟩, t⟩
theorem Ps.setL {w : World} {p : List Addr} {g gT : Nat} {L : List Tk} {i l : Nat} (h : Ps w p g gT L i l) (m : Nat) (z : Int) (hz : z = m) :
    Ps (w.setCell ⟨g, 2, none⟩ (.int .i64 z)) p g gT L i m ∧ Tn g w (w.setCell ⟨g, 2, none⟩ (.int .i64 z)) := by
  obtain ⟨cap, h1, h2⟩ := h.blk
  obtain ⟨k, t⟩ := set1 h1 2 (.int .i64 z)
  subst hz
  exact ⟨⟨⟨cap, k, h2⟩, h.row.tn t (Ne.symm h.ne), h.ne, h.er.tn t h.big, t.cell (by have := h.big; omega) h.ed, h.big, h.lt, h.len⟩, t⟩
/-- what a walk asks of the parser's cells -/
theorem Ps.cells {w : World} {p : List Addr} {g gT : Nat} {L : List Tk} {i l : Nat} (h : Ps w p g gT L i l) :
    ∃ cap, w.cell? ⟨g, 0, none⟩ = some (.slice (some ⟨gT, 0, none⟩) L.length cap) ∧ w.cell? ⟨g, 1, none⟩ = some (.int .i64 i) ∧ w.cell? ⟨g, 2, none⟩ = some (.int .i64 l) ∧ (∀ k, w.frozen? ⟨g, k, none⟩ = false) ∧ L.length ≤ cap ∧ cap ≤ 9223372036854775807 := by
  obtain ⟨cap, h1, h2, h3⟩ := h.blk
  unfold maxLen at h3
  exact ⟨cap, blk_cell h1 0 _ rfl, blk_cell h1 1 _ rfl, blk_cell h1 2 _ rfl, fun k => blk_frz h1 k, h2, by omega⟩

theorem bel_drawn {n : Nat} {w w' : World} (h : Below n w w') : Below n w w'.drew := ⟨h.os, h.tape, h.output, h.size, h.block⟩

set_option maxHeartbeats 1000000 in
theorem here_any {w : World} {p : List Addr} {g gT : Nat} {L : List Tk} {i l : Nat} (h : Ps w p g gT L i l) :
    Calls Tryz.prog 74 #[.pointer (some ⟨g, 0, none⟩)] w fun e w' => e = .returned (tkAt L i).val ∧ Below w.heap.size w w' := by
  have hb0 := hide (bel_new w tokZ)
  have hz0 : Hid (Tok (w.alloc tokZ) w.heap.size (.int .i64 0) (.string ⟨#[]⟩) (.int .i64 0) (.int .u64 0) (.int .i64 0)) := Go.Deep.blk_alloc_new _ _
  have H0 := hide (h.below hb0.out)
  obtain ⟨cap, c0, c1, _, _, hc1, hc2⟩ := H0.out.cells
  obtain ⟨t0, t1, t2, t3, t4⟩ := H0.out.row.tok i h.lt
  have hl := h.lt
  have hl2 := h.len
  have hli : (i : Int) < (L.length : Int) := by omega
  clear h
  unfold tkAt
  unfold tokZ at *
  generalize L.getD i noTk = tk at *
  obtain ⟨kind, text, nn, bits_, pos⟩ := tk
  generalize L.length = n at *
  simp only at *
  unfold Tk.val
  go_enter Tryz.func74, Tryz.ntmps74
  go_wp2_with fail
  generalize w.alloc (.cells #[.int .i64 0, .string ⟨#[]⟩, .int .i64 0, .int .u64 0, .int .i64 0] 67) = w0 at *
  refine wp_quiet_tail 10 mixed (by kernel_rfl) ?_
  simp only [List.take_succ_cons, List.take_zero, List.drop_succ_cons, List.drop_zero]
  repeat (first | go_big_quiet_skip | (go_big_quiet_want; go_big_quiet_op; go_big_quiet_on))
  refine wpQuiet_nil ?_
  obtain ⟨⟨f0, f1, f2, f3, f4⟩, b0, b1, b2, b3, b4⟩ := hz0.out.all
  obtain ⟨z3, s3⟩ := set5 hz0.out (.int .i64 kind) (.string text) (.int .i64 nn) (.int .u64 bits_) (.int .i64 pos)
  have Z3 := hide z3
  have B3 := hide (((Tn.of_bel (g := w.heap.size) hb0.out).trans s3).bel (Nat.le_refl _) (Nat.le_refl _))
  clear z3 s3 H0 hz0
  go_wp2_with fail
  refine ret_tok w.heap.size rfl rfl Z3.out rfl ?_
  exact ⟨rfl, bel_drawn B3.out⟩

end Go.Proofs.YtogeblmppagabaaGreatDoor.Ck

/- The parser's looking at tokens, and its giving up. -/
namespace Go.Proofs.YtogeblmppagabaaGreatDoor.Ck
open Go.RowKit

/-- a field of a token, of a node, that is a value -/
theorem tf0 (a b c d e : Value) (w : World) : (Instr.field 67 (.agg #[a, b, c, d, e]) 0).run Tryz.prog w = .ok a w := by kernel_rfl
theorem tf1 (a b c d e : Value) (w : World) : (Instr.field 67 (.agg #[a, b, c, d, e]) 1).run Tryz.prog w = .ok b w := by kernel_rfl
theorem tf2 (a b c d e : Value) (w : World) : (Instr.field 67 (.agg #[a, b, c, d, e]) 2).run Tryz.prog w = .ok c w := by kernel_rfl
theorem tf3 (a b c d e : Value) (w : World) : (Instr.field 67 (.agg #[a, b, c, d, e]) 3).run Tryz.prog w = .ok d w := by kernel_rfl
theorem tf4 (a b c d e : Value) (w : World) : (Instr.field 67 (.agg #[a, b, c, d, e]) 4).run Tryz.prog w = .ok e w := by kernel_rfl
theorem nf0 (a b c d e f g h i : Value) (w : World) : (Instr.field 27 (.agg #[a, b, c, d, e, f, g, h, i]) 0).run Tryz.prog w = .ok a w := by kernel_rfl
theorem nf1 (a b c d e f g h i : Value) (w : World) : (Instr.field 27 (.agg #[a, b, c, d, e, f, g, h, i]) 1).run Tryz.prog w = .ok b w := by kernel_rfl
theorem nf2 (a b c d e f g h i : Value) (w : World) : (Instr.field 27 (.agg #[a, b, c, d, e, f, g, h, i]) 2).run Tryz.prog w = .ok c w := by kernel_rfl
theorem nf3 (a b c d e f g h i : Value) (w : World) : (Instr.field 27 (.agg #[a, b, c, d, e, f, g, h, i]) 3).run Tryz.prog w = .ok d w := by kernel_rfl
theorem nf4 (a b c d e f g h i : Value) (w : World) : (Instr.field 27 (.agg #[a, b, c, d, e, f, g, h, i]) 4).run Tryz.prog w = .ok e w := by kernel_rfl
theorem nf5 (a b c d e f g h i : Value) (w : World) : (Instr.field 27 (.agg #[a, b, c, d, e, f, g, h, i]) 5).run Tryz.prog w = .ok f w := by kernel_rfl
theorem nf6 (a b c d e f g h i : Value) (w : World) : (Instr.field 27 (.agg #[a, b, c, d, e, f, g, h, i]) 6).run Tryz.prog w = .ok g w := by kernel_rfl
theorem nf7 (a b c d e f g h i : Value) (w : World) : (Instr.field 27 (.agg #[a, b, c, d, e, f, g, h, i]) 7).run Tryz.prog w = .ok h w := by kernel_rfl
theorem nf8 (a b c d e f g h i : Value) (w : World) : (Instr.field 27 (.agg #[a, b, c, d, e, f, g, h, i]) 8).run Tryz.prog w = .ok i w := by kernel_rfl

set_option maxRecDepth 20000 in
set_option maxHeartbeats 1000000 in
theorem more_any2 {w : World} {p : List Addr} {g gT : Nat} {L : List Tk} {i l : Nat} (h : Ps w p g gT L i l) :
    Calls Tryz.prog 51 #[.pointer (some ⟨g, 0, none⟩)] w fun e w' => e = .returned (.bool (decide ((tkAt L i).kind ≠ 0))) ∧ Below w.heap.size w w' := by
  have H := hide h
  clear h
  generalize ht : tkAt L i = tk at *
  obtain ⟨kind, text, nn, bits_, pos⟩ := tk
  have HH := here_any H.out
  rw [ht] at HH
  dsimp only [Tk.val] at HH ⊢
  have hf0 := tf0 (.int .i64 kind) (.string text) (.int .i64 nn) (.int .u64 bits_) (.int .i64 pos)
  go_enter Tryz.func51, Tryz.ntmps51
  go_wp2_with fail
  refine HH.mono ?_
  rintro e w1 ⟨rfl, hb⟩
  have HB := hide hb
  clear hb HH ht
  go_wp2_with fail
  go_ret
  refine ⟨congrArg Ending.returned (congrArg Value.bool ?_), HB.out⟩
  rw [Bool.eq_iff_iff]
  simp

set_option maxRecDepth 20000 in
set_option maxHeartbeats 1000000 in
theorem sees_any {w : World} {p : List Addr} {g gT : Nat} {L : List Tk} {i l : Nat} (h : Ps w p g gT L i l) (b n c : Nat) (zs : List ByteArray) (hz : zs.length = n) (hn : n ≤ 100) (hc : ∀ j, j < zs.length → w.cell? ⟨b, j, none⟩ = some (.string (zs.getD j ByteArray.empty))) :
    Calls Tryz.prog 81 #[.pointer (some ⟨g, 0, none⟩), .slice (some ⟨b, 0, none⟩) n c] w fun e w' => e = .returned (.bool (Lib.containsS zs (tkAt L i).text)) ∧ Below w.heap.size w w' := by
  have H := hide h
  clear h
  have HC := hide hc
  clear hc
  generalize ht : tkAt L i = tk at *
  obtain ⟨kind, text, nn, bits_, pos⟩ := tk
  have HH := here_any H.out
  rw [ht] at HH
  dsimp only [Tk.val] at HH ⊢
  have hf1 := tf1 (.int .i64 kind) (.string text) (.int .i64 nn) (.int .u64 bits_) (.int .i64 pos)
  go_enter Tryz.func81, Tryz.ntmps81
  go_wp2_with fail
  refine HH.mono ?_
  rintro e w1 ⟨rfl, hb⟩
  have HB := hide hb
  have HC : Hid (∀ j, j < zs.length → w1.cell? ⟨b, j, none⟩ = some (.string (zs.getD j ByteArray.empty))) := fun j hj => (HB.out.cell (p := ⟨b, j, none⟩) (World.block_lt_of_cell? w _ (HC.out j hj))).trans (HC.out j hj)
  clear hb HH ht
  go_wp2_with (first | (go_at_call 116; refine (Tryz.slices_Contains_string b 0 n c zs text _ (by omega) (by omega) (fun j hj => (by rw [Nat.zero_add]; exact HC.out j hj))).mono ?_; rintro e w2 ⟨rfl, rfl⟩))
  go_ret
  refine ⟨?_, HB.out⟩
  rw [List.take_of_length_le (by omega)]
  rfl

set_option maxRecDepth 20000 in
set_option maxHeartbeats 1000000 in
theorem refuse_at {w : World} {p : List Addr} {g gT : Nat} {L : List Tk} {i l : Nat} (h : Ps w p g gT L i l) (te : TypeId) (pe : Value) :
    Calls Tryz.prog 52 #[.pointer (some ⟨g, 0, none⟩), .iface te pe] w fun e w' => e = stop (.iface te pe) (tkAt L i).pos ∧ Below w.heap.size w w' := by
  have H := hide h
  clear h
  generalize ht : tkAt L i = tk at *
  obtain ⟨kind, text, nn, bits_, pos⟩ := tk
  have HH := here_any H.out
  rw [ht] at HH
  dsimp only [Tk.val] at HH ⊢
  have hf4 := tf4 (.int .i64 kind) (.string text) (.int .i64 nn) (.int .u64 bits_) (.int .i64 pos)
  go_enter Tryz.func52, Tryz.ntmps52
  go_wp2_with fail
  refine HH.mono ?_
  rintro e w1 ⟨rfl, hb⟩
  have HB := hide hb
  clear hb HH ht
  go_wp2_with fail
  exact ⟨rfl, rfl, HB.out⟩

end Go.Proofs.YtogeblmppagabaaGreatDoor.Ck
