/- Bytes ahead of a text: no Go text is walked here. -/
import Derived.Test.YtpeebpnoldadjaaDoorTz
namespace Go.Proofs.YtpeebpnoldadjaaDoor.Ck
open Go.RowKit

/-- t is m bytes, and then s -/
structure Sh (s t : ByteArray) (m : Nat) : Prop where
  byt : ∀ k, byte t (m + k) = byte s k
  siz : t.size = m + s.size
  lst : t.data.toList.drop m = s.data.toList
theorem byte_over {s : ByteArray} {k : Nat} (h : ¬ k < s.size) : byte s k = 0 := by
  unfold byte
  have h2 : s.data.size ≤ k := by have : s.data.size = s.size := rfl; omega
  rw [Array.getD_eq_getD_getElem?, Array.getElem?_eq_none h2]
  rfl
theorem Sh.mk' {b s t : ByteArray} (h : t.data.toList = b.data.toList ++ s.data.toList) : Sh s t b.size := by
  have e1 : t.data.toList.length = t.size := rfl
  have e2 : b.data.toList.length = b.size := rfl
  have e3 : s.data.toList.length = s.size := rfl
  have hz : t.size = b.size + s.size := by rw [← e1, h, List.length_append, e2, e3]
  refine ⟨fun k => ?_, hz, by rw [h, ← e2, List.drop_left]⟩
  by_cases hk : k < s.size
  · rw [byte_list t (b.size + k) (by omega), byte_list s k (by omega)]
    simp only [h]
    rw [List.getElem_append_right (by omega)]
    simp only [e2, Nat.add_sub_cancel_left]
  · rw [byte_over hk, byte_over (by omega)]
theorem Sh.overF {s t : ByteArray} {m : Nat} (h : Sh s t m) (p : Int → Bool) (i : Nat) : overF p t (m + i) = m + overF p s i := by
  have hz := h.siz
  by_cases hi : i < s.size
  · by_cases hp : p (byte s i) = true
    · rw [overF_pos p s i hi hp, overF_pos p t (m + i) (by omega) (by rw [h.byt]; exact hp), Nat.add_assoc]
      exact h.overF p (i + 1)
    · rw [overF_stop p s i (by simpa using hp), overF_stop p t (m + i) (by rw [h.byt]; simpa using hp)]
  · rw [overF_end p s i hi, overF_end p t (m + i) (by omega)]
termination_by s.size - i
theorem Sh.comm {s t : ByteArray} {m : Nat} (h : Sh s t m) (j : Nat) : comm t (m + j) = comm s j := by
  have hz := h.siz
  unfold Ck.comm
  rw [Nat.add_assoc, h.byt, h.byt, hz]
  congr 1
  exact decide_eq_decide.2 (by omega)
theorem Sh.skipC {s t : ByteArray} {m : Nat} (h : Sh s t m) (j : Nat) : skipC t (m + j) = m + skipC s j := by
  by_cases hc : Ck.comm s j = true
  · have h1 := pastC_gt hc
    have h2 := comm_lt hc
    have e : pastC t (m + j) = m + pastC s j := by unfold pastC; rw [h.overF, h.overF]
    rw [skipC_yes hc, skipC_yes (by rw [h.comm]; exact hc), e]
    exact h.skipC (pastC s j)
  · have hc : Ck.comm s j = false := by simpa using hc
    rw [skipC_no hc, skipC_no (show Ck.comm t (m + j) = false by rw [h.comm]; exact hc)]
termination_by s.size - j
theorem Sh.blF {s t : ByteArray} {m : Nat} (h : Sh s t m) (i : Nat) : blF t (m + i) = m + blF s i := by
  unfold Ck.blF
  rw [h.overF, h.skipC]
theorem ba_ext {a b : ByteArray} (h : a.data.toList = b.data.toList) : a = b := by
  have e2 : a.data = b.data := Array.toList_inj.1 h
  cases a
  cases b
  simp at e2
  rw [e2]
theorem Sh.cut {s t : ByteArray} {m : Nat} (h : Sh s t m) (i j : Nat) : cut t (m + i) (m + j) = cut s i j := by
  apply ba_ext
  unfold Ck.cut
  rw [cut_list, cut_list, ← List.drop_drop, h.lst]
  congr 1
  omega
theorem Sh.markF {s t : ByteArray} {m : Nat} (h : Sh s t m) (i : Nat) : markF t (m + i) = markF s i := by
  have hz := h.siz
  unfold Ck.markF
  rw [Nat.add_assoc, h.byt, h.byt, hz]
  by_cases h1 : i + 1 < s.size ∧ two (byte s i) (byte s (i + 1)) = true
  · rw [if_pos h1, if_pos ⟨by omega, h1.2⟩]
  · rw [if_neg h1, if_neg (fun h2 => h1 ⟨by omega, h2.2⟩)]
    by_cases h3 : i < s.size ∧ byte s i ∈ oneTab
    · rw [if_pos h3, if_pos ⟨by omega, h3.2⟩]
    · rw [if_neg h3, if_neg (fun h2 => h3 ⟨by omega, h2.2⟩)]
theorem Sh.overH {s t : ByteArray} {m : Nat} (h : Sh s t m) (i j : Nat) : overH t (m + i) (m + j) = m + overH s i j := by
  have hz := h.siz
  rw [Ck.overH.eq_def t, Ck.overH.eq_def s]
  rw [h.byt, show m + j - (m + i) = j - i by omega]
  by_cases hj : j < s.size
  · rw [if_pos hj, if_pos (by omega)]
    by_cases hp : (isHex (byte s j) && decide (j - i ≤ 16)) = true
    · rw [if_pos hp, if_pos hp, Nat.add_assoc]
      exact h.overH i (j + 1)
    · rw [if_neg hp, if_neg hp]
  · rw [if_neg hj, if_neg (by omega)]
termination_by s.size - j
theorem Sh.endI {s t : ByteArray} {m : Nat} (h : Sh s t m) (i : Nat) : endI t (m + i) = m + endI s i := by
  unfold Ck.endI
  rw [h.byt, h.overF]
  split <;> omega
theorem Sh.tight {s t : ByteArray} {m : Nat} (h : Sh s t m) (e : Nat) : tight t (m + e) = tight s e := by
  have hz := h.siz
  unfold Ck.tight
  rw [h.byt]
  congr 1
  exact decide_eq_decide.2 (by omega)
def Tk.move (m : Nat) (t : Tk) : Tk := ⟨t.kind, t.text, t.n, t.bits, t.pos + m⟩
def Got.move (m : Nat) : Got → Got
  | .ok t e => .ok (t.move m) (m + e)
  | .bad k i => .bad k (i + m)
def Ended.move (m : Nat) : Ended → Ended
  | .ok l => .ok (l.map (Tk.move m))
  | .bad k i => .bad k (i + m)
theorem Sh.tokF {s t : ByteArray} {m : Nat} (h : Sh s t m) (i : Nat) : tokF t (m + i) = (tokF s i).move m := by
  unfold Ck.tokF
  rw [h.byt]
  split
  · unfold wordF
    rw [h.overF, h.cut, show m + Ck.overF isWord s i - (m + i) = Ck.overF isWord s i - i by omega]
    split
    · simp [Got.move, Nat.add_comm]
    · simp [Got.move, Tk.move, Nat.add_comm]
  · split
    · rw [intF_rest, intF_rest, h.endI]
      unfold rest
      rw [h.cut, h.tight]
      split
      · split
        · simp [Got.move, Nat.add_comm]
        · simp [Got.move, Tk.move, Nat.add_comm]
      · simp [Got.move, Nat.add_comm]
    · split
      · unfold floatF
        rw [Nat.add_assoc, h.overH, h.tight, h.cut, h.cut, show m + Ck.overH s i (i + 1) - (m + i) = Ck.overH s i (i + 1) - i by omega]
        split
        · split
          · simp [Got.move, Nat.add_comm]
          · simp [Got.move, Tk.move, Nat.add_comm]
        · simp [Got.move, Nat.add_comm]
      · unfold signF
        rw [h.markF, Nat.add_assoc, h.cut]
        split
        · simp [Got.move, Nat.add_comm]
        · simp [Got.move, Tk.move, Nat.add_comm]
theorem Sh.rdF {s t : ByteArray} {m : Nat} (h : Sh s t m) (i : Nat) (acc : List Tk) : rdF t (m + i) (acc.map (Tk.move m)) = (rdF s i acc).move m := by
  have hz := h.siz
  by_cases hi : i < s.size
  · by_cases hl : acc.length = 2000
    · rw [rdF_full hi hl, rdF_full (by omega) (by rw [List.length_map]; exact hl)]
      simp [Ended.move, Nat.add_comm]
    · cases hq : Ck.tokF s i with
      | bad k j =>
        rw [rdF_bad hi hl hq, rdF_bad (by omega) (by rw [List.length_map]; exact hl) (by rw [h.tokF, hq]; rfl)]
        rfl
      | ok u e =>
        have h1 := tokF_ok hi hq
        have h2 := blF_ge s e
        rw [rdF_step hi hl hq, rdF_step (by omega) (by rw [List.length_map]; exact hl) (by rw [h.tokF, hq]; rfl), h.blF]
        have := h.rdF (Ck.blF s e) (acc ++ [u])
        rw [List.map_append] at this
        exact this
  · rw [rdF_end hi, rdF_end (by omega)]
    rfl
termination_by s.size - i
/-- blanks ahead of a text move all places -/
theorem Sh.readF {s t : ByteArray} {m : Nat} (h : Sh s t m) (hb : ∀ k, k < m → isBlank (byte t k) = true) : readF t = (readF s).move m := by
  have hz := h.siz
  have e : ∀ i, i ≤ m → Ck.overF isBlank t i = Ck.overF isBlank t m := by
    intro i hi
    induction hn : m - i generalizing i with
    | zero => rw [show i = m by omega]
    | succ n ih =>
      rw [overF_pos isBlank t i (by omega) (hb i (by omega))]
      exact ih (i + 1) (by omega) (by omega)
  have e2 : Ck.blF t 0 = m + Ck.blF s 0 := by
    rw [← h.blF]
    unfold Ck.blF
    rw [e 0 (Nat.zero_le _)]
    rfl
  unfold Ck.readF
  rw [e2]
  exact h.rdF (Ck.blF s 0) []

end Go.Proofs.YtpeebpnoldadjaaDoor.Ck
