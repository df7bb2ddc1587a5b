/- Brackets around a text: its tokens. No Go text is walked here. -/
import Derived.Test.YtogeblmppagabaaGreatDoorQbq
import Derived.Test.YtogeblmppagabaaGreatDoorQaj
namespace Go.Proofs.YtogeblmppagabaaGreatDoor.Ck
open Go.RowKit

/-- U is s and a bracket behind it -/
structure Bk (s U : ByteArray) : Prop where
  siz : U.size = s.size + 1
  byt : ∀ k, k < s.size → byte U k = byte s k
  end_ : byte U s.size = 41
  lst : U.data.toList.take s.size = s.data.toList
theorem Bk.of {s U : ByteArray} (h : U.data.toList = s.data.toList ++ [41]) : Bk s U := by
  have e1 : U.data.toList.length = U.size := rfl
  have e3 : s.data.toList.length = s.size := rfl
  have hz : U.size = s.size + 1 := by rw [← e1, h, List.length_append, e3]; rfl
  refine ⟨hz, fun k hk => ?_, ?_, by rw [h, ← e3, List.take_left]⟩
  · rw [byte_list U k (by omega), byte_list s k (by omega)]
    simp only [h]
    rw [List.getElem_append_left (by omega)]
  · rw [byte_list U s.size (by omega)]
    simp only [h]
    rw [List.getElem_append_right (by omega)]
    simp [e3]
theorem Bk.overF {s U : ByteArray} (h : Bk s U) (p : Int → Bool) (hp : p 41 = false) (i : Nat) (hi : i ≤ s.size) : overF p U i = overF p s i := by
  have hz := h.siz
  by_cases h1 : i < s.size
  · by_cases h2 : p (byte s i) = true
    · rw [overF_pos p s i h1 h2, overF_pos p U i (by omega) (by rw [h.byt i h1]; exact h2)]
      exact h.overF p hp (i + 1) (by omega)
    · rw [overF_stop p s i (by simpa using h2), overF_stop p U i (by rw [h.byt i h1]; simpa using h2)]
  · have e : i = s.size := by omega
    subst e
    rw [overF_end p s _ (by omega), overF_stop p U _ (by rw [h.end_]; exact hp)]
termination_by s.size - i
theorem Bk.overN {s U : ByteArray} (h : Bk s U) (i : Nat) (hi : i ≤ s.size) : (Ck.overF notNl U i = Ck.overF notNl s i ∧ Ck.overF notNl s i < s.size) ∨ (Ck.overF notNl s i = s.size ∧ Ck.overF notNl U i = U.size) := by
  have hz := h.siz
  by_cases h1 : i < s.size
  · by_cases h2 : notNl (byte s i) = true
    · rw [overF_pos _ s i h1 h2, overF_pos _ U i (by omega) (by rw [h.byt i h1]; exact h2)]
      exact h.overN (i + 1) (by omega)
    · rw [overF_stop _ s i (by simpa using h2), overF_stop _ U i (by rw [h.byt i h1]; simpa using h2)]
      exact .inl ⟨rfl, h1⟩
  · have e : i = s.size := by omega
    subst e
    rw [overF_end _ s _ (by omega), overF_pos _ U _ (by omega) (by rw [h.end_]; decide), overF_end _ U _ (by omega)]
    exact .inr ⟨rfl, by omega⟩
termination_by s.size - i
theorem Bk.comm {s U : ByteArray} (h : Bk s U) (j : Nat) (hj : j ≤ s.size) : comm U j = comm s j := by
  have hz := h.siz
  unfold Ck.comm
  by_cases h1 : j + 1 < s.size
  · rw [h.byt j (by omega), h.byt (j + 1) h1, decide_eq_true h1, decide_eq_true (show j + 1 < U.size by omega)]
  · rw [decide_eq_false h1, Bool.false_and]
    by_cases h2 : j + 1 < U.size
    · have e : j + 1 = s.size := by omega
      rw [e, h.end_]
      simp
    · rw [decide_eq_false h2, Bool.false_and]
theorem Bk.skipC {s U : ByteArray} (h : Bk s U) (j : Nat) (hj : j ≤ s.size) : skipC U j = skipC s j ∨ (skipC s j = s.size ∧ skipC U j = U.size) := by
  have hz := h.siz
  by_cases hc : Ck.comm s j = true
  · have h1 := pastC_gt hc
    have h2 := comm_lt hc
    rw [skipC_yes hc, skipC_yes (show Ck.comm U j = true by rw [h.comm j hj]; exact hc)]
    rcases h.overN j hj with ⟨e1, e2⟩ | ⟨e1, e2⟩
    · have e : pastC U j = pastC s j := by
        unfold pastC
        rw [e1, h.overF isBlank (by decide) _ (by omega)]
      rw [e]
      exact h.skipC (pastC s j) (pastC_le hj)
    · right
      have p1 : pastC s j = s.size := by unfold pastC; rw [e1, overF_end _ s _ (by omega)]
      have p2 : pastC U j = U.size := by unfold pastC; rw [e2, overF_end _ U _ (by omega)]
      rw [p1, p2]
      have q1 : Ck.comm s s.size = false := by unfold Ck.comm; rw [decide_eq_false (by omega), Bool.false_and]
      have q2 : Ck.comm U U.size = false := by unfold Ck.comm; rw [decide_eq_false (by omega), Bool.false_and]
      rw [skipC_no q1, skipC_no q2]
      exact ⟨rfl, rfl⟩
  · have hc : Ck.comm s j = false := by simpa using hc
    rw [skipC_no hc, skipC_no (show Ck.comm U j = false by rw [h.comm j hj]; exact hc)]
    exact .inl rfl
termination_by s.size - j
theorem Bk.blF {s U : ByteArray} (h : Bk s U) (i : Nat) (hi : i ≤ s.size) : blF U i = blF s i ∨ (blF s i = s.size ∧ blF U i = U.size) := by
  unfold Ck.blF
  rw [h.overF isBlank (by decide) i hi]
  exact h.skipC _ (overF_le _ _ _ hi)
theorem Bk.cut {s U : ByteArray} (h : Bk s U) (i j : Nat) (hj : j ≤ s.size) : cut U i j = cut s i j := by
  apply ba_ext
  unfold Ck.cut
  rw [cut_list, cut_list]
  have e : s.data.toList.drop i = (U.data.toList.drop i).take (s.size - i) := by rw [← h.lst, List.drop_take]
  rw [e, List.take_take]
  congr 1
  omega
theorem Bk.markF {s U : ByteArray} (h : Bk s U) (i : Nat) (hi : i < s.size) : markF U i = markF s i := by
  have hz := h.siz
  unfold Ck.markF
  by_cases h1 : i + 1 < s.size ∧ two (byte s i) (byte s (i + 1)) = true
  · rw [if_pos h1, if_pos ⟨by omega, by rw [h.byt i hi, h.byt (i + 1) h1.1]; exact h1.2⟩]
  · rw [if_neg h1, if_neg (fun h2 => ?_)]
    · by_cases h3 : i < s.size ∧ byte s i ∈ oneTab
      · rw [if_pos h3, if_pos ⟨by omega, by rw [h.byt i hi]; exact h3.2⟩]
      · rw [if_neg h3, if_neg (fun h4 => h3 ⟨hi, by rw [← h.byt i hi]; exact h4.2⟩)]
    · by_cases h5 : i + 1 < s.size
      · exact h1 ⟨h5, by rw [← h.byt i hi, ← h.byt (i + 1) h5]; exact h2.2⟩
      · have e : i + 1 = s.size := by omega
        have h6 := h2.2
        rw [e, h.end_] at h6
        unfold two at h6
        simp at h6
theorem Bk.overH {s U : ByteArray} (h : Bk s U) (i j : Nat) (hj : j ≤ s.size) : overH U i j = overH s i j := by
  have hz := h.siz
  rw [Ck.overH.eq_def U, Ck.overH.eq_def s]
  by_cases h1 : j < s.size
  · rw [if_pos h1, if_pos (show j < U.size by omega), h.byt j h1]
    by_cases hp : (isHex (byte s j) && decide (j - i ≤ 16)) = true
    · rw [if_pos hp, if_pos hp]
      exact h.overH i (j + 1) (by omega)
    · rw [if_neg hp, if_neg hp]
  · have e : j = s.size := by omega
    subst e
    rw [if_pos (show s.size < U.size by omega), if_neg (show ¬ s.size < s.size by omega), h.end_, if_neg (by simp [show isHex 41 = false by decide])]
termination_by s.size - j
theorem Bk.tight {s U : ByteArray} (h : Bk s U) (e : Nat) (he : e ≤ s.size) : tight U e = tight s e := by
  have hz := h.siz
  unfold Ck.tight
  by_cases h1 : e < s.size
  · rw [decide_eq_true h1, decide_eq_true (show e < U.size by omega), h.byt e h1]
  · have e2 : e = s.size := by omega
    subst e2
    rw [decide_eq_false h1, h.end_]
    simp [show isWord 41 = false by decide]
theorem Bk.endI {s U : ByteArray} (h : Bk s U) (i : Nat) (hi : i < s.size) : endI U i = endI s i := by
  unfold Ck.endI
  rw [h.byt i hi, h.overF isDigit (by decide) i (by omega)]
theorem Bk.tokF {s U : ByteArray} (h : Bk s U) (i : Nat) (hi : i < s.size) : tokF U i = tokF s i := by
  unfold Ck.tokF
  rw [h.byt i hi]
  split
  · unfold wordF
    rw [h.overF isWord (by decide) i (by omega), h.cut _ _ (overF_le _ _ _ (by omega))]
  · split
    · rename_i hd
      have he := (endI_gt s i hi hd).2
      unfold intF
      rw [h.endI i hi, h.cut _ _ he, h.tight _ he]
    · split
      · have he := overH_le s i (i + 1) (by omega)
        unfold floatF
        rw [h.overH i (i + 1) (by omega), h.cut _ _ he, h.cut _ _ he, h.tight _ he]
      · have he := markF_le s i (by omega)
        unfold signF
        rw [h.markF i hi, h.cut _ _ he]

end Go.Proofs.YtogeblmppagabaaGreatDoor.Ck
