/- Numbers in decimal digits: no Go text is walked here. -/
import Derived.Test.YtpeebpnoldadjaaDoorTx
namespace Go.Proofs.YtpeebpnoldadjaaDoor.Ck
open Go.RowKit

theorem overF_eq {p : Int → Bool} {s : ByteArray} {i e : Nat} (hi : i ≤ e) (he : e ≤ s.size) (h1 : ∀ k, i ≤ k → k < e → p (byte s k) = true) (h2 : e = s.size ∨ p (byte s e) = false) : overF p s i = e := by
  by_cases h : i = e
  · subst h
    rcases h2 with h2 | h2
    · exact overF_end _ _ _ (by omega)
    · exact overF_stop _ _ _ h2
  · rw [overF_pos p s i (by omega) (h1 i (Nat.le_refl _) (by omega))]
    exact overF_eq (by omega) he (fun k hk => h1 k (by omega)) h2
termination_by e - i

def dig (k : Nat) : UInt8 := UInt8.ofNat (48 + k)
theorem dig_nat (k : Nat) (h : k ≤ 9) : (dig k).toNat = 48 + k := by unfold dig; rw [UInt8.toNat_ofNat']; omega
def decT (n : Nat) (acc : List UInt8) : List UInt8 := if 9 < n then decT (n / 10) (dig (n % 10) :: acc) else dig n :: acc
termination_by n
decreasing_by omega
def dv (a : Nat) (l : List UInt8) : Nat := l.foldl (fun a c => a * 10 + (c.toNat - 48)) a
def Digs (l : List UInt8) : Prop := ∀ c ∈ l, 48 ≤ c.toNat ∧ c.toNat ≤ 57
theorem dv_cons (a : Nat) (c : UInt8) (l : List UInt8) : dv a (c :: l) = dv (a * 10 + (c.toNat - 48)) l := by unfold dv; rw [List.foldl_cons]
theorem dec_big (n : Nat) (acc : List UInt8) (h : 9 < n) : decT n acc = decT (n / 10) (dig (n % 10) :: acc) := by rw [decT, if_pos h]
theorem dec_small (n : Nat) (acc : List UInt8) (h : ¬ 9 < n) : decT n acc = dig n :: acc := by rw [decT, if_neg h]
theorem dv_dec (n : Nat) : ∀ acc : List UInt8, dv 0 (decT n acc) = dv n acc := by
  induction n using Nat.strongRecOn with
  | ind n ih =>
    intro acc
    by_cases h : 9 < n
    · have e : n / 10 * 10 + (48 + n % 10 - 48) = n := by omega
      rw [dec_big n acc h, ih (n / 10) (by omega), dv_cons, dig_nat _ (by omega), e]
    · have e : 0 * 10 + (48 + n - 48) = n := by omega
      rw [dec_small n acc h, dv_cons, dig_nat _ (by omega), e]
theorem digs_dec (n : Nat) (acc : List UInt8) (h : Digs acc) : Digs (decT n acc) := by
  rw [decT]
  split
  · refine digs_dec (n / 10) _ (fun c hc => ?_)
    rcases List.mem_cons.1 hc with rfl | hc
    · rw [dig_nat _ (by omega)]; omega
    · exact h c hc
  · intro c hc
    rcases List.mem_cons.1 hc with rfl | hc
    · rw [dig_nat _ (by omega)]; omega
    · exact h c hc
termination_by n
theorem dec_head (n : Nat) (acc : List UInt8) (h : 1 ≤ n) : ∃ c r, decT n acc = c :: r ∧ 49 ≤ c.toNat := by
  rw [decT]
  split
  · exact dec_head (n / 10) _ (by omega)
  · exact ⟨_, _, rfl, by rw [dig_nat _ (by omega)]; omega⟩
termination_by n
theorem dec_zero : decT 0 [] = [48] := by rw [decT]; rfl
theorem dec_len (k n : Nat) (acc : List UInt8) (h : n < 10 ^ (k + 1)) : (decT n acc).length ≤ k + 1 + acc.length := by
  induction k generalizing n acc with
  | zero =>
    rw [decT, if_neg (by simp at h; omega)]
    simp
    omega
  | succ k ih =>
    rw [decT]
    split
    · have := ih (n / 10) (dig (n % 10) :: acc) (by rw [Nat.pow_succ] at h; omega)
      simp at this ⊢
      omega
    · simp
      omega
theorem dv_ge (l : List UInt8) (a : Nat) : a ≤ dv a l := by
  induction l generalizing a with
  | nil => exact Nat.le_refl _
  | cons c l ih => rw [dv_cons]; exact Nat.le_trans (by omega) (ih _)
theorem parse_ok (l : List UInt8) (a : Nat) (h : Digs l) (hv : dv a l < 18446744073709551616) : Lib.parseUint10 a l = .ok (dv a l) := by
  induction l generalizing a with
  | nil => rfl
  | cons c l ih =>
    have hc := h c (by simp)
    rw [dv_cons] at hv ⊢
    have hg := dv_ge l (a * 10 + (c.toNat - 48))
    unfold Lib.parseUint10
    rw [if_pos hc, if_neg (by omega), if_neg (by omega)]
    exact ih _ (fun x hx => h x (by simp [hx])) hv
theorem atoi_ok (l : List UInt8) (hne : l ≠ []) (h : Digs l) (hv : dv 0 l ≤ 9223372036854775807) : Lib.atoiAll l = .ok (dv 0 l : Int) := by
  cases l with
  | nil => exact absurd rfl hne
  | cons c r =>
    have hc := h c (by simp)
    have hp := parse_ok (c :: r) 0 h (by omega)
    unfold Lib.atoiAll Lib.parseMag
    simp only [show ¬ (c.toNat = 43 ∨ c.toNat = 45) by omega, if_false, List.cons_ne_nil, hp]
    rw [if_neg (by omega), if_neg (by omega), if_neg (by omega)]

/-- the text s is the number n in digits -/
def Dec (s : ByteArray) (n : Nat) : Prop := s.data.toList = decT n []
theorem Dec.size {s : ByteArray} {n : Nat} (h : Dec s n) (hn : n ≤ 9223372036854775807) : 1 ≤ s.size ∧ s.size ≤ 20 := by
  have e : s.data.toList.length = s.size := rfl
  have h1 := dec_len 19 n [] (by have : 10 ^ (19 + 1) = 100000000000000000000 := by decide
                                 omega)
  rw [h] at e
  simp at h1
  refine ⟨?_, by omega⟩
  by_cases h0 : n = 0
  · subst h0
    rw [dec_zero] at e
    simp at e
    omega
  · obtain ⟨c, r, hc, _⟩ := dec_head n [] (by omega)
    rw [hc] at e
    simp at e
    omega
theorem b8_list (s : ByteArray) (i : Nat) (h : i < s.data.toList.length) : b8 s i = s.data.toList[i] := by
  have := byte_list s i h
  rw [byte_b8] at this
  exact UInt8.toNat_inj.1 (by omega)
theorem Dec.digit {s : ByteArray} {n : Nat} (h : Dec s n) {k : Nat} (hk : k < s.size) : isDigit (byte s k) = true := by
  have hl : k < s.data.toList.length := hk
  rw [byte_list s k hl]
  have hd : Digs s.data.toList := by rw [show s.data.toList = decT n [] from h]; exact digs_dec n [] (fun _ h => by cases h)
  have := hd _ (List.getElem_mem hl)
  exact decide_eq_true ⟨by omega, by omega⟩
theorem Dec.end {s t : ByteArray} {n : Nat} (h : Dec s n) (hn : n ≤ 9223372036854775807) (hp : ∀ k, k < s.size → byte t k = byte s k) (hle : s.size ≤ t.size) (h2 : s.size = t.size ∨ isDigit (byte t s.size) = false) : endI t 0 = s.size := by
  have hz := h.size hn
  unfold endI
  by_cases h0 : n = 0
  · subst h0
    have e : s.data.toList.length = s.size := rfl
    have h' : s.data.toList = [48] := h.trans dec_zero
    rw [h'] at e
    have hs1 : s.size = 1 := by simpa using e.symm
    have hb : byte s 0 = 48 := by
      rw [byte_list s 0 (by rw [h']; decide)]
      simp only [h']
      rfl
    rw [hp 0 (by omega), if_pos hb, hs1]
  · obtain ⟨c, r, hc, hc2⟩ := dec_head n [] (by omega)
    have h' : s.data.toList = c :: r := h.trans hc
    have hb : byte s 0 = (c.toNat : Int) := by
      rw [byte_list s 0 (by rw [h']; simp)]
      simp only [h']
      rfl
    rw [hp 0 (by omega), if_neg (by omega)]
    exact overF_eq (Nat.zero_le _) hle (fun k _ hk => by rw [hp k hk]; exact h.digit hk) (h2.imp (fun h => h) (fun h => h))
theorem not_blank_digit {s : ByteArray} (hd : isDigit (byte s 0) = true) : blF s 0 = 0 := by
  unfold isDigit at hd
  simp at hd
  have h1 : overF isBlank s 0 = 0 := overF_stop _ _ _ (by unfold isBlank; simp; omega)
  unfold blF
  rw [h1]
  refine skipC_no ?_
  unfold comm
  simp
  intro _ h
  omega
theorem tokF_digit {s : ByteArray} {i : Nat} (hd : isDigit (byte s i) = true) : tokF s i = intF s i := by
  have hl : isLetter (byte s i) = false := by
    unfold isDigit at hd
    unfold isLetter
    simp at hd ⊢
    omega
  unfold tokF
  rw [hl, hd]
  simp
theorem cut_all (s : ByteArray) : (cut s 0 s.size).data.toList = s.data.toList := by unfold cut; rw [cut_end]; rfl
theorem cut_same {s t : ByteArray} {i j : Nat} (h : t.data.toList = (s.data.toList.drop i).take (j - i)) : cut s i j = t := by
  have e : (cut s i j).data.toList = t.data.toList := by unfold cut; rw [cut_list]; exact h.symm
  have e2 : (cut s i j).data = t.data := Array.toList_inj.1 e
  cases h1 : cut s i j
  cases t
  rw [h1] at e2
  simp at e2
  rw [e2]
theorem blF_all {s : ByteArray} {i : Nat} (h : ¬ i < s.size) : blF s i = i := by
  unfold blF
  rw [overF_end _ _ _ h]
  refine skipC_no ?_
  unfold comm
  simp
  omega
theorem Dec.val {s : ByteArray} {n : Nat} (h : Dec s n) (hn : n ≤ 9223372036854775807) : Lib.atoiAll s.data.toList = .ok (n : Int) := by
  have hv : dv 0 (decT n []) = n := dv_dec n []
  have hz := h.size hn
  rw [show s.data.toList = decT n [] from h, atoi_ok _ (fun e => ?_) (digs_dec n [] (fun _ h => by cases h)) (by omega), hv]
  have e1 : s.data.toList.length = s.size := rfl
  rw [show s.data.toList = decT n [] from h, e] at e1
  simp at e1
  omega
theorem Dec.read {s : ByteArray} {n : Nat} (h : Dec s n) (hn : n ≤ 9223372036854775807) : readF s = .ok [⟨3, s, n, 0, 0⟩] := by
  have hz := h.size hn
  have hd := h.digit (show 0 < s.size by omega)
  have hE := h.end hn (fun _ _ => rfl) (Nat.le_refl _) (.inl rfl)
  have hi : intF s 0 = .ok ⟨3, s, n, 0, 0⟩ s.size := by
    rw [intF_rest, hE]
    have hc : cut s 0 s.size = s := cut_same (by rw [List.drop_zero, List.take_of_length_le]; exact Nat.le_refl _)
    unfold rest
    rw [hc, h.val hn]
    simp only
    rw [if_neg (by unfold tight; simp)]
  unfold readF
  rw [not_blank_digit hd, rdF_step (by omega) (by simp) (by rw [tokF_digit hd]; exact hi), blF_all (by omega), rdF_end (by omega)]
  rfl
theorem Dec.nought {s t : ByteArray} {n : Nat} (h : Dec s n) (hn : n ≤ 9223372036854775807) (ht : t.data.toList = 48 :: s.data.toList) : readF t = .bad 1 1 := by
  have hz := h.size hn
  have e1 : s.data.toList.length = s.size := rfl
  have e2 : t.data.toList.length = t.size := rfl
  rw [ht] at e2
  simp at e2
  have hb0 : byte t 0 = 48 := by
    rw [byte_list t 0 (by rw [ht]; simp)]
    simp only [ht]
    rfl
  have hb1 : byte t 1 = byte s 0 := by
    rw [byte_list t 1 (by rw [ht]; simp <;> omega), byte_list s 0 (by omega)]
    simp only [ht]
    rfl
  have hd : isDigit (byte t 0) = true := by rw [hb0]; decide
  have hE : endI t 0 = 1 := by unfold endI; rw [if_pos hb0]
  have hc : (cut t 0 1).data.toList = [48] := by unfold cut; rw [cut_list, ht]; rfl
  have hd1 := h.digit (show 0 < s.size by omega)
  have hi : intF t 0 = .bad 1 1 := by
    rw [intF_rest, hE]
    unfold rest
    rw [hc, show Lib.atoiAll [48] = .ok 0 from by decide]
    simp only
    rw [if_pos (by unfold tight isWord; rw [hb1, hd1]; simp; omega)]
  unfold readF
  rw [not_blank_digit hd, rdF_bad (by omega) (by simp) (by rw [tokF_digit hd]; exact hi)]
theorem Dec.behind {s t : ByteArray} {n : Nat} (h : Dec s n) (hn : n ≤ 9223372036854775807) (ht : t.data.toList = s.data.toList ++ [120]) : readF t = .bad 1 s.size := by
  have hz := h.size hn
  have e1 : s.data.toList.length = s.size := rfl
  have e2 : t.data.toList.length = t.size := rfl
  rw [ht] at e2
  simp at e2
  have hp : ∀ k, k < s.size → byte t k = byte s k := fun k hk => by
    rw [byte_list t k (by rw [ht]; simp <;> omega), byte_list s k (by omega)]
    simp only [ht]
    rw [List.getElem_append_left]
  have hbx : byte t s.size = 120 := by
    rw [byte_list t s.size (by rw [ht]; simp <;> omega)]
    simp only [ht]
    rw [List.getElem_append_right (by omega)]
    simp [e1]
  have hd : isDigit (byte t 0) = true := by rw [hp 0 (by omega)]; exact h.digit (by omega)
  have hE := h.end hn hp (by omega) (.inr (by rw [hbx]; decide))
  have hc : cut t 0 s.size = s := cut_same (by rw [List.drop_zero, ht, List.take_append_of_le_length (by omega), List.take_of_length_le (by omega)])
  have hi : intF t 0 = .bad 1 s.size := by
    rw [intF_rest, hE]
    unfold rest
    rw [hc, h.val hn]
    simp only
    rw [if_pos (by unfold tight isWord; rw [hbx]; simp; first | done | (refine ⟨by omega, by decide⟩) | (refine ⟨?_, ?_⟩ <;> first | omega | decide))]
  unfold readF
  rw [not_blank_digit hd, rdF_bad (by omega) (by simp) (by rw [tokF_digit hd]; exact hi)]

end Go.Proofs.YtpeebpnoldadjaaDoor.Ck
