/- Sixteen digits of base 16: no Go text is walked here. -/
import Derived.Test.YtogeblmppagabaaGreatDoorQai
namespace Go.Proofs.YtogeblmppagabaaGreatDoor.Ck
open Go.RowKit

theorem overH_eq {s : ByteArray} {i j e : Nat} (hj : j ≤ e) (he : e ≤ s.size) (h1 : ∀ k, j ≤ k → k < e → isHex (byte s k) = true ∧ k - i ≤ 16) (h2 : e = s.size ∨ 16 < e - i) : overH s i j = e := by
  by_cases h : j = e
  · subst h
    rw [overH]
    rcases h2 with h2 | h2
    · rw [if_neg (by omega)]
    · split
      · rw [if_neg (by simp; omega)]
      · rfl
  · rw [overH, if_pos (by omega), if_pos (by
      have := h1 j (Nat.le_refl _) (by omega)
      simp [this.1, this.2])]
    exact overH_eq (by omega) he (fun k hk => h1 k (by omega)) h2
termination_by e - j

def hd (k : Nat) : UInt8 := if k ≤ 9 then UInt8.ofNat (48 + k) else UInt8.ofNat (87 + k)
theorem hd_nat (k : Nat) (h : k ≤ 15) : (hd k).toNat = if k ≤ 9 then 48 + k else 87 + k := by
  unfold hd
  split <;> (rw [UInt8.toNat_ofNat']; omega)
theorem hd_val (k : Nat) (h : k ≤ 15) : hexV (hd k).toNat = k := by
  rw [hd_nat k h]
  unfold hexV
  split
  · rw [if_pos (by omega)]; omega
  · rw [if_neg (by omega)]; omega
theorem hd_hex (k : Nat) (h : k ≤ 15) : isHex ((hd k).toNat : Int) = true := by
  rw [hd_nat k h]
  unfold isHex isDigit
  split
  · simp; omega
  · simp; omega
/-- the first k digits of u -/
def hxs (u : Nat) (k : Nat) : List UInt8 := (List.range k).map (fun j => hd (u / 16 ^ (15 - j) % 16))
theorem hxs_len (u k : Nat) : (hxs u k).length = k := by simp [hxs]
theorem hxs_succ (u k : Nat) : hxs u (k + 1) = hxs u k ++ [hd (u / 16 ^ (15 - k) % 16)] := by
  unfold hxs
  rw [List.range_succ, List.map_append]
  rfl
theorem hxs_val (u k : Nat) (hu : u < 18446744073709551616) (hk : k ≤ 16) : hexF (hxs u k) = u / 16 ^ (16 - k) := by
  induction k with
  | zero =>
    have : u / 16 ^ 16 = 0 := Nat.div_eq_of_lt (by have : 16 ^ 16 = 18446744073709551616 := by decide
                                                   omega)
    rw [show 16 - 0 = 16 from rfl, this]
    rfl
  | succ k ih =>
    have ih := ih (by omega)
    unfold hexF at ih ⊢
    rw [hxs_succ, List.foldl_append, ih, List.foldl_cons, List.foldl_nil, hd_val _ (by omega)]
    have e1 : 16 - k = (15 - k) + 1 := by omega
    have e2 : 16 - (k + 1) = 15 - k := by omega
    rw [e1, e2, Nat.pow_succ, ← Nat.div_div_eq_div_mul]
    omega
theorem hxs_all (u k : Nat) (c : UInt8) (h : c ∈ hxs u k) : isHex (c.toNat : Int) = true := by
  unfold hxs at h
  obtain ⟨j, _, rfl⟩ := List.mem_map.1 h
  exact hd_hex _ (by omega)

/-- the text s is u's float -/
def Hx (s : ByteArray) (u : Nat) : Prop := s.data.toList = 35 :: hxs u 16
theorem Hx.size {s : ByteArray} {u : Nat} (h : Hx s u) : s.size = 17 := by
  have e : s.data.toList.length = s.size := rfl
  rw [h] at e
  simp [hxs_len] at e
  omega
theorem Hx.first {s : ByteArray} {u : Nat} (h : Hx s u) : byte s 0 = 35 := by
  have h' : s.data.toList = 35 :: hxs u 16 := h
  rw [byte_list s 0 (by rw [h']; simp)]
  simp only [h']
  rfl
theorem Hx.hex {s : ByteArray} {u : Nat} (h : Hx s u) {k : Nat} (h1 : 1 ≤ k) (h2 : k < 17) : isHex (byte s k) = true := by
  have h' : s.data.toList = 35 :: hxs u 16 := h
  have hl : k < s.data.toList.length := by rw [h']; simp [hxs_len]; omega
  rw [byte_list s k hl]
  have hm : s.data.toList[k] ∈ hxs u 16 := by
    simp only [h']
    rw [List.getElem_cons]
    rw [dif_neg (by omega)]
    exact List.getElem_mem _
  exact hxs_all u 16 _ hm
theorem sharp {s : ByteArray} (hb : byte s 0 = 35) : blF s 0 = 0 ∧ tokF s 0 = floatF s 0 := by
  constructor
  · have h1 : overF isBlank s 0 = 0 := overF_stop _ _ _ (by rw [hb]; decide)
    unfold blF
    rw [h1]
    refine skipC_no ?_
    unfold comm
    rw [hb]
    simp
  · unfold tokF
    rw [hb]
    rfl
theorem Hx.read {s : ByteArray} {u : Nat} (h : Hx s u) (hu : u < 18446744073709551616) : readF s = .ok [⟨4, s, 0, u, 0⟩] := by
  have hz := h.size
  obtain ⟨h1, h2⟩ := sharp h.first
  have ho : overH s 0 1 = 17 := overH_eq (by omega) (by omega) (fun k ha hb => ⟨h.hex ha hb, by omega⟩) (.inl hz.symm)
  have hf : floatF s 0 = .ok ⟨4, s, 0, u, 0⟩ 17 := by
    have hc : cut s 0 17 = s := cut_same (by rw [List.drop_zero, List.take_of_length_le]; have : s.data.toList.length = s.size := rfl; omega)
    have hc2 : (cut s 1 17).data.toList = hxs u 16 := by
      unfold cut
      rw [cut_list, show s.data.toList = 35 :: hxs u 16 from h, List.drop_succ_cons, List.drop_zero, List.take_of_length_le (by rw [hxs_len]; omega)]
    unfold floatF
    simp only [Nat.zero_add, ho]
    rw [if_pos trivial, if_neg (by unfold tight; simp; omega), hc, hc2, hxs_val u 16 hu (Nat.le_refl _)]
    simp
  unfold readF
  rw [h1, rdF_step (by omega) (by simp) (h2.trans hf), blF_all (by omega), rdF_end (by omega)]
  rfl
theorem Hx.short {s t : ByteArray} {u : Nat} (h : Hx s u) (ht : t.data.toList = s.data.toList.take 16) : readF t = .bad 1 0 := by
  have hz := h.size
  have hzt : t.size = 16 := by
    have e : t.data.toList.length = t.size := rfl
    have e2 : s.data.toList.length = s.size := rfl
    rw [ht, List.length_take] at e
    omega
  have hp : ∀ k, k < 16 → byte t k = byte s k := fun k hk => by
    have e2 : s.data.toList.length = s.size := rfl
    rw [byte_list t k (by rw [ht, List.length_take]; omega), byte_list s k (by omega)]
    simp only [ht]
    rw [List.getElem_take]
  have hb : byte t 0 = 35 := (hp 0 (by omega)).trans h.first
  obtain ⟨h1, h2⟩ := sharp hb
  have ho : overH t 0 1 = 16 := overH_eq (by omega) (by omega) (fun k ha hb => ⟨by rw [hp k (by omega)]; exact h.hex ha (by omega), by omega⟩) (.inl hzt.symm)
  have hf : floatF t 0 = .bad 1 0 := by
    unfold floatF
    simp only [Nat.zero_add, ho]
    rw [if_neg (by omega)]
  unfold readF
  rw [h1, rdF_bad (by omega) (by simp) (h2.trans hf)]

end Go.Proofs.YtogeblmppagabaaGreatDoor.Ck
