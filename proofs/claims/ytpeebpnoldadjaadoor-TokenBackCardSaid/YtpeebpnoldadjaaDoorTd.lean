/- The contracts of marks. -/
import Derived.Test.YtpeebpnoldadjaaDoorTc
namespace Go.Proofs.YtpeebpnoldadjaaDoor.Ck
open Go.RowKit

def b8 (s : ByteArray) (i : Nat) : UInt8 := s.data.getD i 0
theorem byte_b8 (s : ByteArray) (i : Nat) : byte s i = ((b8 s i).toNat : Int) := rfl
theorem drop_b8 (s : ByteArray) (i : Nat) (h : i < s.size) : s.data.toList.drop i = b8 s i :: s.data.toList.drop (i + 1) := by
  have h2 : i < s.data.toList.length := h
  rw [List.drop_eq_getElem_cons h2]
  congr 1
  unfold b8
  have h3 : i < s.data.size := h
  rw [Array.getD_eq_getD_getElem?, Array.getElem?_eq_getElem h3]
  rfl
theorem drop_nil8 (s : ByteArray) (i : Nat) (h : ¬ i < s.size) : s.data.toList.drop i = [] := List.drop_of_length_le (by have : s.data.toList.length = s.size := rfl; omega)
theorem head2 (s : ByteArray) (i : Nat) (hi : i < s.size) :
    ((s.extract i s.size).extract 0 (min 2 ((s.extract i s.size).size : Int)).toNat).toList = if i + 1 < s.size then [b8 s i, b8 s (i + 1)] else [b8 s i] := by
  have hz : (s.extract i s.size).size = s.size - i := by rw [ByteArray.size_extract]; omega
  rw [Lib.extract_toList, cut_end, hz, List.drop_zero, drop_b8 s i hi]
  by_cases h : i + 1 < s.size
  · rw [if_pos h, drop_b8 s (i + 1) h, show (min 2 ((s.size - i : Nat) : Int)).toNat - 0 = 2 by omega]
    rfl
  · rw [if_neg h, drop_nil8 s (i + 1) h, show (min 2 ((s.size - i : Nat) : Int)).toNat - 0 = 1 by omega]
    rfl
def twoTab : List (List UInt8) := [[58, 61], [61, 61], [33, 61], [60, 61], [62, 61], [38, 38], [124, 124]]
theorem eq8 (a : UInt8) (k : Nat) (hk : k < 256) : (((a.toNat : Nat) : Int) == ((k : Nat) : Int)) = (a == UInt8.ofNat k) := by
  rw [Bool.eq_iff_iff]
  simp only [beq_iff_eq]
  constructor
  · intro h
    exact UInt8.toNat_inj.1 (by rw [show a.toNat = k by omega, UInt8.toNat_ofNat']; omega)
  · rintro rfl
    rw [UInt8.toNat_ofNat']
    omega
theorem two_tab (a b : UInt8) : two a.toNat b.toNat = decide ([a, b] ∈ twoTab) := by
  have e : ∀ (x : UInt8) (k : Nat), k < 256 → (((x.toNat : Nat) : Int) == ((k : Nat) : Int)) = (x == UInt8.ofNat k) := eq8
  unfold two
  rw [show ((58 : Int)) = ((58 : Nat) : Int) from rfl, show ((61 : Int)) = ((61 : Nat) : Int) from rfl, show ((33 : Int)) = ((33 : Nat) : Int) from rfl, show ((60 : Int)) = ((60 : Nat) : Int) from rfl, show ((62 : Int)) = ((62 : Nat) : Int) from rfl, show ((38 : Int)) = ((38 : Nat) : Int) from rfl, show ((124 : Int)) = ((124 : Nat) : Int) from rfl]
  rw [e a 58 (by omega), e a 61 (by omega), e a 33 (by omega), e a 60 (by omega), e a 62 (by omega), e a 38 (by omega), e a 124 (by omega), e b 61 (by omega), e b 38 (by omega), e b 124 (by omega)]
  rw [Bool.eq_iff_iff]
  simp [twoTab, or_assoc]
theorem idx_mem (l : List UInt8) (c : UInt8) : 0 ≤ Lib.indexByte l c ↔ c ∈ l := by
  induction l with
  | nil => simp [Lib.indexByte]
  | cons b l ih =>
    have hg := Lib.indexByte_ge l c
    unfold Lib.indexByte
    by_cases h : b = c
    · simp [h]
    · have h2 : (b == c) = false := by simpa using h
      rw [h2]
      simp only [Bool.false_eq_true, if_false, List.mem_cons]
      by_cases h3 : Lib.indexByte l c = -1
      · rw [h3] at ih ⊢
        simp only [beq_self_eq_true, if_true]
        constructor
        · intro h4; omega
        · rintro (h4 | h4)
          · exact absurd h4.symm h
          · exact ih.2 h4
      · have h4 : (Lib.indexByte l c == -1) = false := by simpa using h3
        rw [h4]
        simp only [Bool.false_eq_true, if_false]
        constructor
        · intro _; exact .inr (ih.1 (by omega))
        · intro _; omega
set_option maxRecDepth 100000 in
theorem one_tab (a : UInt8) : (0 ≤ Lib.indexByte [43, 45, 42, 47, 37, 60, 62, 61, 33, 40, 41, 123, 125, 91, 93, 44, 59] a) ↔ ((a.toNat : Nat) : Int) ∈ oneTab := by
  rw [idx_mem]
  have h : ∀ n : Fin 256, (UInt8.ofNat n.val ∈ [(43 : UInt8), 45, 42, 47, 37, 60, 62, 61, 33, 40, 41, 123, 125, 91, 93, 44, 59]) ↔ ((n.val : Int) ∈ oneTab) := by decide
  have := h ⟨a.toNat, UInt8.toNat_lt a⟩
  rwa [UInt8.ofNat_toNat] at this
theorem markF_two {s : ByteArray} {i : Nat} {L : List UInt8} (hL : L = if i + 1 < s.size then [b8 s i, b8 s (i + 1)] else [b8 s i]) : (i + 1 < s.size ∧ two (byte s i) (byte s (i + 1)) = true) ↔ L ∈ twoTab := by
  subst hL
  by_cases h : i + 1 < s.size
  · rw [if_pos h, byte_b8, byte_b8, two_tab]
    simp [h]
  · rw [if_neg h]
    constructor
    · intro h2
      exact absurd h2.1 h
    · intro h2
      simp [twoTab] at h2

theorem markLen_core (t : ByteArray) (L : List UInt8) (a : UInt8) (w : World) (h9 : t.size ≤ 9000) (h0 : 0 < t.size) (ha : t[0] = a) (hL : (t.extract 0 (min 2 (t.size : Int)).toNat).toList = L) :
    Calls Tryd.prog 57 #[.string t] w fun e w' => e = .returned (.int .i64 (if L ∈ twoTab then 2 else if ((a.toNat : Nat) : Int) ∈ oneTab then 1 else 0)) ∧ w = w' := by
  by_cases hm : L ∈ twoTab
  · rw [if_pos hm]
    simp [twoTab] at hm
    rcases hm with rfl | rfl | rfl | rfl | rfl | rfl | rfl <;>
    · go_enter Tryd.func57, Tryd.ntmps57
      go_wp2_with fail
      go_ret
      exact ⟨rfl, rfl⟩
  · rw [if_neg hm]
    simp [twoTab] at hm
    obtain ⟨m1, m2, m3, m4, m5, m6, m7⟩ := hm
    have c1 : (L == [58, 61]) = false := by simpa using m1
    have c2 : (L == [61, 61]) = false := by simpa using m2
    have c3 : (L == [33, 61]) = false := by simpa using m3
    have c4 : (L == [60, 61]) = false := by simpa using m4
    have c5 : (L == [62, 61]) = false := by simpa using m5
    have c6 : (L == [38, 38]) = false := by simpa using m6
    have c7 : (L == [124, 124]) = false := by simpa using m7
    clear m1 m2 m3 m4 m5 m6 m7
    have hc : Hid (∀ w, Calls Tryd.prog 66 #[.string ⟨#[43, 45, 42, 47, 37, 60, 62, 61, 33, 40, 41, 123, 125, 91, 93, 44, 59]⟩, .int .u8 (a.toNat : Int)] w fun e w' => e = .returned (.int .i64 (Lib.indexByte [43, 45, 42, 47, 37, 60, 62, 61, 33, 40, 41, 123, 125, 91, 93, 44, 59] a)) ∧ w = w') := fun w => by
      have := Tryd.strings_IndexByte ⟨#[43, 45, 42, 47, 37, 60, 62, 61, 33, 40, 41, 123, 125, 91, 93, 44, 59]⟩ (a.toNat : Int) w
      rw [show ((a.toNat : Int).toNat.toUInt8) = a by simp] at this
      exact this.mono fun _ _ h => ⟨h.1, h.2.symm⟩
    have hne : t.toList.isEmpty = false := by
      rw [ByteArray.toList_eq]
      have h1 : t.data.toList.length = t.size := rfl
      cases h2 : t.data.toList with
      | nil => rw [h2] at h1; simp at h1; omega
      | cons x l => rfl
    by_cases hp : ((a.toNat : Nat) : Int) ∈ oneTab
    · rw [if_pos hp]
      have hz := (one_tab a).2 hp
      generalize Lib.indexByte [43, 45, 42, 47, 37, 60, 62, 61, 33, 40, 41, 123, 125, 91, 93, 44, 59] a = z at *
      go_enter Tryd.func57, Tryd.ntmps57
      go_wp2_with (first | (go_at_call 66; refine (hc.out _).mono ?_; rintro e w1 ⟨rfl, rfl⟩))
      go_ret
      exact ⟨rfl, rfl⟩
    · rw [if_neg hp]
      have hz : ¬ 0 ≤ Lib.indexByte [43, 45, 42, 47, 37, 60, 62, 61, 33, 40, 41, 123, 125, 91, 93, 44, 59] a := fun h => hp ((one_tab a).1 h)
      generalize Lib.indexByte [43, 45, 42, 47, 37, 60, 62, 61, 33, 40, 41, 123, 125, 91, 93, 44, 59] a = z at *
      have hz2 : z < 0 := by omega
      clear hz
      go_enter Tryd.func57, Tryd.ntmps57
      go_wp2_with (first | (go_at_call 66; refine (hc.out _).mono ?_; rintro e w1 ⟨rfl, rfl⟩))
      go_ret
      exact ⟨rfl, rfl⟩
theorem markLen_any (s : ByteArray) (i : Nat) (w : World) (hs : s.size ≤ 9000) (hi : i < s.size) :
    Calls Tryd.prog 57 #[.string (s.extract i s.size)] w fun e w' => e = .returned (.int .i64 (markF s i)) ∧ w = w' := by
  have hsz : (s.extract i s.size).size = s.size - i := by rw [ByteArray.size_extract]; omega
  have h2 := head2 s i hi
  have h3 : (s.extract i s.size)[0]'(by omega) = b8 s i := by
    have e : (s.extract i s.size).data.toList = b8 s i :: s.data.toList.drop (i + 1) := by rw [cut_end, drop_b8 s i hi]
    show (s.extract i s.size).data.toList[0]'_ = _
    simp only [e]
    rfl
  refine (markLen_core _ _ _ w (by omega) (by omega) h3 h2).mono ?_
  rintro e w' ⟨rfl, rfl⟩
  refine ⟨congrArg Ending.returned (congrArg (Value.int .i64) ?_), rfl⟩
  unfold markF
  have hm := markF_two (s := s) (i := i) rfl
  rw [byte_b8] at hm ⊢
  by_cases h : (if i + 1 < s.size then [b8 s i, b8 s (i + 1)] else [b8 s i]) ∈ twoTab
  · rw [if_pos h, if_pos (hm.2 h)]
    rfl
  · rw [if_neg h, if_neg (fun h4 => h (hm.1 h4))]
    by_cases h5 : (((b8 s i).toNat : Nat) : Int) ∈ oneTab
    · rw [if_pos h5, if_pos ⟨hi, h5⟩]
      rfl
    · rw [if_neg h5, if_neg (fun h => h5 h.2)]
      rfl

end Go.Proofs.YtpeebpnoldadjaaDoor.Ck
