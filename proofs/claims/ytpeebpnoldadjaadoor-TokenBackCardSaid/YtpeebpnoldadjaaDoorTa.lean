/- The contract of the reader's blanks. -/
import Derived.Test.YtpeebpnoldadjaaDoorTm
import Derived.Test.YtpeebpnoldadjaaDoorSh
namespace Go.Proofs.YtpeebpnoldadjaaDoor.Ck
open Go.RowKit

theorem cut_list (s : ByteArray) (i j : Nat) : (s.extract i j).data.toList = (s.data.toList.drop i).take (j - i) := by
  rw [ByteArray.data_extract, Array.toList_extract]
theorem cut_end (s : ByteArray) (i : Nat) : (s.extract i s.size).data.toList = s.data.toList.drop i := by
  rw [cut_list]
  exact List.take_of_length_le (by rw [List.length_drop]; exact Nat.le_refl _)
theorem byte_list (s : ByteArray) (i : Nat) (h : i < s.data.toList.length) : byte s i = ((s.data.toList[i]'h).toNat : Int) := byte_eq s i (by simpa using h)
theorem beq47 (a : UInt8) : ((47 : UInt8) == a) = (((a.toNat : Nat) : Int) == 47) := by
  rw [Bool.eq_iff_iff]
  simp only [beq_iff_eq]
  constructor
  · rintro rfl
    rfl
  · intro h
    exact UInt8.toNat_inj.1 (by rw [show a.toNat = 47 by omega]; rfl)
theorem hasP_eq (s : ByteArray) (j : Nat) : Lib.hasPrefix (s.extract j s.size).data.toList [47, 47] = comm s j := by
  rw [cut_end]
  have hl : s.data.toList.length = s.size := rfl
  unfold comm Lib.hasPrefix
  by_cases h : j < s.size
  · rw [List.drop_eq_getElem_cons (by omega)]
    by_cases h1 : j + 1 < s.size
    · rw [List.drop_eq_getElem_cons (by omega), byte_list s j (by omega), byte_list s (j + 1) (by omega), decide_eq_true h1]
      generalize s.data.toList[j] = a
      generalize s.data.toList[j + 1] = b
      simp only [List.isPrefixOf, Bool.true_and, Bool.and_true]
      congr 1
      · exact beq47 a
      · exact beq47 b
    · rw [decide_eq_false h1, List.drop_of_length_le (by omega)]
      simp [List.isPrefixOf]
  · rw [decide_eq_false (by omega), List.drop_of_length_le (by omega)]
    simp [List.isPrefixOf]
theorem pre_any (s : ByteArray) (j : Nat) (w : World) :
    Calls Tryd.prog 40 #[.string (s.extract j s.size), .string ⟨#[47, 47]⟩] w fun e w' => e = .returned (.bool (comm s j)) ∧ w' = w := by
  have := Tryd.strings_HasPrefix (s.extract j s.size) ⟨#[47, 47]⟩ w
  rwa [show (ByteArray.mk #[47, 47]).data.toList = [47, 47] from rfl, hasP_eq] at this

set_option maxHeartbeats 1000000 in
theorem blanks_any (g : Nat) (s : ByteArray) (i : Nat) (w : World) (h : Rdr w g s i) (hi : s.size ≤ 9000) (hi2 : i ≤ s.size) :
    Calls Tryd.prog 26 #[.pointer (some ⟨g, 0, none⟩)] w fun e w' => e = .returned (.tuple #[]) ∧ Rdr w' g s (blF s i) ∧ Tn g w w' := by
  have H := hide h
  clear h
  go_enter Tryd.func26, Tryd.ntmps26
  go_wp2_with fail
  refine (over_blank g s i w H.out hi hi2).mono ?_
  rintro e w1 ⟨rfl, r1, t1⟩
  have R1 := hide r1
  clear r1
  go_wp2_with fail
  go_loopw [] (fun wr => ∃ j : Nat, j ≤ s.size ∧ Hid (Rdr wr g s j ∧ blF s i = skipC s j ∧ Tn g w wr)) (fun wr => s.size - posAt wr g)
  case atStart => exact ⟨_, overF_le _ _ _ hi2, R1.out, rfl, t1⟩
  case round =>
    obtain ⟨j, hj, I⟩ := hrel
    have h1 := I.out.1.src
    have h2 := I.out.1.pos
    by_cases hc : comm s j = true
    · have hp := fun w => pre_any s j w
      rw [hc] at hp
      have HC := hide hc
      have HP := hide hp
      clear hc hp
      go_wp2_with fail
      go_quiet (first | (go_at_call 40; exact Calls.quiet_of_same (HP.out _)))
      go_wp2_with fail
      refine (over_nl g s j _ (I.out.1.drewN _) hi hj).mono ?_
      rintro e w2 ⟨rfl, r2, t2⟩
      have R2 := hide r2
      clear r2
      go_wp2_with fail
      refine (over_blank g s _ _ R2.out hi (overF_le _ _ _ hj)).mono ?_
      rintro e w3 ⟨rfl, r3, t3⟩
      have R3 := hide r3
      clear r3
      go_wp2_with fail
      go_roundw
      case rel => exact ⟨pastC s j, pastC_le hj, R3.out, I.out.2.1.trans (skipC_yes HC.out), ((I.out.2.2.drewN _).trans t2).trans t3⟩
      case measure =>
        have h3 : posAt w3 g = pastC s j := R3.out.posAt
        rw [h3, I.out.1.posAt]
        have := pastC_gt HC.out
        have := comm_lt HC.out
        omega
    · have hc : comm s j = false := by simpa using hc
      have hp := fun w => pre_any s j w
      rw [hc] at hp
      have HC := hide hc
      have HP := hide hp
      clear hc hp
      go_wp2_with fail
      go_quiet (first | (go_at_call 40; exact Calls.quiet_of_same (HP.out _)))
      go_wp2_with fail
      go_end0
      exact ⟨rfl, by rw [I.out.2.1, skipC_no HC.out]; exact I.out.1.drewN _, I.out.2.2.drewN _⟩

end Go.Proofs.YtpeebpnoldadjaaDoor.Ck
