/- The contract of the reader's going over a float's digits. -/
import Derived.Test.YtpeebpnoldadjaaDoorTi
namespace Go.Proofs.YtpeebpnoldadjaaDoor.Ck
open Go.RowKit

set_option maxHeartbeats 1000000 in
theorem float1_any (g bR bF : Nat) (s : ByteArray) (i j : Nat) (c : Int) (w : World) (h : Rdr w g s j) (hr : w.cell? ⟨bR, 0, none⟩ = some (.pointer (some ⟨g, 0, none⟩))) (hf : w.cell? ⟨bF, 0, none⟩ = some (.int .i64 i)) (hs : s.size ≤ 9000) (hj : j ≤ s.size) (hij : i ≤ j) :
    Calls Tryd.prog 54 #[.int .u8 c, .pointer (some ⟨bR, 0, none⟩), .pointer (some ⟨bF, 0, none⟩)] w fun e w' => e = .returned (.bool (isHex c && decide (j - i ≤ 16))) ∧ ∃ k, w' = w.drewN k := by
  have h2 := h.pos
  have H := hide h
  clear h
  by_cases hc : isHex c = true
  · rw [hc]
    go_enter Tryd.func54, Tryd.ntmps54
    go_wp2_with fail
    go_quiet (first | (go_at_call 55; exact Calls.quiet_of_same ((hexDigit_any _ _).mono fun _ _ h => ⟨by rw [h.1, hc], h.2.symm⟩)))
    go_wp2_with fail
    go_ret
    refine ⟨congrArg Ending.returned (congrArg Value.bool ?_), _, rfl⟩
    rw [Bool.eq_iff_iff]
    simp
    omega
  · have hc : isHex c = false := by simpa using hc
    rw [hc]
    go_enter Tryd.func54, Tryd.ntmps54
    go_wp2_with fail
    go_quiet (first | (go_at_call 55; exact Calls.quiet_of_same ((hexDigit_any _ _).mono fun _ _ h => ⟨by rw [h.1, hc], h.2.symm⟩)))
    go_wp2_with fail
    go_ret
    exact ⟨rfl, _, rfl⟩

set_option maxHeartbeats 1000000 in
theorem over_hex (g bR bF : Nat) (s : ByteArray) (i j0 : Nat) (w : World) (h : Rdr w g s j0) (hr : w.cell? ⟨bR, 0, none⟩ = some (.pointer (some ⟨g, 0, none⟩))) (hf : w.cell? ⟨bF, 0, none⟩ = some (.int .i64 i)) (hbR : bR ≠ g) (hbF : bF ≠ g) (hi : s.size ≤ 9000) (hi2 : j0 ≤ s.size) (hij : i ≤ j0) :
    Calls Tryd.prog 38 #[.pointer (some ⟨g, 0, none⟩), .func (.func 54) #[] #[.pointer (some ⟨bR, 0, none⟩), .pointer (some ⟨bF, 0, none⟩)]] w fun e w' => e = .returned (.tuple #[]) ∧ Rdr w' g s (overH s i j0) ∧ Tn g w w' := by
  have H := hide h
  have HR := hide hr
  have HF := hide hf
  clear h hr hf
  go_enter Tryd.func38, Tryd.ntmps38
  go_wp2_with fail
  go_loopw [4] (fun _ wr => ∃ j : Nat, j ≤ s.size ∧ i ≤ j ∧ Hid (Rdr wr g s j ∧ overH s i j0 = overH s i j ∧ Tn g w wr)) (fun _ wr => s.size - posAt wr g)
  case atStart => exact ⟨j0, hi2, hij, H.out, rfl, Tn.refl _ _⟩
  case round =>
    obtain ⟨j, hj, hij2, I⟩ := hrel
    have h1 := I.out.1.src
    have h2 := I.out.1.pos
    have h3 := I.out.1.frz 1
    have HR2 := hide (I.out.2.2.cell hbR HR.out)
    have HF2 := hide (I.out.2.2.cell hbF HF.out)
    by_cases hjs : j < s.size
    · have hof : overH s i j = if (isHex (byte s j) && decide (j - i ≤ 16)) = true then overH s i (j + 1) else j := by rw [overH, if_pos hjs]
      by_cases hp : (isHex (byte s j) && decide (j - i ≤ 16)) = true
      · have hp2 : (isHex ((s[j]'hjs).toNat : Int) && decide (j - i ≤ 16)) = true := by rw [← byte_eq]; exact hp
        rw [if_pos hp] at hof
        have Hof := hide hof
        have HP := hide hp2
        have HS := hide (fun n z hz => (I.out.1.drewN n).set (j + 1) z hz)
        clear hp hof hp2
        go_wp2_with fail
        go_quiet (first | (go_at_call 27; exact Calls.quiet_of (more_yes (I.out.1.drewN _) hjs)) | (go_at_call 54; exact Calls.quiet_of ((float1_any g bR bF s i j _ _ (I.out.1.drewN _) HR2.out HF2.out hi hj hij2).mono fun _ _ h => ⟨by rw [h.1, HP.out], h.2⟩)))
        go_wp2_with fail
        go_roundw
        case rel => exact ⟨j + 1, by omega, by omega, (HS.out _ _ (by omega)).1, I.out.2.1.trans Hof.out, (I.out.2.2.drewN _).trans (HS.out _ _ (by omega)).2⟩
        case measure =>
          rw [(HS.out _ _ (by omega)).1.posAt, I.out.1.posAt]
          omega
      · have hp2 : (isHex ((s[j]'hjs).toNat : Int) && decide (j - i ≤ 16)) = false := by rw [← byte_eq]; simpa using hp
        rw [if_neg hp] at hof
        have Hof := hide hof
        have HP := hide hp2
        clear hp hof hp2
        go_wp2_with fail
        go_quiet (first | (go_at_call 27; exact Calls.quiet_of (more_yes (I.out.1.drewN _) hjs)) | (go_at_call 54; exact Calls.quiet_of ((float1_any g bR bF s i j _ _ (I.out.1.drewN _) HR2.out HF2.out hi hj hij2).mono fun _ _ h => ⟨by rw [h.1, HP.out], h.2⟩)))
        go_wp2_with fail
        go_end0
        exact ⟨rfl, by rw [I.out.2.1, Hof.out]; exact I.out.1.drewN _, I.out.2.2.drewN _⟩
    · have Hof : Hid (overH s i j = j) := by show _ = _; rw [overH, if_neg hjs]
      go_wp2_with fail
      go_quiet (first | (go_at_call 27; exact Calls.quiet_of (more_no (I.out.1.drewN _) hjs)))
      go_wp2_with fail
      go_end0
      exact ⟨rfl, by rw [I.out.2.1, Hof.out]; exact I.out.1.drewN _, I.out.2.2.drewN _⟩

end Go.Proofs.YtpeebpnoldadjaaDoor.Ck
