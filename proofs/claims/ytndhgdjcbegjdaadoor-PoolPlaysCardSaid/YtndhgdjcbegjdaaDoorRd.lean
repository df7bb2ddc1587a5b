/- The contracts of pool's calls that only read: gap, page, run, Size, Used, Share, Get. -/
import Derived.Test.YtndhgdjcbegjdaaDoorPm
namespace Go.Proofs.YtndhgdjcbegjdaaDoor.Ck
open Go.RowKit

/-- the pages f to f + c - 1 are free -/
def Free (R : Nat → Int) (f c : Nat) : Prop := ∀ k, f ≤ k → k < f + c → R k = 0
/-- f is the lowest place of c free pages in a row -/
def IsGap (R : Nat → Int) (n c f : Nat) : Prop := f + c ≤ n ∧ Free R f c ∧ ∀ f', f' < f → ¬ Free R f' c
def NoGap (R : Nat → Int) (n c : Nat) : Prop := ∀ f', f' + c ≤ n → ¬ Free R f' c

theorem gap_any (L : Lay) (R V : Nat → Int) (c : Nat) (w : World) (h : Ar w L R V) (hc : 0 < c) (hc2 : c ≤ 1000000000000000000) :
    Calls Tryd.prog 32 #[L.ptr, .int .i64 c] w fun e w' => ((∃ f : Nat, e = .returned (.tuple #[.int .i64 f, .bool true]) ∧ IsGap R L.n c f) ∨ (e = .returned (.tuple #[.int .i64 0, .bool false]) ∧ NoGap R L.n c)) ∧ w = w' := by
  obtain ⟨ab, ao, pb, po, rb, n⟩ := L
  have hn := h.small
  have hr := h.runs
  have H : Hid (∀ i, i < n → w.cell? ⟨rb, i, none⟩ = some (.int .i64 (R i))) := h.run
  simp only at hn hr ⊢
  clear h
  go_enter Tryd.func32, Tryd.ntmps32
  go_wp2_with fail
  go_loop [6, 14] (fun a i => ∃ k fr : Nat, k ≤ n ∧ i = .int .i64 k ∧ a = .int .i64 fr ∧ Hid (fr ≤ k ∧ fr < c ∧ Free R (k - fr) fr ∧ (fr < k → R (k - fr - 1) ≠ 0) ∧ ∀ f', f' + c ≤ k → ¬ Free R f' c)) (fun _ i => n - (intOf i).toNat)
  case atStart => exact ⟨0, 0, Nat.zero_le _, rfl, rfl, ⟨Nat.le_refl _, hc, fun k h1 h2 => by omega, fun h => by omega, fun f' h => by omega⟩⟩
  case round =>
    obtain ⟨k, fr, hk, rfl, rfl, I⟩ := hrel
    by_cases hkn : k < n
    · have hcell := H.out k hkn
      by_cases hz : R k = 0
      · have I2 := I.out
        have hfr := I2.1
        by_cases hl : fr + 1 = c
        · have e : IsGap R n c (k + 1 - c) := by
            obtain ⟨h1, h2, h3, h4, h5⟩ := I2
            refine ⟨by omega, fun j hj1 hj2 => ?_, fun f' hf' hfree => ?_⟩
            · by_cases hjk : j = k
              · rw [hjk]; exact hz
              · exact h3 j (by omega) (by omega)
            · by_cases hx : f' + c ≤ k
              · exact h5 f' hx hfree
              · exact h4 (by omega) (hfree (k - fr - 1) (by omega) (by omega))
          have E : Hid (IsGap R n c (k + 1 - c)) := e
          clear e I I2 H
          rw [hz] at hcell
          subst hl
          go_wp2_with fail
          go_ret2
          refine ⟨.inl ⟨k + 1 - (fr + 1), ?_, E.out⟩, rfl⟩
          have : ((k + 1 - (fr + 1) : Nat) : Int) = (k : Int) + 1 - ((fr : Int) + 1) := by omega
          rw [this]
          go_num
        · have I3 : Hid (fr + 1 ≤ k + 1 ∧ fr + 1 < c ∧ Free R (k + 1 - (fr + 1)) (fr + 1) ∧ (fr + 1 < k + 1 → R (k + 1 - (fr + 1) - 1) ≠ 0) ∧ ∀ f', f' + c ≤ k + 1 → ¬ Free R f' c) := by
            obtain ⟨h1, h2, h3, h4, h5⟩ := I2
            refine ⟨by omega, by omega, fun j hj1 hj2 => ?_, fun h => ?_, fun f' hf' hfree => ?_⟩
            · by_cases hjk : j = k
              · rw [hjk]; exact hz
              · exact h3 j (by omega) (by omega)
            · have := h4 (by omega)
              rw [show k + 1 - (fr + 1) - 1 = k - fr - 1 by omega]
              exact this
            · by_cases hx : f' + c ≤ k
              · exact h5 f' hx hfree
              · exact h4 (by omega) (hfree (k - fr - 1) (by omega) (by omega))
          have hne : ((fr : Int) + 1 == (c : Int)) = false := by simp; omega
          clear I I2 H
          rw [hz] at hcell
          go_wp2_with fail
          go_round
          case rel => exact ⟨k + 1, fr + 1, by omega, by go_num, by go_num, I3⟩
          case measure => simp [intOf]; omega
      · have I3 : Hid (0 ≤ k + 1 ∧ 0 < c ∧ Free R (k + 1 - 0) 0 ∧ (0 < k + 1 → R (k + 1 - 0 - 1) ≠ 0) ∧ ∀ f', f' + c ≤ k + 1 → ¬ Free R f' c) := by
          obtain ⟨h1, h2, h3, h4, h5⟩ := I.out
          refine ⟨by omega, by omega, fun j hj1 hj2 => by omega, fun _ => by simpa using hz, fun f' hf' hfree => ?_⟩
          by_cases hx : f' + c ≤ k
          · exact h5 f' hx hfree
          · exact hz (hfree k (by omega) (by omega))
        have hne : (R k != 0) = true := by simp [hz]
        clear I H
        generalize R k = z at *
        go_wp2_with fail
        go_round
        case rel => exact ⟨k + 1, 0, by omega, by go_num, by go_num, I3⟩
        case measure => simp [intOf]; omega
    · have e : k = n := by omega
      subst e
      have E : Hid (NoGap R k c) := I.out.2.2.2.2
      clear I H
      go_wp2_with fail
      go_ret2
      exact ⟨.inr ⟨rfl, E.out⟩, rfl⟩

end Go.Proofs.YtndhgdjcbegjdaaDoor.Ck
