/- The contract of the statements' own SameInts. -/
import Derived.Test.YtndhgdjcbegjdaaDoorBase
import Derived.BigQuiet
import Derived.Deep.QuietTactic
import Derived.WalkSmall
import Derived.Outline
namespace Go.Proofs.YtndhgdjcbegjdaaDoor.Ck
open Go.RowKit

def sameB (a b : List Int) : Bool := decide (a = b)
theorem sameB_not (a b : List Int) (k : Nat) (h : a.getD k 0 ≠ b.getD k 0) : sameB a b = false := by
  unfold sameB
  exact decide_eq_false (fun e => h (by rw [e]))
theorem sameB_all (a b : List Int) (hl : a.length = b.length) (h : ∀ j, j < a.length → a.getD j 0 = b.getD j 0) : sameB a b = true := by
  unfold sameB
  refine decide_eq_true (List.ext_getElem hl (fun i h1 h2 => ?_))
  have := h i h1
  simpa [List.getD, h1, h2] using this
theorem sameB_len (a b : List Int) (hl : a.length ≠ b.length) : sameB a b = false := by
  unfold sameB
  exact decide_eq_false (fun e => hl (by rw [e]))

set_option maxHeartbeats 400000 in
theorem sameInts_any (va vb : Value) (a b : List Int) (w : World) (ha : Sl w va a) (hb : Sl w vb b) :
    Calls Tryd.prog 19 #[va, vb] w fun e w' => e = .returned (.bool (sameB a b)) ∧ Below w.heap.size w w' := by
  obtain ⟨_, aa, ca, rfl, hca, hcm, hac⟩ := ha
  obtain ⟨_, ab, cb, rfl, hcb, hcm2, hbc⟩ := hb
  unfold maxLen at hcm hcm2
  by_cases hl : a.length = b.length
  · obtain ⟨n, hn⟩ : ∃ n, n = a.length := ⟨_, rfl⟩
    have hs : Hid ((∀ j, j < n → a.getD j 0 = b.getD j 0) → sameB a b = true) := fun h => sameB_all a b hl (fun j hj => h j (by omega))
    have hs2 : Hid (∀ k, a.getD k 0 ≠ b.getD k 0 → sameB a b = false) := fun k => sameB_not a b k
    have hac' : ∀ i, i < n → _ := fun i hi => hac i (by omega)
    have hbc' : ∀ i, i < n → _ := fun i hi => hbc i (by omega)
    rw [← hl, ← hn]
    rw [← hn] at hca
    rw [← hl, ← hn] at hcb
    clear hl hn hac hbc
    go_enter Tryd.func19, Tryd.ntmps19
    go_wp2
    go_loopw [13] (fun i wr => ∃ k : Nat, k ≤ n ∧ i = .int .i64 k ∧ Hid (∀ j, j < k → a.getD j 0 = b.getD j 0) ∧ Below w.heap.size w wr) (fun i _ => n - (intOf i).toNat)
    case atStart => exact ⟨0, Nat.zero_le _, rfl, fun j hj => absurd hj (Nat.not_lt_zero _), Below.refl _ _⟩
    case round =>
      obtain ⟨k, hk, rfl, hall, hbel⟩ := hrel
      by_cases hlt : k < n
      · obtain ⟨b1, o1, rfl, hb1, hc1⟩ := hac' k hlt
        obtain ⟨b2, o2, rfl, hb2, hc2⟩ := hbc' k hlt
        rw [← hbel.cell (p := ⟨b1, o1 + k, none⟩) hb1] at hc1
        rw [← hbel.cell (p := ⟨b2, o2 + k, none⟩) hb2] at hc2
        have h1 : (k : Int) < (n : Int) := by omega
        clear hac' hbc'
        have hne : Hid (a.getD k 0 ≠ b.getD k 0 → sameB a b = false) := hs2.out k
        have hstep : Hid (a.getD k 0 = b.getD k 0 → ∀ j, j < k + 1 → a.getD j 0 = b.getD j 0) := fun e j hj => by
          by_cases ej : j = k
          · rw [ej]; exact e
          · exact hall.out j (by omega)
        clear hs hs2 hall
        generalize a.getD k 0 = x at *
        generalize b.getD k 0 = y at *
        by_cases e : x = y
        · have e2 : (x != y) = false := by simp [e]
          have hstep2 : Hid (∀ j, j < k + 1 → a.getD j 0 = b.getD j 0) := hstep.out e
          clear e hstep hne
          go_wp2_with fail
          go_quiet (fail)
          go_wp2_with fail
          go_roundw
          case rel => exact ⟨k + 1, by omega, by go_num, hstep2, below_drewN hbel _⟩
          case measure => simp [intOf]; omega
        · have e2 : (x != y) = true := by simp [e]
          have hne2 : Hid (sameB a b = false) := hne.out e
          clear e hstep hne
          go_wp2_with fail
          go_quiet (fail)
          go_wp2_with fail
          go_ret
          exact ⟨ret_bool hne2.out.symm, below_drewN hbel _⟩
      · have e : k = n := by omega
        subst e
        clear hac' hbc'
        have hs3 : Hid (sameB a b = true) := hs.out hall.out
        clear hs hs2
        go_wp2_with fail
        go_ret
        exact ⟨ret_bool hs3.out.symm, hbel⟩
  · have hs : Hid (sameB a b = false) := sameB_len a b hl
    have ht : ((a.length : Int) != (b.length : Int)) = true := by rw [bne_iff_ne]; omega
    clear hac hbc
    go_enter Tryd.func19, Tryd.ntmps19
    go_wp2
    go_ret
    exact ⟨ret_bool hs.out.symm, Below.refl _ _⟩

end Go.Proofs.YtndhgdjcbegjdaaDoor.Ck
