/- The contract of the document's own May. -/
import Derived.Test.YtndhgdjcbegjdaaDoorMany
namespace Go.Proofs.YtndhgdjcbegjdaaDoor.Ck
open Go.RowKit

def MayI (pages : Int) (s : List Int) : Prop := ∃ n : Nat, pages = n ∧ May n s

def MayRes (e : Ending) (pages : Int) (s : List Int) : Prop := (MayI pages s ∧ e = .returned (.bool true)) ∨ (¬ MayI pages s ∧ e = .returned (.bool false))

set_option maxHeartbeats 1000000 in
theorem may_any (pages : Int) (s : List Int) (v : Value) (w : World) (hs : Sl w v s) :
    Calls Tryd.prog 7 #[.int .i64 pages, v] w fun e w' => MayRes e pages s ∧ w = w' := by
  obtain ⟨a, m, c, rfl, em⟩ := hs.slice
  have Em := hide em
  have Hs := hide hs
  clear em hs
  by_cases hp1 : pages < 1
  · have E : Hid (¬ MayI pages s) := fun ⟨n, h1, h2⟩ => by have := h2.1; omega
    go_enter Tryd.func7, Tryd.ntmps7
    go_wp2_with fail
    go_ret
    exact ⟨.inr ⟨E.out, rfl⟩, rfl⟩
  · by_cases hp2 : 256 < pages
    · have E : Hid (¬ MayI pages s) := fun ⟨n, h1, h2⟩ => by have := h2.2.1; omega
      go_enter Tryd.func7, Tryd.ntmps7
      go_wp2_with fail
      go_ret
      exact ⟨.inr ⟨E.out, rfl⟩, rfl⟩
    · by_cases hm : 8 < m
      · have E : Hid (¬ MayI pages s) := fun ⟨n, h1, h2⟩ => by have := h2.2.2.1; have := Em.out; omega
        go_enter Tryd.func7, Tryd.ntmps7
        go_wp2_with fail
        go_ret
        exact ⟨.inr ⟨E.out, rfl⟩, rfl⟩
      · obtain ⟨n, rfl⟩ := Int.eq_ofNat_of_zero_le (show 0 ≤ pages by omega)
        go_enter Tryd.func7, Tryd.ntmps7
        go_wp2_with fail
        go_loop [5, 22] (fun x i => ∃ k : Nat, k ≤ m ∧ i = .int .i64 k ∧ x = .int .i64 ((n : Int) - pre s k) ∧ Hid (pre s k ≤ n ∧ ∀ j, j < k → 0 ≤ s.getD j 0 ∧ (pre s j : Int) + s.getD j 0 ≤ n)) (fun _ i => m - (intOf i).toNat)
        case atStart => exact ⟨0, Nat.zero_le _, rfl, by simp [pre], Nat.zero_le _, fun j h => by omega⟩
        case round =>
          obtain ⟨k, hk, rfl, rfl, I⟩ := hrel
          have hpn := I.out.1
          by_cases hkm : k < m
          · obtain ⟨b, off, rfl, _, hcell⟩ := Hs.out.at k hkm
            by_cases hok : 0 ≤ s.getD k 0 ∧ (pre s k : Int) + s.getD k 0 ≤ n
            · have hpk : (pre s (k + 1) : Int) = (pre s k : Int) + s.getD k 0 := by show ((pre s k + sh s k : Nat) : Int) = _; unfold sh; omega
              have I2 : Hid (pre s (k + 1) ≤ n ∧ ∀ j, j < k + 1 → 0 ≤ s.getD j 0 ∧ (pre s j : Int) + s.getD j 0 ≤ n) := ⟨by omega, fun j hj => by
                by_cases e : j = k
                · rw [e]; exact hok
                · exact I.out.2 j (by omega)⟩
              have Hpk := hide hpk
              clear I hpk
              generalize s.getD k 0 = z at *
              generalize pre s k = q at *
              obtain ⟨h0, h1⟩ := hok
              go_wp2_with fail
              go_round
              case rel => exact ⟨k + 1, by omega, by go_num, by rw [Hpk.out]; go_num, I2⟩
              case measure => simp [intOf]; omega
            · have E : Hid (¬ MayI n s) := fun ⟨n', h1, h2⟩ => by
                have e : n' = n := by omega
                subst e
                exact hok (h2.2.2.2 k (by have := Em.out; omega))
              clear I
              generalize s.getD k 0 = z at *
              generalize pre s k = q at *
              by_cases hz : z < 0
              · go_wp2_with fail
                go_ret
                exact ⟨.inr ⟨E.out, rfl⟩, rfl⟩
              · have hz2 : (n : Int) - q < z := by omega
                clear hok
                go_wp2_with fail
                go_ret
                exact ⟨.inr ⟨E.out, rfl⟩, rfl⟩
          · have e : k = m := by omega
            have E : Hid (MayI n s) := ⟨n, rfl, by omega, by omega, by have := Em.out; omega, fun j hj => I.out.2 j (by have := Em.out; omega)⟩
            subst e
            clear I
            go_wp2_with fail
            go_ret
            exact ⟨.inl ⟨E.out, rfl⟩, rfl⟩

end Go.Proofs.YtndhgdjcbegjdaaDoor.Ck
