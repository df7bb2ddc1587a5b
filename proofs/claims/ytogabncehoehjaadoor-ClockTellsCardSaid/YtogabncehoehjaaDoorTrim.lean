/- The contracts of clock.trim and clock.single: zeros at a list's end are cut off; the clock whose only count is 1. -/
import Derived.Test.YtogabncehoehjaaDoorGet
namespace Go.Proofs.YtogabncehoehjaaDoor.Ck
open Go.RowKit

/-- how long the list's first k places are without the zeros at their end -/
def tl (c : List Int) : Nat → Nat
  | 0 => 0
  | k + 1 => if c.getD k 0 = 0 then tl c k else k + 1

theorem tl_le (c : List Int) (k : Nat) : tl c k ≤ k := by
  induction k with
  | zero => simp [tl]
  | succ k ih => rw [tl]; split <;> omega
theorem tl_zero (c : List Int) (k : Nat) (h : c.getD k 0 = 0) : tl c (k + 1) = tl c k := by rw [tl, if_pos h]
theorem tl_stop (c : List Int) (k : Nat) (h : c.getD k 0 ≠ 0) : tl c (k + 1) = k + 1 := by rw [tl, if_neg h]

theorem ret_slice {a : Option Addr} {n m c : Nat} (h : n = m) : Ending.returned (.slice a n c) = .returned (.slice a m c) := by rw [h]

theorem trim_any (b off cap n : Nat) (zs : List Int) (w : World) (hlc : n ≤ cap) (hcm : cap ≤ 9223372036854775807)
    (hc : ∀ i, i < n → w.cell? ⟨b, off + i, none⟩ = some (.int .i64 (zs.getD i 0))) :
    Calls Tryd.prog 38 #[.slice (some ⟨b, off, none⟩) n cap] w fun e w' => e = .returned (.slice (some ⟨b, off, none⟩) (tl zs n) cap) ∧ w = w' := by
  go_enter Tryd.func38, Tryd.ntmps38
  go_wp2
  go_loop [3] (fun s => ∃ k : Nat, k ≤ n ∧ s = .int .i64 k ∧ Hid (tl zs k = tl zs n)) (fun s => (intOf s).toNat)
  case atStart => exact ⟨n, Nat.le_refl _, rfl, rfl⟩
  case round =>
    obtain ⟨k, hk, rfl, ht⟩ := hrel
    cases k with
    | zero =>
      go_wp2
      go_ret
      exact ⟨ret_slice ht.out, rfl⟩
    | succ k =>
      have hcell := hc k (by omega)
      go_wp2
      · have hz : (zs[k]?.getD 0 == 0) = true := by assumption
        have hz' : zs.getD k 0 = 0 := by simpa [List.getD] using hz
        go_round
        case rel => exact ⟨k, by omega, rfl, (tl_zero zs k hz').symm.trans ht.out⟩
        case measure => simp [intOf]
      · have hz : (zs[k]?.getD 0 == 0) = false := by assumption
        have hz' : zs.getD k 0 ≠ 0 := by simpa [List.getD] using hz
        go_ret
        exact ⟨ret_slice ((tl_stop zs k hz').symm.trans ht.out), rfl⟩

theorem info3 : (Tryd.prog.info? 3).map (fun i => (i.zero, i.size, i.bytes)) = some (some (.int .i64 0), 1, 8) := by kernel_rfl

/-- the clock whose only count is 1, of goroutine g -/
def one (g : Nat) : List Int := List.replicate g 0 ++ [1]

theorem single_any (g : Nat) (w : World) (hg : g < 8) :
    Calls Tryd.prog 29 #[.int .i64 g] w fun e w' => (∃ v, e = .returned v ∧ Sl w' v (one g)) ∧ Below w.heap.size w w' := by
  have hmk := run_make_row' (P := Tryd.prog) 22 3 (.int .i64 0) 8 Tryd.underlying22 info3 rfl .i64 .i64 (g + 1) (by omega) (by omega)
  have ec : ((g + 1 : Nat) : Int) = (g : Int) + 1 := by omega
  rw [ec] at hmk
  have hmc : (madeCells #[Value.int .i64 0] (g + 1))[g]? = some (.int .i64 0) := by simp [madeCells, Nat.mod_one]
  go_enter Tryd.func29, Tryd.ntmps29
  go_wp2
  go_ret
  have hr : (w.alloc (.cells ((madeCells #[Value.int .i64 0] (g + 1)).setIfInBounds g (.int .i64 1)) 3)).rowIs w.heap.size 3 (g + 1) (fun i => .int .i64 ((one g).getD i 0)) :=
    ⟨_, Go.Deep.blk_alloc_new _ _, by simp [madeCells], fun i hi => by
      rw [Array.getElem?_setIfInBounds]
      by_cases e : g = i
      · subst e; simp [madeCells, one]
      · have hlt : i < g := by omega
        simp [e, madeCells, Nat.mod_one, one, hi, List.getD, hlt]⟩
  have hl : (one g).length = g + 1 := by simp [one]
  have hs := Sl.of_row (zs := one g) hr (by omega) (by unfold maxLen; omega) (fun z hz => by simp [one] at hz; rcases hz with ⟨_, rfl⟩ | rfl <;> omega) (fun i hi => rfl)
  rw [hl] at hs
  exact ⟨⟨_, rfl, hs⟩, (Below.refl _ _).alloc (Nat.le_refl _) _⟩

end Go.Proofs.YtogabncehoehjaaDoor.Ck
