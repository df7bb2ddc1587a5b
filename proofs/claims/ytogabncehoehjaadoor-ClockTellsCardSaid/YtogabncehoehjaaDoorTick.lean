/- The contract of clock.Tick, and that of the statements' own 'alive': it answers true. -/
import Derived.Test.YtogabncehoehjaaDoorOps
namespace Go.Proofs.YtogabncehoehjaaDoor.Ck
open Go.RowKit

def tickF (a : List Int) (g : Nat) (i : Nat) : Int := cnt a i + cnt (one g) i
def tick (a : List Int) (g : Nat) : List Int := mk (tickF a g) (max a.length (g + 1))

theorem one_getD (g i : Nat) : (one g).getD i 0 = if i = g then 1 else 0 := by
  unfold one
  by_cases h : i < g
  · rw [List.getD, List.getElem?_append_left (by simpa using h)]; simp [h, Nat.ne_of_lt h]
  · by_cases h2 : i = g
    · subst h2; simp
    · have h3 : (List.replicate g (0 : Int) ++ [1]).length ≤ i := by simp; omega
      simp only [List.getD, List.getElem?_eq_none h3, if_neg h2]
      rfl
theorem cnt_one (g i : Nat) : cnt (one g) i = if i = g then 1 else 0 := by
  unfold cnt
  rw [one_getD]
  split <;> rfl

/-- the two errors that Tick answers, as the package's variables hold them -/
def Errs (w : World) (er ec : Value) : Prop :=
  0 < w.heap.size ∧ 1 < w.heap.size ∧ w.cell? ⟨0, 0, none⟩ = some er ∧ w.cell? ⟨1, 0, none⟩ = some ec
theorem Errs.below {w w' : World} {er ec : Value} (h : Errs w er ec) {B : Nat} (hB : w.heap.size ≤ B) (hb : Below B w w') : Errs w' er ec :=
  ⟨Nat.lt_of_lt_of_le h.1 hb.size, Nat.lt_of_lt_of_le h.2.1 hb.size, by rw [hb.cell (p := ⟨0, 0, none⟩) (Nat.lt_of_lt_of_le h.1 hB)]; exact h.2.2.1, by rw [hb.cell (p := ⟨1, 0, none⟩) (Nat.lt_of_lt_of_le h.2.1 hB)]; exact h.2.2.2⟩

theorem tick_range (va : Value) (g : Int) (w : World) (er ec : Value) (he : Errs w er ec) (hg : g < 0 ∨ 8 ≤ g) :
    Calls Tryd.prog 11 #[va, .int .i64 g] w fun e w' => e = .returned (.tuple #[.slice none 0 0, er]) ∧ Below w.heap.size w w' := by
  obtain ⟨_, _, h1, _⟩ := he
  rcases hg with hg | hg
  all_goals
    go_enter Tryd.func11, Tryd.ntmps11
    go_wp2_with fail
    go_quiet (fail)
    go_wp2_with fail
    go_ret2
    exact ⟨rfl, below_drewN (Below.refl _ _) _⟩

theorem tick_clock (va : Value) (a : List Int) (g : Int) (w : World) (er ec : Value) (ha : Sl w va a) (he : Errs w er ec) (hg : 0 ≤ g) (hg2 : g < 8) (hc : 65536 ≤ get a g) :
    Calls Tryd.prog 11 #[va, .int .i64 g] w fun e w' => e = .returned (.tuple #[.slice none 0 0, ec]) ∧ Below w.heap.size w w' := by
  obtain ⟨_, _, _, h2⟩ := he
  go_enter Tryd.func11, Tryd.ntmps11
  go_wp2_with fail
  refine (get_any _ _ _ _ ha).mono ?_
  rintro e w' ⟨rfl, rfl⟩
  go_wp2_with fail
  go_quiet (fail)
  go_wp2_with fail
  go_ret2
  exact ⟨rfl, below_drewN (Below.refl _ _) _⟩

theorem tick_ok (va : Value) (a : List Int) (g : Nat) (w : World) (ha : Sl w va a) (hla : a.length ≤ 900000) (hg2 : g < 8) (hc : get a (g : Int) < 65536) :
    Calls Tryd.prog 11 #[va, .int .i64 g] w fun e w' => (∃ v, e = .returned (.tuple #[v, .nilIface]) ∧ Sl w' v (tick a g)) ∧ Below w.heap.size w w' := by
  have hf := ha.fits
  have hb : ∀ i, 0 ≤ cnt a i + cnt (one g) i ∧ cnt a i + cnt (one g) i ≤ 9223372036854775807 := fun i => by
    have h1 := cnt_nonneg a i
    have h2 := cnt_max a i hf
    rw [cnt_one]
    split
    · rename_i h; subst h; rw [get_nat] at hc; omega
    · omega
  have hlen : (one g).length = g + 1 := by simp [one]
  have HB : Hid (∀ i, 0 ≤ cnt a i + cnt (one g) i ∧ cnt a i + cnt (one g) i ≤ 9223372036854775807) := hb
  clear hb
  go_enter Tryd.func11, Tryd.ntmps11
  go_wp2_with fail
  refine (get_any _ _ _ _ ha).mono ?_
  rintro e w' ⟨rfl, rfl⟩
  go_wp2_with fail
  refine (single_any g _ hg2).mono ?_
  rintro e w1 ⟨⟨v1, rfl, hv1⟩, hb1⟩
  go_wp2_with fail
  refine (merge_Tick1 va v1 a (one g) (tickF a g) w1 (ha.below (Nat.le_refl _) hb1) hv1 (fun i wx => tick1_any _ _ _ (HB.out i).1 (HB.out i).2) (by omega) (by omega) (fun i => by have h := HB.out i; unfold tickF; omega)).mono ?_
  rintro e w2 ⟨⟨v2, rfl, hv2⟩, hb2⟩
  go_wp2_with fail
  go_ret2
  rw [hlen] at hv2
  exact ⟨⟨_, rfl, hv2⟩, hb1.trans (hb2.mono hb1.size)⟩

end Go.Proofs.YtogabncehoehjaaDoor.Ck
