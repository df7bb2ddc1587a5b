/- The contracts of clock.merge and clock.every, for whatever function is handed in. -/
import Derived.Test.YtogabncehoehjaaDoorTrim
namespace Go.Proofs.YtogabncehoehjaaDoor.Ck
open Go.RowKit

/-- calling function K at counts x i, y i gives m i, and the world stays -/
def Gives (K : Nat) (x y m : Nat → Int) : Prop :=
  ∀ (i : Nat) (wx : World), Calls Tryd.prog K #[.int .i64 (x i), .int .i64 (y i)] wx fun e w' => e = .returned (.int .i64 (m i)) ∧ wx = w'
def GivesB (K : Nat) (x y : Nat → Int) (p : Nat → Bool) : Prop :=
  ∀ (i : Nat) (wx : World), Calls Tryd.prog K #[.int .i64 (x i), .int .i64 (y i)] wx fun e w' => e = .returned (.bool (p i)) ∧ wx = w'

/-- the list of the first n of m, without zeros at its end -/
def mk (m : Nat → Int) (n : Nat) : List Int := ((List.range n).map m).take (tl ((List.range n).map m) n)

/-- p holds of all numbers below n -/
def all (p : Nat → Bool) : Nat → Bool
  | 0 => true
  | n + 1 => all p n && p n
theorem all_true (p : Nat → Bool) (k : Nat) (h : all p k = true) (h2 : p k = true) : all p (k + 1) = true := by simp [all, h, h2]
theorem all_false (p : Nat → Bool) (k n : Nat) (h : k < n) (h2 : p k = false) : all p n = false := by
  induction n with
  | zero => omega
  | succ n ih =>
    by_cases e : k = n
    · subst e; simp [all, h2]
    · simp [all, ih (by omega)]
theorem ret_bool {a b : Bool} (h : a = b) : Ending.returned (.bool a) = .returned (.bool b) := by rw [h]

/-- what the loop of merge has made after k rounds -/
def part (m : Nat → Int) (k : Nat) (j : Nat) : Value := .int .i64 (if j < k then m j else 0)
theorem part_zero (m : Nat → Int) (j : Nat) : part m 0 j = .int .i64 0 := by simp [part]
theorem part_step (m : Nat → Int) (k j : Nat) : (if j = k then Value.int .i64 (m k) else part m k j) = part m (k + 1) j := by
  unfold part
  by_cases h : j = k
  · subst h; simp
  · rw [if_neg h]
    by_cases h2 : j < k
    · rw [if_pos h2, if_pos (by omega)]
    · rw [if_neg h2, if_neg (by omega)]
theorem range_getD (m : Nat → Int) (n i : Nat) (h : i < n) : ((List.range n).map m).getD i 0 = m i := by simp [List.getD, h]

set_option maxHeartbeats 400000 in
theorem merge_Tick1 (va vb : Value) (a b : List Int) (m : Nat → Int) (w : World) (ha : Sl w va a) (hb : Sl w vb b) (hK : Gives 30 (cnt a) (cnt b) m)
    (hla : a.length ≤ 1000000) (hlb : b.length ≤ 1000000) (hm : ∀ i, -9223372036854775808 ≤ m i ∧ m i ≤ 9223372036854775807) :
    Calls Tryd.prog 28 #[va, vb, .func (.func 30) #[] #[]] w fun e w' => (∃ v, e = .returned v ∧ Sl w' v (mk m (max a.length b.length))) ∧ Below w.heap.size w w' := by
  have hN : ∃ N na nb aa ab ca cb, va = .slice aa na ca ∧ vb = .slice ab nb cb ∧ Hid (max a.length b.length = N) ∧ N ≤ 1000000 ∧ ((N = na ∧ nb ≤ N) ∨ (N = nb ∧ na < N)) := by
    obtain ⟨_, aa, ca, rfl, _, _, _⟩ := ha
    obtain ⟨_, ab, cb, rfl, _, _, _⟩ := hb
    exact ⟨_, _, _, _, _, _, _, rfl, rfl, rfl, by omega, by omega⟩
  obtain ⟨N, na, nb, aa, ab, ca, cb, rfl, rfl, HN, hN0, hcase⟩ := hN
  rw [HN.out]
  have hmk := run_make_row' (P := Tryd.prog) 22 3 (.int .i64 0) 8 Tryd.underlying22 info3 rfl .i64 .i64 N (by omega) (by omega)
  have hm' : Hid (∀ i, -9223372036854775808 ≤ m i ∧ m i ≤ 9223372036854775807) := hm
  clear hla hlb hm
  rcases hcase with ⟨e, hab⟩ | ⟨e, hab⟩ <;> subst e
  all_goals
    go_enter Tryd.func28, Tryd.ntmps28
    go_wp2
    go_loopw [17] (fun i wr => ∃ k : Nat, k ≤ N ∧ i = .int .i64 k ∧ wr.rowIs w.heap.size 3 N (part m k) ∧ Below w.heap.size w wr) (fun i _ => N - (intOf i).toNat)
    case atStart => exact ⟨0, Nat.zero_le _, rfl, (World.rowIs_made w _ _ _).congr (fun j _ => (part_zero m j).symm), (Below.refl _ _).alloc (Nat.le_refl _) _⟩
    case round =>
      obtain ⟨k, hk, rfl, hrow, hbel⟩ := hrel
      by_cases hlt : k < N
      · have ha2 := ha.below (Nat.le_refl _) hbel
        have hb2 := hb.below (Nat.le_refl _) hbel
        have hcell := hrow.cell hlt
        have hfr := hrow.frozen k
        have hrow2 := (hrow.set k (.int .i64 (m k))).congr (fun j _ => part_step m k j)
        have hbel2 := hbel.setCell (p := ⟨w.heap.size, k, none⟩) (Nat.le_refl _) (.int .i64 (m k))
        clear hrow hbel
        go_wp2_with fail
        refine (get_any _ _ _ _ ha2).mono ?_
        rintro e w' ⟨rfl, rfl⟩
        rw [get_nat]
        go_wp2_with fail
        refine (get_any _ _ _ _ hb2).mono ?_
        rintro e w' ⟨rfl, rfl⟩
        rw [get_nat]
        go_wp2_with fail
        refine (hK k _).mono ?_
        rintro e w' ⟨rfl, rfl⟩
        go_wp2_with fail
        go_roundw
        case rel => exact ⟨k + 1, by omega, by go_num, hrow2, hbel2⟩
        case measure => simp [intOf]; omega
      · have e : k = N := by omega
        subst e
        have hlen : ((List.range k).map m).length = k := by simp
        have hc : ∀ i, i < k → wr.cell? ⟨w.heap.size, 0 + i, none⟩ = some (.int .i64 (((List.range k).map m).getD i 0)) := fun i hi => by
          rw [Nat.zero_add, hrow.cell hi, range_getD m k i hi]; simp [part, hi]
        have hs : Sl wr (.slice (some ⟨w.heap.size, 0, none⟩) (tl ((List.range k).map m) k) k) (mk m k) := by
          have hle := tl_le ((List.range k).map m) k
          have hl2 : (mk m k).length = tl ((List.range k).map m) k := by simp [mk]; omega
          have h := Sl.of_row (zs := mk m k) hrow (by omega) (by unfold maxLen; omega) (fun z hz => by
            have hz' := List.mem_of_mem_take hz
            simp only [List.mem_map] at hz'
            obtain ⟨i, _, rfl⟩ := hz'
            exact hm'.out i) (fun i hi => by
              rw [hl2] at hi
              have hik : i < k := by omega
              unfold part mk
              rw [if_pos hik]
              simp [List.getD, hi, hik])
          rw [hl2] at h
          exact h
        clear hrow
        go_wp2_with fail
        refine (trim_any w.heap.size 0 k k ((List.range k).map m) wr (Nat.le_refl _) (by omega) hc).mono ?_
        rintro e w' ⟨rfl, rfl⟩
        go_wp2_with fail
        go_ret
        exact ⟨⟨_, rfl, hs⟩, hbel⟩
set_option maxHeartbeats 400000 in
theorem merge_Join1 (va vb : Value) (a b : List Int) (m : Nat → Int) (w : World) (ha : Sl w va a) (hb : Sl w vb b) (hK : Gives 32 (cnt a) (cnt b) m)
    (hla : a.length ≤ 1000000) (hlb : b.length ≤ 1000000) (hm : ∀ i, -9223372036854775808 ≤ m i ∧ m i ≤ 9223372036854775807) :
    Calls Tryd.prog 28 #[va, vb, .func (.func 32) #[] #[]] w fun e w' => (∃ v, e = .returned v ∧ Sl w' v (mk m (max a.length b.length))) ∧ Below w.heap.size w w' := by
  have hN : ∃ N na nb aa ab ca cb, va = .slice aa na ca ∧ vb = .slice ab nb cb ∧ Hid (max a.length b.length = N) ∧ N ≤ 1000000 ∧ ((N = na ∧ nb ≤ N) ∨ (N = nb ∧ na < N)) := by
    obtain ⟨_, aa, ca, rfl, _, _, _⟩ := ha
    obtain ⟨_, ab, cb, rfl, _, _, _⟩ := hb
    exact ⟨_, _, _, _, _, _, _, rfl, rfl, rfl, by omega, by omega⟩
  obtain ⟨N, na, nb, aa, ab, ca, cb, rfl, rfl, HN, hN0, hcase⟩ := hN
  rw [HN.out]
  have hmk := run_make_row' (P := Tryd.prog) 22 3 (.int .i64 0) 8 Tryd.underlying22 info3 rfl .i64 .i64 N (by omega) (by omega)
  have hm' : Hid (∀ i, -9223372036854775808 ≤ m i ∧ m i ≤ 9223372036854775807) := hm
  clear hla hlb hm
  rcases hcase with ⟨e, hab⟩ | ⟨e, hab⟩ <;> subst e
  all_goals
    go_enter Tryd.func28, Tryd.ntmps28
    go_wp2
    go_loopw [17] (fun i wr => ∃ k : Nat, k ≤ N ∧ i = .int .i64 k ∧ wr.rowIs w.heap.size 3 N (part m k) ∧ Below w.heap.size w wr) (fun i _ => N - (intOf i).toNat)
    case atStart => exact ⟨0, Nat.zero_le _, rfl, (World.rowIs_made w _ _ _).congr (fun j _ => (part_zero m j).symm), (Below.refl _ _).alloc (Nat.le_refl _) _⟩
    case round =>
      obtain ⟨k, hk, rfl, hrow, hbel⟩ := hrel
      by_cases hlt : k < N
      · have ha2 := ha.below (Nat.le_refl _) hbel
        have hb2 := hb.below (Nat.le_refl _) hbel
        have hcell := hrow.cell hlt
        have hfr := hrow.frozen k
        have hrow2 := (hrow.set k (.int .i64 (m k))).congr (fun j _ => part_step m k j)
        have hbel2 := hbel.setCell (p := ⟨w.heap.size, k, none⟩) (Nat.le_refl _) (.int .i64 (m k))
        clear hrow hbel
        go_wp2_with fail
        refine (get_any _ _ _ _ ha2).mono ?_
        rintro e w' ⟨rfl, rfl⟩
        rw [get_nat]
        go_wp2_with fail
        refine (get_any _ _ _ _ hb2).mono ?_
        rintro e w' ⟨rfl, rfl⟩
        rw [get_nat]
        go_wp2_with fail
        refine (hK k _).mono ?_
        rintro e w' ⟨rfl, rfl⟩
        go_wp2_with fail
        go_roundw
        case rel => exact ⟨k + 1, by omega, by go_num, hrow2, hbel2⟩
        case measure => simp [intOf]; omega
      · have e : k = N := by omega
        subst e
        have hlen : ((List.range k).map m).length = k := by simp
        have hc : ∀ i, i < k → wr.cell? ⟨w.heap.size, 0 + i, none⟩ = some (.int .i64 (((List.range k).map m).getD i 0)) := fun i hi => by
          rw [Nat.zero_add, hrow.cell hi, range_getD m k i hi]; simp [part, hi]
        have hs : Sl wr (.slice (some ⟨w.heap.size, 0, none⟩) (tl ((List.range k).map m) k) k) (mk m k) := by
          have hle := tl_le ((List.range k).map m) k
          have hl2 : (mk m k).length = tl ((List.range k).map m) k := by simp [mk]; omega
          have h := Sl.of_row (zs := mk m k) hrow (by omega) (by unfold maxLen; omega) (fun z hz => by
            have hz' := List.mem_of_mem_take hz
            simp only [List.mem_map] at hz'
            obtain ⟨i, _, rfl⟩ := hz'
            exact hm'.out i) (fun i hi => by
              rw [hl2] at hi
              have hik : i < k := by omega
              unfold part mk
              rw [if_pos hik]
              simp [List.getD, hi, hik])
          rw [hl2] at h
          exact h
        clear hrow
        go_wp2_with fail
        refine (trim_any w.heap.size 0 k k ((List.range k).map m) wr (Nat.le_refl _) (by omega) hc).mono ?_
        rintro e w' ⟨rfl, rfl⟩
        go_wp2_with fail
        go_ret
        exact ⟨⟨_, rfl, hs⟩, hbel⟩
set_option maxHeartbeats 400000 in
theorem merge_Short1 (va vb : Value) (a b : List Int) (m : Nat → Int) (w : World) (ha : Sl w va a) (hb : Sl w vb b) (hK : Gives 34 (cnt a) (cnt b) m)
    (hla : a.length ≤ 1000000) (hlb : b.length ≤ 1000000) (hm : ∀ i, -9223372036854775808 ≤ m i ∧ m i ≤ 9223372036854775807) :
    Calls Tryd.prog 28 #[va, vb, .func (.func 34) #[] #[]] w fun e w' => (∃ v, e = .returned v ∧ Sl w' v (mk m (max a.length b.length))) ∧ Below w.heap.size w w' := by
  have hN : ∃ N na nb aa ab ca cb, va = .slice aa na ca ∧ vb = .slice ab nb cb ∧ Hid (max a.length b.length = N) ∧ N ≤ 1000000 ∧ ((N = na ∧ nb ≤ N) ∨ (N = nb ∧ na < N)) := by
    obtain ⟨_, aa, ca, rfl, _, _, _⟩ := ha
    obtain ⟨_, ab, cb, rfl, _, _, _⟩ := hb
    exact ⟨_, _, _, _, _, _, _, rfl, rfl, rfl, by omega, by omega⟩
  obtain ⟨N, na, nb, aa, ab, ca, cb, rfl, rfl, HN, hN0, hcase⟩ := hN
  rw [HN.out]
  have hmk := run_make_row' (P := Tryd.prog) 22 3 (.int .i64 0) 8 Tryd.underlying22 info3 rfl .i64 .i64 N (by omega) (by omega)
  have hm' : Hid (∀ i, -9223372036854775808 ≤ m i ∧ m i ≤ 9223372036854775807) := hm
  clear hla hlb hm
  rcases hcase with ⟨e, hab⟩ | ⟨e, hab⟩ <;> subst e
  all_goals
    go_enter Tryd.func28, Tryd.ntmps28
    go_wp2
    go_loopw [17] (fun i wr => ∃ k : Nat, k ≤ N ∧ i = .int .i64 k ∧ wr.rowIs w.heap.size 3 N (part m k) ∧ Below w.heap.size w wr) (fun i _ => N - (intOf i).toNat)
    case atStart => exact ⟨0, Nat.zero_le _, rfl, (World.rowIs_made w _ _ _).congr (fun j _ => (part_zero m j).symm), (Below.refl _ _).alloc (Nat.le_refl _) _⟩
    case round =>
      obtain ⟨k, hk, rfl, hrow, hbel⟩ := hrel
      by_cases hlt : k < N
      · have ha2 := ha.below (Nat.le_refl _) hbel
        have hb2 := hb.below (Nat.le_refl _) hbel
        have hcell := hrow.cell hlt
        have hfr := hrow.frozen k
        have hrow2 := (hrow.set k (.int .i64 (m k))).congr (fun j _ => part_step m k j)
        have hbel2 := hbel.setCell (p := ⟨w.heap.size, k, none⟩) (Nat.le_refl _) (.int .i64 (m k))
        clear hrow hbel
        go_wp2_with fail
        refine (get_any _ _ _ _ ha2).mono ?_
        rintro e w' ⟨rfl, rfl⟩
        rw [get_nat]
        go_wp2_with fail
        refine (get_any _ _ _ _ hb2).mono ?_
        rintro e w' ⟨rfl, rfl⟩
        rw [get_nat]
        go_wp2_with fail
        refine (hK k _).mono ?_
        rintro e w' ⟨rfl, rfl⟩
        go_wp2_with fail
        go_roundw
        case rel => exact ⟨k + 1, by omega, by go_num, hrow2, hbel2⟩
        case measure => simp [intOf]; omega
      · have e : k = N := by omega
        subst e
        have hlen : ((List.range k).map m).length = k := by simp
        have hc : ∀ i, i < k → wr.cell? ⟨w.heap.size, 0 + i, none⟩ = some (.int .i64 (((List.range k).map m).getD i 0)) := fun i hi => by
          rw [Nat.zero_add, hrow.cell hi, range_getD m k i hi]; simp [part, hi]
        have hs : Sl wr (.slice (some ⟨w.heap.size, 0, none⟩) (tl ((List.range k).map m) k) k) (mk m k) := by
          have hle := tl_le ((List.range k).map m) k
          have hl2 : (mk m k).length = tl ((List.range k).map m) k := by simp [mk]; omega
          have h := Sl.of_row (zs := mk m k) hrow (by omega) (by unfold maxLen; omega) (fun z hz => by
            have hz' := List.mem_of_mem_take hz
            simp only [List.mem_map] at hz'
            obtain ⟨i, _, rfl⟩ := hz'
            exact hm'.out i) (fun i hi => by
              rw [hl2] at hi
              have hik : i < k := by omega
              unfold part mk
              rw [if_pos hik]
              simp [List.getD, hi, hik])
          rw [hl2] at h
          exact h
        clear hrow
        go_wp2_with fail
        refine (trim_any w.heap.size 0 k k ((List.range k).map m) wr (Nat.le_refl _) (by omega) hc).mono ?_
        rintro e w' ⟨rfl, rfl⟩
        go_wp2_with fail
        go_ret
        exact ⟨⟨_, rfl, hs⟩, hbel⟩

set_option maxHeartbeats 400000 in
theorem every_AtMost1 (va vb : Value) (a b : List Int) (p : Nat → Bool) (w : World) (ha : Sl w va a) (hb : Sl w vb b) (hK : GivesB 36 (cnt a) (cnt b) p)
    (hla : a.length ≤ 1000000) (hlb : b.length ≤ 1000000) :
    Calls Tryd.prog 35 #[va, vb, .func (.func 36) #[] #[]] w fun e w' => e = .returned (.bool (all p (max a.length b.length))) ∧ w = w' := by
  have hN : ∃ N na nb aa ab ca cb, va = .slice aa na ca ∧ vb = .slice ab nb cb ∧ Hid (max a.length b.length = N) ∧ N ≤ 1000000 ∧ ((N = na ∧ nb ≤ N) ∨ (N = nb ∧ na < N)) := by
    obtain ⟨_, aa, ca, rfl, _, _, _⟩ := ha
    obtain ⟨_, ab, cb, rfl, _, _, _⟩ := hb
    exact ⟨_, _, _, _, _, _, _, rfl, rfl, rfl, by omega, by omega⟩
  obtain ⟨N, na, nb, aa, ab, ca, cb, rfl, rfl, HN, hN0, hcase⟩ := hN
  rw [HN.out]
  clear hla hlb
  rcases hcase with ⟨e, hab⟩ | ⟨e, hab⟩ <;> subst e
  all_goals
    go_enter Tryd.func35, Tryd.ntmps35
    go_wp2
    go_loop [13] (fun i => ∃ k : Nat, k ≤ N ∧ i = .int .i64 k ∧ Hid (all p k = true)) (fun i => N - (intOf i).toNat)
    case atStart => exact ⟨0, Nat.zero_le _, rfl, rfl⟩
    case round =>
      obtain ⟨k, hk, rfl, hall⟩ := hrel
      by_cases hlt : k < N
      · cases hpk : p k
        all_goals
          have Hpk : Hid (p k = _) := hpk
          clear hpk
          go_wp2_with fail
          refine (get_any _ _ _ _ ha).mono ?_
          rintro e w' ⟨rfl, rfl⟩
          rw [get_nat]
          go_wp2_with fail
          refine (get_any _ _ _ _ hb).mono ?_
          rintro e w' ⟨rfl, rfl⟩
          rw [get_nat]
          go_wp2_with fail
          refine (hK k _).mono ?_
          rintro e w' ⟨rfl, rfl⟩
          rw [Hpk.out]
          go_wp2_with fail
        · go_ret
          exact ⟨ret_bool (all_false p k N hlt (Hpk.out)).symm, rfl⟩
        · go_round
          case rel => exact ⟨k + 1, by omega, by go_num, all_true p k hall.out (Hpk.out)⟩
          case measure => simp [intOf]; omega
      · have e : k = N := by omega
        subst e
        go_wp2_with fail
        go_ret
        exact ⟨ret_bool hall.out.symm, rfl⟩
set_option maxHeartbeats 400000 in
theorem every_Same1 (va vb : Value) (a b : List Int) (p : Nat → Bool) (w : World) (ha : Sl w va a) (hb : Sl w vb b) (hK : GivesB 37 (cnt a) (cnt b) p)
    (hla : a.length ≤ 1000000) (hlb : b.length ≤ 1000000) :
    Calls Tryd.prog 35 #[va, vb, .func (.func 37) #[] #[]] w fun e w' => e = .returned (.bool (all p (max a.length b.length))) ∧ w = w' := by
  have hN : ∃ N na nb aa ab ca cb, va = .slice aa na ca ∧ vb = .slice ab nb cb ∧ Hid (max a.length b.length = N) ∧ N ≤ 1000000 ∧ ((N = na ∧ nb ≤ N) ∨ (N = nb ∧ na < N)) := by
    obtain ⟨_, aa, ca, rfl, _, _, _⟩ := ha
    obtain ⟨_, ab, cb, rfl, _, _, _⟩ := hb
    exact ⟨_, _, _, _, _, _, _, rfl, rfl, rfl, by omega, by omega⟩
  obtain ⟨N, na, nb, aa, ab, ca, cb, rfl, rfl, HN, hN0, hcase⟩ := hN
  rw [HN.out]
  clear hla hlb
  rcases hcase with ⟨e, hab⟩ | ⟨e, hab⟩ <;> subst e
  all_goals
    go_enter Tryd.func35, Tryd.ntmps35
    go_wp2
    go_loop [13] (fun i => ∃ k : Nat, k ≤ N ∧ i = .int .i64 k ∧ Hid (all p k = true)) (fun i => N - (intOf i).toNat)
    case atStart => exact ⟨0, Nat.zero_le _, rfl, rfl⟩
    case round =>
      obtain ⟨k, hk, rfl, hall⟩ := hrel
      by_cases hlt : k < N
      · cases hpk : p k
        all_goals
          have Hpk : Hid (p k = _) := hpk
          clear hpk
          go_wp2_with fail
          refine (get_any _ _ _ _ ha).mono ?_
          rintro e w' ⟨rfl, rfl⟩
          rw [get_nat]
          go_wp2_with fail
          refine (get_any _ _ _ _ hb).mono ?_
          rintro e w' ⟨rfl, rfl⟩
          rw [get_nat]
          go_wp2_with fail
          refine (hK k _).mono ?_
          rintro e w' ⟨rfl, rfl⟩
          rw [Hpk.out]
          go_wp2_with fail
        · go_ret
          exact ⟨ret_bool (all_false p k N hlt (Hpk.out)).symm, rfl⟩
        · go_round
          case rel => exact ⟨k + 1, by omega, by go_num, all_true p k hall.out (Hpk.out)⟩
          case measure => simp [intOf]; omega
      · have e : k = N := by omega
        subst e
        go_wp2_with fail
        go_ret
        exact ⟨ret_bool hall.out.symm, rfl⟩

end Go.Proofs.YtogabncehoehjaaDoor.Ck
