/- The contracts of the reference's longer, Leq, Short and Join. -/
import Derived.Test.YtogabncehoehjaaDoorMath
import Derived.Test.YtogabncehoehjaaDoorRefAt
namespace Go.Proofs.YtogabncehoehjaaDoor.Ck
open Go.RowKit

theorem rlonger_any (va vb : Value) (a b : List Int) (w : World) (ha : Sl w va a) (hb : Sl w vb b) :
    Calls Tryd.prog 33 #[va, vb] w fun e w' => e = .returned (.int .i64 ((max a.length b.length : Nat) : Int)) ∧ w = w' := by
  obtain ⟨_, aa, ca, rfl, _, _, _⟩ := ha
  obtain ⟨_, ab, cb, rfl, _, _, _⟩ := hb
  generalize a.length = na at *
  generalize b.length = nb at *
  by_cases h : nb < na
  all_goals
    go_enter Tryd.func33, Tryd.ntmps33
    go_wp2
    go_ret
    exact ⟨ret_int (by omega), rfl⟩

def leQ (a b : List Int) (i : Nat) : Bool := decide (cnt a i ≤ cnt b i)

set_option maxHeartbeats 400000 in
theorem rLeq_any (va vb : Value) (a b : List Int) (w : World) (ha : Sl w va a) (hb : Sl w vb b) (hla : a.length ≤ 1000000) (hlb : b.length ≤ 1000000) :
    Calls Tryd.prog 23 #[va, vb] w fun e w' => e = .returned (.bool (leB a b)) ∧ w = w' := by
  obtain ⟨N, HN⟩ : ∃ N, Hid (max a.length b.length = N) := ⟨_, rfl⟩
  have hN : N ≤ 1000000 := by rw [← HN.out]; omega
  have hle : Hid (leB a b = all (leQ a b) N) := by show _ = _; rw [← HN.out]; rfl
  clear hla hlb
  go_enter Tryd.func23, Tryd.ntmps23
  go_wp2_with fail
  go_loop [5] (fun i => ∃ k : Nat, k ≤ N ∧ i = .int .i64 k ∧ Hid (all (leQ a b) k = true)) (fun i => N - (intOf i).toNat)
  case atStart => exact ⟨0, Nat.zero_le _, rfl, rfl⟩
  case round =>
    obtain ⟨k, hk, rfl, hall⟩ := hrel
    by_cases hlt : k < N
    · cases hpk : leQ a b k
      · have hgt : cnt b k < cnt a k := by have := of_decide_eq_false hpk; omega
        have Hpk : Hid (leQ a b k = false) := hpk
        clear hpk
        go_wp2_with fail
        refine (rlonger_any _ _ _ _ _ ha hb).mono ?_
        rintro e w' ⟨rfl, rfl⟩
        rw [HN.out]
        go_wp2_with fail
        refine (rAt_any _ _ _ _ ha).mono ?_
        rintro e w' ⟨rfl, rfl⟩
        rw [get_nat]
        go_wp2_with fail
        refine (rAt_any _ _ _ _ hb).mono ?_
        rintro e w' ⟨rfl, rfl⟩
        rw [get_nat]
        go_wp2_with fail
        go_ret
        exact ⟨ret_bool (by rw [hle.out]; exact (all_false _ k N hlt Hpk.out).symm), rfl⟩
      · have hgt : cnt a k ≤ cnt b k := of_decide_eq_true hpk
        have Hpk : Hid (leQ a b k = true) := hpk
        clear hpk
        go_wp2_with fail
        refine (rlonger_any _ _ _ _ _ ha hb).mono ?_
        rintro e w' ⟨rfl, rfl⟩
        rw [HN.out]
        go_wp2_with fail
        refine (rAt_any _ _ _ _ ha).mono ?_
        rintro e w' ⟨rfl, rfl⟩
        rw [get_nat]
        go_wp2_with fail
        refine (rAt_any _ _ _ _ hb).mono ?_
        rintro e w' ⟨rfl, rfl⟩
        rw [get_nat]
        go_wp2_with fail
        go_round
        case rel => exact ⟨k + 1, by omega, by go_num, all_true _ k hall.out Hpk.out⟩
        case measure => simp [intOf]; omega
    · have e : k = N := by omega
      subst e
      go_wp2_with fail
      refine (rlonger_any _ _ _ _ _ ha hb).mono ?_
      rintro e w' ⟨rfl, rfl⟩
      rw [HN.out]
      go_wp2_with fail
      go_ret
      exact ⟨ret_bool (by rw [hle.out]; exact hall.out.symm), rfl⟩

/-- one more than the place of the last count above 0 among the first k -/
def pl (a : List Int) : Nat → Nat
  | 0 => 0
  | k + 1 => if 0 < a.getD k 0 then k + 1 else pl a k
theorem pl_le (a : List Int) (k : Nat) : pl a k ≤ k := by
  induction k with
  | zero => simp [pl]
  | succ k ih => rw [pl]; split <;> omega
theorem pl_tl (a : List Int) (n k : Nat) (h : k ≤ n) : tl ((List.range n).map (cnt a)) k = pl a k := by
  induction k with
  | zero => rfl
  | succ k ih =>
    rw [tl, pl, range_getD _ _ _ (by omega), ih (by omega)]
    unfold cnt
    by_cases hp : 0 < a.getD k 0
    · rw [if_pos hp, if_neg (by omega)]
    · rw [if_neg hp, if_pos (by omega)]
theorem short_pl (a : List Int) : short a = (List.range (pl a a.length)).map (cnt a) := by
  have h := pl_le a a.length
  unfold short mk
  rw [pl_tl a a.length a.length (Nat.le_refl _), ← List.map_take, List.take_range, Nat.min_eq_left h]

set_option maxHeartbeats 400000 in
theorem rShort_any (va : Value) (a : List Int) (w : World) (ha : Sl w va a) (hla : a.length ≤ 1000000) :
    Calls Tryd.prog 21 #[va] w fun e w' => (∃ v, e = .returned v ∧ Sl w' v (short a)) ∧ Below w.heap.size w w' := by
  obtain ⟨n, Hn⟩ : ∃ n, Hid (pl a a.length = n) := ⟨_, rfl⟩
  have hs : Hid (short a = (List.range n).map (cnt a)) := by show _ = _; rw [short_pl, Hn.out]
  have ha' := ha
  obtain ⟨hf, aa, ca, rfl, hca, hcm, hcell⟩ := ha'
  have hn : n ≤ a.length := by rw [← Hn.out]; exact pl_le _ _
  have hmax : Hid (∀ i, cnt a i ≤ 9223372036854775807) := fun i => cnt_max a i hf
  clear hf hca hcm
  generalize a.length = na at *
  have hmk := run_make_row' (P := Tryd.prog) 22 3 (.int .i64 0) 8 Tryd.underlying22 info3 rfl .i64 .i64 n (by omega) (by omega)
  go_enter Tryd.func21, Tryd.ntmps21
  go_wp2_with fail
  go_loop [3, 9] (fun s i => ∃ k : Nat, k ≤ na ∧ i = .int .i64 k ∧ s = .int .i64 (pl a k)) (fun _ i => na - (intOf i).toNat)
  case atStart => exact ⟨0, Nat.zero_le _, rfl, rfl⟩
  case round =>
    obtain ⟨k, hk, rfl, rfl⟩ := hrel
    by_cases hlt : k < na
    · obtain ⟨b, off, rfl, hb, hc⟩ := hcell k hlt
      by_cases hp : 0 < a.getD k 0
      · have e : Hid (pl a (k + 1) = k + 1) := by show _ = _; rw [pl, if_pos hp]
        generalize a.getD k 0 = z at *
        clear hcell hmk
        go_wp2_with fail
        go_round
        case rel => exact ⟨k + 1, by omega, by go_num, by rw [e.out]; go_num⟩
        case measure => simp [intOf]; omega
      · have e : Hid (pl a (k + 1) = pl a k) := by show _ = _; rw [pl, if_neg hp]
        generalize a.getD k 0 = z at *
        clear hcell hmk
        go_wp2_with fail
        go_round
        case rel => exact ⟨k + 1, by omega, by go_num, by rw [e.out]⟩
        case measure => simp [intOf]; omega
    · have e : k = na := by omega
      subst e
      rw [Hn.out]
      clear hcell
      go_wp2_with fail
      go_loopw [24] (fun i wr => ∃ j : Nat, j ≤ n ∧ i = .int .i64 j ∧ wr.rowIs w.heap.size 3 n (part (cnt a) j) ∧ Below w.heap.size w wr) (fun i _ => n - (intOf i).toNat)
      case atStart => exact ⟨0, Nat.zero_le _, rfl, (World.rowIs_made w _ _ _).congr (fun j _ => (part_zero _ j).symm), bel_new _ _⟩
      case round =>
        obtain ⟨j, hj, rfl, hrow, hbel⟩ := hrel
        by_cases hjn : j < n
        · have ha2 := ha.below (Nat.le_refl _) hbel
          have hc2 := hrow.cell hjn
          have hfr := hrow.frozen j
          have hrow2 := (hrow.set j (.int .i64 (cnt a j))).congr (fun i _ => part_step _ j i)
          have hbel2 := hbel.setCell (p := ⟨w.heap.size, j, none⟩) (Nat.le_refl _) (.int .i64 (cnt a j))
          clear hrow hbel hmk
          go_wp2_with fail
          refine (rAt_any _ _ _ _ ha2).mono ?_
          rintro e w' ⟨rfl, rfl⟩
          rw [get_nat]
          go_wp2_with fail
          go_roundw
          case rel => exact ⟨j + 1, by omega, by go_num, hrow2, hbel2⟩
          case measure => simp [intOf]; omega
        · have e : j = n := by omega
          subst e
          have hlen : (short a).length = j := by rw [hs.out]; simp
          have hsl := Sl.of_row (zs := short a) hrow (by omega) (by unfold maxLen; omega) (fun z hz => by
            rw [hs.out, List.mem_map] at hz
            obtain ⟨i, _, rfl⟩ := hz
            have := cnt_nonneg a i
            have := hmax.out i
            omega) (fun i hi => by
              rw [hlen] at hi
              unfold part
              rw [if_pos hi, hs.out, range_getD _ _ _ hi])
          rw [hlen] at hsl
          clear hrow hmk
          go_wp2_with fail
          go_ret
          exact ⟨⟨_, rfl, hsl⟩, hbel⟩

end Go.Proofs.YtogabncehoehjaaDoor.Ck
