/- The contract of the reference's Join. -/
import Derived.Test.YtogabncehoehjaaDoorRef
namespace Go.Proofs.YtogabncehoehjaaDoor.Ck
open Go.RowKit

theorem mk_congr (m m' : Nat → Int) (n : Nat) (h : ∀ i, i < n → m i = m' i) : mk m n = mk m' n := by
  have e : (List.range n).map m = (List.range n).map m' := List.map_congr_left (fun i hi => h i (List.mem_range.1 hi))
  unfold mk
  rw [e]
theorem cnt_range (m : Nat → Int) (n i : Nat) (h0 : 0 ≤ m i) (hi : i < n) : cnt ((List.range n).map m) i = m i := by
  unfold cnt
  rw [range_getD m n i hi]
  omega
theorem short_range (m : Nat → Int) (n : Nat) (h0 : ∀ i, 0 ≤ m i) : short ((List.range n).map m) = mk m n := by
  unfold short
  rw [List.length_map, List.length_range]
  exact mk_congr _ _ n (fun i hi => cnt_range m n i (h0 i) hi)

set_option maxHeartbeats 400000 in
theorem rJoin_any (va vb : Value) (a b : List Int) (w : World) (ha : Sl w va a) (hb : Sl w vb b) (hla : a.length ≤ 1000000) (hlb : b.length ≤ 1000000) :
    Calls Tryd.prog 19 #[va, vb] w fun e w' => (∃ v, e = .returned v ∧ Sl w' v (join a b)) ∧ Below w.heap.size w w' := by
  obtain ⟨N, HN⟩ : ∃ N, Hid (max a.length b.length = N) := ⟨_, rfl⟩
  have hN : N ≤ 1000000 := by rw [← HN.out]; omega
  have hj : Hid (short ((List.range N).map (joinF a b)) = join a b) := by
    show _ = _
    rw [short_range _ _ (fun i => by have := cnt_nonneg a i; unfold joinF; omega), ← HN.out]; rfl
  have hmax : Hid (∀ i, -9223372036854775808 ≤ joinF a b i ∧ joinF a b i ≤ 9223372036854775807) := fun i => by
    have h1 := cnt_nonneg a i; have h2 := cnt_max a i ha.fits; have h3 := cnt_max b i hb.fits; unfold joinF; omega
  clear hla hlb
  have hmk := run_make_row' (P := Tryd.prog) 22 3 (.int .i64 0) 8 Tryd.underlying22 info3 rfl .i64 .i64 N (by omega) (by omega)
  go_enter Tryd.func19, Tryd.ntmps19
  go_wp2_with fail
  refine (rlonger_any _ _ _ _ _ ha hb).mono ?_
  rintro e w' ⟨rfl, rfl⟩
  rw [HN.out]
  go_wp2_with fail
  go_loopw [13] (fun i wr => ∃ k : Nat, k ≤ N ∧ i = .int .i64 k ∧ wr.rowIs w.heap.size 3 N (part (joinF a b) k) ∧ Below w.heap.size w wr) (fun i _ => N - (intOf i).toNat)
  case atStart => exact ⟨0, Nat.zero_le _, rfl, (World.rowIs_made w _ _ _).congr (fun j _ => (part_zero _ j).symm), bel_new _ _⟩
  case round =>
    obtain ⟨k, hk, rfl, hrow, hbel⟩ := hrel
    by_cases hlt : k < N
    · have ha1 := ha.below (Nat.le_refl _) hbel
      have hc := hrow.cell hlt
      have hfr := hrow.frozen k
      have hrow1 := hrow.set k (.int .i64 (cnt a k))
      have hbel1 := hbel.setCell (p := ⟨w.heap.size, k, none⟩) (Nat.le_refl _) (.int .i64 (cnt a k))
      have hc1 := hrow1.cell hlt
      have hfr1 := hrow1.frozen k
      have hb1 : Hid (∀ n, Sl ((wr.setCell ⟨w.heap.size, k, none⟩ (.int .i64 (cnt a k))).drewN n) vb b) := fun n => hb.below (Nat.le_refl _) (below_drewN hbel1 n)
      rw [if_pos rfl] at hc1
      have hkN : (k : Int) < (N : Int) := by omega
      clear hmk
      go_wp2_with fail
      refine (rAt_any _ _ _ _ ha1).mono ?_
      rintro e w' ⟨rfl, rfl⟩
      rw [get_nat]
      go_wp2_with fail
      go_quiet ((go_at_call 13; exact Calls.quiet_of_same ((rAt_any _ _ _ _ (hb1.out _)).mono fun _ _ h => ⟨h.1, h.2.symm⟩)))
      go_wp2_with fail
      · have hgt : cnt a k < get b (k : Int) := by assumption
        have hv : joinF a b k = get b (k : Int) := by unfold joinF; rw [get_nat] at hgt ⊢; omega
        have hrow2 := ((hrow1.set k (.int .i64 (get b (k : Int)))).congr (g := part (joinF a b) (k + 1)) (fun j _ => by
          rw [← part_step, hv]
          by_cases e : j = k
          · rw [if_pos e, if_pos e]
          · rw [if_neg e, if_neg e, if_neg e]))
        have hbel2 := hbel1.setCell (p := ⟨w.heap.size, k, none⟩) (Nat.le_refl _) (.int .i64 (get b (k : Int)))
        have Hrow2 : Hid (∀ n, ((((wr.setCell ⟨w.heap.size, k, none⟩ (.int .i64 (cnt a k))).setCell ⟨w.heap.size, k, none⟩ (.int .i64 (get b (k : Int)))).drewN n).rowIs w.heap.size 3 N (part (joinF a b) (k + 1)))) := fun n => hrow2
        refine (rAt_any _ _ _ _ (hb1.out _)).mono ?_
        rintro e w' ⟨rfl, rfl⟩
        clear hrow1 hrow2 hrow hv hbel hbel1
        go_wp2_with fail
        go_roundw
        case rel => exact ⟨k + 1, by omega, by go_num, Hrow2.out _, below_drewN hbel2 _⟩
        case measure => simp [intOf]; omega
      · have hle : get b (k : Int) ≤ cnt a k := by assumption
        have hv : joinF a b k = cnt a k := by unfold joinF; rw [get_nat] at hle; omega
        have hrow2 := hrow1.congr (g := part (joinF a b) (k + 1)) (fun j _ => by rw [← part_step, hv])
        have Hrow2 : Hid (∀ n, (((wr.setCell ⟨w.heap.size, k, none⟩ (.int .i64 (cnt a k))).drewN n).rowIs w.heap.size 3 N (part (joinF a b) (k + 1)))) := fun n => hrow2
        go_roundw
        case rel => exact ⟨k + 1, by omega, by go_num, Hrow2.out _, below_drewN hbel1 _⟩
        case measure => simp [intOf]; omega
    · have e : k = N := by omega
      subst e
      have hlen : ((List.range k).map (joinF a b)).length = k := by simp
      have hsl := Sl.of_row (zs := (List.range k).map (joinF a b)) hrow (by omega) (by unfold maxLen; omega) (fun z hz => by
        rw [List.mem_map] at hz
        obtain ⟨i, _, rfl⟩ := hz
        exact hmax.out i) (fun i hi => by
          rw [hlen] at hi
          unfold part
          rw [if_pos hi, range_getD _ _ _ hi])
      rw [hlen] at hsl
      clear hrow hmk
      go_wp2_with fail
      refine (rShort_any _ _ _ hsl (by rw [hlen]; omega)).mono ?_
      rintro e w2 ⟨⟨v2, rfl, hv2⟩, hb2⟩
      rw [hj.out] at hv2
      have b2 := bel_trans hbel hb2
      go_wp2_with fail
      go_ret
      exact ⟨⟨_, rfl, hv2⟩, b2⟩

end Go.Proofs.YtogabncehoehjaaDoor.Ck
