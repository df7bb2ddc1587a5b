/- The walk of the statement ClockZero: it answers true. -/
import Derived.Test.YtogabncehoehjabDoorMath
import Derived.Test.YtogabncehoehjabDoorAlive
import Derived.Test.YtogabncehoehjabDoorOpen
namespace Go.Proofs.YtogabncehoehjabDoor.Ck
open Go.RowKit

theorem cnt_nil (i : Nat) : cnt [] i = 0 := cnt_out [] i (Nat.zero_le _)
theorem le_nil1 (a : List Int) : leB [] a = true := (leB_iff _ _).2 (fun i => by rw [cnt_nil]; exact cnt_nonneg a i)
theorem eq_joinN (a : List Int) : eqB (join a []) a = true := (eqB_iff _ _).2 (fun i => by rw [cnt_join, cnt_nil]; have := cnt_nonneg a i; omega)
theorem eq_joinL (a : List Int) : eqB (join [] a) a = true := (eqB_iff _ _).2 (fun i => by rw [cnt_join, cnt_nil]; have := cnt_nonneg a i; omega)
theorem apart_nil (a : List Int) : apartB a [] = false := by simp [apartB, le_nil1]
theorem le_nil2 (a : List Int) : (leB a [] == ((short a).length == 0)) = true := by
  rw [beq_iff_eq, Bool.eq_iff_iff, leB_iff, beq_iff_eq]
  refine ⟨fun h => ?_, fun h i => ?_⟩
  · cases hl : (short a).length with
    | zero => rfl
    | succ k =>
      have h1 : (short a).length = tl ((List.range a.length).map (cnt a)) a.length := mk_length _ _
      have h2 := tl_last ((List.range a.length).map (cnt a)) a.length (by omega)
      have h3 := tl_le ((List.range a.length).map (cnt a)) a.length
      rw [range_getD _ _ _ (by omega)] at h2
      have h4 := h (tl ((List.range a.length).map (cnt a)) a.length - 1)
      rw [cnt_nil] at h4
      have h5 := cnt_nonneg a (tl ((List.range a.length).map (cnt a)) a.length - 1)
      omega
  · rw [← cnt_short a i, cnt_out (short a) i (by omega), cnt_nil]; exact Int.le_refl _

theorem len_ze {W : World} {a : Option Addr} {len cap : Nat} {zs : List Int} (h : Sl W (.slice a len cap) zs) : len = zs.length := by
  obtain ⟨_, a', c', e, _⟩ := h
  cases e
  rfl

set_option maxHeartbeats 400000 in
theorem zero_main (va : Value) (a : List Int) (w : World) (ha : Sl w va a) (hla : a.length ≤ 500) :
    Calls Tryd.prog 3 #[va] w fun e w' => e = .returned (.bool true) ∧ Below w.heap.size w w' := by
  obtain ⟨na, aa, ca, rfl, ena⟩ : ∃ n aa ca, va = .slice aa n ca ∧ n = a.length := by obtain ⟨_, aa, ca, rfl, _⟩ := ha; exact ⟨_, _, _, rfl, rfl⟩
  have hna : na ≤ 500 := by omega
  have la : Hid (a.length ≤ 1000000) := Nat.le_trans hla (by omega)
  have l0 : Hid (([] : List Int).length ≤ 1000000) := Nat.zero_le _
  have lj : Hid ((join a []).length ≤ 1000000) := Nat.le_trans (join_le a []) (by simp; omega)
  have lj2 : Hid ((join [] a).length ≤ 1000000) := Nat.le_trans (join_le [] a) (by simp; omega)
  have g1 : Hid (leB [] a = true) := le_nil1 a
  have g2 : Hid (eqB (join a []) a = true) := eq_joinN a
  have g3 : Hid (eqB (join [] a) a = true) := eq_joinL a
  have g4 : Hid (apartB a [] = false) := apart_nil a
  have g5 : Hid ((leB a [] == ((short a).length == 0)) = true) := le_nil2 a
  clear ena hla
  go_enter Tryd.func3, Tryd.ntmps3
  go_wp2_with fail
  refine (alive_any _).mono ?_
  rintro e w1 ⟨rfl, b1⟩
  have sa := ha.below (Nat.le_refl _) b1
  go_wp2_with fail
  refine (any_AtMost _ _ [] a _ (Sl.nilS _) sa l0.out la.out).mono ?_
  rintro e w' ⟨rfl, rfl⟩
  rw [g1.out]
  go_wp2_with fail
  refine (join_any _ _ a [] _ sa (Sl.nilS _) la.out l0.out).mono ?_
  rintro e w2 ⟨⟨v2, rfl, hv2⟩, hb2⟩
  have b2 := bel_trans b1 hb2
  have sa2 := ha.below (Nat.le_refl _) b2
  clear b1 hb2 sa
  go_wp2_with fail
  refine (any_Same _ _ _ a _ hv2 sa2 lj.out la.out).mono ?_
  rintro e w' ⟨rfl, rfl⟩
  rw [g2.out]
  clear hv2
  go_wp2_with fail
  refine (join_any _ _ [] a _ (Sl.nilS _) sa2 l0.out la.out).mono ?_
  rintro e w3 ⟨⟨v3, rfl, hv3⟩, hb3⟩
  have b3 := bel_trans b2 hb3
  have sa3 := ha.below (Nat.le_refl _) b3
  clear b2 hb3 sa2
  go_wp2_with fail
  refine (any_Same _ _ _ a _ hv3 sa3 lj2.out la.out).mono ?_
  rintro e w' ⟨rfl, rfl⟩
  rw [g3.out]
  clear hv3
  go_wp2_with fail
  refine (apart_any _ _ a [] _ sa3 (Sl.nilS _) la.out l0.out).mono ?_
  rintro e w' ⟨rfl, rfl⟩
  rw [g4.out]
  go_wp2_with fail
  refine (any_AtMost _ _ a [] _ sa3 (Sl.nilS _) la.out l0.out).mono ?_
  rintro e w' ⟨rfl, rfl⟩
  go_wp2_with fail
  refine (short_any _ a _ sa3 la.out).mono ?_
  rintro e w4 ⟨⟨v4, rfl, hv4⟩, hb4⟩
  have b4 := bel_trans b3 hb4
  clear b3 hb4 sa3
  obtain ⟨_, a4, c4, rfl, hc4, hm4, _⟩ := hv4
  have g6 : Hid ((leB a [] == (((short a).length : Int) == 0)) = true) := by
    show _ = true
    rw [← g5.out]
    congr 1
    rw [Bool.eq_iff_iff, beq_iff_eq, beq_iff_eq]
    omega
  generalize leB a [] = t at *
  generalize (short a).length = n at *
  go_wp2_with fail
  go_ret
  exact ⟨ret_bool g6.out, b4⟩

theorem clockZero_walk {W : World} {a0 : Option Addr} {len0 cap0 : Nat} {a : List Int} (s0 : Sl W (.slice a0 len0 cap0) a)
    (_hL : laidMetH Tryd.prog laid2 W) : Calls Tryd.prog 3 #[.slice a0 len0 cap0] W fun e w' => e = .returned (.bool true) ∧ Below W.heap.size W w' := by
  have e0 := len_ze s0
  by_cases h0 : 500 < len0
  · clear s0 e0
    go_enter Tryd.func3, Tryd.ntmps3
    go_wp2_with fail
    refine (alive_any _).mono ?_
    rintro e w1 ⟨rfl, b1⟩
    go_wp2_with fail
    go_ret
    exact ⟨rfl, b1⟩
  · exact zero_main _ a W s0 (by omega)

end Go.Proofs.YtogabncehoehjabDoor.Ck
