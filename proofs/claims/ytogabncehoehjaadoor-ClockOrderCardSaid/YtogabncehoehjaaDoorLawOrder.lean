/- The walk of the statement ClockOrder: it answers true. -/
import Derived.Test.YtogabncehoehjaaDoorMath
import Derived.Test.YtogabncehoehjaaDoorAlive
import Derived.Test.YtogabncehoehjaaDoorOpen
namespace Go.Proofs.YtogabncehoehjaaDoor.Ck
open Go.RowKit

theorem len_is {W : World} {a : Option Addr} {len cap : Nat} {zs : List Int} (h : Sl W (.slice a len cap) zs) : len = zs.length := by
  obtain ⟨_, a', c', e, _⟩ := h
  cases e
  rfl
theorem le_refl (a : List Int) : leB a a = true := (leB_iff a a).2 (fun _ => Int.le_refl _)
theorem le_trans (a b c : List Int) (h : leB a b = true) (k : leB b c = true) : leB a c = true :=
  (leB_iff a c).2 (fun i => Int.le_trans ((leB_iff a b).1 h i) ((leB_iff b c).1 k i))
theorem le_join1 (a b : List Int) : leB a (join a b) = true := (leB_iff _ _).2 (fun i => by rw [cnt_join]; omega)
theorem le_join2 (a b : List Int) : leB b (join a b) = true := (leB_iff _ _).2 (fun i => by rw [cnt_join]; omega)
theorem join_least (a b c : List Int) (h : leB a c = true) : leB (join a b) c = leB b c := by
  rw [Bool.eq_iff_iff, leB_iff, leB_iff]
  exact ⟨fun k i => by have := k i; rw [cnt_join] at this; omega, fun k i => by have h1 := (leB_iff a c).1 h i; have h2 := k i; rw [cnt_join]; omega⟩
theorem eq_comm2 (a b : List Int) : eqB (join a b) (join b a) = true := (eqB_iff _ _).2 (fun i => by rw [cnt_join, cnt_join]; omega)
theorem eq_assoc (a b c : List Int) : eqB (join (join a b) c) (join a (join b c)) = true := (eqB_iff _ _).2 (fun i => by simp only [cnt_join]; omega)
theorem eq_idem (a : List Int) : eqB (join a a) a = true := (eqB_iff _ _).2 (fun i => by rw [cnt_join]; omega)

set_option maxHeartbeats 1000000 in
theorem order_main (va vb vc : Value) (a b c : List Int) (w : World) (ha : Sl w va a) (hb : Sl w vb b) (hc : Sl w vc c) (hla : a.length ≤ 500) (hlb : b.length ≤ 500) (hlc : c.length ≤ 500) :
    Calls Tryd.prog 5 #[va, vb, vc] w fun e w' => e = .returned (.bool true) ∧ Below w.heap.size w w' := by
  obtain ⟨na, aa, ca, rfl, ena⟩ : ∃ n aa ca, va = .slice aa n ca ∧ n = a.length := by obtain ⟨_, aa, ca, rfl, _⟩ := ha; exact ⟨_, _, _, rfl, rfl⟩
  obtain ⟨nb, ab, cb, rfl, enb⟩ : ∃ n aa ca, vb = .slice aa n ca ∧ n = b.length := by obtain ⟨_, aa, ca, rfl, _⟩ := hb; exact ⟨_, _, _, rfl, rfl⟩
  obtain ⟨nc, ac, cc, rfl, enc⟩ : ∃ n aa ca, vc = .slice aa n ca ∧ n = c.length := by obtain ⟨_, aa, ca, rfl, _⟩ := hc; exact ⟨_, _, _, rfl, rfl⟩
  have hna : na ≤ 500 := by omega
  have hnb : nb ≤ 500 := by omega
  have hnc : nc ≤ 500 := by omega
  have hlj := join_le a b
  have hlj2 := join_le b c
  have la : Hid (a.length ≤ 1000000) := Nat.le_trans hla (by omega)
  have lb : Hid (b.length ≤ 1000000) := Nat.le_trans hlb (by omega)
  have lc : Hid (c.length ≤ 1000000) := Nat.le_trans hlc (by omega)
  have lj : Hid ((join a b).length ≤ 1000000) := Nat.le_trans hlj (by omega)
  have lj2 : Hid ((join b c).length ≤ 1000000) := Nat.le_trans hlj2 (by omega)
  have lj3 : Hid ((join b a).length ≤ 1000000) := Nat.le_trans (join_le b a) (by omega)
  have lj4 : Hid ((join (join a b) c).length ≤ 1000000) := Nat.le_trans (join_le (join a b) c) (by omega)
  have lj5 : Hid ((join a (join b c)).length ≤ 1000000) := Nat.le_trans (join_le a (join b c)) (by omega)
  have lj6 : Hid ((join a a).length ≤ 1000000) := Nat.le_trans (join_le a a) (by omega)
  have f1 := le_refl a
  have f2 := le_join1 a b
  have f3 := le_join2 a b
  have g1 : Hid (eqB (join a b) (join b a) = true) := eq_comm2 a b
  have g2 : Hid (eqB (join (join a b) c) (join a (join b c)) = true) := eq_assoc a b c
  have g3 : Hid (eqB (join a a) a = true) := eq_idem a
  have hj : Hid (leB a c = true → leB (join a b) c = leB b c) := join_least a b c
  have ht : Hid (leB a b = true → leB b c = true → leB a c = true) := le_trans a b c
  clear ena enb enc hla hlb hlc hlj hlj2
  go_enter Tryd.func5, Tryd.ntmps5
  go_wp2_with fail
  refine (alive_any _).mono ?_
  rintro e w1 ⟨rfl, b1⟩
  go_wp2_with fail
  refine (join_any _ _ a b _ (ha.below (Nat.le_refl _) b1) (hb.below (Nat.le_refl _) b1) la.out lb.out).mono ?_
  rintro e w2 ⟨⟨v2, rfl, hv2⟩, hb2⟩
  have b2 := bel_trans b1 hb2
  have sa := ha.below (Nat.le_refl _) b2
  have sb := hb.below (Nat.le_refl _) b2
  have sc := hc.below (Nat.le_refl _) b2
  clear b1 hb2
  cases hab : leB a b <;> cases hbc : leB b c <;> cases hac : leB a c
  case true.true.false => exact absurd (ht.out hab hbc) (by rw [hac]; decide)
  all_goals
    have hjc : leB a c = true → leB (join a b) c = leB b c := hj.out
    simp only [hac, hbc, true_implies, false_implies, Bool.false_eq_true] at hjc
    clear hj ht
    go_wp2_with (go_at_call 22; refine (any_AtMost _ _ _ _ _ (by assumption) (by assumption) (by assumption) (by assumption)).mono ?_; rintro e w' ⟨rfl, rfl⟩)
    clear f1 f2 f3 hjc hab hbc hac
    refine (join_any _ _ b a _ sb sa lb.out la.out).mono ?_
    rintro e w3 ⟨⟨v3, rfl, hv3⟩, hb3⟩
    have b3 := bel_trans b2 hb3
    have sj := hv2.below (Nat.le_refl _) hb3
    have sa := ha.below (Nat.le_refl _) b3
    have sc := hc.below (Nat.le_refl _) b3
    clear hv2 hb3 b2
    go_wp2_with fail
    refine (any_Same _ _ _ _ _ sj hv3 lj.out lj3.out).mono ?_
    rintro e w' ⟨rfl, rfl⟩
    rw [g1.out]
    clear hv3 g1 lj3
    go_wp2_with fail
    refine (join_any _ _ _ c _ sj sc lj.out lc.out).mono ?_
    rintro e w4 ⟨⟨v4, rfl, hv4⟩, hb4⟩
    have b4 := bel_trans b3 hb4
    have sb := hb.below (Nat.le_refl _) b4
    have sc := hc.below (Nat.le_refl _) b4
    clear hb4 b3 sj sa
    go_wp2_with fail
    refine (join_any _ _ b c _ sb sc lb.out lc.out).mono ?_
    rintro e w5 ⟨⟨v5, rfl, hv5⟩, hb5⟩
    have b5 := bel_trans b4 hb5
    have s4 := hv4.below (Nat.le_refl _) hb5
    have sa := ha.below (Nat.le_refl _) b5
    clear hb5 b4 hv4 sb sc
    go_wp2_with fail
    refine (join_any _ _ a _ _ sa hv5 la.out lj2.out).mono ?_
    rintro e w6 ⟨⟨v6, rfl, hv6⟩, hb6⟩
    have b6 := bel_trans b5 hb6
    have s4 := s4.below (Nat.le_refl _) hb6
    have sa := ha.below (Nat.le_refl _) b6
    clear hb6 b5 hv5
    go_wp2_with fail
    refine (any_Same _ _ _ _ _ s4 hv6 lj4.out lj5.out).mono ?_
    rintro e w' ⟨rfl, rfl⟩
    rw [g2.out]
    clear hv6 g2 s4
    go_wp2_with fail
    refine (join_any _ _ a a _ sa sa la.out la.out).mono ?_
    rintro e w7 ⟨⟨v7, rfl, hv7⟩, hb7⟩
    have b7 := bel_trans b6 hb7
    have sa := ha.below (Nat.le_refl _) b7
    clear hb7 b6
    go_wp2_with fail
    refine (any_Same _ _ _ _ _ hv7 sa lj6.out la.out).mono ?_
    rintro e w' ⟨rfl, rfl⟩
    rw [g3.out]
    go_wp2_with fail
    go_ret
    exact ⟨rfl, b7⟩

theorem clockOrder_walk {W : World} {a0 a1 a2 : Option Addr} {len0 cap0 len1 cap1 len2 cap2 : Nat} {a b c : List Int} (s0 : Sl W (.slice a0 len0 cap0) a) (s1 : Sl W (.slice a1 len1 cap1) b) (s2 : Sl W (.slice a2 len2 cap2) c)
    (_hL : laidMetH Tryd.prog laid2 W) : Calls Tryd.prog 5 #[.slice a0 len0 cap0, .slice a1 len1 cap1, .slice a2 len2 cap2] W fun e w' => e = .returned (.bool true) ∧ Below W.heap.size W w' := by
  have e0 := len_is s0
  have e1 := len_is s1
  have e2 := len_is s2
  by_cases h0 : 500 < len0
  · clear s0 s1 s2 e0 e1 e2
    go_enter Tryd.func5, Tryd.ntmps5
    go_wp2_with fail
    refine (alive_any _).mono ?_
    rintro e w1 ⟨rfl, b1⟩
    go_wp2_with fail
    go_ret
    exact ⟨rfl, b1⟩
  · by_cases h1 : 500 < len1
    · clear s0 s1 s2 e0 e1 e2
      go_enter Tryd.func5, Tryd.ntmps5
      go_wp2_with fail
      refine (alive_any _).mono ?_
      rintro e w1 ⟨rfl, b1⟩
      go_wp2_with fail
      go_ret
      exact ⟨rfl, b1⟩
    · by_cases h2 : 500 < len2
      · clear s0 s1 s2 e0 e1 e2
        go_enter Tryd.func5, Tryd.ntmps5
        go_wp2_with fail
        refine (alive_any _).mono ?_
        rintro e w1 ⟨rfl, b1⟩
        go_wp2_with fail
        go_ret
        exact ⟨rfl, b1⟩
      · exact order_main _ _ _ a b c W s0 s1 s2 (by omega) (by omega) (by omega)

end Go.Proofs.YtogabncehoehjaaDoor.Ck
