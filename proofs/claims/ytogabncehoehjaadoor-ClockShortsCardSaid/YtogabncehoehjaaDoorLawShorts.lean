/- The walk of the statement ClockShorts: it answers true. -/
import Derived.Test.YtogabncehoehjaaDoorMath
import Derived.Test.YtogabncehoehjaaDoorAlive
import Derived.Test.YtogabncehoehjaaDoorOpen
namespace Go.Proofs.YtogabncehoehjaaDoor.Ck
open Go.RowKit

theorem short_getD (a : List Int) (i : Nat) (h : i < (short a).length) : (short a).getD i 0 = cnt a i := mk_getD _ _ _ h
theorem short_last (a : List Int) (k : Nat) (h : (short a).length = k + 1) : 0 < (short a).getD k 0 := by
  have h1 := short_getD a k (by omega)
  have h2 := cnt_nonneg a k
  have h3 : (short a).length = tl ((List.range a.length).map (cnt a)) a.length := mk_length _ _
  have h4 := tl_last ((List.range a.length).map (cnt a)) a.length (by omega)
  have h5 := tl_le ((List.range a.length).map (cnt a)) a.length
  rw [show tl ((List.range a.length).map (cnt a)) a.length - 1 = k from by omega, range_getD _ _ _ (by omega)] at h4
  omega
theorem short_short_len (a : List Int) : (short (short a)).length = (short a).length := by
  have h1 : (short (short a)).length = tl ((List.range (short a).length).map (cnt (short a))) (short a).length := mk_length _ _
  rw [h1]
  cases h : (short a).length with
  | zero => rfl
  | succ k =>
    refine tl_stop _ _ ?_
    rw [range_getD _ _ _ (by omega), cnt_short]
    have h2 := short_last a k h
    rw [short_getD a k (by omega)] at h2
    omega
theorem short_short_getD (a : List Int) (i : Nat) (h : i < (short a).length) : (short (short a)).getD i 0 = (short a).getD i 0 := by
  rw [short_getD (short a) i (by rw [short_short_len]; exact h), cnt_short, short_getD a i h]
theorem short_same (a : List Int) : eqB (short a) a = true := (eqB_iff _ _).2 (cnt_short a)

theorem len_eq {W : World} {a : Option Addr} {len cap : Nat} {zs : List Int} (h : Sl W (.slice a len cap) zs) : len = zs.length := by
  obtain ⟨_, a', c', e, _⟩ := h
  cases e
  rfl

set_option maxHeartbeats 400000 in
theorem shorts_main (va : Value) (a : List Int) (w : World) (ha : Sl w va a) (hla : a.length ≤ 500) :
    Calls Tryd.prog 8 #[va] w fun e w' => e = .returned (.bool true) ∧ Below w.heap.size w w' := by
  obtain ⟨na, aa, ca, rfl, ena⟩ : ∃ n aa ca, va = .slice aa n ca ∧ n = a.length := by obtain ⟨_, aa, ca, rfl, _⟩ := ha; exact ⟨_, _, _, rfl, rfl⟩
  have hna : na ≤ 500 := by omega
  have la : Hid (a.length ≤ 1000000) := Nat.le_trans hla (by omega)
  have hls := short_le a
  have ls : Hid ((short a).length ≤ 1000000) := Nat.le_trans hls (by omega)
  have g1 : Hid (eqB (short a) a = true) := short_same a
  obtain ⟨ns, ens⟩ : ∃ n, n = (short a).length := ⟨_, rfl⟩
  have hns : ns ≤ na := by omega
  have Hns : Hid ((short a).length = ns) := ens.symm
  have Hnt : Hid ((short (short a)).length = ns) := by show _ = _; rw [short_short_len]; exact ens.symm
  clear ena hla ens hls
  go_enter Tryd.func8, Tryd.ntmps8
  go_wp2_with fail
  refine (alive_any _).mono ?_
  rintro e w1 ⟨rfl, b1⟩
  go_wp2_with fail
  refine (short_any _ a _ (ha.below (Nat.le_refl _) b1) la.out).mono ?_
  rintro e w2 ⟨⟨v2, rfl, hv2⟩, hb2⟩
  have b2 := bel_trans b1 hb2
  clear b1 hb2
  go_wp2_with fail
  refine (short_any _ (short a) _ hv2 ls.out).mono ?_
  rintro e w3 ⟨⟨v3, rfl, hv3⟩, hb3⟩
  have b3 := bel_trans b2 hb3
  have ss := hv2.below (Nat.le_refl _) hb3
  have sa := ha.below (Nat.le_refl _) b3
  clear hb3 b2 hv2
  have hs2 := ss
  have hs3 := hv3
  obtain ⟨_, as2, cs, rfl, hcs, hms, hcell⟩ := hs2
  obtain ⟨_, at3, ct, rfl, hct, hmt, hcell3⟩ := hs3
  rw [Hns.out] at hcs hcell ss ⊢
  rw [Hnt.out] at hct hcell3 hv3 ⊢
  unfold maxLen at hms hmt
  have hpos : Hid (∀ k, ns = k + 1 → 0 < (short a).getD k 0) := fun k hk => short_last a k (Hns.out.trans hk)
  have hnn : Hid (∀ j, j < ns → 0 ≤ (short a).getD j 0) := fun j hj => by rw [short_getD a j (by rw [Hns.out]; exact hj)]; exact cnt_nonneg a j
  have heq : Hid (∀ j, j < ns → (short (short a)).getD j 0 = (short a).getD j 0) := fun j hj => short_short_getD a j (by rw [Hns.out]; exact hj)
  go_wp2_with fail
  refine (any_Same _ _ _ _ _ ss sa ls.out la.out).mono ?_
  rintro e w' ⟨rfl, rfl⟩
  rw [g1.out]
  clear g1 ss sa hv3 ls la Hns Hnt
  generalize (short (short a)) = t at *
  generalize (short a) = s at *
  cases ns with
  | zero =>
    clear hpos hnn heq hcell hcell3
    go_wp2_with fail
    go_loop [50] (fun i => i = .int .i64 0) (fun _ => 0)
    case atStart => rfl
    case round =>
      subst hrel
      go_wp2_with fail
      go_ret
      exact ⟨rfl, b3⟩
  | succ n =>
    obtain ⟨b, off, rfl, hlt, hc⟩ := hcell n (by omega)
    obtain ⟨b', off', rfl, hlt', hc'⟩ := hcell3 n (by omega)
    have hp := hpos.out n rfl
    clear hpos hc'
    generalize s.getD n 0 = z at *
    go_wp2_with fail
    clear hc hp
    go_loop [50] (fun i => ∃ k : Nat, k ≤ n + 1 ∧ i = .int .i64 k) (fun i => n + 1 - (intOf i).toNat)
    case atStart => exact ⟨0, Nat.zero_le _, rfl⟩
    case round =>
      obtain ⟨k, hk, rfl⟩ := hrel
      by_cases hk1 : k < n + 1
      · obtain ⟨b2, off2, e2, _, hc2⟩ := hcell k hk1
        obtain ⟨b4, off4, e4, _, hc4⟩ := hcell3 k hk1
        cases e2
        cases e4
        have hn := hnn.out k hk1
        rw [heq.out k hk1] at hc4
        clear hcell hcell3 hnn heq
        generalize s.getD k 0 = x at *
        have hx : (x != x) = false := by simp
        go_wp2_with fail
        exact ⟨⟨_, _, _, .int .i64 ((k : Int) + 1), ⟨k + 1, by omega, by go_num⟩, rfl, rfl, rfl, rfl⟩, by simp [intOf]; omega⟩
      · have e : k = n + 1 := by omega
        subst e
        clear hcell hcell3 hnn heq
        go_wp2_with fail
        go_ret
        exact ⟨rfl, b3⟩

theorem clockShorts_walk {W : World} {a0 : Option Addr} {len0 cap0 : Nat} {a : List Int} (s0 : Sl W (.slice a0 len0 cap0) a)
    (_hL : laidMetH Tryd.prog laid2 W) : Calls Tryd.prog 8 #[.slice a0 len0 cap0] W fun e w' => e = .returned (.bool true) ∧ Below W.heap.size W w' := by
  have e0 := len_eq s0
  by_cases h0 : 500 < len0
  · clear s0 e0
    go_enter Tryd.func8, Tryd.ntmps8
    go_wp2_with fail
    refine (alive_any _).mono ?_
    rintro e w1 ⟨rfl, b1⟩
    go_wp2_with fail
    go_ret
    exact ⟨rfl, b1⟩
  · exact shorts_main _ a W s0 (by omega)

end Go.Proofs.YtogabncehoehjaaDoor.Ck
