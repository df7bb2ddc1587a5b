/- The walk of the statement ClockOf: it answers true. -/
import Derived.Test.YtogabncehoehjabDoorMath
import Derived.Test.YtogabncehoehjabDoorAlive
import Derived.Test.YtogabncehoehjabDoorOpen
import Derived.Test.YtogabncehoehjabDoorEp
namespace Go.Proofs.YtogabncehoehjabDoor.Ck
open Go.RowKit

def leP (a b : List Int) (i : Nat) : Bool := decide (cnt a i ≤ cnt b i)
theorem le_upto (a b : List Int) : leB a b = all (leP a b) a.length := by
  rw [Bool.eq_iff_iff, leB_iff, all_iff]
  unfold leP
  simp only [decide_eq_true_eq]
  refine ⟨fun h i _ => h i, fun h i => ?_⟩
  by_cases hi : i < a.length
  · exact h i hi
  · rw [cnt_out a i (by omega)]; exact cnt_nonneg b i
theorem all_step_false (p : Nat → Bool) (k : Nat) (h : all p k = false) : all p (k + 1) = false := by simp [all, h]
theorem all_step_true (p : Nat → Bool) (k : Nat) (h : all p k = true) : all p (k + 1) = p k := by simp [all, h]

theorem len_of2 {W : World} {a : Option Addr} {len cap : Nat} {zs : List Int} (h : Sl W (.slice a len cap) zs) : len = zs.length := by
  obtain ⟨_, a', c', e, _⟩ := h
  cases e
  rfl

set_option maxHeartbeats 400000 in
theorem of_main (va vb : Value) (a b : List Int) (w : World) (ha : Sl w va a) (hb : Sl w vb b) (hla : a.length ≤ 500) (hlb : b.length ≤ 500) :
    Calls Tryd.prog 4 #[va, vb] w fun e w' => e = .returned (.bool true) ∧ Below w.heap.size w w' := by
  obtain ⟨na, aa, ca, rfl, ena⟩ : ∃ n aa ca, va = .slice aa n ca ∧ n = a.length := by obtain ⟨_, aa, ca, rfl, _⟩ := ha; exact ⟨_, _, _, rfl, rfl⟩
  obtain ⟨nb, ab, cb, rfl, enb⟩ : ∃ n aa ca, vb = .slice aa n ca ∧ n = b.length := by obtain ⟨_, aa, ca, rfl, _⟩ := hb; exact ⟨_, _, _, rfl, rfl⟩
  have hna : na ≤ 500 := by omega
  have hnb : nb ≤ 500 := by omega
  have la : Hid (a.length ≤ 1000000) := Nat.le_trans hla (by omega)
  have lb : Hid (b.length ≤ 1000000) := Nat.le_trans hlb (by omega)
  have hle : Hid (leB a b = all (leP a b) na) := by show _ = _; rw [ena]; exact le_upto a b
  clear ena enb hla hlb
  go_enter Tryd.func4, Tryd.ntmps4
  go_wp2_with fail
  refine (alive_any _).mono ?_
  rintro e w1 ⟨rfl, b1⟩
  go_wp2_with fail
  go_loopw [5, 19] (fun s i wr => ∃ k : Nat, k ≤ na ∧ i = .int .i64 k ∧ s = .bool (all (leP a b) k) ∧ Below w.heap.size w wr) (fun _ i _ => na - (intOf i).toNat)
  case atStart => exact ⟨0, Nat.zero_le _, rfl, rfl, b1⟩
  case round =>
    obtain ⟨k, hk, rfl, rfl, br⟩ := hrel
    clear b1
    by_cases hlt : k < na
    · cases hall : all (leP a b) k
      · have hs : Hid (all (leP a b) (k + 1) = false) := all_step_false _ _ hall
        clear hall hle
        go_wp2_with fail
        go_roundw
        case rel => exact ⟨k + 1, by omega, by go_num, by rw [hs.out], br⟩
        case measure => simp [intOf]; omega
      · have hs : Hid (all (leP a b) (k + 1) = leP a b k) := all_step_true _ _ hall
        clear hall hle
        go_wp2_with fail
        refine (of_any _ a _ _ (ha.below (Nat.le_refl _) br)).mono ?_
        rintro e w2 ⟨rfl, hb2⟩
        have b2 := bel_trans br hb2
        clear hb2 br
        go_wp2_with fail
        refine (epAtMost_bel _ b _ _ _ (hb.below (Nat.le_refl _) b2)).mono ?_
        rintro e w3 ⟨rfl, hb3⟩
        have b3 := bel_trans b2 hb3
        clear hb3 b2
        rw [get_nat, get_nat, show decide (cnt a k ≤ cnt b k) = leP a b k from rfl, ← hs.out]
        go_wp2_with fail
        go_roundw
        case rel => exact ⟨k + 1, by omega, by go_num, rfl, b3⟩
        case measure => simp [intOf]; omega
    · have e : k = na := by omega
      subst e
      go_wp2_with fail
      refine (any_AtMost _ _ a b _ (ha.below (Nat.le_refl _) br) (hb.below (Nat.le_refl _) br) la.out lb.out).mono ?_
      rintro e w' ⟨rfl, rfl⟩
      rw [hle.out]
      clear hle
      generalize all (leP a b) k = t
      go_wp2_with fail
      go_ret
      exact ⟨ret_bool (by simp), br⟩

theorem clockOf_walk {W : World} {a0 a1 : Option Addr} {len0 cap0 len1 cap1 : Nat} {a b : List Int} (s0 : Sl W (.slice a0 len0 cap0) a) (s1 : Sl W (.slice a1 len1 cap1) b)
    (_hL : laidMetH Tryd.prog laid2 W) : Calls Tryd.prog 4 #[.slice a0 len0 cap0, .slice a1 len1 cap1] W fun e w' => e = .returned (.bool true) ∧ Below W.heap.size W w' := by
  have e0 := len_of2 s0
  have e1 := len_of2 s1
  by_cases h0 : 500 < len0
  · clear s0 s1 e0 e1
    go_enter Tryd.func4, Tryd.ntmps4
    go_wp2_with fail
    refine (alive_any _).mono ?_
    rintro e w1 ⟨rfl, b1⟩
    go_wp2_with fail
    go_ret
    exact ⟨rfl, b1⟩
  · by_cases h1 : 500 < len1
    · clear s0 s1 e0 e1
      go_enter Tryd.func4, Tryd.ntmps4
      go_wp2_with fail
      refine (alive_any _).mono ?_
      rintro e w1 ⟨rfl, b1⟩
      go_wp2_with fail
      go_ret
      exact ⟨rfl, b1⟩
    · exact of_main _ _ a b W s0 s1 (by omega) (by omega)

end Go.Proofs.YtogabncehoehjabDoor.Ck
