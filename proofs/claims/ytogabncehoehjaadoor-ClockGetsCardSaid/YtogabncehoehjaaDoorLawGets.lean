/- The walk of the statement ClockGets: it answers true. -/
import Derived.Test.YtogabncehoehjaaDoorMath
import Derived.Test.YtogabncehoehjaaDoorAlive
import Derived.Test.YtogabncehoehjaaDoorOpen
namespace Go.Proofs.YtogabncehoehjaaDoor.Ck
open Go.RowKit

set_option maxHeartbeats 400000 in
theorem gets_main (va vb : Value) (a b : List Int) (g : Int) (w : World) (er : Value) (te : TypeId) (xe : Value) (ha : Sl w va a) (hb : Sl w vb b) (he : Errs w er (.iface te xe)) (hla : a.length ≤ 500) (hlb : b.length ≤ 500) :
    Calls Tryd.prog 7 #[va, vb, .int .i64 g] w fun e w' => e = .returned (.bool true) ∧ Below w.heap.size w w' := by
  have hfa := ha.fits
  have hfb := hb.fits
  obtain ⟨na, aa, ca, rfl, ena⟩ : ∃ n aa ca, va = .slice aa n ca ∧ n = a.length := by obtain ⟨_, aa, ca, rfl, _⟩ := ha; exact ⟨_, _, _, rfl, rfl⟩
  obtain ⟨nb, ab, cb, rfl, enb⟩ : ∃ n aa ca, vb = .slice aa n ca ∧ n = b.length := by obtain ⟨_, aa, ca, rfl, _⟩ := hb; exact ⟨_, _, _, rfl, rfl⟩
  have hna : na ≤ 500 := by omega
  have hnb : nb ≤ 500 := by omega
  have Hla := (show Hid (a.length ≤ 500) from hla)
  have Hlb := (show Hid (b.length ≤ 500) from hlb)
  clear ena enb hla hlb
  go_enter Tryd.func7, Tryd.ntmps7
  go_wp2_with fail
  refine (alive_any _).mono ?_
  rintro e w1 ⟨rfl, b1⟩
  go_wp2_with fail
  refine (join_any _ _ a b _ (ha.below (Nat.le_refl _) b1) (hb.below (Nat.le_refl _) b1) (Nat.le_trans Hla.out (by omega)) (Nat.le_trans Hlb.out (by omega))).mono ?_
  rintro e w2 ⟨⟨v2, rfl, hv2⟩, hb2⟩
  have b2 := bel_trans b1 hb2
  clear b1 hb2
  go_wp2_with fail
  refine (get_any _ _ _ _ hv2).mono ?_
  rintro e w' ⟨rfl, rfl⟩
  go_wp2_with fail
  refine (get_any _ a _ _ (ha.below (Nat.le_refl _) b2)).mono ?_
  rintro e w' ⟨rfl, rfl⟩
  go_wp2_with fail
  refine (get_any _ b _ _ (hb.below (Nat.le_refl _) b2)).mono ?_
  rintro e w' ⟨rfl, rfl⟩
  rw [get_join]
  generalize get a g = x
  generalize get b g = y
  have he2 := he.below (Nat.le_refl _) b2
  have ha2 := ha.below (Nat.le_refl _) b2
  clear hv2 hb hfb
  go_wp2_with fail
  all_goals
    by_cases hc : 65536 ≤ get a 3
    · refine (tick_clock _ a 3 _ er _ ha2 he2 (by omega) (by omega) hc).mono ?_
      rintro e w3 ⟨rfl, hb3⟩
      have b3 := bel_trans b2 hb3
      go_wp2_with fail
      go_ret
      exact ⟨rfl, b3⟩
    · refine (tick_ok _ a 3 _ ha2 (Nat.le_trans Hla.out (by omega)) (by omega) (by show get a 3 < 65536; omega)).mono ?_
      rintro e w3 ⟨⟨v3, rfl, hv3⟩, hb3⟩
      have b3 := bel_trans b2 hb3
      have ha3 := ha.below (Nat.le_refl _) b3
      clear hb3
      by_cases e3 : g = 3
      · have e3' : (g == 3) = true := by simp [e3]
        have hk : Hid (get (tick a 3) g = get a g + 1) := by show _ = _; rw [get_tick, if_pos (by omega)]
        have E3 : Hid (g = 3) := e3
        clear e3
        go_wp2_with fail
        refine (get_any _ _ _ _ hv3).mono ?_
        rintro e w' ⟨rfl, rfl⟩
        go_wp2_with fail
        refine (get_any _ a _ _ ha3).mono ?_
        rintro e w' ⟨rfl, rfl⟩
        rw [hk.out]
        have hlt : get a g < 65536 := by rw [E3.out]; omega
        have hge := get_nonneg a g
        clear hc
        generalize get a g = z at *
        go_wp2_with fail
        go_ret
        exact ⟨ret_bool (by simp), b3⟩
      · have e3' : (g == 3) = false := by simp [e3]
        have hk : Hid (get (tick a 3) g = get a g) := by show _ = _; rw [get_tick, if_neg (by omega)]; omega
        go_wp2_with fail
        refine (get_any _ _ _ _ hv3).mono ?_
        rintro e w' ⟨rfl, rfl⟩
        go_wp2_with fail
        refine (get_any _ a _ _ ha3).mono ?_
        rintro e w' ⟨rfl, rfl⟩
        rw [hk.out]
        go_wp2_with fail
        go_ret
        exact ⟨ret_bool (by simp), b3⟩

theorem len_of {W : World} {a : Option Addr} {len cap : Nat} {zs : List Int} (h : Sl W (.slice a len cap) zs) : len = zs.length := by
  obtain ⟨_, a', c', e, _⟩ := h
  cases e
  rfl

theorem clockGets_walk {W : World} {a0 a1 : Option Addr} {len0 cap0 len1 cap1 : Nat} {a b : List Int} {g : Int} (s0 : Sl W (.slice a0 len0 cap0) a) (s1 : Sl W (.slice a1 len1 cap1) b) (_wg : (Lit.int .i64 g).wf = true)
    (hL : laidMetH Tryd.prog laid2 W) : Calls Tryd.prog 7 #[.slice a0 len0 cap0, .slice a1 len1 cap1, .int .i64 g] W fun e w' => e = .returned (.bool true) ∧ Below W.heap.size W w' := by
  obtain ⟨er, x, he⟩ := errs_of_laid hL
  have e0 := len_of s0
  have e1 := len_of s1
  by_cases h0 : 500 < len0
  · clear s0 s1 he hL e0 e1
    go_enter Tryd.func7, Tryd.ntmps7
    go_wp2_with fail
    refine (alive_any _).mono ?_
    rintro e w1 ⟨rfl, b1⟩
    go_wp2_with fail
    go_ret
    exact ⟨rfl, b1⟩
  · by_cases h1 : 500 < len1
    · clear s0 s1 he hL e0 e1
      go_enter Tryd.func7, Tryd.ntmps7
      go_wp2_with fail
      refine (alive_any _).mono ?_
      rintro e w1 ⟨rfl, b1⟩
      go_wp2_with fail
      go_ret
      exact ⟨rfl, b1⟩
    · exact gets_main _ _ a b g W er _ x s0 s1 he (by omega) (by omega)

end Go.Proofs.YtogabncehoehjaaDoor.Ck
