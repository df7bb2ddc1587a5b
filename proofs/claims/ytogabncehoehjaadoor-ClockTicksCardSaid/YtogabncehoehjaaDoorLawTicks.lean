/- The walk of the statement ClockTicks: it answers true. -/
import Derived.Test.YtogabncehoehjaaDoorMath
import Derived.Test.YtogabncehoehjaaDoorAlive
import Derived.Test.YtogabncehoehjaaDoorOpen
import Derived.Test.YtogabncehoehjaaDoorLaid17
namespace Go.Proofs.YtogabncehoehjaaDoor.Ck
open Go.RowKit

/-- what Tick answers, of every goroutine -/
def TickRes (a : List Int) (g : Int) (er ec : Value) (w : World) (v ev : Value) : Prop :=
  ((g < 0 ∨ 8 ≤ g) ∧ v = .slice none 0 0 ∧ ev = er) ∨ (0 ≤ g ∧ g < 8 ∧ 65536 ≤ get a g ∧ v = .slice none 0 0 ∧ ev = ec) ∨
  ∃ k : Nat, g = k ∧ k < 8 ∧ get a g < 65536 ∧ ev = .nilIface ∧ Sl w v (tick a k)

theorem tick_any (va : Value) (a : List Int) (g : Int) (w : World) (er ec : Value) (ha : Sl w va a) (hla : a.length ≤ 900000) (he : Errs w er ec) :
    Calls Tryd.prog 11 #[va, .int .i64 g] w fun e w' => ∃ v ev, e = .returned (.tuple #[v, ev]) ∧ Below w.heap.size w w' ∧ TickRes a g er ec w' v ev := by
  by_cases h0 : g < 0 ∨ 8 ≤ g
  · exact (tick_range va g w er ec he h0).mono fun e w' ⟨h1, h2⟩ => ⟨_, _, h1, h2, .inl ⟨h0, rfl, rfl⟩⟩
  · by_cases hc : 65536 ≤ get a g
    · exact (tick_clock va a g w er ec ha he (by omega) (by omega) hc).mono fun e w' ⟨h1, h2⟩ => ⟨_, _, h1, h2, .inr (.inl ⟨by omega, by omega, hc, rfl, rfl⟩)⟩
    · obtain ⟨k, rfl⟩ := Int.eq_ofNat_of_zero_le (show 0 ≤ g by omega)
      exact (tick_ok va a k w ha hla (by omega) (by omega)).mono fun e w' ⟨⟨v, h1, h2⟩, h3⟩ => ⟨_, _, h1, h3, .inr (.inr ⟨k, rfl, by omega, by omega, rfl, h2⟩)⟩

theorem le_tick (a : List Int) (k : Nat) : leB a (tick a k) = true := (leB_iff _ _).2 (fun i => by rw [cnt_tick]; split <;> omega)
theorem tick_gt (a : List Int) (k : Nat) : leB (tick a k) a = false := leB_false _ _ k (by rw [cnt_tick, if_pos rfl]; omega)
theorem tick_apart (a : List Int) (k l : Nat) (h : k ≠ l) : apartB (tick a k) (tick a l) = true := by
  unfold apartB
  rw [leB_false (tick a k) (tick a l) k (by rw [cnt_tick, cnt_tick, if_pos rfl, if_neg h]; omega), leB_false (tick a l) (tick a k) l (by rw [cnt_tick, cnt_tick, if_pos rfl, if_neg (Ne.symm h)]; omega)]
  rfl

theorem len_ti {W : World} {a : Option Addr} {len cap : Nat} {zs : List Int} (h : Sl W (.slice a len cap) zs) : len = zs.length := by
  obtain ⟨_, a', c', e, _⟩ := h
  cases e
  rfl

set_option maxHeartbeats 1000000 in
theorem ticks_main (va : Value) (a : List Int) (g h : Int) (w : World) (p : List Addr) (ha : Sl w va a) (hp : Errs17 w p) (hla : a.length ≤ 500) :
    Calls Tryd.prog 6 #[va, .int .i64 g, .int .i64 h] w fun e w' => e = .returned (.bool true) ∧ Below w.heap.size w w' := by
  obtain ⟨na, aa, ca, rfl, ena⟩ : ∃ n aa ca, va = .slice aa n ca ∧ n = a.length := by obtain ⟨_, aa, ca, rfl, _⟩ := ha; exact ⟨_, _, _, rfl, rfl⟩
  have hna : na ≤ 500 := by omega
  have la : Hid (a.length ≤ 500) := hla
  clear ena hla
  go_enter Tryd.func6, Tryd.ntmps6
  go_wp2_with fail
  refine (alive_any _).mono ?_
  rintro e w1 ⟨rfl, b1⟩
  go_wp2_with fail
  refine (tick_any _ a g _ _ _ (ha.below (Nat.le_refl _) b1) (Nat.le_trans la.out (by omega)) (hp.below (Nat.le_refl _) b1).errs).mono ?_
  rintro e w2 ⟨v2, e2, rfl, hb2, R2⟩
  have b2 := bel_trans b1 hb2
  clear hb2 b1
  go_wp2_with fail
  refine (tick_any _ a h _ _ _ (ha.below (Nat.le_refl _) b2) (Nat.le_trans la.out (by omega)) (hp.below (Nat.le_refl _) b2).errs).mono ?_
  rintro e w3 ⟨v3, e3, rfl, hb3, R3⟩
  have b3 := bel_trans b2 hb3
  have sa := ha.below (Nat.le_refl _) b3
  have hp3 := hp.below (Nat.le_refl _) b3
  rcases R2 with ⟨hg, hv, he⟩ | ⟨hg0, hg8, hc, hv, he⟩ | ⟨k, hgk, hk, hc, he, hs⟩
  · subst hv he
    clear b2 hb3 R3 sa
    go_wp2_with fail
    refine (num_err p 0 _ hp3 (by omega)).mono ?_
    rintro e w4 ⟨rfl, hb4⟩
    have b4 := bel_trans b3 hb4
    go_wp2_with fail
    go_ret
    exact ⟨rfl, b4⟩
  · subst hv he
    clear b2 hb3 R3 sa
    have Hc : Hid (65536 ≤ get a g) := hc
    clear hc
    go_wp2_with fail
    refine (num_err p 14 _ hp3 (by omega)).mono ?_
    rintro e w4 ⟨rfl, hb4⟩
    have b4 := bel_trans b3 hb4
    have hp4 := hp3.below (Nat.le_refl _) hb4
    clear hb4 b3 hp3
    go_wp2_with fail
    refine (num_err p 14 _ hp4 (by omega)).mono ?_
    rintro e w5 ⟨rfl, hb5⟩
    have b5 := bel_trans b4 hb5
    clear hb5 b4 hp4
    go_wp2_with fail
    refine (get_any _ a _ _ (ha.below (Nat.le_refl _) b5)).mono ?_
    rintro e w' ⟨rfl, rfl⟩
    have hc := Hc.out
    generalize get a g = z at *
    go_wp2_with fail
    go_ret
    exact ⟨rfl, b5⟩
  · subst he
    have s2 := hs.below (Nat.le_refl _) hb3
    have lx : Hid ((tick a k).length ≤ 1000000) := Nat.le_trans (tick_le a k) (by have := la.out; omega)
    have la' : Hid (a.length ≤ 1000000) := Nat.le_trans la.out (by omega)
    have hx : Hid (get (tick a k) g = get a g + 1) := by show _ = _; rw [get_tick, if_pos hgk]
    have f1 : Hid (leB a (tick a k) = true) := le_tick a k
    have f2 : Hid (leB (tick a k) a = false) := tick_gt a k
    have Hg : Hid (g = k) := hgk
    have Hc : Hid (get a g < 65536) := hc
    clear hs hb3 b2 hgk hc hp3
    go_wp2_with fail
    refine (any_AtMost _ _ a _ _ sa s2 la'.out lx.out).mono ?_
    rintro e w' ⟨rfl, rfl⟩
    rw [f1.out]
    go_wp2_with fail
    refine (any_AtMost _ _ _ a _ s2 sa lx.out la'.out).mono ?_
    rintro e w' ⟨rfl, rfl⟩
    rw [f2.out]
    clear f1 f2
    go_wp2_with fail
    refine (get_any _ _ _ _ s2).mono ?_
    rintro e w' ⟨rfl, rfl⟩
    go_wp2_with fail
    refine (get_any _ a _ _ sa).mono ?_
    rintro e w' ⟨rfl, rfl⟩
    rw [hx.out]
    have hz := get_nonneg a g
    have hz2 := Hc.out
    go_wp2_with fail
    refine (get_any _ _ _ _ s2).mono ?_
    rintro e w' ⟨rfl, rfl⟩
    rw [hx.out]
    clear hx
    rcases R3 with ⟨hg, hv, he⟩ | ⟨hg0, hg8, hc, hv, he⟩ | ⟨l, hgl, hl, hc, he, hs⟩
    · subst hv he
      clear s2 sa hg Hc Hg
      generalize get a g = z at *
      go_wp2_with fail
      go_ret
      exact ⟨rfl, b3⟩
    · subst hv he
      clear s2 sa hg0 hg8 hc Hc Hg
      generalize get a g = z at *
      go_wp2_with fail
      go_ret
      exact ⟨rfl, b3⟩
    · subst he
      by_cases e : g = h
      · have e' : (g == h) = true := by simp [e]
        clear s2 sa Hc Hg hgl hc e hs
        generalize get a g = z at *
        go_wp2_with fail
        go_ret
        exact ⟨rfl, b3⟩
      · have e' : (g == h) = false := by simp [e]
        have ly : Hid ((tick a l).length ≤ 1000000) := Nat.le_trans (tick_le a l) (by have := la.out; omega)
        have f3 : Hid (apartB (tick a k) (tick a l) = true) := tick_apart a k l (by have := Hg.out; omega)
        clear sa Hc Hg hgl hc e
        generalize get a g = z at *
        go_wp2_with fail
        refine (apart_any _ _ _ _ _ s2 hs lx.out ly.out).mono ?_
        rintro e w' ⟨rfl, rfl⟩
        rw [f3.out]
        go_wp2_with fail
        go_ret
        exact ⟨rfl, b3⟩

theorem clockTicks_walk {W : World} {a0 : Option Addr} {len0 cap0 : Nat} {a : List Int} {g h : Int} (s0 : Sl W (.slice a0 len0 cap0) a) (_wg : (Lit.int .i64 g).wf = true) (_wh : (Lit.int .i64 h).wf = true)
    (hL : laidMetH Tryd.prog laid17 W) : Calls Tryd.prog 6 #[.slice a0 len0 cap0, .int .i64 g, .int .i64 h] W fun e w' => e = .returned (.bool true) ∧ Below W.heap.size W w' := by
  obtain ⟨p, hp⟩ := errs17_of_laid hL
  have e0 := len_ti s0
  by_cases h0 : 500 < len0
  · clear s0 hp hL e0
    go_enter Tryd.func6, Tryd.ntmps6
    go_wp2_with fail
    refine (alive_any _).mono ?_
    rintro e w1 ⟨rfl, b1⟩
    go_wp2_with fail
    go_ret
    exact ⟨rfl, b1⟩
  · exact ticks_main _ a g h W p s0 hp (by omega)

end Go.Proofs.YtogabncehoehjaaDoor.Ck
