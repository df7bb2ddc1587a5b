/- The walk of the statement ClockTells: it answers true. -/
import Derived.Test.YtogabncehoehjaaDoorRefTick
import Derived.Test.YtogabncehoehjaaDoorEp
import Derived.Test.YtogabncehoehjaaDoorAlive
import Derived.Test.YtogabncehoehjaaDoorOpen
import Derived.Test.YtogabncehoehjaaDoorLaid17
namespace Go.Proofs.YtogabncehoehjaaDoor.Ck
open Go.RowKit

def tickList (a : List Int) (g : Int) : List Int := if g < 0 ∨ 8 ≤ g then [] else if 65536 ≤ get a g then [] else tick a g.toNat
def tickNum (a : List Int) (g : Int) : Int := if g < 0 ∨ 8 ≤ g then 1 else if 65536 ≤ get a g then 15 else 0
def IsErr (p : List Addr) (n : Int) (ev : Value) : Prop := (n = 0 ∧ ev = .nilIface) ∨ (n = 1 ∧ ev = errV p 0) ∨ (n = 15 ∧ ev = errV p 14)

theorem tick_uni (va : Value) (a : List Int) (g : Int) (w : World) (p : List Addr) (ha : Sl w va a) (hla : a.length ≤ 900000) (hp : Errs17 w p) :
    Calls Tryd.prog 11 #[va, .int .i64 g] w fun e w' => ∃ v ev, e = .returned (.tuple #[v, ev]) ∧ Below w.heap.size w w' ∧ Sl w' v (tickList a g) ∧ IsErr p (tickNum a g) ev := by
  by_cases h0 : g < 0 ∨ 8 ≤ g
  · have e1 : tickList a g = [] := if_pos h0
    have e2 : tickNum a g = 1 := if_pos h0
    rw [e1, e2]
    exact (tick_range va g w _ _ hp.errs h0).mono fun e w' ⟨h1, h2⟩ => ⟨_, _, h1, h2, Sl.nilS _, .inr (.inl ⟨rfl, rfl⟩)⟩
  · by_cases hc : 65536 ≤ get a g
    · have e1 : tickList a g = [] := by unfold tickList; rw [if_neg h0, if_pos hc]
      have e2 : tickNum a g = 15 := by unfold tickNum; rw [if_neg h0, if_pos hc]
      rw [e1, e2]
      exact (tick_clock va a g w _ _ ha hp.errs (by omega) (by omega) hc).mono fun e w' ⟨h1, h2⟩ => ⟨_, _, h1, h2, Sl.nilS _, .inr (.inr ⟨rfl, rfl⟩)⟩
    · have e1 : tickList a g = tick a g.toNat := by unfold tickList; rw [if_neg h0, if_neg hc]
      have e2 : tickNum a g = 0 := by unfold tickNum; rw [if_neg h0, if_neg hc]
      rw [e1, e2]
      obtain ⟨k, rfl⟩ := Int.eq_ofNat_of_zero_le (show 0 ≤ g by omega)
      rw [Int.toNat_natCast]
      exact (tick_ok va a k w ha hla (by omega) (by omega)).mono fun e w' ⟨⟨v, h1, h2⟩, h3⟩ => ⟨_, _, h1, h3, h2, .inl ⟨rfl, rfl⟩⟩

theorem rTick_uni (va : Value) (a : List Int) (g : Int) (w : World) (ha : Sl w va a) (hla : a.length ≤ 900000) :
    Calls Tryd.prog 12 #[va, .int .i64 g] w fun e w' => ∃ v, e = .returned (.tuple #[v, .int .i64 (tickNum a g)]) ∧ Below w.heap.size w w' ∧ Sl w' v (tickList a g) := by
  by_cases h0 : g < 0 ∨ 8 ≤ g
  · have e1 : tickList a g = [] := if_pos h0
    have e2 : tickNum a g = 1 := if_pos h0
    rw [e1, e2]
    exact (rTick_range va g w h0).mono fun e w' ⟨h1, h2⟩ => ⟨_, h1, by rw [← h2]; exact Below.refl _ _, Sl.nilS _⟩
  · by_cases hc : 65536 ≤ get a g
    · have e1 : tickList a g = [] := by unfold tickList; rw [if_neg h0, if_pos hc]
      have e2 : tickNum a g = 15 := by unfold tickNum; rw [if_neg h0, if_pos hc]
      rw [e1, e2]
      exact (rTick_clock va a g w ha (by omega) (by omega) hc).mono fun e w' ⟨h1, h2⟩ => ⟨_, h1, by rw [← h2]; exact Below.refl _ _, Sl.nilS _⟩
    · have e1 : tickList a g = tick a g.toNat := by unfold tickList; rw [if_neg h0, if_neg hc]
      have e2 : tickNum a g = 0 := by unfold tickNum; rw [if_neg h0, if_neg hc]
      rw [e1, e2]
      obtain ⟨k, rfl⟩ := Int.eq_ofNat_of_zero_le (show 0 ≤ g by omega)
      rw [Int.toNat_natCast]
      exact (rTick_ok va a k w ha hla (by omega) (by omega)).mono fun e w' ⟨⟨v, h1, h2⟩, h3⟩ => ⟨_, h1, h3, h2⟩

theorem num_uni (p : List Addr) (n : Int) (ev : Value) (w : World) (hp : Errs17 w p) (he : IsErr p n ev) :
    Calls Tryd.prog 15 #[ev] w fun e w' => e = .returned (.int .i64 n) ∧ Below w.heap.size w w' := by
  rcases he with ⟨rfl, rfl⟩ | ⟨rfl, rfl⟩ | ⟨rfl, rfl⟩
  · exact (num_nil w).mono fun e w' ⟨h1, h2⟩ => ⟨h1, by rw [← h2]; exact Below.refl _ _⟩
  · exact num_err p 0 w hp (by omega)
  · exact num_err p 14 w hp (by omega)

theorem same_refl (a : List Int) : sameB a a = true := by simp [sameB]
theorem eq_both (a b : List Int) : eqB a b = (leB a b && leB b a) := by
  rw [Bool.eq_iff_iff, Bool.and_eq_true, leB_iff, leB_iff, eqB_iff]
  exact ⟨fun h => ⟨fun i => by rw [h i]; exact Int.le_refl _, fun i => by rw [h i]; exact Int.le_refl _⟩, fun h i => Int.le_antisymm (h.1 i) (h.2 i)⟩

theorem len_te {W : World} {a : Option Addr} {len cap : Nat} {zs : List Int} (h : Sl W (.slice a len cap) zs) : len = zs.length := by
  obtain ⟨_, a', c', e, _⟩ := h
  cases e
  rfl
theorem Own.front {w : World} {B g n : Nat} {a : List Int} (h : Own w B g (a.length + 4) (a ++ marks)) (hf : Fits a) (hn : n = a.length) (hl : n ≤ 900000) : Sl w (.slice (some ⟨g, 0, none⟩) n (n + 4)) a := by
  obtain ⟨cur, _, hg, _⟩ := h.parts
  refine ⟨hf, some ⟨g, 0, none⟩, n + 4, by rw [hn], by omega, by unfold maxLen; omega, fun i hi => ⟨g, 0, rfl, (Array.getElem?_eq_some_iff.1 hg).1, ?_⟩⟩
  rw [Nat.zero_add, h.cell i (by simp; omega)]
  simp only [List.getD, List.getElem?_append_left hi]

theorem kept_n (vw : Value) (a : List Int) (g B : Nat) (w : World) (n : Nat) (ha : Sl w vw a) (ho : Own w B g (a.length + 4) (a ++ marks)) (hla : a.length ≤ 900000) (hn : n = a.length) :
    Calls Tryd.prog 26 #[.slice (some ⟨g, 0, none⟩) n (n + 4), vw] w fun e w' => e = .returned (.bool true) ∧ Below w.heap.size w w' := by
  rw [hn]
  exact kept_any vw a g B w ha ho hla

set_option maxHeartbeats 4000000 in
theorem tells_main (va vb : Value) (a b : List Int) (g : Int) (w : World) (p : List Addr) (ha : Sl w va a) (hb : Sl w vb b) (hp : Errs17 w p) (hla : a.length ≤ 2000) (hlb : b.length ≤ 2000) :
    Calls Tryd.prog 3 #[va, vb, .int .i64 g] w fun e w' => e = .returned (.bool true) ∧ Below w.heap.size w w' := by
  obtain ⟨na, aa, ca, rfl, ena⟩ : ∃ n aa ca, va = .slice aa n ca ∧ n = a.length := by obtain ⟨_, aa, ca, rfl, _⟩ := ha; exact ⟨_, _, _, rfl, rfl⟩
  obtain ⟨nb, ab, cb, rfl, enb⟩ : ∃ n aa ca, vb = .slice aa n ca ∧ n = b.length := by obtain ⟨_, aa, ca, rfl, _⟩ := hb; exact ⟨_, _, _, rfl, rfl⟩
  have hna : na ≤ 2000 := by omega
  have hnb : nb ≤ 2000 := by omega
  have Ena : Hid (na = a.length) := ena
  have Enb : Hid (nb = b.length) := enb
  have la9 : Hid (a.length ≤ 900000) := Nat.le_trans hla (by omega)
  have lb9 : Hid (b.length ≤ 900000) := Nat.le_trans hlb (by omega)
  have la : Hid (a.length ≤ 1000000) := Nat.le_trans hla (by omega)
  have lb : Hid (b.length ≤ 1000000) := Nat.le_trans hlb (by omega)
  clear ena enb hla hlb
  go_enter Tryd.func3, Tryd.ntmps3
  go_wp2_with fail
  refine (alive_any _).mono ?_
  rintro e w1 ⟨rfl, b1⟩
  go_wp2_with fail
  refine (ints_any _ a _ (ha.below (Nat.le_refl _) b1) la9.out).mono ?_
  rintro e w2 ⟨⟨gx, rfl, ox⟩, hb2⟩
  have b2 := bel_trans b1 hb2
  clear b1 hb2
  go_wp2_with fail
  refine (ints_any _ b _ (hb.below (Nat.le_refl _) b2) lb9.out).mono ?_
  rintro e w3 ⟨⟨gy, rfl, oy⟩, hb3⟩
  have b3 := bel_trans b2 hb3
  have ox3 := ox.below hb3
  have sx := ox3.front ha.fits Ena.out (by omega)
  have sy := oy.front hb.fits Enb.out (by omega)
  have sa := ha.below (Nat.le_refl _) b3
  have sb := hb.below (Nat.le_refl _) b3
  have hp3 := hp.below (Nat.le_refl _) b3
  clear b2 hb3 ox hp ha hb
  rw [← Ena.out, ← Enb.out]
  go_wp2_with fail
  refine (tick_uni _ a g _ p sx la9.out hp3).mono ?_
  rintro e w4 ⟨t4, e4, rfl, c4, st4, he4⟩
  go_wp2_with fail
  refine (rTick_uni _ a g _ (sa.below (Nat.le_refl _) c4) la9.out).mono ?_
  rintro e w5 ⟨t5, rfl, hc5, st5⟩
  have c5 := bel_trans c4 hc5
  have st4' := st4.below (Nat.le_refl _) hc5
  clear c4 hc5 st4
  go_wp2_with fail
  refine (rAt_any _ a _ _ (sa.below (Nat.le_refl _) c5)).mono ?_
  rintro e w' ⟨rfl, rfl⟩
  go_wp2_with fail
  refine (sameInts_any _ _ _ _ _ st4' st5).mono ?_
  rintro e w6 ⟨rfl, hc6⟩
  have c6 := bel_trans c5 hc6
  clear c5 hc6 st4' st5
  rw [same_refl]
  go_wp2_with fail
  refine (num_uni p _ _ _ (hp3.below (Nat.le_refl _) c6) he4).mono ?_
  rintro e w7 ⟨rfl, hc7⟩
  have c7 := bel_trans c6 hc7
  clear c6 hc7 he4
  have e1 : (tickNum a g == tickNum a g) = true := by simp
  generalize tickNum a g = tn at *
  go_wp2_with fail
  refine (get_any _ a _ _ (sx.below (Nat.le_refl _) c7)).mono ?_
  rintro e w' ⟨rfl, rfl⟩
  have e2 : (get a g == get a g) = true := by simp
  go_wp2_with fail
  refine (of_any _ a _ _ (sx.below (Nat.le_refl _) c7)).mono ?_
  rintro e w8 ⟨rfl, hc8⟩
  have c8 := bel_trans c7 hc8
  clear c7 hc8
  generalize get a g = z at *
  go_wp2_with fail
  refine (join_any _ _ a b _ (sx.below (Nat.le_refl _) c8) (sy.below (Nat.le_refl _) c8) la.out lb.out).mono ?_
  rintro e w9 ⟨⟨v9, rfl, sv9⟩, hc9⟩
  have c9 := bel_trans c8 hc9
  clear c8 hc9
  go_wp2_with fail
  refine (rJoin_any _ _ a b _ (sa.below (Nat.le_refl _) c9) (sb.below (Nat.le_refl _) c9) la.out lb.out).mono ?_
  rintro e w10 ⟨⟨v10, rfl, sv10⟩, hc10⟩
  have c10 := bel_trans c9 hc10
  have sv9' := sv9.below (Nat.le_refl _) hc10
  clear c9 hc10 sv9
  go_wp2_with fail
  refine (sameInts_any _ _ _ _ _ sv9' sv10).mono ?_
  rintro e w11 ⟨rfl, hc11⟩
  have c11 := bel_trans c10 hc11
  clear c10 hc11 sv9' sv10
  rw [same_refl]
  go_wp2_with fail
  refine (short_any _ a _ (sx.below (Nat.le_refl _) c11) la.out).mono ?_
  rintro e w12 ⟨⟨v12, rfl, sv12⟩, hc12⟩
  have c12 := bel_trans c11 hc12
  clear c11 hc12
  go_wp2_with fail
  refine (rShort_any _ a _ (sa.below (Nat.le_refl _) c12) la.out).mono ?_
  rintro e w13 ⟨⟨v13, rfl, sv13⟩, hc13⟩
  have c13 := bel_trans c12 hc13
  have sv12' := sv12.below (Nat.le_refl _) hc13
  clear c12 hc13 sv12
  go_wp2_with fail
  refine (sameInts_any _ _ _ _ _ sv12' sv13).mono ?_
  rintro e w14 ⟨rfl, hc14⟩
  have c14 := bel_trans c13 hc14
  clear c13 hc14 sv12' sv13
  rw [same_refl]
  have sx4 := sx.below (Nat.le_refl _) c14
  have sy4 := sy.below (Nat.le_refl _) c14
  have sa4 := sa.below (Nat.le_refl _) c14
  have sb4 := sb.below (Nat.le_refl _) c14
  have q1 : Hid (eqB a b = (leB a b && leB b a)) := eq_both a b
  have q2 : Hid (apartB a b = (!leB a b && !leB b a)) := rfl
  go_wp2_with fail
  refine (any_AtMost _ _ a b _ sx4 sy4 la.out lb.out).mono ?_
  rintro e w' ⟨rfl, rfl⟩
  go_wp2_with fail
  refine (rLeq_any _ _ a b _ sa4 sb4 la.out lb.out).mono ?_
  rintro e w' ⟨rfl, rfl⟩
  have HAB : ∃ tab tba : Bool, Hid (leB a b = tab) ∧ Hid (leB b a = tba) ∧ Hid (eqB a b = (tab && tba)) ∧ Hid (apartB a b = (!tab && !tba)) := ⟨_, _, rfl, rfl, q1.out, q2.out⟩
  obtain ⟨tab, tba, H1, H2, H3, H4⟩ := HAB
  clear q1 q2
  rw [H1.out]
  have ox4 := ox3.below c14
  cases tab
  · cases tba
    all_goals
      go_wp2_with fail
      refine (any_Same _ _ a b _ sx4 sy4 la.out lb.out).mono ?_
      rintro e w' ⟨rfl, rfl⟩
      rw [H3.out]
      go_wp2_with fail
      refine (rLeq_any _ _ a b _ sa4 sb4 la.out lb.out).mono ?_
      rintro e w' ⟨rfl, rfl⟩
      rw [H1.out]
      go_wp2_with fail
      refine (apart_any _ _ a b _ sx4 sy4 la.out lb.out).mono ?_
      rintro e w' ⟨rfl, rfl⟩
      rw [H4.out]
      go_wp2_with fail
      refine (rLeq_any _ _ a b _ sa4 sb4 la.out lb.out).mono ?_
      rintro e w' ⟨rfl, rfl⟩
      rw [H1.out]
      go_wp2_with fail
      refine (rLeq_any _ _ b a _ sb4 sa4 lb.out la.out).mono ?_
      rintro e w' ⟨rfl, rfl⟩
      rw [H2.out]
      go_wp2_with fail
      refine (kept_n _ a gx _ _ na sa4 ox4 la9.out Ena.out).mono ?_
      rintro e w15 ⟨rfl, hc15⟩
      have c15 := bel_trans c14 hc15
      clear hc15
      go_wp2_with fail
      refine (kept_n _ b gy _ _ nb (sb.below (Nat.le_refl _) c15) (oy.below c15) lb9.out Enb.out).mono ?_
      rintro e w16 ⟨rfl, hc16⟩
      have c16 := bel_trans b3 (bel_trans c15 hc16)
      go_wp2_with fail
      go_ret
      exact ⟨rfl, c16⟩
  · cases tba
    all_goals
      go_wp2_with fail
      refine (any_Same _ _ a b _ sx4 sy4 la.out lb.out).mono ?_
      rintro e w' ⟨rfl, rfl⟩
      rw [H3.out]
      go_wp2_with fail
      refine (rLeq_any _ _ a b _ sa4 sb4 la.out lb.out).mono ?_
      rintro e w' ⟨rfl, rfl⟩
      rw [H1.out]
      go_wp2_with fail
      refine (rLeq_any _ _ b a _ sb4 sa4 lb.out la.out).mono ?_
      rintro e w' ⟨rfl, rfl⟩
      rw [H2.out]
      go_wp2_with fail
      refine (apart_any _ _ a b _ sx4 sy4 la.out lb.out).mono ?_
      rintro e w' ⟨rfl, rfl⟩
      rw [H4.out]
      go_wp2_with fail
      refine (rLeq_any _ _ a b _ sa4 sb4 la.out lb.out).mono ?_
      rintro e w' ⟨rfl, rfl⟩
      rw [H1.out]
      go_wp2_with fail
      refine (kept_n _ a gx _ _ na sa4 ox4 la9.out Ena.out).mono ?_
      rintro e w15 ⟨rfl, hc15⟩
      have c15 := bel_trans c14 hc15
      clear hc15
      go_wp2_with fail
      refine (kept_n _ b gy _ _ nb (sb.below (Nat.le_refl _) c15) (oy.below c15) lb9.out Enb.out).mono ?_
      rintro e w16 ⟨rfl, hc16⟩
      have c16 := bel_trans b3 (bel_trans c15 hc16)
      go_wp2_with fail
      go_ret
      exact ⟨rfl, c16⟩

end Go.Proofs.YtogabncehoehjaaDoor.Ck
