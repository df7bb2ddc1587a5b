/- The walk of the statement ClockEpochs: it answers true. -/
import Derived.Test.YtogabncehoehjaaDoorMath
import Derived.Test.YtogabncehoehjaaDoorAlive
import Derived.Test.YtogabncehoehjaaDoorOpen
import Derived.Test.YtogabncehoehjaaDoorEp
import Derived.Test.YtogabncehoehjaaDoorRefAt
import Derived.Deep.RegionWith
import Derived.Deep.CutRange
namespace Go.Proofs.YtogabncehoehjaaDoor.Ck
open Go.RowKit

theorem get_le (a b : List Int) (h : leB a b = true) (g : Int) : get a g ≤ get b g := by
  by_cases h0 : 0 ≤ g
  · obtain ⟨i, rfl⟩ := Int.eq_ofNat_of_zero_le h0
    rw [get_nat, get_nat]
    exact (leB_iff a b).1 h i
  · rw [get_neg _ _ (by omega), get_neg _ _ (by omega)]; omega

set_option maxHeartbeats 1000000 in
theorem epochs_main (va vb : Value) (a b : List Int) (g n : Int) (w : World) (ha : Sl w va a) (hb : Sl w vb b) (hla : a.length ≤ 2000) (hlb : b.length ≤ 2000) :
    Calls Tryd.prog 4 #[.agg #[.int .i64 g, .int .i64 n], va, vb] w fun e w' => e = .returned (.bool true) ∧ Below w.heap.size w w' := by
  obtain ⟨na, aa, ca, rfl, ena⟩ : ∃ n aa ca, va = .slice aa n ca ∧ n = a.length := by obtain ⟨_, aa, ca, rfl, _⟩ := ha; exact ⟨_, _, _, rfl, rfl⟩
  obtain ⟨nb, ab, cb, rfl, enb⟩ : ∃ n aa ca, vb = .slice aa n ca ∧ n = b.length := by obtain ⟨_, aa, ca, rfl, _⟩ := hb; exact ⟨_, _, _, rfl, rfl⟩
  have hna : na ≤ 2000 := by omega
  have hnb : nb ≤ 2000 := by omega
  have la : Hid (a.length ≤ 1000000) := Nat.le_trans hla (by omega)
  have lb : Hid (b.length ≤ 1000000) := Nat.le_trans hlb (by omega)
  clear ena enb hla hlb
  go_enter Tryd.func4, Tryd.ntmps4
  go_wp2_with fail
  refine (alive_any _).mono ?_
  rintro e w1 ⟨rfl, hb1⟩
  have b1 := bel_trans (bel_new w _) hb1
  have c0 : w1.cell? ⟨w.heap.size, 0, none⟩ = some (.int .i64 g) := by rw [hb1.cell (p := ⟨w.heap.size, 0, none⟩) (by simp)]; simp
  have c1 : w1.cell? ⟨w.heap.size, 1, none⟩ = some (.int .i64 n) := by rw [hb1.cell (p := ⟨w.heap.size, 1, none⟩) (by simp)]; simp
  have hlt : w.heap.size < w1.heap.size := by have := hb1.size; simp at this; omega
  have sa : Hid (∀ k, Sl (w1.drewN k) (.slice aa na ca) a) := fun k => ha.below (Nat.le_refl _) (below_drewN b1 k)
  clear hb1
  go_wp2_with fail
  go_cut [27] from 17 to 27 (fun s wc => s = .bool false ∧ Below w.heap.size w wc ∧ wc.cell? ⟨w.heap.size, 0, none⟩ = some (.int .i64 g) ∧ wc.cell? ⟨w.heap.size, 1, none⟩ = some (.int .i64 n) ∧ w.heap.size < wc.heap.size)
  case first =>
    go_region_with (first | (go_at_call 27; refine (epAtMost_bel _ a _ _ _ (by exact ha.below (Nat.le_refl _) (below_drewN b1 1))).mono ?_; rintro e w2 ⟨rfl, hb2⟩; have c02 : w2.cell? ⟨w.heap.size, 0, none⟩ = some (.int .i64 g) := (hb2.cell (p := ⟨w.heap.size, 0, none⟩) hlt).trans c0; have c12 : w2.cell? ⟨w.heap.size, 1, none⟩ = some (.int .i64 n) := (hb2.cell (p := ⟨w.heap.size, 1, none⟩) hlt).trans c1) | (go_at_call 13; refine (rAt_any _ a _ _ (by first | exact ha.below (Nat.le_refl _) (below_drewN b1 1) | exact ha.below (Nat.le_refl _) (bel_trans (below_drewN b1 1) hb2))).mono ?_; rintro e w' ⟨rfl, rfl⟩))
    all_goals (go_wp2_with fail; go_meet; case rel => exact ⟨by simp, bel_trans (below_drewN b1 1) hb2, c02, c12, Nat.lt_of_lt_of_le hlt hb2.size⟩)
  case rest =>
    obtain ⟨rfl, bc, c02, c12, hltc⟩ := hcut
    clear c0 c1 hlt sa b1
    have sa := ha.below (Nat.le_refl _) bc
    have sb := hb.below (Nat.le_refl _) bc
    cases hab : leB a b
    · go_wp2_with fail
      refine (any_AtMost _ _ a b _ sa sb la.out lb.out).mono ?_
      rintro e w' ⟨rfl, rfl⟩
      rw [hab]
      go_wp2_with fail
      go_ret
      exact ⟨rfl, bc⟩
    · have hg : Hid (get a g ≤ get b g) := get_le a b hab g
      go_wp2_with fail
      refine (any_AtMost _ _ a b _ sa sb la.out lb.out).mono ?_
      rintro e w' ⟨rfl, rfl⟩
      rw [hab]
      go_wp2_with fail
      refine (of_any _ a _ _ sa).mono ?_
      rintro e w3 ⟨rfl, hb3⟩
      have c03 : w3.cell? ⟨w.heap.size, 0, none⟩ = some (.int .i64 g) := (hb3.cell (p := ⟨w.heap.size, 0, none⟩) hltc).trans c02
      have c13 : w3.cell? ⟨w.heap.size, 1, none⟩ = some (.int .i64 n) := (hb3.cell (p := ⟨w.heap.size, 1, none⟩) hltc).trans c12
      have hlt3 : w.heap.size < w3.heap.size := Nat.lt_of_lt_of_le hltc hb3.size
      have b3 := bel_trans bc hb3
      clear hb3 c02 c12 hltc bc sa sb
      go_wp2_with fail
      refine (epAtMost_bel _ b _ _ _ (hb.below (Nat.le_refl _) b3)).mono ?_
      rintro e w4 ⟨rfl, hb4⟩
      rw [decide_eq_true hg.out]
      have c04 : w4.cell? ⟨w.heap.size, 0, none⟩ = some (.int .i64 g) := (hb4.cell (p := ⟨w.heap.size, 0, none⟩) hlt3).trans c03
      have c14 : w4.cell? ⟨w.heap.size, 1, none⟩ = some (.int .i64 n) := (hb4.cell (p := ⟨w.heap.size, 1, none⟩) hlt3).trans c13
      have hlt4 : w.heap.size < w4.heap.size := Nat.lt_of_lt_of_le hlt3 hb4.size
      have b4 := bel_trans b3 hb4
      clear hb4 c03 c13 hlt3 b3
      go_wp2_with fail
      refine (epAtMost_bel _ a _ _ _ (ha.below (Nat.le_refl _) b4)).mono ?_
      rintro e w5 ⟨rfl, hb5⟩
      have c05 : w5.cell? ⟨w.heap.size, 0, none⟩ = some (.int .i64 g) := (hb5.cell (p := ⟨w.heap.size, 0, none⟩) hlt4).trans c04
      have c15 : w5.cell? ⟨w.heap.size, 1, none⟩ = some (.int .i64 n) := (hb5.cell (p := ⟨w.heap.size, 1, none⟩) hlt4).trans c14
      have b5 := bel_trans b4 hb5
      clear hb5 c04 c14 hlt4 b4
      by_cases hn : n ≤ get a g
      · have hn2 : Hid (n ≤ get b g) := Int.le_trans hn hg.out
        rw [decide_eq_true hn]
        clear hn
        go_wp2_with fail
        refine (epAtMost_bel _ b _ _ _ (hb.below (Nat.le_refl _) b5)).mono ?_
        rintro e w6 ⟨rfl, hb6⟩
        rw [decide_eq_true hn2.out]
        have b6 := bel_trans b5 hb6
        go_wp2_with fail
        go_ret
        exact ⟨rfl, b6⟩
      · rw [decide_eq_false hn]
        clear hn
        go_wp2_with fail
        go_ret
        exact ⟨rfl, b5⟩

theorem len_ep {W : World} {a : Option Addr} {len cap : Nat} {zs : List Int} (h : Sl W (.slice a len cap) zs) : len = zs.length := by
  obtain ⟨_, a', c', e, _⟩ := h
  cases e
  rfl
theorem cellsEp : Tryd.prog.cellsOf 35 = 2 := by kernel_rfl

theorem clockEpochs_walk {W : World} {g n : Int} (_wg : (Lit.int .i64 g).wf = true) (_wn : (Lit.int .i64 n).wf = true) {a1 a2 : Option Addr} {len1 cap1 len2 cap2 : Nat} {a b : List Int} (s1 : Sl W (.slice a1 len1 cap1) a) (s2 : Sl W (.slice a2 len2 cap2) b)
    (_hL : laidMetH Tryd.prog laid2 W) : Calls Tryd.prog 4 #[.agg #[.int .i64 g, .int .i64 n], .slice a1 len1 cap1, .slice a2 len2 cap2] W fun e w' => e = .returned (.bool true) ∧ Below W.heap.size W w' := by
  have e1 := len_ep s1
  have e2 := len_ep s2
  by_cases h0 : 2000 < len1
  · clear s1 s2 e1 e2
    go_enter Tryd.func4, Tryd.ntmps4
    go_wp2_with fail
    refine (alive_any _).mono ?_
    rintro e w1 ⟨rfl, b1⟩
    go_wp2_with fail
    go_ret
    exact ⟨rfl, bel_trans (bel_new _ _) b1⟩
  · by_cases h1 : 2000 < len2
    · clear s1 s2 e1 e2
      go_enter Tryd.func4, Tryd.ntmps4
      go_wp2_with fail
      refine (alive_any _).mono ?_
      rintro e w1 ⟨rfl, b1⟩
      go_wp2_with fail
      go_ret
      exact ⟨rfl, bel_trans (bel_new _ _) b1⟩
    · exact epochs_main _ _ a b g n W s1 s2 (by omega) (by omega)

end Go.Proofs.YtogabncehoehjaaDoor.Ck
