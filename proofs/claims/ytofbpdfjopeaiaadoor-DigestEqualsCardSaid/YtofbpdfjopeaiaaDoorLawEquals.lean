/- The walk of the statement DigestEquals. -/
import Derived.Test.YtofbpdfjopeaiaaDoorGrd
namespace Go.Proofs.YtofbpdfjopeaiaaDoor.Ck
open Go.RowKit

theorem eqB_comm (a b : List Int) : eqB b a = eqB a b := by unfold eqB; rw [decide_eq_decide]; exact ⟨Eq.symm, Eq.symm⟩
theorem eqB_self (a : List Int) : eqB a a = true := by simp [eqB]
theorem eqB_more (a : List Int) (x : Int) : eqB a (a ++ [x]) = false := decide_eq_false (fun h => by have := congrArg List.length h; simp at this)

set_option maxRecDepth 20000 in
set_option maxHeartbeats 1000000 in
theorem equals_main (va vb : Value) (a b : List Int) (x : Int) (w : World) (ha : SB w va a) (hb : SB w vb b) (hx : 0 ≤ x ∧ x < 256) (htab : Tab w) :
    Calls Tryd.prog 8 #[va, vb, .int .u8 x] w fun e w' => e = .returned (.bool true) ∧ Below w.heap.size w w' := by
  obtain ⟨aa, ca, rfl, hca, hcm⟩ := ha.form
  obtain ⟨ab, cb, rfl, hcb, hcm2⟩ := hb.form
  unfold maxLen at hcm hcm2
  obtain ⟨n, en⟩ : ∃ n, n = a.length := ⟨_, rfl⟩
  obtain ⟨m, em⟩ : ∃ m, m = b.length := ⟨_, rfl⟩
  have En := hide en
  have Em := hide em
  rw [← en] at ha hca ⊢
  rw [← em] at hb hcb ⊢
  clear en em
  go_enter Tryd.func8, Tryd.ntmps8
  go_wp2_with fail
  refine (alive_any w htab).mono ?_
  rintro e w1 ⟨rfl, hb1⟩
  by_cases h1 : n ≤ 5000
  · by_cases h2 : m ≤ 5000
    · have d1 : decide ((5000 : Int) < (n : Int)) = false := decide_eq_false (by omega)
      have d2 : decide ((5000 : Int) < (m : Int)) = false := decide_eq_false (by omega)
      have i1 : (n : Int) ≤ 5000 := by omega
      have i2 : (m : Int) ≤ 5000 := by omega
      go_wp2_with fail
      refine (equal_any _ _ a b w1 (ha.bel hb1) (hb.bel hb1)).mono ?_
      rintro e w2 ⟨rfl, hb2⟩
      go_wp2_with fail
      refine (equal_any _ _ b a w2 ((hb.bel hb1).bel hb2) ((ha.bel hb1).bel hb2)).mono ?_
      rintro e w3 ⟨rfl, hb3⟩
      rw [eqB_comm a b]
      generalize eqB a b = q
      have hq : (q == q) = true := by simp
      go_wp2_with fail
      refine (equal_any _ _ a a w3 (((ha.bel hb1).bel hb2).bel hb3) (((ha.bel hb1).bel hb2).bel hb3)).mono ?_
      rintro e w4 ⟨rfl, hb4⟩
      rw [eqB_self]
      have hb4w := bel_trans (bel_trans (bel_trans hb1 hb2) hb3) hb4
      have ha4 := ha.bel hb4w
      have hfx : Hid (Fit8 [x]) := fun z hz => by simp at hz; subst hz; exact hx
      have hz4 := hb4w.size
      have hn6 : Hid (n ≤ 1000000) := by show _ ≤ _; omega
      have hn7 : Hid (n + 1 ≤ 2000000) := by show _ ≤ _; omega
      go_wp2_with (first | (at_builtin; refine wpList_appG (.tmp 31) (.tmp 32) _ _ _ (fun ty => app_copyB ty En.out ha4 hn6.out) rfl rfl rfl rfl ?_; rintro v5 w5 ⟨⟨g5, c5, rfl, o5⟩, hb5⟩) | (at_builtin; refine wpList_appG (.tmp 33) (.tmp 35) _ _ _ (fun ty => pushB ty o5 En.out hfx.out hn7.out hb5.size) rfl rfl rfl rfl ?_; rintro v6 w6 ⟨⟨g6, c6, rfl, o6⟩, t6⟩))
      have hb6 : Below w4.heap.size w4 w6 := bel_tn hb5 t6 o5.ge
      have hs6 : SB w6 (.slice (some ⟨g6, 0, none⟩) (n + 1) c6) (a ++ [x]) := by
        have := o6.sl (fit8_app ha.fits hfx.out)
        rw [List.length_append, ← En.out] at this
        exact this
      refine (equal_any _ _ a (a ++ [x]) w6 (ha4.bel hb6) hs6).mono ?_
      rintro e w7 ⟨rfl, hb7⟩
      rw [eqB_more]
      go_wp2_with fail
      go_ret
      exact ⟨rfl, bel_trans (bel_trans hb4w hb6) hb7⟩
    · have d1 : decide ((5000 : Int) < (n : Int)) = false := decide_eq_false (by omega)
      have d2 : decide ((5000 : Int) < (m : Int)) = true := decide_eq_true (by omega)
      have i1 : (n : Int) ≤ 5000 := by omega
      have i2 : (5000 : Int) < (m : Int) := by omega
      go_wp2_with fail
      go_ret
      exact ⟨rfl, hb1⟩
  · have d1 : decide ((5000 : Int) < (n : Int)) = true := decide_eq_true (by omega)
    have i1 : (5000 : Int) < (n : Int) := by omega
    go_wp2_with fail
    go_ret
    exact ⟨rfl, hb1⟩

theorem digestEquals_walk {W : World} {a0 a1 : Option Addr} {len0 cap0 len1 cap1 : Nat} {z0 z1 : List Int} {x : Int} (s0 : SB W (.slice a0 len0 cap0) z0) (s1 : SB W (.slice a1 len1 cap1) z1) (wx : (Lit.int .u8 x).wf = true) (hL : laidMetH Tryd.prog laidT W) :
    Calls Tryd.prog 8 #[.slice a0 len0 cap0, .slice a1 len1 cap1, .int .u8 x] W fun e w' => e = .returned (.bool true) ∧ Below W.heap.size W w' :=
  equals_main _ _ z0 z1 x W s0 s1 (wf_u8 wx) (tab_of_laid hL)

end Go.Proofs.YtofbpdfjopeaiaaDoor.Ck
