/- The walk of the statement DigestPieces. -/
import Derived.Test.YtofbpdfjopeaiaaDoorRowEq
namespace Go.Proofs.YtofbpdfjopeaiaaDoor.Ck
open Go.RowKit

set_option maxRecDepth 20000 in
set_option maxHeartbeats 1000000 in
theorem pieces_main (va vb : Value) (a b : List Int) (w : World) (ha : SB w va a) (hb : SB w vb b) (htab : Tab w) :
    Calls Tryd.prog 6 #[va, vb] w fun e w' => e = .returned (.bool true) ∧ Below w.heap.size w w' := by
  obtain ⟨aa, ca, rfl, hca, hcm⟩ := ha.form
  obtain ⟨ab, cb, rfl, hcb, hcm2⟩ := hb.form
  unfold maxLen at hcm hcm2
  obtain ⟨n, en⟩ : ∃ n, n = a.length := ⟨_, rfl⟩
  obtain ⟨m, em⟩ : ∃ m, m = b.length := ⟨_, rfl⟩
  have En := hide en
  have Em := hide em
  have h0 := htab.1
  rw [← en] at ha hca ⊢
  rw [← em] at hb hcb ⊢
  clear en em
  go_enter Tryd.func6, Tryd.ntmps6
  go_wp2_with fail
  refine (alive_any w htab).mono ?_
  rintro e w1 ⟨rfl, hb1⟩
  by_cases h1 : n ≤ 5000
  · by_cases h2 : m ≤ 5000
    · have d1 : decide ((5000 : Int) < (n : Int)) = false := decide_eq_false (by omega)
      have d2 : decide ((5000 : Int) < (m : Int)) = false := decide_eq_false (by omega)
      have i1 : (n : Int) ≤ 5000 := by omega
      have i2 : (m : Int) ≤ 5000 := by omega
      have hz1 := hb1.size
      go_wp2_with fail
      refine (new_any w1).mono ?_
      rintro e w2 ⟨rfl, hs2, hb2⟩
      obtain ⟨g, eg⟩ : ∃ g, g = w1.heap.size := ⟨_, rfl⟩
      rw [← eg] at hs2 ⊢
      have hg0 : g ≠ 0 := by omega
      have Hg : Hid (w.heap.size ≤ g) := by show _ ≤ _; omega
      have oa := hide (ha.off Hg.out)
      have ob := hide (hb.off Hg.out)
      have hb12 := bel_trans hb1 hb2
      clear eg
      go_wp2_with fail
      refine (take_any g [] a _ w2 hs2 (ha.bel hb12) oa.out (htab.bel hb12) hg0 (by simp; have := En.out; omega)).mono ?_
      rintro e w3 ⟨rfl, hs3, t3⟩
      rw [List.nil_append] at hs3
      have hb3 : Below w.heap.size w w3 := bel_tn hb12 t3 Hg.out
      go_wp2_with fail
      refine (take_any g a b _ w3 hs3 (hb.bel hb3) ob.out (htab.bel hb3) hg0 (by have := En.out; have := Em.out; omega)).mono ?_
      rintro e w4 ⟨rfl, hs4, t4⟩
      have hb4 : Below w.heap.size w w4 := bel_tn hb3 t4 Hg.out
      have hlab : Hid ((a ++ b).length ≤ 10000) := by show _ ≤ _; rw [List.length_append, ← En.out, ← Em.out]; omega
      have hls : Hid ((sha (a ++ b)).length = 32) := sha_len _
      go_wp2_with fail
      refine (sum_any g (a ++ b) w4 hs4 (by have := hlab.out; omega) (htab.bel hb4)).mono ?_
      rintro e w5 ⟨rfl, hb5⟩
      have hb5w := bel_trans hb4 hb5
      have ha5 := ha.bel hb5w
      have hb5b := hb.bel hb5w
      have hn6 : Hid (n ≤ 1000000) := by show _ ≤ _; omega
      have hn7 : Hid (a.length + b.length ≤ 2000000) := by show _ ≤ _; rw [← En.out, ← Em.out]; omega
      have hrun : Hid (∀ (w6 : World) (g6 c6 : Nat), OwnB w6 w5.heap.size g6 c6 a → Below w5.heap.size w5 w6 → ∀ ty, ∃ v' w', (Builtin.append_ #[29, 29] ty #[.slice (some ⟨g6, 0, none⟩) n c6, .slice ab m cb]).run Tryd.prog w6 = .ok v' w' ∧ ((∃ g' cap', v' = .slice (some ⟨g', 0, none⟩) (n + m) cap' ∧ OwnB w' w5.heap.size g' cap' (a ++ b)) ∧ Tn g6 w6 w')) := fun w6 g6 c6 o6 hb6 ty => by
        have := app_tnB ty o6 (hb5b.bel hb6) hn7.out hb6.size
        rw [← En.out, ← Em.out] at this
        exact this
      go_wp2_with (first | (at_builtin; refine wpList_appG (.tmp 25) (.tmp 26) _ _ _ (fun ty => app_copyB ty En.out ha5 hn6.out) rfl rfl rfl rfl ?_; rintro v6 w6 ⟨⟨g6, c6, rfl, o6⟩, hb6⟩) | (at_builtin; refine wpList_appG (.tmp 27) (.tmp 28) _ _ _ (hrun.out w6 g6 c6 o6 hb6) rfl rfl rfl rfl ?_; rintro v7 w7 ⟨⟨g7, c7, rfl, o7⟩, t7⟩))
      have hb7 : Below w5.heap.size w5 w7 := bel_tn hb6 t7 o6.ge
      have hb7w := bel_trans hb5w hb7
      have hs7 : SB w7 (.slice (some ⟨g7, 0, none⟩) (n + m) c7) (a ++ b) := by
        have := o7.sl (fit8_app ha.fits hb.fits)
        rw [List.length_append, ← En.out, ← Em.out] at this
        exact this
      refine (of_any (a ++ b) _ w7 hs7 (by have := hlab.out; omega) (htab.bel hb7w)).mono ?_
      rintro e w8 ⟨rfl, hb8⟩
      have hb8w := bel_trans hb7w hb8
      have hs8 := (hs4.bel hb5).bel (bel_trans hb7 hb8)
      go_wp2_with (first | (refine wpList_rowEq (.tmp 24) (.tmp 30) (sha (a ++ b)) hls.out rfl rfl rfl rfl ?_))
      refine (len_any g (a ++ b) w8 hs8 (by have := hlab.out; omega)).mono ?_
      rintro e w9 ⟨rfl, rfl⟩
      have el : ((a ++ b).length : Int) = (n : Int) + (m : Int) := by rw [List.length_append, ← En.out, ← Em.out]; omega
      rw [el]
      have hq : ((n : Int) + (m : Int) == (n : Int) + (m : Int)) = true := by simp
      clear el
      go_wp2_with fail
      refine (sum_any g (a ++ b) w8 hs8 (by have := hlab.out; omega) (htab.bel hb8w)).mono ?_
      rintro e w10 ⟨rfl, hb10⟩
      go_wp2_with fail
      refine (sum_any g (a ++ b) w10 (hs8.bel hb10) (by have := hlab.out; omega) (htab.bel (bel_trans hb8w hb10))).mono ?_
      rintro e w11 ⟨rfl, hb11⟩
      go_wp2_with (first | (refine wpList_rowEq (.tmp 44) (.tmp 46) (sha (a ++ b)) hls.out rfl rfl rfl rfl ?_))
      go_ret
      exact ⟨rfl, bel_trans (bel_trans hb8w hb10) hb11⟩
    · have d1 : decide ((5000 : Int) < (n : Int)) = false := decide_eq_false (by omega)
      have d2 : decide ((5000 : Int) < (m : Int)) = true := decide_eq_true (by omega)
      have i1 : (n : Int) ≤ 5000 := by omega
      have i2 : (5000 : Int) < (m : Int) := by omega
      go_wp2_with fail
      go_ret
      exact ⟨rfl, hb1⟩
  · have d1 : decide ((5000 : Int) < (n : Int)) = true := decide_eq_true (by omega)
    have i1 : (5000 : Int) < (n : Int) := by omega
    go_wp2_with fail
    go_ret
    exact ⟨rfl, hb1⟩

theorem digestPieces_walk {W : World} {a0 a1 : Option Addr} {len0 cap0 len1 cap1 : Nat} {z0 z1 : List Int} (s0 : SB W (.slice a0 len0 cap0) z0) (s1 : SB W (.slice a1 len1 cap1) z1) (hL : laidMetH Tryd.prog laidT W) :
    Calls Tryd.prog 6 #[.slice a0 len0 cap0, .slice a1 len1 cap1] W fun e w' => e = .returned (.bool true) ∧ Below W.heap.size W w' :=
  pieces_main _ _ z0 z1 W s0 s1 (tab_of_laid hL)

end Go.Proofs.YtofbpdfjopeaiaaDoor.Ck
