/- The contract of the statements' own alive. -/
import Derived.Test.YtflokfbdogofmaaDoorWs
namespace Go.Proofs.YtflokfbdogofmaaDoor.Ck
open Go.RowKit

theorem word_none : wordN (sha []) 0 = 6655549341071012288 := by decide +kernel

set_option maxRecDepth 20000 in
set_option maxHeartbeats 1000000 in
theorem dalive_any (w : World) (htab : Tab w) :
    Calls Tryd.prog 9 #[] w fun e w' => e = .returned (.bool true) ∧ Below w.heap.size w w' := by
  have h0 := htab.1
  have HW := hide word_none
  go_enter Tryd.func9, Tryd.ntmps9
  go_wp2_with fail
  refine (dnew_any [] _ w (SB.nilS w) (by decide) htab).mono ?_
  rintro e w1 ⟨g, rfl, d1, hg, hb1⟩
  have hgT : g ≠ 17 := by omega
  have Hg := hide hg
  have ht1 := htab.bel hb1
  generalize eS : sha [] = S at *
  have ES := hide eS
  clear eS hg
  go_wp2_with fail
  refine (dpick_ok g S 0 0 1 w1 d1 (by decide) (by decide) (by decide) ht1 hgT).mono ?_
  rintro e w2 ⟨rfl, d2, t2⟩
  have ht2 := ht1.tn t2 hgT
  have hb2 := bel_tn hb1 t2 Hg.out
  have d2 : Dw w2 g S 0 0 := d2
  have e0 : pickV S 0 ((1 : Nat) : Int) = 0 := rfl
  rw [e0]
  go_wp2_with fail
  refine (dword_any g S 0 0 w2 d2 (by decide) ht2).mono ?_
  rintro e w3 ⟨rfl, d3, t3⟩
  have ht3 := ht2.tn t3 hgT
  have hb3 := bel_tn hb2 t3 Hg.out
  rw [HW.out]
  go_wp2_with fail
  refine (words_ok [] _ 0 1 w3 (SB.nilS w3) (by decide) (by decide) (by decide) ht3).mono ?_
  rintro e w4 ⟨g4, rfl, o4, hb4⟩
  have q4 := o4.cell 0 (by rw [wordsL_len]; decide)
  rw [wordsL_at _ _ _ _ (by decide), ES.out, HW.out] at q4
  have d4 := d3.bel hb4
  go_wp2_with fail
  refine (dtaken_any g S 1 0 w4 d4).mono ?_
  rintro e w5 ⟨rfl, rfl⟩
  go_wp2_with fail
  go_ret
  exact ⟨rfl, bel_trans hb3 hb4⟩

end Go.Proofs.YtflokfbdogofmaaDoor.Ck
