/- The chapter's examples. -/
import Derived.Test.YtmdfciiejenpnaaV8
namespace Go.Proofs.Ytmdfciiejenpnaa.Ck
open Go.RowKit

theorem ex1 : binF (⟨#[47]⟩ : ByteArray).toList 1 (-7) 0 1 2 0 = (1, -3, 0, 0) := by decide +kernel
theorem ex2 : unF (⟨#[45]⟩ : ByteArray).toList (zeroT 2) 0 0 = (2, 0, 9223372036854775808, 0) := by decide +kernel
theorem ex3 : unF (⟨#[105, 110, 116]⟩ : ByteArray).toList 2 0 (4890909195324358656 : Nat) = (0, 0, 0, 3) := by decide +kernel

set_option maxRecDepth 20000 in
set_option maxHeartbeats 1000000 in
theorem alive_any (w : World) : Calls Try.prog 9 #[] w (Vb w (.bool true)) := by
  have H1 := fun w => binary_any ⟨#[47]⟩ 1 (-7) 0 1 2 0 w
  have H2 := fun w => unary_any ⟨#[45]⟩ (zeroT 2) 0 0 (by decide) w
  have H3 := fun w => unary_any ⟨#[105, 110, 116]⟩ 2 0 (4890909195324358656 : Nat) (by decide) w
  rw [ex1] at H1
  rw [ex2] at H2
  rw [ex3] at H3
  have EV := eq_vv
  have hz : zeroT 2 = 2 := rfl
  rw [hz] at H2
  have HZ := fun w => zero_any 2 w
  rw [hz] at HZ
  clear hz
  go_enter Try.func9, Try.ntmps9
  go_wp2_with fail
  refine (int_any _ _).mono ?_
  rintro e w1 ⟨rfl, hb1⟩
  go_wp2_with fail
  refine (int_any _ _).mono ?_
  rintro e w2 ⟨rfl, hb2⟩
  have B2 := hide (bel_trans hb1 hb2)
  clear hb1 hb2
  go_wp2_with fail
  refine (H1 _).mono ?_
  rintro e w3 ⟨rfl, hb3⟩
  have B3 := hide (bel_trans B2.out hb3)
  clear hb3 B2 H1
  go_wp2_with fail
  refine (HZ _).mono ?_
  rintro e w4 ⟨rfl, hb4⟩
  have X4 := hide ((Val.new w3 1 (-3) 0).al hb4)
  have B4 := hide (bel_trans (bel_al B3.out _) hb4)
  clear hb4 B3
  go_wp2_with fail
  refine (H2 _).mono ?_
  rintro e w5 ⟨rfl, hb5⟩
  have X5 := hide (X4.out.al hb5)
  have B5 := hide (bel_trans B4.out hb5)
  clear hb5 B4 X4 H2
  go_wp2_with fail
  refine (float_any _ _).mono ?_
  rintro e w6 ⟨rfl, hb6⟩
  have X6 := hide (X5.out.al (bel_trans (bel_new _ _) hb6))
  have Y6 := hide ((Val.new w5 2 0 9223372036854775808).al hb6)
  have B6 := hide (bel_trans (bel_al B5.out _) hb6)
  clear hb6 B5 X5
  go_wp2_with fail
  refine (H3 _).mono ?_
  rintro e w7 ⟨rfl, hb7⟩
  have X7 := X6.out.al hb7
  have Y7 := Y6.out.al hb7
  have B7 := hide (bel_trans B6.out hb7)
  obtain ⟨x0, x1, x2⟩ := X7.all.2
  obtain ⟨y0, y1, y2⟩ := Y7.all.2
  have xl := X7.lt
  have yl := Y7.lt
  clear hb7 B6 X6 Y6 X7 Y7 H3
  go_wp2_with fail
  go_ret
  exact Vb.mk rfl (bel_al B7.out _)
end Go.Proofs.Ytmdfciiejenpnaa.Ck
