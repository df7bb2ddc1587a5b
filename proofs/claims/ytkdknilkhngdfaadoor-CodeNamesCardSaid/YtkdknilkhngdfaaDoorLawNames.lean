/- CodeNames walked. -/
import Derived.Test.YtkdknilkhngdfaaDoorCq
namespace Go.Proofs.YtkdknilkhngdfaaDoor.Ck
open Go.RowKit

set_option maxRecDepth 20000 in
set_option maxHeartbeats 1000000 in
theorem names_main {w : World} {p : List Addr} (s : ByteArray) (hc : Ec w p) : Calls Tryd.prog 6 #[.string s] w (Vb w (.bool true)) := by
  have AL := hide (alive_any hc)
  have U1 := hide (fun wz => unary_any s wz)
  have U2 := hide (fun wz => binary_any s wz)
  have R1 := hide (fun wz => runary_any s wz)
  have R2 := hide (fun wz => rbinary_any s wz)
  generalize numF ops10 s 0 = n1 at *
  generalize numF ops11 s 0 = n2 at *
  clear hc
  go_enter Tryd.func6, Tryd.ntmps6
  go_wp2_with fail
  refine AL.out.mono ?_
  rintro e w1 ⟨rfl, b1⟩
  have B1 := hide b1
  clear b1 AL
  go_wp2_with fail
  refine (U1.out w1).mono ?_
  rintro e w2 ⟨rfl, b2⟩
  have B2 := hide (bel_trans B1.out b2)
  clear b2 U1 B1
  go_wp2_with fail
  refine (R1.out w2).mono ?_
  rintro e w3 ⟨rfl, rfl⟩
  clear R1
  go_wp2_with fail
  refine (U2.out w2).mono ?_
  rintro e w3 ⟨rfl, b3⟩
  have B3 := hide (bel_trans B2.out b3)
  clear b3 U2 B2
  go_wp2_with fail
  refine (R2.out w3).mono ?_
  rintro e w4 ⟨rfl, rfl⟩
  clear R2
  go_wp2_with fail
  go_ret
  exact Vb.mk (by simp) B3.out
end Go.Proofs.YtkdknilkhngdfaaDoor.Ck
