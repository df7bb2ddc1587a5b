/- ClockTells, with its guard on lengths. -/
import Derived.Test.YtogabncehoehjaaDoorLawTells
namespace Go.Proofs.YtogabncehoehjaaDoor.Ck
open Go.RowKit

theorem clockTells_walk {W : World} {a0 a1 : Option Addr} {len0 cap0 len1 cap1 : Nat} {a b : List Int} {g : Int} (s0 : Sl W (.slice a0 len0 cap0) a) (s1 : Sl W (.slice a1 len1 cap1) b) (_wg : (Lit.int .i64 g).wf = true)
    (hL : laidMetH Tryd.prog laid17 W) : Calls Tryd.prog 3 #[.slice a0 len0 cap0, .slice a1 len1 cap1, .int .i64 g] W fun e w' => e = .returned (.bool true) ∧ Below W.heap.size W w' := by
  obtain ⟨p, hp⟩ := errs17_of_laid hL
  have e0 := len_te s0
  have e1 := len_te s1
  by_cases h0 : 2000 < len0
  · clear s0 s1 hp hL e0 e1
    go_enter Tryd.func3, Tryd.ntmps3
    go_wp2_with fail
    refine (alive_any _).mono ?_
    rintro e w1 ⟨rfl, b1⟩
    go_wp2_with fail
    go_ret
    exact ⟨rfl, b1⟩
  · by_cases h1 : 2000 < len1
    · clear s0 s1 hp hL e0 e1
      go_enter Tryd.func3, Tryd.ntmps3
      go_wp2_with fail
      refine (alive_any _).mono ?_
      rintro e w1 ⟨rfl, b1⟩
      go_wp2_with fail
      go_ret
      exact ⟨rfl, b1⟩
    · exact tells_main _ _ a b g W p s0 s1 hp (by omega) (by omega)

end Go.Proofs.YtogabncehoehjaaDoor.Ck
