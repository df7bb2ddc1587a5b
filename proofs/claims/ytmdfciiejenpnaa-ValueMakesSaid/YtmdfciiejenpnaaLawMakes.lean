/- The walk of the statement ValueMakes: it answers true. (Written by mk_m.py.) -/
import Derived.Test.YtmdfciiejenpnaaMka
import Derived.Test.YtmdfciiejenpnaaMkb
import Derived.Test.YtmdfciiejenpnaaMkc
import Derived.Test.YtmdfciiejenpnaaMkd
import Derived.Test.YtmdfciiejenpnaaMke
import Derived.Test.YtmdfciiejenpnaaMkf
namespace Go.Proofs.Ytmdfciiejenpnaa.Ck
open Go.RowKit

theorem makes_main (t n b t' n' b' N z : Int) (hz : 0 ≤ z ∧ z ≤ 18446744073709551615) (w : World) : Calls Try.prog 5 #[.agg #[.int .i64 t, .int .i64 n, .int .u64 b, .int .i64 t', .int .i64 n', .int .u64 b', .int .i64 N, .int .u64 z]] w (Vb w (.bool true)) := by
  obtain ⟨u, rfl⟩ : ∃ u : Nat, z = (u : Int) := ⟨z.toNat, by omega⟩
  by_cases hN : 1 ≤ N ∧ N ≤ 3
  · by_cases h3 : t = 3
    · exact makes_a t n b t' n' b' N u hN h3 w
    · exact makes_b t n b t' n' b' N u hN h3 w
  · by_cases hM : N < 1
    · by_cases h3 : t = 3
      · exact makes_c t n b t' n' b' N u hM h3 w
      · exact makes_d t n b t' n' b' N u hM h3 w
    · by_cases h3 : t = 3
      · exact makes_e t n b t' n' b' N u (by omega) h3 w
      · exact makes_f t n b t' n' b' N u (by omega) h3 w
end Go.Proofs.Ytmdfciiejenpnaa.Ck
