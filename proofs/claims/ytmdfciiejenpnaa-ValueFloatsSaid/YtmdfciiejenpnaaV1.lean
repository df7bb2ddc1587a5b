/- Package value: which values are in form; the values that are made. -/
import Derived.Test.YtmdfciiejenpnaaV0
namespace Go.Proofs.Ytmdfciiejenpnaa.Ck
open Go.RowKit

/-- is a value in form? -/
def goodB (t n b : Int) : Bool := (t == 1 && b == 0) || (t == 2 && n == 0) || (t == 3 && (n == 0 || n == 1) && b == 0)
def Vb (w : World) (v : Value) (e : Ending) (w' : World) : Prop := e = .returned v ∧ Below w.heap.size w w'
theorem Vb.mk {w w' : World} {v v' : Value} (h : v = v') (hb : Below w.heap.size w w') : Vb w v' (.returned v) w' := ⟨by rw [h], hb⟩

set_option maxRecDepth 20000 in
set_option maxHeartbeats 1000000 in
theorem good_any (t n b : Int) (w : World) : Calls Try.prog 15 #[.agg #[.int .i64 t, .int .i64 n, .int .u64 b]] w (Vb w (.bool (goodB t n b))) := by
  have HB := hide (bel_new w (.cells #[.int .i64 t, .int .i64 n, .int .u64 b] 24))
  obtain ⟨g, hg⟩ : ∃ g, goodB t n b = g := ⟨_, rfl⟩
  rw [hg]
  have HG := hide hg
  clear hg
  by_cases h1 : t = 1
  · subst h1
    go_enter Try.func15, Try.ntmps15
    go_wp2_with fail
    all_goals
      go_ret
      exact Vb.mk (congrArg Value.bool (by rw [← HG.out]; simp [goodB])) HB.out
  by_cases h2 : t = 2
  · subst h2
    go_enter Try.func15, Try.ntmps15
    go_wp2_with fail
    all_goals
      go_ret
      exact Vb.mk (congrArg Value.bool (by rw [← HG.out]; simp [goodB])) HB.out
  by_cases h3 : t = 3
  · subst h3
    go_enter Try.func15, Try.ntmps15
    by_cases h4 : n = 0
    · subst h4
      go_wp2_with fail
      all_goals
        go_ret
        exact Vb.mk (congrArg Value.bool (by rw [← HG.out]; simp [goodB])) HB.out
    by_cases h5 : n = 1
    · subst h5
      go_wp2_with fail
      all_goals
        go_ret
        exact Vb.mk (congrArg Value.bool (by rw [← HG.out]; simp [goodB])) HB.out
    go_wp2_with fail
    all_goals
      go_ret
      exact Vb.mk (congrArg Value.bool (by rw [← HG.out]; simp [goodB, h4, h5])) HB.out
  go_enter Try.func15, Try.ntmps15
  go_wp2_with fail
  all_goals
    go_ret
    exact Vb.mk (congrArg Value.bool (by rw [← HG.out]; simp [goodB, h1, h2, h3])) HB.out
end Go.Proofs.Ytmdfciiejenpnaa.Ck
