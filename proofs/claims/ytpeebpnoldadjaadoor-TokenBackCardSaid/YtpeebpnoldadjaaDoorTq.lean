/- The contracts of what read defers. -/
import Derived.Test.YtpeebpnoldadjaaDoorTp
import Derived.Defers
import Derived.Recover
namespace Go.Proofs.YtpeebpnoldadjaaDoor.Ck
open Go.RowKit

theorem assert_bad (v : Value) (w : World) : (Instr.typeAssert (.iface 27 v) 20 27 false).run Tryd.prog w = .ok v w := by
  simp [Instr.typeAssert, run_underlying Tryd.underlying27, go_sem, Result.andThen]

theorem catch_idle (a b : Addr) (w : World) :
    CallsD Tryd.prog 25 #[.pointer (some a), .pointer (some b)] .returning w fun e u' w' => e = .returned (.tuple #[]) ∧ u' = .returning ∧ w' = w := by
  refine callsD_of_wpS Tryd.func25 rfl fun c₀ cs hu => ?_
  apply wpS_seq
  apply wpS_region
  simp [wpOpsS, go_sem, recoverD, hu, Tryd.ntmps25, Exit.thenS]
  apply wpS_seq
  refine wpS_of_wp ?_
  go_wp2_with fail
  refine wpS_cond (t := false) (by simp [Act.eval, Array.replicate]) ?_
  simp only [Bool.false_eq_true, if_false]
  refine wpS_of_wp (wp_skip ?_)
  cases c₀
  simp_all [bodyPostS, results, Tryd.results25]

theorem catch_stop (bT bB : Nat) (v0 z0 z1 : Value) (te : TypeId) (pe : Value) (i : Nat) (w : World) (hT : w.heap[bT]? = some (.cells #[v0] 23 (0, 0))) (hB : w.heap[bB]? = some (.cells #[z0, z1] 27 (0, 0))) (hne : bT ≠ bB) :
    CallsD Tryd.prog 25 #[.pointer (some ⟨bT, 0, none⟩), .pointer (some ⟨bB, 0, none⟩)] (.panicking [{ v := badV (.iface te pe) i, recovered := false }]) w fun e u' w' =>
      e = .returned (.tuple #[]) ∧ u' = .panicking [{ v := badV (.iface te pe) i, recovered := true }] ∧ w'.heap[bT]? = some (.cells #[.slice none 0 0] 23 (0, 0)) ∧ w'.heap[bB]? = some (.cells #[.iface te pe, .int .i64 i] 27 (0, 0)) ∧ ∀ B, B ≤ bT → B ≤ bB → Below B w w' := by
  have f0 := blk_frz hT 0
  have f1 := blk_frz hB 0
  have f2 := blk_frz hB 1
  have c0 := blk_cell hT 0 _ rfl
  have c1 := blk_cell hB 0 _ rfl
  have c2 := blk_cell hB 1 _ rfl
  have ha := assert_bad
  unfold badV
  refine callsD_of_wpS Tryd.func25 rfl fun c₀ cs hu => ?_
  apply wpS_seq
  apply wpS_region
  simp [wpOpsS, go_sem, recoverD, hu, Tryd.ntmps25, Exit.thenS]
  apply wpS_seq
  refine wpS_of_wp ?_
  go_wp2_with fail
  refine wpS_cond (t := true) (by simp [Act.eval, Array.replicate]) ?_
  simp only [if_true]
  refine wpS_of_wp ?_
  change Code.wp _ _ _ { tmps := #[.pointer (some ⟨bT, 0, none⟩), .pointer (some ⟨bB, 0, none⟩), .iface 27 (.agg #[.iface te pe, .int .i64 i]), .iface 27 (.agg #[.iface te pe, .int .i64 i]), .iface 27 (.agg #[.iface te pe, .int .i64 i]), .bool true, undef, undef], defers := [] } _
  go_region
  obtain ⟨k1, t1⟩ := set1 hT 0 (.slice none 0 0)
  obtain ⟨k2, t2⟩ := set1 ((t1.blk bB (lt_of_blk hB) (Ne.symm hne)).trans hB) 0 (.iface te pe)
  obtain ⟨k3, t3⟩ := set1 k2 1 (.int .i64 i)
  have hlt := lt_of_blk hT
  refine ⟨rfl, _, rfl, _, results_none rfl _ _ _, rfl, rfl, ?_, ?_, fun B h1 h2 => ?_⟩
  · exact (t3.blk bT (Nat.lt_of_lt_of_le (lt_of_blk k1) t2.size) hne).trans ((t2.blk bT (lt_of_blk k1) hne).trans k1)
  · exact k3
  · have b1 := t1.bel h1 (Nat.le_trans h1 (Nat.le_of_lt hlt))
    have b2 := t2.bel h2 (Nat.le_trans h1 (Nat.le_of_lt (Nat.lt_of_lt_of_le hlt t1.size)))
    have b3 := t3.bel h2 (Nat.le_trans h1 (Nat.le_of_lt (Nat.lt_of_lt_of_le hlt (Nat.le_trans t1.size t2.size))))
    exact ((b1.trans b2).trans b3).drew

end Go.Proofs.YtpeebpnoldadjaaDoor.Ck
