/- The contract of pool's cut. -/
import Derived.Test.YtndhgdjcbegjdaaDoorAl
namespace Go.Proofs.YtndhgdjcbegjdaaDoor.Ck
open Go.RowKit

theorem run_makeRuns (n : Nat) (hc : n ≤ 1000000) (w : World) :
    (Instr.makeSlice 22 (.int .i64 (n : Int)) (.int .i64 (n : Int))).run Tryd.prog w = .ok (.slice (some ⟨w.heap.size, 0, none⟩) n n) (w.alloc (.cells (madeCells #[.int .i64 0] n) 3)) := by
  obtain ⟨i, hi, hz0, hz1, hz2⟩ := info_parts info3
  have hr := run_make (P := Tryd.prog) w 22 3 i (.int .i64 0) Tryd.underlying22 hi hz0 .i64 .i64 n n (by omega) (by omega) (by rw [hz2]; omega) (by omega)
  simp only [Int.toNat_natCast, hz1, Nat.mul_one] at hr
  exact hr

/-- what cut answers: of which pages, with which runs -/
def CutRes (pb f t : Nat) (w w' : World) (v : Value) : Prop :=
  ∃ rb, v = .agg #[.slice (some ⟨pb, if t = f then 0 else 16 * f, none⟩) (t - f) (t - f), .slice (some ⟨rb, 0, none⟩) (t - f) (t - f)] ∧ w.heap.size ≤ rb ∧ rb < w'.heap.size ∧
    ∀ i, i < t - f → w'.cell? ⟨rb, i, none⟩ = some (.int .i64 0) ∧ w'.frozen? ⟨rb, i, none⟩ = false

set_option maxRecDepth 10000 in
theorem cut_lt (pb pages f t : Nat) (w : World) (hft : f < t) (ht : t ≤ pages) (hp : pages ≤ 256) :
    Calls Tryd.prog 23 #[.slice (some ⟨pb, 0, none⟩) pages pages, .int .i64 f, .int .i64 t] w fun e w' => (∃ v, e = .returned v ∧ CutRes pb f t w w' v) ∧ Below w.heap.size w w' := by
  have hmk := run_makeRuns (t - f) (by omega)
  have ec : ((t - f : Nat) : Int) = (t : Int) - f := by omega
  rw [ec] at hmk
  have hne : ¬ t = f := by omega
  go_enter Tryd.func23, Tryd.ntmps23
  go_wp2_with fail
  go_region
  go_wp2_with fail
  refine bodyPost_ret (v := .agg #[.slice (some ⟨pb, f * 16, none⟩) (t - f) (t - f), .slice (some ⟨w.heap.size + 1, 0, none⟩) (t - f) (t - f)]) (by simp [results, Tryd.results23, go_sem]) rfl ?_
  refine ⟨⟨_, rfl, w.heap.size + 1, by rw [if_neg hne, Nat.mul_comm], by omega, by simp [World.drew], fun i hi => ?_⟩, ?_⟩
  · have hrow := World.rowIs_made (w.alloc (.cells #[.slice (some ⟨pb, f * 16, none⟩) (t - f) (t - f), .slice (some ⟨w.heap.size + 1, 0, none⟩) (t - f) (t - f)] 61)) (.int .i64 0) (t - f) 3
    have e : (w.alloc (.cells #[.slice (some ⟨pb, f * 16, none⟩) (t - f) (t - f), .slice (some ⟨w.heap.size + 1, 0, none⟩) (t - f) (t - f)] 61)).heap.size = w.heap.size + 1 := by simp
    rw [e] at hrow
    exact ⟨hrow.cell hi, hrow.frozen i⟩
  · exact (bel_al (bel_new w _) _).drew

set_option maxRecDepth 10000 in
theorem cut_eq (pb pages f : Nat) (w : World) (ht : f ≤ pages) (_hp : pages ≤ 256) :
    Calls Tryd.prog 23 #[.slice (some ⟨pb, 0, none⟩) pages pages, .int .i64 f, .int .i64 f] w fun e w' => (∃ v, e = .returned v ∧ CutRes pb f f w w' v) ∧ Below w.heap.size w w' := by
  have hmk : ∀ w : World, (Instr.makeSlice 22 (.int .i64 0) (.int .i64 0)).run Tryd.prog w = .ok (.slice (some ⟨w.heap.size, 0, none⟩) 0 0) (w.alloc (.cells (madeCells #[.int .i64 0] 0) 3)) := fun w => run_makeRuns 0 (by omega) w
  go_enter Tryd.func23, Tryd.ntmps23
  go_wp2_with fail
  go_region
  go_wp2_with fail
  refine bodyPost_ret (v := .agg #[.slice (some ⟨pb, 0, none⟩) 0 0, .slice (some ⟨w.heap.size + 1, 0, none⟩) 0 0]) (by simp [results, Tryd.results23, go_sem]) rfl ?_
  refine ⟨⟨_, rfl, w.heap.size + 1, by rw [if_pos rfl, Nat.sub_self], by omega, by simp [World.drew], fun i hi => by omega⟩, ?_⟩
  exact (bel_al (bel_new w _) _).drew

theorem cut_any (pb pages f t : Nat) (w : World) (hft : f ≤ t) (ht : t ≤ pages) (hp : pages ≤ 256) :
    Calls Tryd.prog 23 #[.slice (some ⟨pb, 0, none⟩) pages pages, .int .i64 f, .int .i64 t] w fun e w' => (∃ v, e = .returned v ∧ CutRes pb f t w w' v) ∧ Below w.heap.size w w' := by
  by_cases h : f < t
  · exact cut_lt pb pages f t w h ht hp
  · obtain rfl : f = t := by omega
    exact cut_eq pb pages f w ht hp

end Go.Proofs.YtndhgdjcbegjdaaDoor.Ck
