/- The examples of the chapter (alive's code of one function). -/
import Derived.Test.YtidjbgemnohbnaaDoorGq11
import Derived.Test.YtidjbgemnohbnaaDoorGq13
namespace Go.Proofs.YtidjbgemnohbnaaDoor.Ck
open Go.RowKit

set_option maxRecDepth 20000 in
set_option maxHeartbeats 2000000 in
theorem alive1_any {w : World} {vB : Value} {B : List In5} (h : SlB w vB B) (hI : ∀ x ∈ B, InX x) (hl : B.length ≤ 100000) : Calls Tryd.prog 14 #[vB] w (fun e w' => ∃ vF, e = .returned (codeA (.slice none 0 0) (.slice none 0 0) vF vB (oneF B)) ∧ Cv w' (.slice none 0 0) (.slice none 0 0) vF vB (oneF B) ∧ Below w.heap.size w w') := by
  obtain ⟨aB, cB, rfl, _⟩ := h.form
  have HB := hide (And.intro h (And.intro hI hl))
  obtain ⟨n, hn⟩ : ∃ n, n = B.length := ⟨_, rfl⟩
  rw [← hn] at HB ⊢
  have HN := hide hn
  unfold codeA
  clear h hI hl hn
  go_enter Tryd.func14, Tryd.ntmps14
  go_wp2_with fail
  obtain ⟨h, hI, hl⟩ := HB.out
  have b1 := bel_new w (.cells #[.slice none 0 0, .int .i64 0, .int .i64 0, .slice none 0 0, .slice (some ⟨w.heap.size + 1, 0, none⟩) 1 1, .int .i64 0, .slice aB n cB] 27)
  have k1 : (w.alloc (.cells #[.slice none 0 0, .int .i64 0, .int .i64 0, .slice none 0 0, .slice (some ⟨w.heap.size + 1, 0, none⟩) 1 1, .int .i64 0, .slice aB n cB] 27)).heap[w.heap.size]? = some (.cells #[.slice none 0 0, .int .i64 0, .int .i64 0, .slice none 0 0, .slice (some ⟨w.heap.size + 1, 0, none⟩) 1 1, .int .i64 0, .slice aB n cB] 27 (0, 0)) := Go.Deep.blk_alloc_new _ _
  have s1 : (w.alloc (.cells #[.slice none 0 0, .int .i64 0, .int .i64 0, .slice none 0 0, .slice (some ⟨w.heap.size + 1, 0, none⟩) 1 1, .int .i64 0, .slice aB n cB] 27)).heap.size = w.heap.size + 1 := by simp
  generalize w.alloc (.cells #[.slice none 0 0, .int .i64 0, .int .i64 0, .slice none 0 0, .slice (some ⟨w.heap.size + 1, 0, none⟩) 1 1, .int .i64 0, .slice aB n cB] 27) = w1 at *
  have b2 := bel_new w1 (.cells #[.int .i64 0, .int .i64 0, .slice none 0 0] 46)
  have k2 : (w1.alloc (.cells #[.int .i64 0, .int .i64 0, .slice none 0 0] 46)).heap[w1.heap.size]? = some (.cells #[.int .i64 0, .int .i64 0, .slice none 0 0] 46 (0, 0)) := Go.Deep.blk_alloc_new _ _
  rw [s1] at k2
  have k1' := (b2.block _ (lt_of_blk k1)).trans k1
  have B2 := bel_trans b1 b2
  exact ret_agg w.heap.size _ rfl rfl rfl k1' Tryd.underlying27 (by kernel_rfl) rfl ⟨_, rfl, Cv.one k2 (h.bel B2) hI (by have e := HN.out; omega), B2⟩
end Go.Proofs.YtidjbgemnohbnaaDoor.Ck
