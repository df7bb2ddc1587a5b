/- The examples of the chapter (alive). -/
import Derived.Test.YtoboeipmhfnfdaaDoorCno
import Derived.Test.YtoboeipmhfnfdaaDoorCp
namespace Go.Proofs.YtoboeipmhfnfdaaDoor.Ck
open Go.RowKit

theorem num_eqeq : numF ops11 ⟨#[61, 61]⟩ 0 = 6 := by
  rw [num11]
  simp
theorem op_int : opN 10 3 = ⟨#[105, 110, 116]⟩ := by
  unfold opN
  rw [show opsL 10 = ops10 from rfl, if_pos (by decide)]
  rfl
theorem alive_at {w : World} {p : List Addr} (hc : Ec w p) : Cv (((w.alloc (.cells #[.int .i64 0, .int .i64 0, .slice none 0 0] 54)).alloc (.cells #[.int .i64 25, .int .i64 0, .int .i64 0, .int .u64 0, .int .i64 0] 57)).alloc (.cells #[.slice none 0 0, .int .i64 0, .int .i64 0, .slice none 0 0, .slice (some ⟨w.heap.size, 0, none⟩) 1 1, .int .i64 0, .slice (some ⟨w.heap.size + 1, 0, none⟩) 1 1] 27)) (.slice none 0 0) (.slice none 0 0) (.slice (some ⟨w.heap.size, 0, none⟩) 1 1) (.slice (some ⟨w.heap.size + 1, 0, none⟩) 1 1) (oneF [⟨25, 0, 0, 0, 0⟩]) ∧ Ec (((w.alloc (.cells #[.int .i64 0, .int .i64 0, .slice none 0 0] 54)).alloc (.cells #[.int .i64 25, .int .i64 0, .int .i64 0, .int .u64 0, .int .i64 0] 57)).alloc (.cells #[.slice none 0 0, .int .i64 0, .int .i64 0, .slice none 0 0, .slice (some ⟨w.heap.size, 0, none⟩) 1 1, .int .i64 0, .slice (some ⟨w.heap.size + 1, 0, none⟩) 1 1] 27)) p ∧ Below w.heap.size w (((w.alloc (.cells #[.int .i64 0, .int .i64 0, .slice none 0 0] 54)).alloc (.cells #[.int .i64 25, .int .i64 0, .int .i64 0, .int .u64 0, .int .i64 0] 57)).alloc (.cells #[.slice none 0 0, .int .i64 0, .int .i64 0, .slice none 0 0, .slice (some ⟨w.heap.size, 0, none⟩) 1 1, .int .i64 0, .slice (some ⟨w.heap.size + 1, 0, none⟩) 1 1] 27)) ∧ (((w.alloc (.cells #[.int .i64 0, .int .i64 0, .slice none 0 0] 54)).alloc (.cells #[.int .i64 25, .int .i64 0, .int .i64 0, .int .u64 0, .int .i64 0] 57)).alloc (.cells #[.slice none 0 0, .int .i64 0, .int .i64 0, .slice none 0 0, .slice (some ⟨w.heap.size, 0, none⟩) 1 1, .int .i64 0, .slice (some ⟨w.heap.size + 1, 0, none⟩) 1 1] 27)).heap[w.heap.size + 1 + 1]? = some (.cells #[.slice none 0 0, .int .i64 0, .int .i64 0, .slice none 0 0, .slice (some ⟨w.heap.size, 0, none⟩) 1 1, .int .i64 0, .slice (some ⟨w.heap.size + 1, 0, none⟩) 1 1] 27 (0, 0)) := by
  have b1 := bel_new w (.cells #[.int .i64 0, .int .i64 0, .slice none 0 0] 54)
  have k1 : (w.alloc (.cells #[.int .i64 0, .int .i64 0, .slice none 0 0] 54)).heap[w.heap.size]? = some (.cells #[.int .i64 0, .int .i64 0, .slice none 0 0] 54 (0, 0)) := Go.Deep.blk_alloc_new _ _
  have s1 : (w.alloc (.cells #[.int .i64 0, .int .i64 0, .slice none 0 0] 54)).heap.size = w.heap.size + 1 := by simp
  generalize w.alloc (.cells #[.int .i64 0, .int .i64 0, .slice none 0 0] 54) = w1 at *
  have b2 := bel_new w1 (.cells #[.int .i64 25, .int .i64 0, .int .i64 0, .int .u64 0, .int .i64 0] 57)
  have k2 : (w1.alloc (.cells #[.int .i64 25, .int .i64 0, .int .i64 0, .int .u64 0, .int .i64 0] 57)).heap[w1.heap.size]? = some (.cells #[.int .i64 25, .int .i64 0, .int .i64 0, .int .u64 0, .int .i64 0] 57 (0, 0)) := Go.Deep.blk_alloc_new _ _
  have s2 : (w1.alloc (.cells #[.int .i64 25, .int .i64 0, .int .i64 0, .int .u64 0, .int .i64 0] 57)).heap.size = w1.heap.size + 1 := by simp
  generalize w1.alloc (.cells #[.int .i64 25, .int .i64 0, .int .i64 0, .int .u64 0, .int .i64 0] 57) = w2 at *
  have b3 := bel_new w2 (.cells #[.slice none 0 0, .int .i64 0, .int .i64 0, .slice none 0 0, .slice (some ⟨w.heap.size, 0, none⟩) 1 1, .int .i64 0, .slice (some ⟨w.heap.size + 1, 0, none⟩) 1 1] 27)
  have k3 : (w2.alloc (.cells #[.slice none 0 0, .int .i64 0, .int .i64 0, .slice none 0 0, .slice (some ⟨w.heap.size, 0, none⟩) 1 1, .int .i64 0, .slice (some ⟨w.heap.size + 1, 0, none⟩) 1 1] 27)).heap[w2.heap.size]? = some (.cells #[.slice none 0 0, .int .i64 0, .int .i64 0, .slice none 0 0, .slice (some ⟨w.heap.size, 0, none⟩) 1 1, .int .i64 0, .slice (some ⟨w.heap.size + 1, 0, none⟩) 1 1] 27 (0, 0)) := Go.Deep.blk_alloc_new _ _
  generalize w2.alloc (.cells #[.slice none 0 0, .int .i64 0, .int .i64 0, .slice none 0 0, .slice (some ⟨w.heap.size, 0, none⟩) 1 1, .int .i64 0, .slice (some ⟨w.heap.size + 1, 0, none⟩) 1 1] 27) = w3 at *
  rw [s1] at k2 s2
  rw [s2] at k3
  have k1' := (b3.block _ (by omega)).trans ((b2.block _ (by omega)).trans k1)
  have k2' := (b3.block _ (by omega)).trans k2
  refine ⟨Cv.one k1' (SlB.one (x := ⟨25, 0, 0, 0, 0⟩) k2') (fun x hx => ?_) (by decide), ((hc.bel b1).bel b2).bel b3, bel_trans (bel_trans b1 b2) b3, k3⟩
  have : x = ⟨25, 0, 0, 0, 0⟩ := by simpa using hx
  subst this
  exact inX_of (by decide) (by decide) (by decide)
set_option maxRecDepth 20000 in
set_option maxHeartbeats 1000000 in
theorem alive_any {w : World} {p : List Addr} (hc : Ec w p) : Calls Tryd.prog 7 #[] w (Vb w (.bool true)) := by
  obtain ⟨v3, e3, b3, k3⟩ := alive_at hc
  have BI := hide (binary_any ⟨#[61, 61]⟩ (((w.alloc (.cells #[.int .i64 0, .int .i64 0, .slice none 0 0] 54)).alloc (.cells #[.int .i64 25, .int .i64 0, .int .i64 0, .int .u64 0, .int .i64 0] 57)).alloc (.cells #[.slice none 0 0, .int .i64 0, .int .i64 0, .slice none 0 0, .slice (some ⟨w.heap.size, 0, none⟩) 1 1, .int .i64 0, .slice (some ⟨w.heap.size + 1, 0, none⟩) 1 1] 27)))
  rw [num_eqeq] at BI
  have OP := hide (fun wz => operator_any 10 3 wz)
  rw [op_int] at OP
  have CK : Hid (∀ wz, Below (((w.alloc (.cells #[.int .i64 0, .int .i64 0, .slice none 0 0] 54)).alloc (.cells #[.int .i64 25, .int .i64 0, .int .i64 0, .int .u64 0, .int .i64 0] 57)).alloc (.cells #[.slice none 0 0, .int .i64 0, .int .i64 0, .slice none 0 0, .slice (some ⟨w.heap.size, 0, none⟩) 1 1, .int .i64 0, .slice (some ⟨w.heap.size + 1, 0, none⟩) 1 1] 27)).heap.size (((w.alloc (.cells #[.int .i64 0, .int .i64 0, .slice none 0 0] 54)).alloc (.cells #[.int .i64 25, .int .i64 0, .int .i64 0, .int .u64 0, .int .i64 0] 57)).alloc (.cells #[.slice none 0 0, .int .i64 0, .int .i64 0, .slice none 0 0, .slice (some ⟨w.heap.size, 0, none⟩) 1 1, .int .i64 0, .slice (some ⟨w.heap.size + 1, 0, none⟩) 1 1] 27)) wz → Calls Tryd.prog 10 #[.agg #[.slice none 0 0, .int .i64 0, .int .i64 0, .slice none 0 0, .slice (some ⟨w.heap.size, 0, none⟩) 1 1, .int .i64 0, .slice (some ⟨w.heap.size + 1, 0, none⟩) 1 1]] wz fun e w' => e = .returned .nilIface ∧ Below wz.heap.size wz w') := hide (fun wz hb => by
    have := check_any (e3.bel hb) (v3.bel hb)
    rw [alive_form] at this
    exact this)
  have X3 := hide (fun wz (hb : Below (((w.alloc (.cells #[.int .i64 0, .int .i64 0, .slice none 0 0] 54)).alloc (.cells #[.int .i64 25, .int .i64 0, .int .i64 0, .int .u64 0, .int .i64 0] 57)).alloc (.cells #[.slice none 0 0, .int .i64 0, .int .i64 0, .slice none 0 0, .slice (some ⟨w.heap.size, 0, none⟩) 1 1, .int .i64 0, .slice (some ⟨w.heap.size + 1, 0, none⟩) 1 1] 27)).heap.size (((w.alloc (.cells #[.int .i64 0, .int .i64 0, .slice none 0 0] 54)).alloc (.cells #[.int .i64 25, .int .i64 0, .int .i64 0, .int .u64 0, .int .i64 0] 57)).alloc (.cells #[.slice none 0 0, .int .i64 0, .int .i64 0, .slice none 0 0, .slice (some ⟨w.heap.size, 0, none⟩) 1 1, .int .i64 0, .slice (some ⟨w.heap.size + 1, 0, none⟩) 1 1] 27)) wz) => cells7 ((hb.block _ (lt_of_blk k3)).trans k3))
  have B3 := hide b3
  clear v3 e3 b3 k3 hc
  go_enter Tryd.func7, Tryd.ntmps7
  go_wp2_with fail
  refine BI.out.mono ?_
  rintro e w4 ⟨rfl, hb4⟩
  generalize ((w.alloc (.cells #[.int .i64 0, .int .i64 0, .slice none 0 0] 54)).alloc (.cells #[.int .i64 25, .int .i64 0, .int .i64 0, .int .u64 0, .int .i64 0] 57)).alloc (.cells #[.slice none 0 0, .int .i64 0, .int .i64 0, .slice none 0 0, .slice (some ⟨w.heap.size, 0, none⟩) 1 1, .int .i64 0, .slice (some ⟨w.heap.size + 1, 0, none⟩) 1 1] 27) = w3 at *
  have B4 := hide hb4
  clear hb4 BI
  go_wp2_with fail
  refine (OP.out w4).mono ?_
  rintro e w5 ⟨rfl, hb5⟩
  have B5 := hide (bel_trans B4.out hb5)
  clear hb5 OP B4
  obtain ⟨g0, g1, g2, g3, g4, g5, g6⟩ := X3.out _ B5.out
  go_wp2_with fail
  refine (CK.out _ B5.out).mono ?_
  rintro e w6 ⟨rfl, hb6⟩
  have B6 := hide (bel_trans B5.out hb6)
  clear hb6 CK B5 g0 g1 g2 g3 g4 g5 g6
  go_wp2_with fail
  go_ret
  exact ⟨rfl, bel_trans B3.out B6.out⟩
end Go.Proofs.YtoboeipmhfnfdaaDoor.Ck
