/- Package code: an instruction is read. (Written by mk_r.py.) -/
import Derived.Test.YtigfjjolfeenaaaDoorEb
namespace Go.Proofs.YtigfjjolfeenaaaDoor.Ck
open Go.RowKit

set_option maxRecDepth 20000 in
set_option maxHeartbeats 4000000 in
theorem rinstr_any {w : World} {g B : Nat} {p : List Addr} {l : List Int} (h : Rd w g B p l) : Calls Tryd.prog 51 #[.pointer (some ⟨g, 0, none⟩)] w (RdP rIns (fun _ v x => v = .agg #[.int .i64 x.op, .int .i64 x.a, .int .i64 x.b, .int .u64 x.bits, .int .i64 x.at_]) w g B p l) := by
  have b0 := bel_new w (.cells #[.int .i64 0, .int .i64 0, .int .i64 0, .int .u64 0, .int .i64 0] 50)
  have K0 := hide (show (w.alloc (.cells #[.int .i64 0, .int .i64 0, .int .i64 0, .int .u64 0, .int .i64 0] 50)).heap[w.heap.size]? = some (.cells #[.int .i64 0, .int .i64 0, .int .i64 0, .int .u64 0, .int .i64 0] 50 (0, 0)) from Go.Deep.blk_alloc_new _ _)
  have R0 := hide (h.bel b0)
  have T0 := hide (Tn.of_bel (g := g) b0)
  have HW := hide h.BW
  have hg : Hid (w.heap.size ≠ g) := hide (by have := h.gB; have := h.BW; omega)
  clear h b0
  go_enter Tryd.func51, Tryd.ntmps51
  go_wp2_with fail
  generalize w.alloc (.cells #[.int .i64 0, .int .i64 0, .int .i64 0, .int .u64 0, .int .i64 0] 50) = w1 at *
  refine (read_any R0.out 1 (by decide) (by decide)).mono ?_
  intro e w2 hp
  rcases hp.both with ⟨o, r1, v, h1, rfl, rfl, h2, h3⟩ | ⟨h1, rfl, h3⟩
  case inr => exact ⟨rfl, RdP.stop (T0.out.trans h3) (rBind_none h1)⟩
  have K1 := hide ((h3.blk _ (lt_of_blk K0.out) hg.out).trans K0.out)
  have T1 := hide (T0.out.trans h3)
  have R1 := hide h2
  have H0 := hide h1
  have Y0 := hide (rNum_rng h1 R0.out.b)
  clear h1 h2 h3 hp K0 T0
  go_wp2_with fail
  refine (read_any R1.out 8 (by decide) (by decide)).mono ?_
  intro e w3 hp
  rcases hp.both with ⟨a, r2, v, h1, rfl, rfl, h2, h3⟩ | ⟨h1, rfl, h3⟩
  case inr => exact ⟨rfl, RdP.stop (T1.out.trans h3) ((rBind_some H0.out).trans (rBind_none h1))⟩
  have K2 := hide ((h3.blk _ (lt_of_blk K1.out) hg.out).trans K1.out)
  have T2 := hide (T1.out.trans h3)
  have R2 := hide h2
  have H1 := hide h1
  have Y1 := hide (rNum_rng h1 R1.out.b)
  clear h1 h2 h3 hp K1 T1
  go_wp2_with fail
  refine (number_any R2.out).mono ?_
  intro e w4 hp
  rcases hp.both with ⟨b, r3, v, h1, rfl, rfl, h2, h3⟩ | ⟨h1, rfl, h3⟩
  case inr => exact ⟨rfl, RdP.stop (T2.out.trans h3) ((rBind_some H0.out).trans ((rBind_some H1.out).trans (rBind_none h1)))⟩
  have K3 := hide ((h3.blk _ (lt_of_blk K2.out) hg.out).trans K2.out)
  have T3 := hide (T2.out.trans h3)
  have R3 := hide h2
  have H2 := hide h1
  have Y2 := hide (rNum_rng h1 R2.out.b)
  clear h1 h2 h3 hp K2 T2
  go_wp2_with fail
  refine (read_any R3.out 8 (by decide) (by decide)).mono ?_
  intro e w5 hp
  rcases hp.both with ⟨t, r4, v, h1, rfl, rfl, h2, h3⟩ | ⟨h1, rfl, h3⟩
  case inr => exact ⟨rfl, RdP.stop (T3.out.trans h3) ((rBind_some H0.out).trans ((rBind_some H1.out).trans ((rBind_some H2.out).trans (rBind_none h1))))⟩
  have K4 := hide ((h3.blk _ (lt_of_blk K3.out) hg.out).trans K3.out)
  have T4 := hide (T3.out.trans h3)
  have R4 := hide h2
  have H3 := hide h1
  have Y3 := hide (rNum_rng h1 R3.out.b)
  clear h1 h2 h3 hp K3 T3
  go_wp2_with fail
  refine (number_any R4.out).mono ?_
  intro e w6 hp
  rcases hp.both with ⟨k, r5, v, h1, rfl, rfl, h2, h3⟩ | ⟨h1, rfl, h3⟩
  case inr => exact ⟨rfl, RdP.stop (T4.out.trans h3) ((rBind_some H0.out).trans ((rBind_some H1.out).trans ((rBind_some H2.out).trans ((rBind_some H3.out).trans (rBind_none h1)))))⟩
  have K5 := hide ((h3.blk _ (lt_of_blk K4.out) hg.out).trans K4.out)
  have T5 := hide (T4.out.trans h3)
  have R5 := hide h2
  have H4 := hide h1
  have Y4 := hide (rNum_rng h1 R4.out.b)
  clear h1 h2 h3 hp K4 T4
  have e1 : wrap64 o = o := by
    have := Y0.out
    have h4 : (256 : Int) ^ 1 = 256 := by decide
    rw [h4] at this
    unfold wrap64
    omega
  obtain ⟨k1, t1⟩ := set1 K5.out 0 (.int .i64 o)
  obtain ⟨k2, t2⟩ := set1 k1 1 (.int .i64 (wrap64 a))
  obtain ⟨k3, t3⟩ := set1 k2 2 (.int .i64 b)
  obtain ⟨k4, t4⟩ := set1 k3 3 (.int .u64 t)
  obtain ⟨k5, t5⟩ := set1 k4 4 (.int .i64 k)
  have c0 := blk_cell K5.out 0 _ rfl
  have c1 := blk_cell K5.out 1 _ rfl
  have c2 := blk_cell K5.out 2 _ rfl
  have c3 := blk_cell K5.out 3 _ rfl
  have c4 := blk_cell K5.out 4 _ rfl
  have f0 := blk_frz K5.out 0
  have f1 := blk_frz K5.out 1
  have f2 := blk_frz K5.out 2
  have f3 := blk_frz K5.out 3
  have f4 := blk_frz K5.out 4
  have TT := (((t1.trans t2).trans t3).trans t4).trans t5
  have KF := hide k5
  have TF := hide (T5.out.next TT (Nat.le_refl _))
  have RF := hide (R5.out.tn TT HW.out)
  have HE : Hid (rIns l = some (⟨o, wrap64 a, b, t, k⟩, r5)) := hide ((rBind_some H0.out).trans ((rBind_some H1.out).trans ((rBind_some H2.out).trans ((rBind_some H3.out).trans ((rBind_some H4.out).trans rfl)))))
  clear k1 t1 k2 t2 k3 t3 k4 t4 k5 t5 TT H0 H1 H2 H3 H4 Y0 Y1 Y2 Y3 Y4 R0 R1 R2 R3 R4 R5 T5 K5
  go_wp2_with fail
  exact ret_agg w.heap.size _ rfl rfl rfl KF.out Tryd.underlying50 (by kernel_rfl) rfl (RdP.ok TF.out HE.out rfl RF.out)
end Go.Proofs.YtigfjjolfeenaaaDoor.Ck
