/- Package code: numbers, channels and instructions are read. (Written by mk_r.py.) -/
import Derived.Test.YtigfjjolfeenaaaDoorEa
namespace Go.Proofs.YtigfjjolfeenaaaDoor.Ck
open Go.RowKit

set_option maxRecDepth 20000 in
set_option maxHeartbeats 4000000 in
theorem number_any {w : World} {g B : Nat} {p : List Addr} {l : List Int} (h : Rd w g B p l) : Calls Tryd.prog 44 #[.pointer (some ⟨g, 0, none⟩)] w (RdP (rNum 4) (fun _ v x => v = .int .i64 x) w g B p l) := by
  have RA := hide (read_any h 4 (by decide) (by decide))
  have HB := hide h.b
  clear h
  go_enter Tryd.func44, Tryd.ntmps44
  go_wp2_with fail
  refine RA.out.mono ?_
  intro e w2 hp
  rcases hp.both with ⟨x, r, v, h1, rfl, rfl, h2, h3⟩ | ⟨h1, rfl, h3⟩
  case inr => exact ⟨rfl, RdP.stop h3 h1⟩
  have hx := rNum_rng h1 HB.out
  have h4 : (256 : Int) ^ 4 = 4294967296 := by decide
  rw [h4] at hx
  have ew : IntKind.i64.wrap x = x := by first | exact Go.wrap_small (by omega) (by omega) | (simp [IntKind.wrap, IntKind.signed, IntKind.bits]; omega)
  have ew2 : wrap64 x = x := by unfold wrap64; omega
  have H := hide (And.intro h1 (And.intro h2 h3))
  clear h1 h2 h3 hx h4 hp RA
  go_wp2_with fail
  go_ret
  exact RdP.ok H.out.2.2 H.out.1 rfl H.out.2.1
set_option maxRecDepth 20000 in
set_option maxHeartbeats 4000000 in
theorem channel_any {w : World} {g B : Nat} {p : List Addr} {l : List Int} (h : Rd w g B p l) : Calls Tryd.prog 47 #[.pointer (some ⟨g, 0, none⟩)] w (RdP rChan (fun _ v x => v = .agg #[.int .i64 x.1, .int .i64 x.2]) w g B p l) := by
  have b0 := bel_new w (.cells #[.int .i64 0, .int .i64 0] 56)
  have K0 := hide (show (w.alloc (.cells #[.int .i64 0, .int .i64 0] 56)).heap[w.heap.size]? = some (.cells #[.int .i64 0, .int .i64 0] 56 (0, 0)) from Go.Deep.blk_alloc_new _ _)
  have R0 := hide (h.bel b0)
  have T0 := hide (Tn.of_bel (g := g) b0)
  have HW := hide h.BW
  have hg : Hid (w.heap.size ≠ g) := hide (by have := h.gB; have := h.BW; omega)
  clear h b0
  go_enter Tryd.func47, Tryd.ntmps47
  go_wp2_with fail
  generalize w.alloc (.cells #[.int .i64 0, .int .i64 0] 56) = w1 at *
  refine (number_any R0.out).mono ?_
  intro e w2 hp
  rcases hp.both with ⟨x, r, v, h1, rfl, rfl, h2, h3⟩ | ⟨h1, rfl, h3⟩
  case inr => exact ⟨rfl, RdP.stop (T0.out.trans h3) (rBind_none h1)⟩
  have K2 := hide ((h3.blk _ (lt_of_blk K0.out) hg.out).trans K0.out)
  have T2 := hide (T0.out.trans h3)
  have R2 := hide h2
  have H1 := hide h1
  clear h1 h2 h3 hp K0 R0 T0
  go_wp2_with fail
  refine (number_any R2.out).mono ?_
  intro e w3 hp
  rcases hp.both with ⟨y, r2, v, h1, rfl, rfl, h2, h3⟩ | ⟨h1, rfl, h3⟩
  case inr => exact ⟨rfl, RdP.stop (T2.out.trans h3) ((rBind_some H1.out).trans (rBind_none h1))⟩
  have K3 := (h3.blk _ (lt_of_blk K2.out) hg.out).trans K2.out
  have c0 := blk_cell K3 0 _ rfl
  have c1 := blk_cell K3 1 _ rfl
  have f0 := blk_frz K3 0
  have f1 := blk_frz K3 1
  obtain ⟨k4, t4⟩ := set1 K3 0 (.int .i64 x)
  obtain ⟨k5, t5⟩ := set1 k4 1 (.int .i64 y)
  have K5 := hide k5
  have T5 := hide ((T2.out.trans h3).next (t4.trans t5) (Nat.le_refl _))
  have R5 := hide (h2.tn (t4.trans t5) HW.out)
  have HE : Hid (rChan l = some ((x, y), r2)) := hide ((rBind_some H1.out).trans ((rBind_some h1).trans rfl))
  clear h1 h2 h3 hp K2 R2 T2 H1 k4 t4 k5 t5 K3
  go_wp2_with fail
  exact ret_agg w.heap.size _ rfl rfl rfl K5.out Tryd.underlying56 (by kernel_rfl) rfl (RdP.ok T5.out HE.out rfl R5.out)
end Go.Proofs.YtigfjjolfeenaaaDoor.Ck
