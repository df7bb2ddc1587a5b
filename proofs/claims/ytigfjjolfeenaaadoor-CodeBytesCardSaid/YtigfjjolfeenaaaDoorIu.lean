/- The document: which instructions are in form, whatever their place is. (Written by mk_g.py.) -/
import Derived.Test.YtigfjjolfeenaaaDoorIz
namespace Go.Proofs.YtigfjjolfeenaaaDoor.Ck
open Go.RowKit

set_option maxRecDepth 20000 in
set_option maxHeartbeats 8000000 in
theorem dinstr_any {w : World} {vP vC vF vB : Value} {c : Cd} (h : Cv w vP vC vF vB c) (hs : Sml c) (x : In5) (hx : InX x) :
    Calls Tryd.prog 21 #[codeA vP vC vF vB c, .agg #[.int .i64 x.op, .int .i64 x.a, .int .i64 x.b, .int .u64 x.bits, .int .i64 x.at_]] w (Vb w (.bool (insB c x))) := by
  by_cases ha0 : 0 ≤ x.at_
  · by_cases ha1 : x.at_ ≤ 8192
    · have := rinstr_ok h hs x hx ha0 ha1
      rw [insB_X, decide_eq_true ha0, decide_eq_true ha1]
      exact this
    · have d0 : decide (x.at_ < 0) = false := decide_eq_false (by omega)
      have d1 : decide (8192 < x.at_) = true := decide_eq_true (by omega)
      rw [show insB c x = false by rw [insB_X, decide_eq_false ha1]; simp]
      obtain ⟨aP, cP, aC, cC, aF, cF, aB, cB, eP, eC, eF, eB⟩ := h.form
      subst eP eC eF eB
      have b1 := bel_new w (.cells #[.slice aP c.P.length cP, .int .i64 c.M, .int .i64 c.A, .slice aC c.C.length cC, .slice aF c.F.length cF, .int .i64 c.mn, .slice aB c.B.length cB] 27)
      have b2 := bel_new (w.alloc (.cells #[.slice aP c.P.length cP, .int .i64 c.M, .int .i64 c.A, .slice aC c.C.length cC, .slice aF c.F.length cF, .int .i64 c.mn, .slice aB c.B.length cB] 27)) (.cells #[.int .i64 x.op, .int .i64 x.a, .int .i64 x.b, .int .u64 x.bits, .int .i64 x.at_] 50)
      have B0 := hide (bel_trans b1 b2)
      clear b1 b2 h hs hx
      unfold codeA
      go_enter Tryd.func21, Tryd.ntmps21
      go_wp2_with fail
      go_ret
      exact ⟨rfl, B0.out⟩
  · have d0 : decide (x.at_ < 0) = true := decide_eq_true (by omega)
    rw [show insB c x = false by rw [insB_X, decide_eq_false ha0]; rfl]
    obtain ⟨aP, cP, aC, cC, aF, cF, aB, cB, eP, eC, eF, eB⟩ := h.form
    subst eP eC eF eB
    have b1 := bel_new w (.cells #[.slice aP c.P.length cP, .int .i64 c.M, .int .i64 c.A, .slice aC c.C.length cC, .slice aF c.F.length cF, .int .i64 c.mn, .slice aB c.B.length cB] 27)
    have b2 := bel_new (w.alloc (.cells #[.slice aP c.P.length cP, .int .i64 c.M, .int .i64 c.A, .slice aC c.C.length cC, .slice aF c.F.length cF, .int .i64 c.mn, .slice aB c.B.length cB] 27)) (.cells #[.int .i64 x.op, .int .i64 x.a, .int .i64 x.b, .int .u64 x.bits, .int .i64 x.at_] 50)
    have B0 := hide (bel_trans b1 b2)
    clear b1 b2 h hs hx
    unfold codeA
    go_enter Tryd.func21, Tryd.ntmps21
    go_wp2_with fail
    go_ret
    exact ⟨rfl, B0.out⟩
end Go.Proofs.YtigfjjolfeenaaaDoor.Ck
