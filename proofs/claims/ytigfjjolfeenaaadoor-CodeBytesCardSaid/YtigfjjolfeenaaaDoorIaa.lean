/- The document: which instructions are in form: some of them. (Written by mk_f.py.) -/
import Derived.Test.YtigfjjolfeenaaaDoorIa
namespace Go.Proofs.YtigfjjolfeenaaaDoor.Ck
open Go.RowKit

set_option maxRecDepth 20000 in
set_option maxHeartbeats 8000000 in
theorem insX_Iaa {w : World} {vP vC vF vB : Value} {c : Cd} (h : Cv w vP vC vF vB c) (hs : Sml c) (x : In5) (hx : InX x) (ho : x.op = 1 ∨ x.op = 2 ∨ x.op = 3 ∨ x.op = 4 ∨ x.op = 5 ∨ x.op = 6 ∨ x.op = 7) (ha0 : 0 ≤ x.at_) (ha1 : x.at_ ≤ 8192) :
    Calls Tryd.prog 21 #[codeA vP vC vF vB c, .agg #[.int .i64 x.op, .int .i64 x.a, .int .i64 x.b, .int .u64 x.bits, .int .i64 x.at_]] w (Vb w (.bool (insX c x))) := by
  obtain ⟨aP, cP, aC, cC, aF, cF, aB, cB, eP, eC, eF, eB⟩ := h.form
  subst eP eC eF eB
  have V0 := hide h
  have HX := hide hx
  have HSm := hide hs
  have b0 := bel_new w (.cells #[.slice aP c.P.length cP, .int .i64 c.M, .int .i64 c.A, .slice aC c.C.length cC, .slice aF c.F.length cF, .int .i64 c.mn, .slice aB c.B.length cB] 27)
  have b1 := bel_new (w.alloc (.cells #[.slice aP c.P.length cP, .int .i64 c.M, .int .i64 c.A, .slice aC c.C.length cC, .slice aF c.F.length cF, .int .i64 c.mn, .slice aB c.B.length cB] 27)) (.cells #[.int .i64 x.op, .int .i64 x.a, .int .i64 x.b, .int .u64 x.bits, .int .i64 x.at_] 50)
  have hz : (w.alloc (.cells #[.slice aP c.P.length cP, .int .i64 c.M, .int .i64 c.A, .slice aC c.C.length cC, .slice aF c.F.length cF, .int .i64 c.mn, .slice aB c.B.length cB] 27)).heap.size = w.heap.size + 1 := by simp
  have X0 := hide (And.intro ((b1.block _ (by rw [hz]; omega)).trans (show (w.alloc (.cells #[.slice aP c.P.length cP, .int .i64 c.M, .int .i64 c.A, .slice aC c.C.length cC, .slice aF c.F.length cF, .int .i64 c.mn, .slice aB c.B.length cB] 27)).heap[w.heap.size]? = some (.cells #[.slice aP c.P.length cP, .int .i64 c.M, .int .i64 c.A, .slice aC c.C.length cC, .slice aF c.F.length cF, .int .i64 c.mn, .slice aB c.B.length cB] 27 (0, 0)) from Go.Deep.blk_alloc_new _ _)) (And.intro (show ((w.alloc (.cells #[.slice aP c.P.length cP, .int .i64 c.M, .int .i64 c.A, .slice aC c.C.length cC, .slice aF c.F.length cF, .int .i64 c.mn, .slice aB c.B.length cB] 27)).alloc (.cells #[.int .i64 x.op, .int .i64 x.a, .int .i64 x.b, .int .u64 x.bits, .int .i64 x.at_] 50)).heap[w.heap.size + 1]? = some (.cells #[.int .i64 x.op, .int .i64 x.a, .int .i64 x.b, .int .u64 x.bits, .int .i64 x.at_] 50 (0, 0)) by rw [← hz]; exact Go.Deep.blk_alloc_new _ _) (bel_trans b0 b1)))
  have dA : decide (x.at_ < 0) = false := decide_eq_false (by omega)
  have dB : decide (8192 < x.at_) = false := decide_eq_false (by omega)
  obtain ⟨res, hres⟩ : ∃ res, res = insX c x := ⟨_, rfl⟩
  rw [← hres]
  have HR := hide hres
  clear h hx hs b0 b1 hz hres ha0 ha1
  unfold codeA
  go_enter Tryd.func21, Tryd.ntmps21
  go_upto_block 0 with fail
  generalize (w.alloc (.cells #[.slice aP c.P.length cP, .int .i64 c.M, .int .i64 c.A, .slice aC c.C.length cC, .slice aF c.F.length cF, .int .i64 c.mn, .slice aB c.B.length cB] 27)).alloc (.cells #[.int .i64 x.op, .int .i64 x.a, .int .i64 x.b, .int .u64 x.bits, .int .i64 x.at_] 50) = w0 at *
  have g0 : w0.cell? ⟨w.heap.size + 1, 0, none⟩ = some (.int .i64 x.op) := blk_cell X0.out.2.1 0 _ rfl
  have g1 : w0.cell? ⟨w.heap.size + 1, 1, none⟩ = some (.int .i64 x.a) := blk_cell X0.out.2.1 1 _ rfl
  have g2 : w0.cell? ⟨w.heap.size + 1, 2, none⟩ = some (.int .i64 x.b) := blk_cell X0.out.2.1 2 _ rfl
  obtain ⟨k0, k1, k2, k3, k4, k5, k6⟩ := cells7 X0.out.1
  clear dA dB
  go_cut [5, 6, 7, 8] from 9 to 186 (fun xa xb xt xk wc => ∃ A B T K : Bool, xa = .bool A ∧ xb = .bool B ∧ xt = .bool T ∧ xk = .bool K ∧ Hid (res = (K && ((A || x.a == 0) && ((B || x.b == 0) && (T || x.bits == 0)))) ∧ wc.heap[w.heap.size]? = some (.cells #[.slice aP c.P.length cP, .int .i64 c.M, .int .i64 c.A, .slice aC c.C.length cC, .slice aF c.F.length cF, .int .i64 c.mn, .slice aB c.B.length cB] 27 (0, 0)) ∧ wc.heap[w.heap.size + 1]? = some (.cells #[.int .i64 x.op, .int .i64 x.a, .int .i64 x.b, .int .u64 x.bits, .int .i64 x.at_] 50 (0, 0)) ∧ Below w.heap.size w wc))
  case first =>
    rcases ho with o1 | o2 | o3 | o4 | o5 | o6 | o7
    · rw [insX_at o1] at HR
      have t1 : (x.op == 1) = true := by rw [o1]; rfl
      clear o1
      go_wp2_with fail
      go_meet
      case rel => exact ⟨_, _, _, _, rfl, rfl, rfl, rfl, hide ⟨by rw [HR.out]; simp [insX], X0.out⟩⟩
    · rw [insX_at o2] at HR
      have n1 : (x.op == 1) = false := by rw [o2]; rfl
      have t2 : (x.op == 2) = true := by rw [o2]; rfl
      clear o2
      go_wp2_with fail
      go_meet
      case rel => exact ⟨_, _, _, _, rfl, rfl, rfl, rfl, hide ⟨by rw [HR.out]; simp [insX], X0.out⟩⟩
    · rw [insX_at o3] at HR
      have n1 : (x.op == 1) = false := by rw [o3]; rfl
      have n2 : (x.op == 2) = false := by rw [o3]; rfl
      have t3 : (x.op == 3) = true := by rw [o3]; rfl
      clear o3
      go_wp2_with fail
      refine (rin_any _ _ _).mono ?_
      rintro e w5 ⟨rfl, rfl⟩
      go_wp2_with fail
      go_meet
      case rel => exact ⟨_, _, _, _, rfl, rfl, rfl, rfl, hide ⟨by rw [HR.out]; simp [insX, inI], X0.out⟩⟩
    · rw [insX_at o4] at HR
      have n1 : (x.op == 1) = false := by rw [o4]; rfl
      have n2 : (x.op == 2) = false := by rw [o4]; rfl
      have n3 : (x.op == 3) = false := by rw [o4]; rfl
      have t4 : (x.op == 4) = true := by rw [o4]; rfl
      clear o4
      go_wp2_with fail
      refine (rin_any _ _ _).mono ?_
      rintro e w5 ⟨rfl, rfl⟩
      go_wp2_with fail
      go_meet
      case rel => exact ⟨_, _, _, _, rfl, rfl, rfl, rfl, hide ⟨by rw [HR.out]; simp [insX, inI], X0.out⟩⟩
    · rw [insX_at o5] at HR
      have n1 : (x.op == 1) = false := by rw [o5]; rfl
      have n2 : (x.op == 2) = false := by rw [o5]; rfl
      have n3 : (x.op == 3) = false := by rw [o5]; rfl
      have n4 : (x.op == 4) = false := by rw [o5]; rfl
      have t5 : (x.op == 5) = true := by rw [o5]; rfl
      clear o5
      go_wp2_with fail
      refine (rin_any _ _ _).mono ?_
      rintro e w5 ⟨rfl, rfl⟩
      go_wp2_with fail
      go_meet
      case rel => exact ⟨_, _, _, _, rfl, rfl, rfl, rfl, hide ⟨by rw [HR.out]; simp [insX, inI], X0.out⟩⟩
    · rw [insX_at o6] at HR
      have n1 : (x.op == 1) = false := by rw [o6]; rfl
      have n2 : (x.op == 2) = false := by rw [o6]; rfl
      have n3 : (x.op == 3) = false := by rw [o6]; rfl
      have n4 : (x.op == 4) = false := by rw [o6]; rfl
      have n5 : (x.op == 5) = false := by rw [o6]; rfl
      have t6 : (x.op == 6) = true := by rw [o6]; rfl
      clear o6
      go_wp2_with fail
      refine (rin_any _ _ _).mono ?_
      rintro e w5 ⟨rfl, rfl⟩
      go_wp2_with fail
      go_meet
      case rel => exact ⟨_, _, _, _, rfl, rfl, rfl, rfl, hide ⟨by rw [HR.out]; simp [insX, inN, inI], X0.out⟩⟩
    · rw [insX_at o7] at HR
      have n1 : (x.op == 1) = false := by rw [o7]; rfl
      have n2 : (x.op == 2) = false := by rw [o7]; rfl
      have n3 : (x.op == 3) = false := by rw [o7]; rfl
      have n4 : (x.op == 4) = false := by rw [o7]; rfl
      have n5 : (x.op == 5) = false := by rw [o7]; rfl
      have n6 : (x.op == 6) = false := by rw [o7]; rfl
      have t7 : (x.op == 7) = true := by rw [o7]; rfl
      clear o7
      go_wp2_with fail
      refine (rin_any _ _ _).mono ?_
      rintro e w5 ⟨rfl, rfl⟩
      go_wp2_with fail
      go_meet
      case rel => exact ⟨_, _, _, _, rfl, rfl, rfl, rfl, hide ⟨by rw [HR.out]; simp [insX, inN, inI], X0.out⟩⟩
  case rest =>
    obtain ⟨A, B, T, K, rfl, rfl, rfl, rfl, X⟩ := hcut
    clear g0 g1 g2 k0 k1 k2 k3 k4 k5 k6 X0 HR
    have g1 : wc.cell? ⟨w.heap.size + 1, 1, none⟩ = some (.int .i64 x.a) := blk_cell X.out.2.2.1 1 _ rfl
    have g2 : wc.cell? ⟨w.heap.size + 1, 2, none⟩ = some (.int .i64 x.b) := blk_cell X.out.2.2.1 2 _ rfl
    have g3 : wc.cell? ⟨w.heap.size + 1, 3, none⟩ = some (.int .u64 x.bits) := blk_cell X.out.2.2.1 3 _ rfl
    have BX := hide X.out.2.2.2
    have hr := X.out.1
    clear X V0
    obtain ⟨y1, hy1⟩ : ∃ y, (x.a == 0) = y := ⟨_, rfl⟩
    obtain ⟨y2, hy2⟩ : ∃ y, (x.b == 0) = y := ⟨_, rfl⟩
    obtain ⟨y3, hy3⟩ : ∃ y, (x.bits == 0) = y := ⟨_, rfl⟩
    rw [hy1, hy2, hy3] at hr
    cases K <;> cases A <;> cases B <;> cases T <;> cases y1 <;> cases y2 <;> (simp at hr; subst hr; go_wp2_with fail; go_ret; exact ⟨rfl, BX.out⟩)
end Go.Proofs.YtigfjjolfeenaaaDoor.Ck
