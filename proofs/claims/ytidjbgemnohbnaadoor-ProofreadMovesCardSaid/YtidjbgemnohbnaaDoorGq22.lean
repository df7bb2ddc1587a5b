/- Texts of this proof, packed. -/
import Derived.Test.YtidjbgemnohbnaaDoorGq20
/- The document: which instructions are in form: some of them. (Written by mk_f.py.) -/
namespace Go.Proofs.YtidjbgemnohbnaaDoor.Ck
open Go.RowKit

set_option maxRecDepth 20000 in
set_option maxHeartbeats 8000000 in
theorem insX_Iae {w : World} {vP vC vF vB : Value} {c : Cd} (h : Cv w vP vC vF vB c) (hs : Sml c) (x : In5) (hx : InX x) (ho : x.op = 17 ∨ x.op = 18 ∨ x.op = 19 ∨ x.op = 20 ∨ x.op = 21 ∨ x.op = 22 ∨ x.op = 23 ∨ x.op = 24 ∨ x.op = 25 ∨ x.op = 26) (ha0 : 0 ≤ x.at_) (ha1 : x.at_ ≤ 8192) :
    Calls Tryd.prog 21 #[codeA vP vC vF vB c, .agg #[.int .i64 x.op, .int .i64 x.a, .int .i64 x.b, .int .u64 x.bits, .int .i64 x.at_]] w (Vb w (.bool (insX c x))) := by
  obtain ⟨aP, cP, aC, cC, aF, cF, aB, cB, eP, eC, eF, eB⟩ := h.form
  subst eP eC eF eB
  have V0 := hide h
  have HX := hide hx
  have HSm := hide hs
  have b0 := bel_new w (.cells #[.slice aP c.P.length cP, .int .i64 c.M, .int .i64 c.A, .slice aC c.C.length cC, .slice aF c.F.length cF, .int .i64 c.mn, .slice aB c.B.length cB] 27)
  have b1 := bel_new (w.alloc (.cells #[.slice aP c.P.length cP, .int .i64 c.M, .int .i64 c.A, .slice aC c.C.length cC, .slice aF c.F.length cF, .int .i64 c.mn, .slice aB c.B.length cB] 27)) (.cells #[.int .i64 x.op, .int .i64 x.a, .int .i64 x.b, .int .u64 x.bits, .int .i64 x.at_] 44)
  have hz : (w.alloc (.cells #[.slice aP c.P.length cP, .int .i64 c.M, .int .i64 c.A, .slice aC c.C.length cC, .slice aF c.F.length cF, .int .i64 c.mn, .slice aB c.B.length cB] 27)).heap.size = w.heap.size + 1 := by simp
  have X0 := hide (And.intro ((b1.block _ (by rw [hz]; omega)).trans (show (w.alloc (.cells #[.slice aP c.P.length cP, .int .i64 c.M, .int .i64 c.A, .slice aC c.C.length cC, .slice aF c.F.length cF, .int .i64 c.mn, .slice aB c.B.length cB] 27)).heap[w.heap.size]? = some (.cells #[.slice aP c.P.length cP, .int .i64 c.M, .int .i64 c.A, .slice aC c.C.length cC, .slice aF c.F.length cF, .int .i64 c.mn, .slice aB c.B.length cB] 27 (0, 0)) from Go.Deep.blk_alloc_new _ _)) (And.intro (show ((w.alloc (.cells #[.slice aP c.P.length cP, .int .i64 c.M, .int .i64 c.A, .slice aC c.C.length cC, .slice aF c.F.length cF, .int .i64 c.mn, .slice aB c.B.length cB] 27)).alloc (.cells #[.int .i64 x.op, .int .i64 x.a, .int .i64 x.b, .int .u64 x.bits, .int .i64 x.at_] 44)).heap[w.heap.size + 1]? = some (.cells #[.int .i64 x.op, .int .i64 x.a, .int .i64 x.b, .int .u64 x.bits, .int .i64 x.at_] 44 (0, 0)) by rw [← hz]; exact Go.Deep.blk_alloc_new _ _) (bel_trans b0 b1)))
  have dA : decide (x.at_ < 0) = false := decide_eq_false (by omega)
  have dB : decide (8192 < x.at_) = false := decide_eq_false (by omega)
  obtain ⟨res, hres⟩ : ∃ res, res = insX c x := ⟨_, rfl⟩
  rw [← hres]
  have HR := hide hres
  clear h hx hs b0 b1 hz hres ha0 ha1
  unfold codeA
  go_enter Tryd.func21, Tryd.ntmps21
  go_upto_block 0 with fail
  generalize (w.alloc (.cells #[.slice aP c.P.length cP, .int .i64 c.M, .int .i64 c.A, .slice aC c.C.length cC, .slice aF c.F.length cF, .int .i64 c.mn, .slice aB c.B.length cB] 27)).alloc (.cells #[.int .i64 x.op, .int .i64 x.a, .int .i64 x.b, .int .u64 x.bits, .int .i64 x.at_] 44) = w0 at *
  have g0 : w0.cell? ⟨w.heap.size + 1, 0, none⟩ = some (.int .i64 x.op) := blk_cell X0.out.2.1 0 _ rfl
  have g1 : w0.cell? ⟨w.heap.size + 1, 1, none⟩ = some (.int .i64 x.a) := blk_cell X0.out.2.1 1 _ rfl
  have g2 : w0.cell? ⟨w.heap.size + 1, 2, none⟩ = some (.int .i64 x.b) := blk_cell X0.out.2.1 2 _ rfl
  obtain ⟨k0, k1, k2, k3, k4, k5, k6⟩ := cells7 X0.out.1
  clear dA dB
  go_cut [5, 6, 7, 8] from 9 to 186 (fun xa xb xt xk wc => ∃ A B T K : Bool, xa = .bool A ∧ xb = .bool B ∧ xt = .bool T ∧ xk = .bool K ∧ Hid (res = (K && ((A || x.a == 0) && ((B || x.b == 0) && (T || x.bits == 0)))) ∧ wc.heap[w.heap.size]? = some (.cells #[.slice aP c.P.length cP, .int .i64 c.M, .int .i64 c.A, .slice aC c.C.length cC, .slice aF c.F.length cF, .int .i64 c.mn, .slice aB c.B.length cB] 27 (0, 0)) ∧ wc.heap[w.heap.size + 1]? = some (.cells #[.int .i64 x.op, .int .i64 x.a, .int .i64 x.b, .int .u64 x.bits, .int .i64 x.at_] 44 (0, 0)) ∧ Below w.heap.size w wc))
  case first =>
    rcases ho with o17 | o18 | o19 | o20 | o21 | o22 | o23 | o24 | o25 | o26
    · rw [insX_at o17] at HR
      have n1 : (x.op == 1) = false := by rw [o17]; rfl
      have n2 : (x.op == 2) = false := by rw [o17]; rfl
      have n3 : (x.op == 3) = false := by rw [o17]; rfl
      have n4 : (x.op == 4) = false := by rw [o17]; rfl
      have n5 : (x.op == 5) = false := by rw [o17]; rfl
      have n6 : (x.op == 6) = false := by rw [o17]; rfl
      have n7 : (x.op == 7) = false := by rw [o17]; rfl
      have n8 : (x.op == 8) = false := by rw [o17]; rfl
      have n9 : (x.op == 9) = false := by rw [o17]; rfl
      have n10 : (x.op == 10) = false := by rw [o17]; rfl
      have n11 : (x.op == 11) = false := by rw [o17]; rfl
      have n12 : (x.op == 12) = false := by rw [o17]; rfl
      have n13 : (x.op == 13) = false := by rw [o17]; rfl
      have n14 : (x.op == 14) = false := by rw [o17]; rfl
      have n15 : (x.op == 15) = false := by rw [o17]; rfl
      have n16 : (x.op == 16) = false := by rw [o17]; rfl
      have t17 : (x.op == 17) = true := by rw [o17]; rfl
      clear o17
      go_wp2_with fail
      refine (rin_any _ _ _).mono ?_
      rintro e w5 ⟨rfl, rfl⟩
      go_wp2_with fail
      go_meet
      case rel => exact ⟨_, _, _, _, rfl, rfl, rfl, rfl, hide ⟨by rw [HR.out]; simp [insX, inN, inI], X0.out⟩⟩
    · rw [insX_at o18] at HR
      have n1 : (x.op == 1) = false := by rw [o18]; rfl
      have n2 : (x.op == 2) = false := by rw [o18]; rfl
      have n3 : (x.op == 3) = false := by rw [o18]; rfl
      have n4 : (x.op == 4) = false := by rw [o18]; rfl
      have n5 : (x.op == 5) = false := by rw [o18]; rfl
      have n6 : (x.op == 6) = false := by rw [o18]; rfl
      have n7 : (x.op == 7) = false := by rw [o18]; rfl
      have n8 : (x.op == 8) = false := by rw [o18]; rfl
      have n9 : (x.op == 9) = false := by rw [o18]; rfl
      have n10 : (x.op == 10) = false := by rw [o18]; rfl
      have n11 : (x.op == 11) = false := by rw [o18]; rfl
      have n12 : (x.op == 12) = false := by rw [o18]; rfl
      have n13 : (x.op == 13) = false := by rw [o18]; rfl
      have n14 : (x.op == 14) = false := by rw [o18]; rfl
      have n15 : (x.op == 15) = false := by rw [o18]; rfl
      have n16 : (x.op == 16) = false := by rw [o18]; rfl
      have n17 : (x.op == 17) = false := by rw [o18]; rfl
      have t18 : (x.op == 18) = true := by rw [o18]; rfl
      clear o18
      go_wp2_with fail
      refine (rin_any _ _ _).mono ?_
      rintro e w5 ⟨rfl, rfl⟩
      go_wp2_with fail
      go_meet
      case rel => exact ⟨_, _, _, _, rfl, rfl, rfl, rfl, hide ⟨by rw [HR.out]; simp [insX, inN, inI], X0.out⟩⟩
    · rw [insX_at o19] at HR
      have n1 : (x.op == 1) = false := by rw [o19]; rfl
      have n2 : (x.op == 2) = false := by rw [o19]; rfl
      have n3 : (x.op == 3) = false := by rw [o19]; rfl
      have n4 : (x.op == 4) = false := by rw [o19]; rfl
      have n5 : (x.op == 5) = false := by rw [o19]; rfl
      have n6 : (x.op == 6) = false := by rw [o19]; rfl
      have n7 : (x.op == 7) = false := by rw [o19]; rfl
      have n8 : (x.op == 8) = false := by rw [o19]; rfl
      have n9 : (x.op == 9) = false := by rw [o19]; rfl
      have n10 : (x.op == 10) = false := by rw [o19]; rfl
      have n11 : (x.op == 11) = false := by rw [o19]; rfl
      have n12 : (x.op == 12) = false := by rw [o19]; rfl
      have n13 : (x.op == 13) = false := by rw [o19]; rfl
      have n14 : (x.op == 14) = false := by rw [o19]; rfl
      have n15 : (x.op == 15) = false := by rw [o19]; rfl
      have n16 : (x.op == 16) = false := by rw [o19]; rfl
      have n17 : (x.op == 17) = false := by rw [o19]; rfl
      have n18 : (x.op == 18) = false := by rw [o19]; rfl
      have t19 : (x.op == 19) = true := by rw [o19]; rfl
      clear o19
      go_wp2_with fail
      refine (rin_any _ _ _).mono ?_
      rintro e w5 ⟨rfl, rfl⟩
      go_wp2_with fail
      go_meet
      case rel => exact ⟨_, _, _, _, rfl, rfl, rfl, rfl, hide ⟨by rw [HR.out]; simp [insX, inI], X0.out⟩⟩
    · rw [insX_at o20] at HR
      have n1 : (x.op == 1) = false := by rw [o20]; rfl
      have n2 : (x.op == 2) = false := by rw [o20]; rfl
      have n3 : (x.op == 3) = false := by rw [o20]; rfl
      have n4 : (x.op == 4) = false := by rw [o20]; rfl
      have n5 : (x.op == 5) = false := by rw [o20]; rfl
      have n6 : (x.op == 6) = false := by rw [o20]; rfl
      have n7 : (x.op == 7) = false := by rw [o20]; rfl
      have n8 : (x.op == 8) = false := by rw [o20]; rfl
      have n9 : (x.op == 9) = false := by rw [o20]; rfl
      have n10 : (x.op == 10) = false := by rw [o20]; rfl
      have n11 : (x.op == 11) = false := by rw [o20]; rfl
      have n12 : (x.op == 12) = false := by rw [o20]; rfl
      have n13 : (x.op == 13) = false := by rw [o20]; rfl
      have n14 : (x.op == 14) = false := by rw [o20]; rfl
      have n15 : (x.op == 15) = false := by rw [o20]; rfl
      have n16 : (x.op == 16) = false := by rw [o20]; rfl
      have n17 : (x.op == 17) = false := by rw [o20]; rfl
      have n18 : (x.op == 18) = false := by rw [o20]; rfl
      have n19 : (x.op == 19) = false := by rw [o20]; rfl
      have t20 : (x.op == 20) = true := by rw [o20]; rfl
      clear o20
      go_wp2_with fail
      refine (rin_any _ _ _).mono ?_
      rintro e w5 ⟨rfl, rfl⟩
      go_wp2_with fail
      go_meet
      case rel => exact ⟨_, _, _, _, rfl, rfl, rfl, rfl, hide ⟨by rw [HR.out]; simp [insX, inI], X0.out⟩⟩
    · rw [insX_at o21] at HR
      have n1 : (x.op == 1) = false := by rw [o21]; rfl
      have n2 : (x.op == 2) = false := by rw [o21]; rfl
      have n3 : (x.op == 3) = false := by rw [o21]; rfl
      have n4 : (x.op == 4) = false := by rw [o21]; rfl
      have n5 : (x.op == 5) = false := by rw [o21]; rfl
      have n6 : (x.op == 6) = false := by rw [o21]; rfl
      have n7 : (x.op == 7) = false := by rw [o21]; rfl
      have n8 : (x.op == 8) = false := by rw [o21]; rfl
      have n9 : (x.op == 9) = false := by rw [o21]; rfl
      have n10 : (x.op == 10) = false := by rw [o21]; rfl
      have n11 : (x.op == 11) = false := by rw [o21]; rfl
      have n12 : (x.op == 12) = false := by rw [o21]; rfl
      have n13 : (x.op == 13) = false := by rw [o21]; rfl
      have n14 : (x.op == 14) = false := by rw [o21]; rfl
      have n15 : (x.op == 15) = false := by rw [o21]; rfl
      have n16 : (x.op == 16) = false := by rw [o21]; rfl
      have n17 : (x.op == 17) = false := by rw [o21]; rfl
      have n18 : (x.op == 18) = false := by rw [o21]; rfl
      have n19 : (x.op == 19) = false := by rw [o21]; rfl
      have n20 : (x.op == 20) = false := by rw [o21]; rfl
      have t21 : (x.op == 21) = true := by rw [o21]; rfl
      clear o21
      go_wp2_with fail
      refine (rin_any _ _ _).mono ?_
      rintro e w5 ⟨rfl, rfl⟩
      go_wp2_with fail
      go_meet
      case rel => exact ⟨_, _, _, _, rfl, rfl, rfl, rfl, hide ⟨by rw [HR.out]; simp [insX, inI], X0.out⟩⟩
    · rw [insX_at o22] at HR
      have n1 : (x.op == 1) = false := by rw [o22]; rfl
      have n2 : (x.op == 2) = false := by rw [o22]; rfl
      have n3 : (x.op == 3) = false := by rw [o22]; rfl
      have n4 : (x.op == 4) = false := by rw [o22]; rfl
      have n5 : (x.op == 5) = false := by rw [o22]; rfl
      have n6 : (x.op == 6) = false := by rw [o22]; rfl
      have n7 : (x.op == 7) = false := by rw [o22]; rfl
      have n8 : (x.op == 8) = false := by rw [o22]; rfl
      have n9 : (x.op == 9) = false := by rw [o22]; rfl
      have n10 : (x.op == 10) = false := by rw [o22]; rfl
      have n11 : (x.op == 11) = false := by rw [o22]; rfl
      have n12 : (x.op == 12) = false := by rw [o22]; rfl
      have n13 : (x.op == 13) = false := by rw [o22]; rfl
      have n14 : (x.op == 14) = false := by rw [o22]; rfl
      have n15 : (x.op == 15) = false := by rw [o22]; rfl
      have n16 : (x.op == 16) = false := by rw [o22]; rfl
      have n17 : (x.op == 17) = false := by rw [o22]; rfl
      have n18 : (x.op == 18) = false := by rw [o22]; rfl
      have n19 : (x.op == 19) = false := by rw [o22]; rfl
      have n20 : (x.op == 20) = false := by rw [o22]; rfl
      have n21 : (x.op == 21) = false := by rw [o22]; rfl
      have t22 : (x.op == 22) = true := by rw [o22]; rfl
      clear o22
      go_wp2_with fail
      refine (rin_any _ _ _).mono ?_
      rintro e w5 ⟨rfl, rfl⟩
      go_wp2_with fail
      go_meet
      case rel => exact ⟨_, _, _, _, rfl, rfl, rfl, rfl, hide ⟨by rw [HR.out]; simp [insX, inN, inI], X0.out⟩⟩
    · rw [insX_at o23] at HR
      have n1 : (x.op == 1) = false := by rw [o23]; rfl
      have n2 : (x.op == 2) = false := by rw [o23]; rfl
      have n3 : (x.op == 3) = false := by rw [o23]; rfl
      have n4 : (x.op == 4) = false := by rw [o23]; rfl
      have n5 : (x.op == 5) = false := by rw [o23]; rfl
      have n6 : (x.op == 6) = false := by rw [o23]; rfl
      have n7 : (x.op == 7) = false := by rw [o23]; rfl
      have n8 : (x.op == 8) = false := by rw [o23]; rfl
      have n9 : (x.op == 9) = false := by rw [o23]; rfl
      have n10 : (x.op == 10) = false := by rw [o23]; rfl
      have n11 : (x.op == 11) = false := by rw [o23]; rfl
      have n12 : (x.op == 12) = false := by rw [o23]; rfl
      have n13 : (x.op == 13) = false := by rw [o23]; rfl
      have n14 : (x.op == 14) = false := by rw [o23]; rfl
      have n15 : (x.op == 15) = false := by rw [o23]; rfl
      have n16 : (x.op == 16) = false := by rw [o23]; rfl
      have n17 : (x.op == 17) = false := by rw [o23]; rfl
      have n18 : (x.op == 18) = false := by rw [o23]; rfl
      have n19 : (x.op == 19) = false := by rw [o23]; rfl
      have n20 : (x.op == 20) = false := by rw [o23]; rfl
      have n21 : (x.op == 21) = false := by rw [o23]; rfl
      have n22 : (x.op == 22) = false := by rw [o23]; rfl
      have t23 : (x.op == 23) = true := by rw [o23]; rfl
      clear o23
      go_wp2_with fail
      refine (rin_any _ _ _).mono ?_
      rintro e w5 ⟨rfl, rfl⟩
      go_wp2_with fail
      go_meet
      case rel => exact ⟨_, _, _, _, rfl, rfl, rfl, rfl, hide ⟨by rw [HR.out]; simp [insX, inN, inI], X0.out⟩⟩
    · rw [insX_at o24] at HR
      have n1 : (x.op == 1) = false := by rw [o24]; rfl
      have n2 : (x.op == 2) = false := by rw [o24]; rfl
      have n3 : (x.op == 3) = false := by rw [o24]; rfl
      have n4 : (x.op == 4) = false := by rw [o24]; rfl
      have n5 : (x.op == 5) = false := by rw [o24]; rfl
      have n6 : (x.op == 6) = false := by rw [o24]; rfl
      have n7 : (x.op == 7) = false := by rw [o24]; rfl
      have n8 : (x.op == 8) = false := by rw [o24]; rfl
      have n9 : (x.op == 9) = false := by rw [o24]; rfl
      have n10 : (x.op == 10) = false := by rw [o24]; rfl
      have n11 : (x.op == 11) = false := by rw [o24]; rfl
      have n12 : (x.op == 12) = false := by rw [o24]; rfl
      have n13 : (x.op == 13) = false := by rw [o24]; rfl
      have n14 : (x.op == 14) = false := by rw [o24]; rfl
      have n15 : (x.op == 15) = false := by rw [o24]; rfl
      have n16 : (x.op == 16) = false := by rw [o24]; rfl
      have n17 : (x.op == 17) = false := by rw [o24]; rfl
      have n18 : (x.op == 18) = false := by rw [o24]; rfl
      have n19 : (x.op == 19) = false := by rw [o24]; rfl
      have n20 : (x.op == 20) = false := by rw [o24]; rfl
      have n21 : (x.op == 21) = false := by rw [o24]; rfl
      have n22 : (x.op == 22) = false := by rw [o24]; rfl
      have n23 : (x.op == 23) = false := by rw [o24]; rfl
      have t24 : (x.op == 24) = true := by rw [o24]; rfl
      clear o24
      go_wp2_with fail
      go_meet
      case rel => exact ⟨_, _, _, _, rfl, rfl, rfl, rfl, hide ⟨by rw [HR.out]; simp [insX], X0.out⟩⟩
    · rw [insX_at o25] at HR
      have n1 : (x.op == 1) = false := by rw [o25]; rfl
      have n2 : (x.op == 2) = false := by rw [o25]; rfl
      have n3 : (x.op == 3) = false := by rw [o25]; rfl
      have n4 : (x.op == 4) = false := by rw [o25]; rfl
      have n5 : (x.op == 5) = false := by rw [o25]; rfl
      have n6 : (x.op == 6) = false := by rw [o25]; rfl
      have n7 : (x.op == 7) = false := by rw [o25]; rfl
      have n8 : (x.op == 8) = false := by rw [o25]; rfl
      have n9 : (x.op == 9) = false := by rw [o25]; rfl
      have n10 : (x.op == 10) = false := by rw [o25]; rfl
      have n11 : (x.op == 11) = false := by rw [o25]; rfl
      have n12 : (x.op == 12) = false := by rw [o25]; rfl
      have n13 : (x.op == 13) = false := by rw [o25]; rfl
      have n14 : (x.op == 14) = false := by rw [o25]; rfl
      have n15 : (x.op == 15) = false := by rw [o25]; rfl
      have n16 : (x.op == 16) = false := by rw [o25]; rfl
      have n17 : (x.op == 17) = false := by rw [o25]; rfl
      have n18 : (x.op == 18) = false := by rw [o25]; rfl
      have n19 : (x.op == 19) = false := by rw [o25]; rfl
      have n20 : (x.op == 20) = false := by rw [o25]; rfl
      have n21 : (x.op == 21) = false := by rw [o25]; rfl
      have n22 : (x.op == 22) = false := by rw [o25]; rfl
      have n23 : (x.op == 23) = false := by rw [o25]; rfl
      have n24 : (x.op == 24) = false := by rw [o25]; rfl
      have t25 : (x.op == 25) = true := by rw [o25]; rfl
      clear o25
      go_wp2_with fail
      go_meet
      case rel => exact ⟨_, _, _, _, rfl, rfl, rfl, rfl, hide ⟨by rw [HR.out]; simp [insX], X0.out⟩⟩
    · rw [insX_at o26] at HR
      have n1 : (x.op == 1) = false := by rw [o26]; rfl
      have n2 : (x.op == 2) = false := by rw [o26]; rfl
      have n3 : (x.op == 3) = false := by rw [o26]; rfl
      have n4 : (x.op == 4) = false := by rw [o26]; rfl
      have n5 : (x.op == 5) = false := by rw [o26]; rfl
      have n6 : (x.op == 6) = false := by rw [o26]; rfl
      have n7 : (x.op == 7) = false := by rw [o26]; rfl
      have n8 : (x.op == 8) = false := by rw [o26]; rfl
      have n9 : (x.op == 9) = false := by rw [o26]; rfl
      have n10 : (x.op == 10) = false := by rw [o26]; rfl
      have n11 : (x.op == 11) = false := by rw [o26]; rfl
      have n12 : (x.op == 12) = false := by rw [o26]; rfl
      have n13 : (x.op == 13) = false := by rw [o26]; rfl
      have n14 : (x.op == 14) = false := by rw [o26]; rfl
      have n15 : (x.op == 15) = false := by rw [o26]; rfl
      have n16 : (x.op == 16) = false := by rw [o26]; rfl
      have n17 : (x.op == 17) = false := by rw [o26]; rfl
      have n18 : (x.op == 18) = false := by rw [o26]; rfl
      have n19 : (x.op == 19) = false := by rw [o26]; rfl
      have n20 : (x.op == 20) = false := by rw [o26]; rfl
      have n21 : (x.op == 21) = false := by rw [o26]; rfl
      have n22 : (x.op == 22) = false := by rw [o26]; rfl
      have n23 : (x.op == 23) = false := by rw [o26]; rfl
      have n24 : (x.op == 24) = false := by rw [o26]; rfl
      have n25 : (x.op == 25) = false := by rw [o26]; rfl
      have t26 : (x.op == 26) = true := by rw [o26]; rfl
      clear o26
      go_wp2_with fail
      go_meet
      case rel => exact ⟨_, _, _, _, rfl, rfl, rfl, rfl, hide ⟨by rw [HR.out]; simp [insX], X0.out⟩⟩
  case rest =>
    obtain ⟨A, B, T, K, rfl, rfl, rfl, rfl, X⟩ := hcut
    clear g0 g1 g2 k0 k1 k2 k3 k4 k5 k6 X0 HR
    have g1 : wc.cell? ⟨w.heap.size + 1, 1, none⟩ = some (.int .i64 x.a) := blk_cell X.out.2.2.1 1 _ rfl
    have g2 : wc.cell? ⟨w.heap.size + 1, 2, none⟩ = some (.int .i64 x.b) := blk_cell X.out.2.2.1 2 _ rfl
    have g3 : wc.cell? ⟨w.heap.size + 1, 3, none⟩ = some (.int .u64 x.bits) := blk_cell X.out.2.2.1 3 _ rfl
    have BX := hide X.out.2.2.2
    have hr := X.out.1
    clear X V0
    obtain ⟨y1, hy1⟩ : ∃ y, (x.a == 0) = y := ⟨_, rfl⟩
    obtain ⟨y2, hy2⟩ : ∃ y, (x.b == 0) = y := ⟨_, rfl⟩
    obtain ⟨y3, hy3⟩ : ∃ y, (x.bits == 0) = y := ⟨_, rfl⟩
    rw [hy1, hy2, hy3] at hr
    cases K <;> cases A <;> cases B <;> cases T <;> cases y1 <;> cases y2 <;> (simp at hr; subst hr; go_wp2_with fail; go_ret; exact ⟨rfl, BX.out⟩)
end Go.Proofs.YtidjbgemnohbnaaDoor.Ck

/- The document: which instructions are in form: some of them. (Written by mk_f.py.) -/
namespace Go.Proofs.YtidjbgemnohbnaaDoor.Ck
open Go.RowKit

set_option maxRecDepth 20000 in
set_option maxHeartbeats 8000000 in
theorem insX_Iaf {w : World} {vP vC vF vB : Value} {c : Cd} (h : Cv w vP vC vF vB c) (hs : Sml c) (x : In5) (hx : InX x) (ho : x.op ≠ 1 ∧ x.op ≠ 2 ∧ x.op ≠ 3 ∧ x.op ≠ 4 ∧ x.op ≠ 5 ∧ x.op ≠ 6 ∧ x.op ≠ 7 ∧ x.op ≠ 8 ∧ x.op ≠ 9 ∧ x.op ≠ 10 ∧ x.op ≠ 11 ∧ x.op ≠ 12 ∧ x.op ≠ 13 ∧ x.op ≠ 14 ∧ x.op ≠ 15 ∧ x.op ≠ 16 ∧ x.op ≠ 17 ∧ x.op ≠ 18 ∧ x.op ≠ 19 ∧ x.op ≠ 20 ∧ x.op ≠ 21 ∧ x.op ≠ 22 ∧ x.op ≠ 23 ∧ x.op ≠ 24 ∧ x.op ≠ 25 ∧ x.op ≠ 26) (ha0 : 0 ≤ x.at_) (ha1 : x.at_ ≤ 8192) :
    Calls Tryd.prog 21 #[codeA vP vC vF vB c, .agg #[.int .i64 x.op, .int .i64 x.a, .int .i64 x.b, .int .u64 x.bits, .int .i64 x.at_]] w (Vb w (.bool (insX c x))) := by
  obtain ⟨aP, cP, aC, cC, aF, cF, aB, cB, eP, eC, eF, eB⟩ := h.form
  subst eP eC eF eB
  have V0 := hide h
  have HX := hide hx
  have HSm := hide hs
  have b0 := bel_new w (.cells #[.slice aP c.P.length cP, .int .i64 c.M, .int .i64 c.A, .slice aC c.C.length cC, .slice aF c.F.length cF, .int .i64 c.mn, .slice aB c.B.length cB] 27)
  have b1 := bel_new (w.alloc (.cells #[.slice aP c.P.length cP, .int .i64 c.M, .int .i64 c.A, .slice aC c.C.length cC, .slice aF c.F.length cF, .int .i64 c.mn, .slice aB c.B.length cB] 27)) (.cells #[.int .i64 x.op, .int .i64 x.a, .int .i64 x.b, .int .u64 x.bits, .int .i64 x.at_] 44)
  have hz : (w.alloc (.cells #[.slice aP c.P.length cP, .int .i64 c.M, .int .i64 c.A, .slice aC c.C.length cC, .slice aF c.F.length cF, .int .i64 c.mn, .slice aB c.B.length cB] 27)).heap.size = w.heap.size + 1 := by simp
  have X0 := hide (And.intro ((b1.block _ (by rw [hz]; omega)).trans (show (w.alloc (.cells #[.slice aP c.P.length cP, .int .i64 c.M, .int .i64 c.A, .slice aC c.C.length cC, .slice aF c.F.length cF, .int .i64 c.mn, .slice aB c.B.length cB] 27)).heap[w.heap.size]? = some (.cells #[.slice aP c.P.length cP, .int .i64 c.M, .int .i64 c.A, .slice aC c.C.length cC, .slice aF c.F.length cF, .int .i64 c.mn, .slice aB c.B.length cB] 27 (0, 0)) from Go.Deep.blk_alloc_new _ _)) (And.intro (show ((w.alloc (.cells #[.slice aP c.P.length cP, .int .i64 c.M, .int .i64 c.A, .slice aC c.C.length cC, .slice aF c.F.length cF, .int .i64 c.mn, .slice aB c.B.length cB] 27)).alloc (.cells #[.int .i64 x.op, .int .i64 x.a, .int .i64 x.b, .int .u64 x.bits, .int .i64 x.at_] 44)).heap[w.heap.size + 1]? = some (.cells #[.int .i64 x.op, .int .i64 x.a, .int .i64 x.b, .int .u64 x.bits, .int .i64 x.at_] 44 (0, 0)) by rw [← hz]; exact Go.Deep.blk_alloc_new _ _) (bel_trans b0 b1)))
  have dA : decide (x.at_ < 0) = false := decide_eq_false (by omega)
  have dB : decide (8192 < x.at_) = false := decide_eq_false (by omega)
  obtain ⟨res, hres⟩ : ∃ res, res = insX c x := ⟨_, rfl⟩
  rw [← hres]
  have HR := hide hres
  clear h hx hs b0 b1 hz hres ha0 ha1
  unfold codeA
  go_enter Tryd.func21, Tryd.ntmps21
  go_upto_block 0 with fail
  generalize (w.alloc (.cells #[.slice aP c.P.length cP, .int .i64 c.M, .int .i64 c.A, .slice aC c.C.length cC, .slice aF c.F.length cF, .int .i64 c.mn, .slice aB c.B.length cB] 27)).alloc (.cells #[.int .i64 x.op, .int .i64 x.a, .int .i64 x.b, .int .u64 x.bits, .int .i64 x.at_] 44) = w0 at *
  have g0 : w0.cell? ⟨w.heap.size + 1, 0, none⟩ = some (.int .i64 x.op) := blk_cell X0.out.2.1 0 _ rfl
  have g1 : w0.cell? ⟨w.heap.size + 1, 1, none⟩ = some (.int .i64 x.a) := blk_cell X0.out.2.1 1 _ rfl
  have g2 : w0.cell? ⟨w.heap.size + 1, 2, none⟩ = some (.int .i64 x.b) := blk_cell X0.out.2.1 2 _ rfl
  obtain ⟨k0, k1, k2, k3, k4, k5, k6⟩ := cells7 X0.out.1
  clear dA dB
  go_cut [5, 6, 7, 8] from 9 to 186 (fun xa xb xt xk wc => ∃ A B T K : Bool, xa = .bool A ∧ xb = .bool B ∧ xt = .bool T ∧ xk = .bool K ∧ Hid (res = (K && ((A || x.a == 0) && ((B || x.b == 0) && (T || x.bits == 0)))) ∧ wc.heap[w.heap.size]? = some (.cells #[.slice aP c.P.length cP, .int .i64 c.M, .int .i64 c.A, .slice aC c.C.length cC, .slice aF c.F.length cF, .int .i64 c.mn, .slice aB c.B.length cB] 27 (0, 0)) ∧ wc.heap[w.heap.size + 1]? = some (.cells #[.int .i64 x.op, .int .i64 x.a, .int .i64 x.b, .int .u64 x.bits, .int .i64 x.at_] 44 (0, 0)) ∧ Below w.heap.size w wc))
  case first =>
    obtain ⟨o1, o2, o3, o4, o5, o6, o7, o8, o9, o10, o11, o12, o13, o14, o15, o16, o17, o18, o19, o20, o21, o22, o23, o24, o25, o26⟩ := ho
    have n1 : (x.op == 1) = false := beq_false_of_ne o1
    have n2 : (x.op == 2) = false := beq_false_of_ne o2
    have n3 : (x.op == 3) = false := beq_false_of_ne o3
    have n4 : (x.op == 4) = false := beq_false_of_ne o4
    have n5 : (x.op == 5) = false := beq_false_of_ne o5
    have n6 : (x.op == 6) = false := beq_false_of_ne o6
    have n7 : (x.op == 7) = false := beq_false_of_ne o7
    have n8 : (x.op == 8) = false := beq_false_of_ne o8
    have n9 : (x.op == 9) = false := beq_false_of_ne o9
    have n10 : (x.op == 10) = false := beq_false_of_ne o10
    have n11 : (x.op == 11) = false := beq_false_of_ne o11
    have n12 : (x.op == 12) = false := beq_false_of_ne o12
    have n13 : (x.op == 13) = false := beq_false_of_ne o13
    have n14 : (x.op == 14) = false := beq_false_of_ne o14
    have n15 : (x.op == 15) = false := beq_false_of_ne o15
    have n16 : (x.op == 16) = false := beq_false_of_ne o16
    have n17 : (x.op == 17) = false := beq_false_of_ne o17
    have n18 : (x.op == 18) = false := beq_false_of_ne o18
    have n19 : (x.op == 19) = false := beq_false_of_ne o19
    have n20 : (x.op == 20) = false := beq_false_of_ne o20
    have n21 : (x.op == 21) = false := beq_false_of_ne o21
    have n22 : (x.op == 22) = false := beq_false_of_ne o22
    have n23 : (x.op == 23) = false := beq_false_of_ne o23
    have n24 : (x.op == 24) = false := beq_false_of_ne o24
    have n25 : (x.op == 25) = false := beq_false_of_ne o25
    have n26 : (x.op == 26) = false := beq_false_of_ne o26
    have hf : res = false := by rw [HR.out]; unfold insX; simp only [o1, o2, o3, o4, o5, o6, o7, o8, o9, o10, o11, o12, o13, o14, o15, o16, o17, o18, o19, o20, o21, o22, o23, o24, o25, o26, or_self, if_false]
    clear o1 o2 o3 o4 o5 o6 o7 o8 o9 o10 o11 o12 o13 o14 o15 o16 o17 o18 o19 o20 o21 o22 o23 o24 o25 o26
    go_wp2_with fail
    go_meet
    case rel => exact ⟨_, _, _, _, rfl, rfl, rfl, rfl, hide ⟨by rw [hf]; rfl, X0.out⟩⟩
  case rest =>
    obtain ⟨A, B, T, K, rfl, rfl, rfl, rfl, X⟩ := hcut
    clear g0 g1 g2 k0 k1 k2 k3 k4 k5 k6 X0 HR
    have g1 : wc.cell? ⟨w.heap.size + 1, 1, none⟩ = some (.int .i64 x.a) := blk_cell X.out.2.2.1 1 _ rfl
    have g2 : wc.cell? ⟨w.heap.size + 1, 2, none⟩ = some (.int .i64 x.b) := blk_cell X.out.2.2.1 2 _ rfl
    have g3 : wc.cell? ⟨w.heap.size + 1, 3, none⟩ = some (.int .u64 x.bits) := blk_cell X.out.2.2.1 3 _ rfl
    have BX := hide X.out.2.2.2
    have hr := X.out.1
    clear X V0
    obtain ⟨y1, hy1⟩ : ∃ y, (x.a == 0) = y := ⟨_, rfl⟩
    obtain ⟨y2, hy2⟩ : ∃ y, (x.b == 0) = y := ⟨_, rfl⟩
    obtain ⟨y3, hy3⟩ : ∃ y, (x.bits == 0) = y := ⟨_, rfl⟩
    rw [hy1, hy2, hy3] at hr
    cases K <;> cases A <;> cases B <;> cases T <;> cases y1 <;> cases y2 <;> (simp at hr; subst hr; go_wp2_with fail; go_ret; exact ⟨rfl, BX.out⟩)
end Go.Proofs.YtidjbgemnohbnaaDoor.Ck
