/- Package code: Same. (Written by mk_s.py.) -/
import Derived.Test.YtoboeipmhfnfdaaDoorGc
import Derived.Test.YtoboeipmhfnfdaaDoorCk
namespace Go.Proofs.YtoboeipmhfnfdaaDoor.Ck
open Go.RowKit

theorem Cv.form {w : World} {vP vC vF vB : Value} {c : Cd} (h : Cv w vP vC vF vB c) : ∃ aP cP aC cC aF cF aB cB, vP = .slice aP c.P.length cP ∧ vC = .slice aC c.C.length cC ∧ vF = .slice aF c.F.length cF ∧ vB = .slice aB c.B.length cB := by
  obtain ⟨aP, cP, eP, _⟩ := h.P.form
  obtain ⟨aC, cC, eC, _⟩ := h.C.form
  obtain ⟨aF, cF, eF, _⟩ := h.F.form
  obtain ⟨aB, cB, eB, _⟩ := h.B.form
  exact ⟨aP, cP, aC, cC, aF, cF, aB, cB, eP, eC, eF, eB⟩
set_option maxRecDepth 20000 in
set_option maxHeartbeats 4000000 in
theorem codeSame_any {w : World} {vP vC vF vB uP uC uF uB : Value} {c d : Cd} (h1 : Cv w vP vC vF vB c) (h2 : Cv w uP uC uF uB d) (s1 : Sml c) (s2 : Sml d) : Calls Tryd.prog 22 #[codeA vP vC vF vB c, codeA uP uC uF uB d] w (Vb w (.bool (sameCd c d))) := by
  have b1 := bel_new w (.cells #[vP, .int .i64 c.M, .int .i64 c.A, vC, vF, .int .i64 c.mn, vB] 27)
  have b2 := bel_new (w.alloc (.cells #[vP, .int .i64 c.M, .int .i64 c.A, vC, vF, .int .i64 c.mn, vB] 27)) (.cells #[uP, .int .i64 d.M, .int .i64 d.A, uC, uF, .int .i64 d.mn, uB] 27)
  have hs : (w.alloc (.cells #[vP, .int .i64 c.M, .int .i64 c.A, vC, vF, .int .i64 c.mn, vB] 27)).heap.size = w.heap.size + 1 := by simp
  have KA := hide ((b2.block _ (by rw [hs]; omega)).trans (show (w.alloc (.cells #[vP, .int .i64 c.M, .int .i64 c.A, vC, vF, .int .i64 c.mn, vB] 27)).heap[w.heap.size]? = some (.cells #[vP, .int .i64 c.M, .int .i64 c.A, vC, vF, .int .i64 c.mn, vB] 27 (0, 0)) from Go.Deep.blk_alloc_new _ _))
  have KB : Hid (((w.alloc (.cells #[vP, .int .i64 c.M, .int .i64 c.A, vC, vF, .int .i64 c.mn, vB] 27)).alloc (.cells #[uP, .int .i64 d.M, .int .i64 d.A, uC, uF, .int .i64 d.mn, uB] 27)).heap[w.heap.size + 1]? = some (.cells #[uP, .int .i64 d.M, .int .i64 d.A, uC, uF, .int .i64 d.mn, uB] 27 (0, 0))) := hide (by rw [← hs]; exact Go.Deep.blk_alloc_new _ _)
  have B0 := hide (bel_trans b1 b2)
  have V1 := hide (fun wz (hb : Below w.heap.size w wz) => h1.bel hb)
  have V2 := hide (fun wz (hb : Below w.heap.size w wz) => h2.bel hb)
  have S1 := hide s1
  have S2 := hide s2
  obtain ⟨aP, cP, aC, cC, aF, cF, aB, cB, eP, eC, eF, eB⟩ := h1.form
  obtain ⟨aP2, cP2, aC2, cC2, aF2, cF2, aB2, cB2, eP2, eC2, eF2, eB2⟩ := h2.form
  subst eP eC eF eB eP2 eC2 eF2 eB2
  obtain ⟨x1, hx1⟩ : ∃ x, (c.M == d.M) = x := ⟨_, rfl⟩
  obtain ⟨x2, hx2⟩ : ∃ x, (c.A == d.A) = x := ⟨_, rfl⟩
  obtain ⟨x3, hx3⟩ : ∃ x, (c.mn == d.mn) = x := ⟨_, rfl⟩
  have HE : Hid (sameCd c d = (x1 && (x2 && (x3 && (sameL eqN c.P d.P && (sameL eqC c.C d.C && (sameL eqF c.F d.F && sameL eqI c.B d.B))))))) := hide (by rw [← hx1, ← hx2, ← hx3]; rfl)
  clear h1 h2 b1 b2 hs s1 s2
  generalize sameCd c d = res at *
  unfold codeA
  go_enter Tryd.func22, Tryd.ntmps22
  cases x1 with
  | false =>
    have he : res = false := by rw [HE.out]; simp
    subst he
    clear HE
    go_wp2_with fail
    go_ret
    exact ⟨rfl, B0.out⟩
  | true =>
  cases x2 with
  | false =>
    have he : res = false := by rw [HE.out]; simp
    subst he
    clear HE
    go_wp2_with fail
    go_ret
    exact ⟨rfl, B0.out⟩
  | true =>
  cases x3 with
  | false =>
    have he : res = false := by rw [HE.out]; simp
    subst he
    clear HE
    go_wp2_with fail
    go_ret
    exact ⟨rfl, B0.out⟩
  | true =>
  go_wp2_with fail
  generalize (w.alloc (.cells #[.slice aP c.P.length cP, .int .i64 c.M, .int .i64 c.A, .slice aC c.C.length cC, .slice aF c.F.length cF, .int .i64 c.mn, .slice aB c.B.length cB] 27)).alloc (.cells #[.slice aP2 d.P.length cP2, .int .i64 d.M, .int .i64 d.A, .slice aC2 d.C.length cC2, .slice aF2 d.F.length cF2, .int .i64 d.mn, .slice aB2 d.B.length cB2] 27) = w0 at *
  refine (eqInts (V1.out _ B0.out).P (V2.out _ B0.out).P ⟨S1.out.P, S2.out.P⟩).mono ?_
  intro e w1 h3
  obtain ⟨rfl, b3⟩ := (show Vb _ _ _ _ from h3.vb)
  replace KA := hide ((b3.block _ (lt_of_blk KA.out)).trans KA.out)
  replace KB := hide ((b3.block _ (lt_of_blk KB.out)).trans KB.out)
  have B1 := hide (bel_trans B0.out b3)
  clear b3 B0
  obtain ⟨g0, g1, g2, g3, g4, g5, g6⟩ := cells7 KA.out
  obtain ⟨k0, k1, k2, k3, k4, k5, k6⟩ := cells7 KB.out
  cases hz : sameL eqN c.P d.P with
  | false =>
    rw [hz] at HE
    clear hz
    have he : res = false := by rw [HE.out]; simp
    subst he
    clear HE
    go_wp2_with fail
    go_ret
    exact ⟨rfl, B1.out⟩
  | true =>
  rw [hz] at HE
  clear hz
  go_wp2_with fail
  clear g0 g1 g2 g3 g4 g5 g6 k0 k1 k2 k3 k4 k5 k6
  refine (eqChans (V1.out _ B1.out).C (V2.out _ B1.out).C ⟨S1.out.C, S2.out.C⟩).mono ?_
  intro e w2 h3
  obtain ⟨rfl, b3⟩ := (show Vb _ _ _ _ from h3.vb)
  replace KA := hide ((b3.block _ (lt_of_blk KA.out)).trans KA.out)
  replace KB := hide ((b3.block _ (lt_of_blk KB.out)).trans KB.out)
  have B2 := hide (bel_trans B1.out b3)
  clear b3 B1
  obtain ⟨g0, g1, g2, g3, g4, g5, g6⟩ := cells7 KA.out
  obtain ⟨k0, k1, k2, k3, k4, k5, k6⟩ := cells7 KB.out
  cases hz : sameL eqC c.C d.C with
  | false =>
    rw [hz] at HE
    clear hz
    have he : res = false := by rw [HE.out]; simp
    subst he
    clear HE
    go_wp2_with fail
    go_ret
    exact ⟨rfl, B2.out⟩
  | true =>
  rw [hz] at HE
  clear hz
  go_wp2_with fail
  clear g0 g1 g2 g3 g4 g5 g6 k0 k1 k2 k3 k4 k5 k6
  refine (eqFuns (V1.out _ B2.out).F (V2.out _ B2.out).F ⟨S1.out.F, S2.out.F⟩ S1.out.L S2.out.L).mono ?_
  intro e w3 h3
  obtain ⟨rfl, b3⟩ := h3
  replace KA := hide ((b3.block _ (lt_of_blk KA.out)).trans KA.out)
  replace KB := hide ((b3.block _ (lt_of_blk KB.out)).trans KB.out)
  have B3 := hide (bel_trans B2.out b3)
  clear b3 B2
  obtain ⟨g0, g1, g2, g3, g4, g5, g6⟩ := cells7 KA.out
  obtain ⟨k0, k1, k2, k3, k4, k5, k6⟩ := cells7 KB.out
  cases hz : sameL eqF c.F d.F with
  | false =>
    rw [hz] at HE
    clear hz
    have he : res = false := by rw [HE.out]; simp
    subst he
    clear HE
    go_wp2_with fail
    go_ret
    exact ⟨rfl, B3.out⟩
  | true =>
  rw [hz] at HE
  clear hz
  go_wp2_with fail
  clear g0 g1 g2 g3 g4 g5 g6 k0 k1 k2 k3 k4 k5 k6
  refine (eqInss (V1.out _ B3.out).B (V2.out _ B3.out).B ⟨S1.out.B, S2.out.B⟩).mono ?_
  intro e w4 h3
  obtain ⟨rfl, b3⟩ := (show Vb _ _ _ _ from h3.vb)
  replace KA := hide ((b3.block _ (lt_of_blk KA.out)).trans KA.out)
  replace KB := hide ((b3.block _ (lt_of_blk KB.out)).trans KB.out)
  have B4 := hide (bel_trans B3.out b3)
  clear b3 B3
  obtain ⟨g0, g1, g2, g3, g4, g5, g6⟩ := cells7 KA.out
  obtain ⟨k0, k1, k2, k3, k4, k5, k6⟩ := cells7 KB.out
  have he : sameL eqI c.B d.B = res := by rw [HE.out]; simp
  rw [he]
  clear he HE
  go_wp2_with fail
  go_ret
  exact ⟨rfl, B4.out⟩
end Go.Proofs.YtoboeipmhfnfdaaDoor.Ck
