/- Two codes and two numbers that are handed in. -/
import Derived.Test.YtoboeipmhfnfdaaDoorOpenC
namespace Go.Proofs.YtoboeipmhfnfdaaDoor.Ck
open Go.ChangeShapes Go.WideShapes Go.ChangeAt Go.RowKit

set_option maxRecDepth 100000 in
theorem pair_of {H : Type} {enc : TypeId × Value → H} {W : World} {fuel : Nat} {cs : List Value} {x : DataW H × List MemPlace} (h : DataW.trod enc Tryd.prog W 0 (fun _ => true) true fuel 47 cs = some x) (hw : Wok 47 x.1) :
    ∃ vP vC vF vB uP uC uF uB c d op n, cs = [vP, .int .i64 c.M, .int .i64 c.A, vC, vF, .int .i64 c.mn, vB, uP, .int .i64 d.M, .int .i64 d.A, uC, uF, .int .i64 d.mn, uB, .int .i64 op, .int .i64 n] ∧ Cv W vP vC vF vB c ∧ Cv W uP uC uF uB d := by
  obtain ⟨xs, f, hfu, ex, hl, hlen, hf⟩ := DataW.trod_struct Tryd.underlying47 h
  rw [show Tryd.prog.cellsOf 47 = 16 by kernel_rfl] at hl
  clear h
  have hx : xs.length = 4 := hlen
  match cs, hl with
  | [c0, c1, c2, c3, c4, c5, c6, d0, d1, d2, d3, d4, d5, d6, o, n], _ =>
    have h0 : DataW.trod enc Tryd.prog W 0 (fun _ => true) true f 27 (([c0, c1, c2, c3, c4, c5, c6, d0, d1, d2, d3, d4, d5, d6, o, n].drop 0).take (Tryd.prog.cellsOf 27)) = xs[0]? := hf 0 _ rfl
    have h1 : DataW.trod enc Tryd.prog W 0 (fun _ => true) true f 27 (([c0, c1, c2, c3, c4, c5, c6, d0, d1, d2, d3, d4, d5, d6, o, n].drop 7).take (Tryd.prog.cellsOf 27)) = xs[1]? := hf 1 _ rfl
    have h2 : DataW.trod enc Tryd.prog W 0 (fun _ => true) true f 3 (([c0, c1, c2, c3, c4, c5, c6, d0, d1, d2, d3, d4, d5, d6, o, n].drop 14).take (Tryd.prog.cellsOf 3)) = xs[2]? := hf 2 _ rfl
    have h3 : DataW.trod enc Tryd.prog W 0 (fun _ => true) true f 3 (([c0, c1, c2, c3, c4, c5, c6, d0, d1, d2, d3, d4, d5, d6, o, n].drop 15).take (Tryd.prog.cellsOf 3)) = xs[3]? := hf 3 _ rfl
    clear hf
    simp only [show Tryd.prog.cellsOf 3 = 1 by kernel_rfl, show Tryd.prog.cellsOf 27 = 7 by kernel_rfl, List.drop_zero, List.drop_succ_cons, List.take_succ_cons, List.take_zero] at h0 h1 h2 h3
    rw [List.getElem?_eq_getElem (by omega)] at h0 h1 h2 h3
    rw [ex] at hw
    have w0 := wok_field (i := 0) Tryd.underlying47 hw rfl (List.getElem?_eq_getElem (show 0 < xs.length by omega))
    have w1 := wok_field (i := 1) Tryd.underlying47 hw rfl (List.getElem?_eq_getElem (show 1 < xs.length by omega))
    obtain ⟨z2, q2, _⟩ := DataW.trod_int Tryd.underlying3 h2
    obtain ⟨z3, q3, _⟩ := DataW.trod_int Tryd.underlying3 h3
    simp at q2 q3
    subst q2 q3
    obtain ⟨vP, vC, vF, vB, c, e0, v0⟩ := code_of h0 w0
    obtain ⟨uP, uC, uF, uB, d, e1, v1⟩ := code_of h1 w1
    cases e0
    cases e1
    exact ⟨_, _, _, _, _, _, _, _, c, d, z2, z3, rfl, v0, v1⟩
theorem pair_open {H : Type} {enc : TypeId × Value → H} {W : World} {a : Array Value} {d : DataW H} {p : List MemPlace} (h : DataW.Trod enc Tryd.prog W 0 (fun _ => true) true 47 (.agg a) d p) (hw : Wok 47 d) :
    ∃ vP vC vF vB uP uC uF uB c d op n, Value.agg a = .agg #[vP, .int .i64 c.M, .int .i64 c.A, vC, vF, .int .i64 c.mn, vB, uP, .int .i64 d.M, .int .i64 d.A, uC, uF, .int .i64 d.mn, uB, .int .i64 op, .int .i64 n] ∧ Cv W vP vC vF vB c ∧ Cv W uP uC uF uB d := by
  obtain ⟨fuel, h⟩ := h
  obtain ⟨vP, vC, vF, vB, uP, uC, uF, uB, c, d, op, n, e, h1, h2⟩ := pair_of h hw
  refine ⟨vP, vC, vF, vB, uP, uC, uF, uB, c, d, op, n, ?_, h1, h2⟩
  congr 1
  have e' : a.toList = _ := e
  rw [← Array.toArray_toList (xs := a), e']
end Go.Proofs.YtoboeipmhfnfdaaDoor.Ck
