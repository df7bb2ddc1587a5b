/- A row of two values, an int and bits that is handed in, as plain data. -/
import Derived.Test.YtmdfciiejenpnaaOpenV
namespace Go.Proofs.Ytmdfciiejenpnaa.Ck
open Go.ChangeShapes Go.WideShapes Go.RowKit

theorem cellsMade : Try.prog.cellsOf 32 = 8 := by kernel_rfl
set_option maxRecDepth 100000 in
theorem made_of {H : Type} {enc : TypeId × Value → H} {W : World} {fuel : Nat} {cs : List Value} {x : DataW H × List MemPlace} (h : DataW.trod enc Try.prog W 0 (fun _ => true) true fuel 32 cs = some x) :
    ∃ t n b t' n' b' nn bb, cs = [.int .i64 t, .int .i64 n, .int .u64 b, .int .i64 t', .int .i64 n', .int .u64 b', .int .i64 nn, .int .u64 bb] ∧ InU bb := by
  obtain ⟨xs, f, hfu, _, hl, hlen, hf⟩ := DataW.trod_struct Try.underlying32 h
  rw [cellsMade] at hl
  clear h
  have hx : xs.length = 4 := hlen
  match cs, hl with
  | [c0, c1, c2, c3, c4, c5, c6, c7], _ =>
    have g : ∀ i, i < 4 → ∃ y, xs[i]? = some y := fun i hi => ⟨_, List.getElem?_eq_getElem (by omega)⟩
    have h0 : DataW.trod enc Try.prog W 0 (fun _ => true) true f 24 (([c0, c1, c2, c3, c4, c5, c6, c7].drop 0).take (Try.prog.cellsOf 24)) = xs[0]? := hf 0 _ rfl
    have h1 : DataW.trod enc Try.prog W 0 (fun _ => true) true f 24 (([c0, c1, c2, c3, c4, c5, c6, c7].drop 3).take (Try.prog.cellsOf 24)) = xs[1]? := hf 1 _ rfl
    have h2 : DataW.trod enc Try.prog W 0 (fun _ => true) true f 3 (([c0, c1, c2, c3, c4, c5, c6, c7].drop 6).take (Try.prog.cellsOf 3)) = xs[2]? := hf 2 _ rfl
    have h3 : DataW.trod enc Try.prog W 0 (fun _ => true) true f 22 (([c0, c1, c2, c3, c4, c5, c6, c7].drop 7).take (Try.prog.cellsOf 22)) = xs[3]? := hf 3 _ rfl
    clear hf
    simp only [cellsValue, show Try.prog.cellsOf 3 = 1 by kernel_rfl, show Try.prog.cellsOf 22 = 1 by kernel_rfl, List.drop_zero, List.drop_succ_cons, List.take_succ_cons, List.take_zero] at h0 h1 h2 h3
    obtain ⟨y0, e0⟩ := g 0 (by omega)
    obtain ⟨y1, e1⟩ := g 1 (by omega)
    obtain ⟨y2, e2⟩ := g 2 (by omega)
    obtain ⟨y3, e3⟩ := g 3 (by omega)
    rw [e0] at h0
    rw [e1] at h1
    rw [e2] at h2
    rw [e3] at h3
    obtain ⟨t, n, b, q0, _⟩ := val_of h0
    obtain ⟨t', n', b', q1, _⟩ := val_of h1
    obtain ⟨z2, q2, r2, s2⟩ := DataW.trod_int Try.underlying3 h2
    obtain ⟨z3, q3, r3, s3⟩ := DataW.trod_int Try.underlying22 h3
    simp at q0 q1 q2 q3
    obtain ⟨rfl, rfl, rfl⟩ := q0
    obtain ⟨rfl, rfl, rfl⟩ := q1
    subst q2 q3
    exact ⟨t, n, b, t', n', b', z2, z3, rfl, inU s3⟩
theorem made_open {H : Type} {enc : TypeId × Value → H} {W : World} {c : Array Value} {d : DataW H} {ps : List MemPlace} (h : DataW.Trod enc Try.prog W 0 (fun _ => true) true 32 (.agg c) d ps) :
    ∃ t n b t' n' b' nn bb, Value.agg c = .agg #[.int .i64 t, .int .i64 n, .int .u64 b, .int .i64 t', .int .i64 n', .int .u64 b', .int .i64 nn, .int .u64 bb] ∧ InU bb := by
  obtain ⟨m, hm⟩ := h
  obtain ⟨t, n, b, t', n', b', nn, bb, e, h⟩ := made_of hm
  refine ⟨t, n, b, t', n', b', nn, bb, ?_, h⟩
  congr 1
  have e' : c.toList = [.int .i64 t, .int .i64 n, .int .u64 b, .int .i64 t', .int .i64 n', .int .u64 b', .int .i64 nn, .int .u64 bb] := e
  rw [← Array.toArray_toList (xs := c), e']
end Go.Proofs.Ytmdfciiejenpnaa.Ck
