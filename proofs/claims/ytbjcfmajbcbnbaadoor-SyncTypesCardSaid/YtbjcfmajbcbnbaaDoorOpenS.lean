/- A value that is handed in, as plain data. -/
import Derived.Test.YtbjcfmajbcbnbaaDoorLaid
import Derived.Test.YtbjcfmajbcbnbaaDoorYa
import Derived.Deep.Slices
import Derived.ChangeArms
import Derived.Carry
import Derived.MakeChecks
namespace Go.Proofs.YtbjcfmajbcbnbaaDoor.Ck
open Go.ChangeShapes Go.WideShapes Go.RowKit

theorem cellsValue : Tryd.prog.cellsOf 41 = 3 := by kernel_rfl
def In64 (z : Int) : Prop := -9223372036854775808 ≤ z ∧ z ≤ 9223372036854775807
def InU (z : Int) : Prop := 0 ≤ z ∧ z ≤ 18446744073709551615
theorem in64 {z : Int} (h : (Lit.int .i64 z).wf = true) : In64 z := by
  simp [Lit.wf] at h
  exact h
theorem inU {z : Int} (h : (Lit.int .u64 z).wf = true) : InU z := by
  simp [Lit.wf] at h
  exact h

set_option maxRecDepth 100000 in
theorem val_of {H : Type} {enc : TypeId × Value → H} {W : World} {fuel : Nat} {cs : List Value} {x : DataW H × List MemPlace} (h : DataW.trod enc Tryd.prog W 0 (fun _ => true) true fuel 41 cs = some x) :
    ∃ t n b, cs = [.int .i64 t, .int .i64 n, .int .u64 b] ∧ In64 t ∧ In64 n ∧ InU b := by
  obtain ⟨xs, f, hfu, _, hl, hlen, hf⟩ := DataW.trod_struct Tryd.underlying41 h
  rw [cellsValue] at hl
  clear h
  have hx : xs.length = 3 := hlen
  match cs, hl with
  | [c0, c1, c2], _ =>
    have g : ∀ i, i < 3 → ∃ y, xs[i]? = some y := fun i hi => ⟨_, List.getElem?_eq_getElem (by omega)⟩
    have h0 : DataW.trod enc Tryd.prog W 0 (fun _ => true) true f 3 (([c0, c1, c2].drop 0).take (Tryd.prog.cellsOf 3)) = xs[0]? := hf 0 _ rfl
    have h1 : DataW.trod enc Tryd.prog W 0 (fun _ => true) true f 3 (([c0, c1, c2].drop 1).take (Tryd.prog.cellsOf 3)) = xs[1]? := hf 1 _ rfl
    have h2 : DataW.trod enc Tryd.prog W 0 (fun _ => true) true f 39 (([c0, c1, c2].drop 2).take (Tryd.prog.cellsOf 39)) = xs[2]? := hf 2 _ rfl
    clear hf
    simp only [show Tryd.prog.cellsOf 3 = 1 by kernel_rfl, show Tryd.prog.cellsOf 39 = 1 by kernel_rfl, List.drop_zero, List.drop_succ_cons, List.take_succ_cons, List.take_zero] at h0 h1 h2
    obtain ⟨y0, e0⟩ := g 0 (by omega)
    obtain ⟨y1, e1⟩ := g 1 (by omega)
    obtain ⟨y2, e2⟩ := g 2 (by omega)
    rw [e0] at h0
    rw [e1] at h1
    rw [e2] at h2
    obtain ⟨z0, q0, r0, s0⟩ := DataW.trod_int Tryd.underlying3 h0
    obtain ⟨z1, q1, r1, s1⟩ := DataW.trod_int Tryd.underlying3 h1
    obtain ⟨z2, q2, r2, s2⟩ := DataW.trod_int Tryd.underlying39 h2
    simp at q0 q1 q2
    subst q0 q1 q2
    exact ⟨z0, z1, z2, rfl, in64 s0, in64 s1, inU s2⟩
theorem val_open {H : Type} {enc : TypeId × Value → H} {W : World} {c : Array Value} {d : DataW H} {ps : List MemPlace} (h : DataW.Trod enc Tryd.prog W 0 (fun _ => true) true 41 (.agg c) d ps) :
    ∃ t n b, Value.agg c = .agg #[.int .i64 t, .int .i64 n, .int .u64 b] ∧ In64 t ∧ In64 n ∧ InU b := by
  obtain ⟨m, hm⟩ := h
  obtain ⟨t, n, b, e, h⟩ := val_of hm
  refine ⟨t, n, b, ?_, h⟩
  congr 1
  have e' : c.toList = [.int .i64 t, .int .i64 n, .int .u64 b] := e
  rw [← Array.toArray_toList (xs := c), e']
end Go.Proofs.YtbjcfmajbcbnbaaDoor.Ck
