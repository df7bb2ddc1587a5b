/- Traces that are handed in. -/
import Derived.Test.YticgmebbnnmikaaDoorOpenR
import Derived.Test.YticgmebbnnmikaaDoorOc
namespace Go.Proofs.YticgmebbnnmikaaDoor.Ck
open Go.ChangeShapes Go.WideShapes Go.ChangeAt Go.RowKit

section
variable {H : Type} {enc : TypeId × Value → H} {W : World} {fuel : Nat} {v : Value} {cs : List Value} {x : DataW H × List MemPlace}
set_option maxRecDepth 100000 in
theorem ev_of (h : DataW.trod enc Tryd.prog W 0 (fun _ => true) true fuel 47 cs = some x) : ∃ c : Ev, cs = evC c ∧ EvW c := by
  obtain ⟨xs, f, hfu, _, hl, hlen, hf⟩ := DataW.trod_struct Tryd.underlying47 h
  rw [show Tryd.prog.cellsOf 47 = 4 by kernel_rfl] at hl
  clear h
  have hx : xs.length = 4 := hlen
  match cs, hl with
  | [c0, c1, c2, c3], _ =>
    have h0 : DataW.trod enc Tryd.prog W 0 (fun _ => true) true f 3 (([c0, c1, c2, c3].drop 0).take (Tryd.prog.cellsOf 3)) = xs[0]? := hf 0 _ rfl
    have h1 : DataW.trod enc Tryd.prog W 0 (fun _ => true) true f 3 (([c0, c1, c2, c3].drop 1).take (Tryd.prog.cellsOf 3)) = xs[1]? := hf 1 _ rfl
    have h2 : DataW.trod enc Tryd.prog W 0 (fun _ => true) true f 3 (([c0, c1, c2, c3].drop 2).take (Tryd.prog.cellsOf 3)) = xs[2]? := hf 2 _ rfl
    have h3 : DataW.trod enc Tryd.prog W 0 (fun _ => true) true f 3 (([c0, c1, c2, c3].drop 3).take (Tryd.prog.cellsOf 3)) = xs[3]? := hf 3 _ rfl
    clear hf
    simp only [show Tryd.prog.cellsOf 3 = 1 by kernel_rfl, List.drop_zero, List.drop_succ_cons, List.take_succ_cons, List.take_zero] at h0 h1 h2 h3
    rw [List.getElem?_eq_getElem (by omega)] at h0 h1 h2 h3
    obtain ⟨z0, q0, _, s0⟩ := DataW.trod_int Tryd.underlying3 h0
    obtain ⟨z1, q1, _, s1⟩ := DataW.trod_int Tryd.underlying3 h1
    obtain ⟨z2, q2, _, s2⟩ := DataW.trod_int Tryd.underlying3 h2
    obtain ⟨z3, q3, _, s3⟩ := DataW.trod_int Tryd.underlying3 h3
    simp at q0 q1 q2 q3
    subst q0 q1 q2 q3
    exact ⟨⟨z0, z1, z2, z3⟩, rfl, wf_i64 s0, wf_i64 s1, wf_i64 s2, wf_i64 s3⟩
theorem evs_of (h : DataW.trod enc Tryd.prog W 0 (fun _ => true) true fuel 22 [v] = some x) : ∃ T, SlE W v T ∧ ∀ e ∈ T, EvW e := by
  obtain ⟨a, cap, l, e, h1, h2, h3⟩ := rows_of zE Tryd.underlying22 (show Tryd.prog.cellsOf 47 = 4 by kernel_rfl) (by omega) (fun (c : Ev) cs => cs = evC c ∧ EvW c) (fun f cs y _ hy => ev_of hy) h
  refine ⟨l, ⟨a, cap, e, h1, h2, fun i hi => ?_⟩, fun y hy => ?_⟩
  · obtain ⟨b, o, cs, ea, hb, ⟨rfl, _⟩, _, hc⟩ := h3 i _ (List.getElem?_eq_getElem hi)
    have e2 : l.getD i zE = l[i] := by simp [List.getD, hi]
    rw [e2]
    exact ⟨b, o, ea, hb, hc 0 _ rfl, hc 1 _ rfl, hc 2 _ rfl, hc 3 _ rfl⟩
  · obtain ⟨i, hi, rfl⟩ := List.mem_iff_getElem.1 hy
    obtain ⟨b, o, cs, ea, hb, ⟨_, hr⟩, _⟩ := h3 i _ (List.getElem?_eq_getElem hi)
    exact hr
theorem objs_of {T : List Ev} (h : ∀ e ∈ T, EvW e) (k : Nat) (hk : k < T.length) : wfI (T.getD k zE).o := by
  have := h (T.getD k zE) (by rw [List.getD_eq_getElem?_getD, List.getElem?_eq_getElem hk]; exact List.getElem_mem _)
  exact this.2.2.1
set_option maxRecDepth 100000 in
theorem ask_of (h : DataW.trod enc Tryd.prog W 0 (fun _ => true) true fuel 25 cs = some x) : ∃ vT vR T R A B, cs = [vT, vR, .int .i64 A, .int .i64 B] ∧ SlE W vT T ∧ Sl W vR R ∧ ∀ k, k < T.length → wfI (T.getD k zE).o := by
  obtain ⟨xs, f, hfu, _, hl, hlen, hf⟩ := DataW.trod_struct Tryd.underlying25 h
  rw [show Tryd.prog.cellsOf 25 = 4 by kernel_rfl] at hl
  clear h
  have hx : xs.length = 4 := hlen
  match cs, hl with
  | [c0, c1, c2, c3], _ =>
    have h0 : DataW.trod enc Tryd.prog W 0 (fun _ => true) true f 22 (([c0, c1, c2, c3].drop 0).take (Tryd.prog.cellsOf 22)) = xs[0]? := hf 0 _ rfl
    have h1 : DataW.trod enc Tryd.prog W 0 (fun _ => true) true f 23 (([c0, c1, c2, c3].drop 1).take (Tryd.prog.cellsOf 23)) = xs[1]? := hf 1 _ rfl
    have h2 : DataW.trod enc Tryd.prog W 0 (fun _ => true) true f 3 (([c0, c1, c2, c3].drop 2).take (Tryd.prog.cellsOf 3)) = xs[2]? := hf 2 _ rfl
    have h3 : DataW.trod enc Tryd.prog W 0 (fun _ => true) true f 3 (([c0, c1, c2, c3].drop 3).take (Tryd.prog.cellsOf 3)) = xs[3]? := hf 3 _ rfl
    clear hf
    simp only [show Tryd.prog.cellsOf 3 = 1 by kernel_rfl, show Tryd.prog.cellsOf 23 = 1 by kernel_rfl, show Tryd.prog.cellsOf 22 = 1 by kernel_rfl, List.drop_zero, List.drop_succ_cons, List.take_succ_cons, List.take_zero] at h0 h1 h2 h3
    rw [List.getElem?_eq_getElem (by omega)] at h0 h1 h2 h3
    obtain ⟨z2, q2, _⟩ := DataW.trod_int Tryd.underlying3 h2
    obtain ⟨z3, q3, _⟩ := DataW.trod_int Tryd.underlying3 h3
    simp at q2 q3
    subst q2 q3
    obtain ⟨T, hT, wT⟩ := evs_of h0
    obtain ⟨R, hR⟩ := sl_of h1
    exact ⟨c0, c1, T, R, z2, z3, rfl, hT, hR, objs_of wT⟩
end
theorem ask_open {H : Type} {enc : TypeId × Value → H} {W : World} {a : Array Value} {d : DataW H} {p : List MemPlace} (h : DataW.Trod enc Tryd.prog W 0 (fun _ => true) true 25 (.agg a) d p) :
    ∃ vT vR T R A B, Value.agg a = .agg #[vT, vR, .int .i64 A, .int .i64 B] ∧ SlE W vT T ∧ Sl W vR R ∧ ∀ k, k < T.length → wfI (T.getD k zE).o := by
  obtain ⟨fuel, h⟩ := h
  obtain ⟨vT, vR, T, R, A, B, e, h1⟩ := ask_of h
  refine ⟨vT, vR, T, R, A, B, ?_, h1⟩
  congr 1
  have e' : a.toList = [vT, vR, .int .i64 A, .int .i64 B] := e
  rw [← Array.toArray_toList (xs := a), e']
theorem evs_open {H : Type} {enc : TypeId × Value → H} {W : World} {v : Value} {d : DataW H} {p : List MemPlace} (hv : ∃ a l c, v = .slice a l c) (h : DataW.Trod enc Tryd.prog W 0 (fun _ => true) true 22 v d p) : ∃ T, SlE W v T ∧ ∀ k, k < T.length → wfI (T.getD k zE).o := by
  obtain ⟨fuel, h⟩ := h
  obtain ⟨a, l, c, rfl⟩ := hv
  obtain ⟨T, hT, wT⟩ := evs_of (v := .slice a l c) (by simpa [Value.cells] using h)
  exact ⟨T, hT, objs_of wT⟩
end Go.Proofs.YticgmebbnnmikaaDoor.Ck
