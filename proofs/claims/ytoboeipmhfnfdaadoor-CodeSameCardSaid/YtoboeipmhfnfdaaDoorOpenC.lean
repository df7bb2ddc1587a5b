/- A code that is handed in. -/
import Derived.Test.YtoboeipmhfnfdaaDoorOpenW
import Derived.Test.YtoboeipmhfnfdaaDoorCb
namespace Go.Proofs.YtoboeipmhfnfdaaDoor.Ck
open Go.ChangeShapes Go.WideShapes Go.ChangeAt Go.RowKit

theorem wf_u8 {z : Int} (h : (Lit.int .u8 z).wf = true) : 0 ≤ z ∧ z < 256 := by
  simp [Lit.wf] at h
  have h' : 0 ≤ z ∧ z ≤ 255 := h
  omega
theorem wf_u64 {z : Int} (h : (Lit.int .u64 z).wf = true) : 0 ≤ z ∧ z < 18446744073709551616 := by
  simp [Lit.wf] at h
  have h' : 0 ≤ z ∧ z ≤ 18446744073709551615 := h
  omega
section
variable {H : Type} {enc : TypeId × Value → H} {W : World} {fuel : Nat} {v : Value} {cs : List Value} {x : DataW H × List MemPlace}
set_option maxRecDepth 100000 in
theorem chan_of (h : DataW.trod enc Tryd.prog W 0 (fun _ => true) true fuel 61 cs = some x) : ∃ c : Int × Int, cs = [.int .i64 c.1, .int .i64 c.2] ∧ -9223372036854775808 ≤ c.1 ∧ c.1 ≤ 9223372036854775807 := by
  obtain ⟨xs, f, hfu, _, hl, hlen, hf⟩ := DataW.trod_struct Tryd.underlying61 h
  rw [show Tryd.prog.cellsOf 61 = 2 by kernel_rfl] at hl
  clear h
  have hx : xs.length = 2 := hlen
  match cs, hl with
  | [c0, c1], _ =>
    have h0 : DataW.trod enc Tryd.prog W 0 (fun _ => true) true f 3 (([c0, c1].drop 0).take (Tryd.prog.cellsOf 3)) = xs[0]? := hf 0 _ rfl
    have h1 : DataW.trod enc Tryd.prog W 0 (fun _ => true) true f 3 (([c0, c1].drop 1).take (Tryd.prog.cellsOf 3)) = xs[1]? := hf 1 _ rfl
    clear hf
    simp only [show Tryd.prog.cellsOf 3 = 1 by kernel_rfl, List.drop_zero, List.drop_succ_cons, List.take_succ_cons, List.take_zero] at h0 h1
    rw [List.getElem?_eq_getElem (by omega)] at h0 h1
    obtain ⟨z0, q0, _, s0⟩ := DataW.trod_int Tryd.underlying3 h0
    obtain ⟨z1, q1, _⟩ := DataW.trod_int Tryd.underlying3 h1
    simp at q0 q1
    subst q0 q1
    exact ⟨(z0, z1), rfl, wf_i64 s0⟩
theorem chans_of (h : DataW.trod enc Tryd.prog W 0 (fun _ => true) true fuel 23 [v] = some x) (hw : Wok 23 x.1) : ∃ l, SlC W v l ∧ l.length ≤ 140737488351232 ∧ ∀ h ∈ l, -9223372036854775808 ≤ h.1 ∧ h.1 ≤ 9223372036854775807 := by
  obtain ⟨a, cap, l, e, h1, h2, h4, h3⟩ := rows_w ((0, 0) : Int × Int) Tryd.underlying23 (show Tryd.prog.cellsOf 61 = 2 by kernel_rfl) (by omega) (fun (c : Int × Int) cs => cs = [.int .i64 c.1, .int .i64 c.2] ∧ -9223372036854775808 ≤ c.1 ∧ c.1 ≤ 9223372036854775807) (fun f cs y _ hy _ => chan_of hy) hw h
  rw [show Tryd.prog.bytesOf 61 = 16 by kernel_rfl, show reachBytes = 140737488351232 from rfl] at h4
  refine ⟨l, ⟨a, cap, e, h1, h2, fun i hi => ?_⟩, by omega, fun y hy => ?_⟩
  · obtain ⟨b, o, cs, ea, hb, ⟨rfl, _⟩, _, hc⟩ := h3 i _ (List.getElem?_eq_getElem hi)
    have e2 : l.getD i z2 = l[i] := by simp [List.getD, hi]
    rw [e2]
    exact ⟨b, o, ea, hb, hc 0 _ rfl, hc 1 _ rfl⟩
  · obtain ⟨i, hi, rfl⟩ := List.mem_iff_getElem.1 hy
    obtain ⟨b, o, cs, ea, hb, ⟨_, hr⟩, _⟩ := h3 i _ (List.getElem?_eq_getElem hi)
    exact hr
set_option maxRecDepth 100000 in
theorem ins_of (h : DataW.trod enc Tryd.prog W 0 (fun _ => true) true fuel 57 cs = some x) : ∃ c : In5, cs = [.int .i64 c.op, .int .i64 c.a, .int .i64 c.b, .int .u64 c.bits, .int .i64 c.at_] ∧ InX c := by
  obtain ⟨xs, f, hfu, _, hl, hlen, hf⟩ := DataW.trod_struct Tryd.underlying57 h
  rw [show Tryd.prog.cellsOf 57 = 5 by kernel_rfl] at hl
  clear h
  have hx : xs.length = 5 := hlen
  match cs, hl with
  | [c0, c1, c2, c3, c4], _ =>
    have h0 : DataW.trod enc Tryd.prog W 0 (fun _ => true) true f 3 (([c0, c1, c2, c3, c4].drop 0).take (Tryd.prog.cellsOf 3)) = xs[0]? := hf 0 _ rfl
    have h1 : DataW.trod enc Tryd.prog W 0 (fun _ => true) true f 3 (([c0, c1, c2, c3, c4].drop 1).take (Tryd.prog.cellsOf 3)) = xs[1]? := hf 1 _ rfl
    have h2 : DataW.trod enc Tryd.prog W 0 (fun _ => true) true f 3 (([c0, c1, c2, c3, c4].drop 2).take (Tryd.prog.cellsOf 3)) = xs[2]? := hf 2 _ rfl
    have h3 : DataW.trod enc Tryd.prog W 0 (fun _ => true) true f 55 (([c0, c1, c2, c3, c4].drop 3).take (Tryd.prog.cellsOf 55)) = xs[3]? := hf 3 _ rfl
    have h4 : DataW.trod enc Tryd.prog W 0 (fun _ => true) true f 3 (([c0, c1, c2, c3, c4].drop 4).take (Tryd.prog.cellsOf 3)) = xs[4]? := hf 4 _ rfl
    clear hf
    simp only [show Tryd.prog.cellsOf 3 = 1 by kernel_rfl, show Tryd.prog.cellsOf 55 = 1 by kernel_rfl, List.drop_zero, List.drop_succ_cons, List.take_succ_cons, List.take_zero] at h0 h1 h2 h3 h4
    rw [List.getElem?_eq_getElem (by omega)] at h0 h1 h2 h3 h4
    obtain ⟨z0, q0, _, s0⟩ := DataW.trod_int Tryd.underlying3 h0
    obtain ⟨z1, q1, _, s1⟩ := DataW.trod_int Tryd.underlying3 h1
    obtain ⟨z2, q2, _⟩ := DataW.trod_int Tryd.underlying3 h2
    obtain ⟨z3, q3, _, s3⟩ := DataW.trod_int Tryd.underlying55 h3
    obtain ⟨z4, q4, _⟩ := DataW.trod_int Tryd.underlying3 h4
    simp at q0 q1 q2 q3 q4
    subst q0 q1 q2 q3 q4
    have r0 := wf_i64 s0
    have r1 := wf_i64 s1
    have r3 := wf_u64 s3
    exact ⟨⟨z0, z1, z2, z3, z4⟩, rfl, ⟨by show z1 < _; omega, r3⟩, r0⟩
theorem inss_of (h : DataW.trod enc Tryd.prog W 0 (fun _ => true) true fuel 25 [v] = some x) (hw : Wok 25 x.1) : ∃ l, SlB W v l ∧ l.length ≤ 140737488351232 ∧ ∀ h ∈ l, InX h := by
  obtain ⟨a, cap, l, e, h1, h2, h4, h3⟩ := rows_w zI Tryd.underlying25 (show Tryd.prog.cellsOf 57 = 5 by kernel_rfl) (by omega) (fun (c : In5) cs => cs = [.int .i64 c.op, .int .i64 c.a, .int .i64 c.b, .int .u64 c.bits, .int .i64 c.at_] ∧ InX c) (fun f cs y _ hy _ => ins_of hy) hw h
  rw [show Tryd.prog.bytesOf 57 = 40 by kernel_rfl, show reachBytes = 140737488351232 from rfl] at h4
  refine ⟨l, ⟨a, cap, e, h1, h2, fun i hi => ?_⟩, by omega, fun y hy => ?_⟩
  · obtain ⟨b, o, cs, ea, hb, ⟨rfl, _⟩, _, hc⟩ := h3 i _ (List.getElem?_eq_getElem hi)
    have e2 : l.getD i zI = l[i] := by simp [List.getD, hi]
    rw [e2]
    exact ⟨b, o, ea, hb, hc 0 _ rfl, hc 1 _ rfl, hc 2 _ rfl, hc 3 _ rfl, hc 4 _ rfl⟩
  · obtain ⟨i, hi, rfl⟩ := List.mem_iff_getElem.1 hy
    obtain ⟨b, o, cs, ea, hb, ⟨_, hr⟩, _⟩ := h3 i _ (List.getElem?_eq_getElem hi)
    exact hr
set_option maxRecDepth 100000 in
theorem entry_of (h : DataW.trod enc Tryd.prog W 0 (fun _ => true) true fuel 54 cs = some x) (hw : Wok 54 x.1) : ∃ y : Fn3 × Value, cs = [.int .i64 y.1.st, .int .i64 y.1.pa, y.2] ∧ Sl W y.2 y.1.lo ∧ y.1.lo.length ≤ 140737488351232 := by
  obtain ⟨xs, f, hfu, ex, hl, hlen, hf⟩ := DataW.trod_struct Tryd.underlying54 h
  rw [show Tryd.prog.cellsOf 54 = 3 by kernel_rfl] at hl
  clear h
  have hx : xs.length = 3 := hlen
  match cs, hl with
  | [c0, c1, c2], _ =>
    have h0 : DataW.trod enc Tryd.prog W 0 (fun _ => true) true f 3 (([c0, c1, c2].drop 0).take (Tryd.prog.cellsOf 3)) = xs[0]? := hf 0 _ rfl
    have h1 : DataW.trod enc Tryd.prog W 0 (fun _ => true) true f 3 (([c0, c1, c2].drop 1).take (Tryd.prog.cellsOf 3)) = xs[1]? := hf 1 _ rfl
    have h2 : DataW.trod enc Tryd.prog W 0 (fun _ => true) true f 22 (([c0, c1, c2].drop 2).take (Tryd.prog.cellsOf 22)) = xs[2]? := hf 2 _ rfl
    clear hf
    simp only [show Tryd.prog.cellsOf 3 = 1 by kernel_rfl, show Tryd.prog.cellsOf 22 = 1 by kernel_rfl, List.drop_zero, List.drop_succ_cons, List.take_succ_cons, List.take_zero] at h0 h1 h2
    rw [List.getElem?_eq_getElem (by omega)] at h0 h1 h2
    obtain ⟨z0, q0, _⟩ := DataW.trod_int Tryd.underlying3 h0
    obtain ⟨z1, q1, _⟩ := DataW.trod_int Tryd.underlying3 h1
    simp at q0 q1
    subst q0 q1
    obtain ⟨lo, hlo⟩ := sl_of h2
    rw [ex] at hw
    have w2 := wok_field (i := 2) Tryd.underlying54 hw rfl (List.getElem?_eq_getElem (show 2 < xs.length by omega))
    refine ⟨(⟨z0, z1, lo⟩, c2), rfl, hlo, ?_⟩
    obtain ⟨aP, lP, cP, e, hlP⟩ := hlo.slice
    subst e
    have := len_of Tryd.underlying22 (show Tryd.prog.bytesOf 3 = 8 by kernel_rfl) (by omega) h2 w2
    show lo.length ≤ _
    omega
theorem entries_of (h : DataW.trod enc Tryd.prog W 0 (fun _ => true) true fuel 24 [v] = some x) (hw : Wok 24 x.1) : ∃ l, SlF W v l ∧ l.length ≤ 140737488351232 ∧ ∀ f ∈ l, f.lo.length ≤ 140737488351232 := by
  obtain ⟨a, cap, l, e, h1, h2, h4, h3⟩ := rows_w ((zF, .slice none 0 0) : Fn3 × Value) Tryd.underlying24 (show Tryd.prog.cellsOf 54 = 3 by kernel_rfl) (by omega) (fun (y : Fn3 × Value) cs => cs = [.int .i64 y.1.st, .int .i64 y.1.pa, y.2] ∧ Sl W y.2 y.1.lo ∧ y.1.lo.length ≤ 140737488351232) (fun f cs y _ hy hz => entry_of hy hz) hw h
  rw [show Tryd.prog.bytesOf 54 = 40 by kernel_rfl, show reachBytes = 140737488351232 from rfl] at h4
  refine ⟨l.map Prod.fst, ⟨a, cap, by rw [List.length_map]; exact e, by rw [List.length_map]; exact h1, h2, fun i hi => ?_⟩, by rw [List.length_map]; omega, fun f hf => ?_⟩
  · rw [List.length_map] at hi
    obtain ⟨b, o, cs, ea, hb, ⟨rfl, hs, _⟩, _, hc⟩ := h3 i _ (List.getElem?_eq_getElem hi)
    have e2 : (l.map Prod.fst).getD i zF = l[i].1 := by simp [List.getD, hi]
    rw [e2]
    exact ⟨b, o, _, ea, hb, hc 0 _ rfl, hc 1 _ rfl, hc 2 _ rfl, hs⟩
  · obtain ⟨y, hy, rfl⟩ := List.mem_map.1 hf
    obtain ⟨i, hi, rfl⟩ := List.mem_iff_getElem.1 hy
    obtain ⟨b, o, cs, ea, hb, ⟨_, _, hr⟩, _⟩ := h3 i _ (List.getElem?_eq_getElem hi)
    exact hr
set_option maxRecDepth 100000 in
theorem code_of (h : DataW.trod enc Tryd.prog W 0 (fun _ => true) true fuel 27 cs = some x) (hw : Wok 27 x.1) : ∃ vP vC vF vB c, cs = [vP, .int .i64 c.M, .int .i64 c.A, vC, vF, .int .i64 c.mn, vB] ∧ Cv W vP vC vF vB c := by
  obtain ⟨xs, f, hfu, ex, hl, hlen, hf⟩ := DataW.trod_struct Tryd.underlying27 h
  rw [show Tryd.prog.cellsOf 27 = 7 by kernel_rfl] at hl
  clear h
  have hx : xs.length = 7 := hlen
  match cs, hl with
  | [c0, c1, c2, c3, c4, c5, c6], _ =>
    have h0 : DataW.trod enc Tryd.prog W 0 (fun _ => true) true f 22 (([c0, c1, c2, c3, c4, c5, c6].drop 0).take (Tryd.prog.cellsOf 22)) = xs[0]? := hf 0 _ rfl
    have h1 : DataW.trod enc Tryd.prog W 0 (fun _ => true) true f 3 (([c0, c1, c2, c3, c4, c5, c6].drop 1).take (Tryd.prog.cellsOf 3)) = xs[1]? := hf 1 _ rfl
    have h2 : DataW.trod enc Tryd.prog W 0 (fun _ => true) true f 3 (([c0, c1, c2, c3, c4, c5, c6].drop 2).take (Tryd.prog.cellsOf 3)) = xs[2]? := hf 2 _ rfl
    have h3 : DataW.trod enc Tryd.prog W 0 (fun _ => true) true f 23 (([c0, c1, c2, c3, c4, c5, c6].drop 3).take (Tryd.prog.cellsOf 23)) = xs[3]? := hf 3 _ rfl
    have h4 : DataW.trod enc Tryd.prog W 0 (fun _ => true) true f 24 (([c0, c1, c2, c3, c4, c5, c6].drop 4).take (Tryd.prog.cellsOf 24)) = xs[4]? := hf 4 _ rfl
    have h5 : DataW.trod enc Tryd.prog W 0 (fun _ => true) true f 3 (([c0, c1, c2, c3, c4, c5, c6].drop 5).take (Tryd.prog.cellsOf 3)) = xs[5]? := hf 5 _ rfl
    have h6 : DataW.trod enc Tryd.prog W 0 (fun _ => true) true f 25 (([c0, c1, c2, c3, c4, c5, c6].drop 6).take (Tryd.prog.cellsOf 25)) = xs[6]? := hf 6 _ rfl
    clear hf
    simp only [show Tryd.prog.cellsOf 3 = 1 by kernel_rfl, show Tryd.prog.cellsOf 22 = 1 by kernel_rfl, show Tryd.prog.cellsOf 23 = 1 by kernel_rfl, show Tryd.prog.cellsOf 24 = 1 by kernel_rfl, show Tryd.prog.cellsOf 25 = 1 by kernel_rfl, List.drop_zero, List.drop_succ_cons, List.take_succ_cons, List.take_zero] at h0 h1 h2 h3 h4 h5 h6
    rw [List.getElem?_eq_getElem (by omega)] at h0 h1 h2 h3 h4 h5 h6
    obtain ⟨z1, q1, _⟩ := DataW.trod_int Tryd.underlying3 h1
    obtain ⟨z2, q2, _⟩ := DataW.trod_int Tryd.underlying3 h2
    obtain ⟨z5, q5, _⟩ := DataW.trod_int Tryd.underlying3 h5
    simp at q1 q2 q5
    subst q1 q2 q5
    rw [ex] at hw
    have w0 := wok_field (i := 0) Tryd.underlying27 hw rfl (List.getElem?_eq_getElem (show 0 < xs.length by omega))
    have w3 := wok_field (i := 3) Tryd.underlying27 hw rfl (List.getElem?_eq_getElem (show 3 < xs.length by omega))
    have w4 := wok_field (i := 4) Tryd.underlying27 hw rfl (List.getElem?_eq_getElem (show 4 < xs.length by omega))
    have w6 := wok_field (i := 6) Tryd.underlying27 hw rfl (List.getElem?_eq_getElem (show 6 < xs.length by omega))
    obtain ⟨P, hP⟩ := sl_of h0
    obtain ⟨C, hC, lC, kC⟩ := chans_of h3 w3
    obtain ⟨F, hF, lF, kF⟩ := entries_of h4 w4
    obtain ⟨B, hB, lB, kB⟩ := inss_of h6 w6
    have lP : P.length ≤ 140737488351232 := by
      obtain ⟨aP, lP, cP, e, hlP⟩ := hP.slice
      subst e
      have := len_of Tryd.underlying22 (show Tryd.prog.bytesOf 3 = 8 by kernel_rfl) (by omega) h0 w0
      omega
    exact ⟨c0, c3, c4, c6, ⟨P, z1, z2, C, F, B, z5⟩, rfl, ⟨lP, lC, lF, lB, kF, kB, kC⟩, hP, hC, hF, hB⟩
end
theorem code_open {H : Type} {enc : TypeId × Value → H} {W : World} {a : Array Value} {d : DataW H} {p : List MemPlace} (h : DataW.Trod enc Tryd.prog W 0 (fun _ => true) true 27 (.agg a) d p) (hw : Wok 27 d) :
    ∃ vP vC vF vB c, Value.agg a = .agg #[vP, .int .i64 c.M, .int .i64 c.A, vC, vF, .int .i64 c.mn, vB] ∧ Cv W vP vC vF vB c := by
  obtain ⟨fuel, h⟩ := h
  obtain ⟨vP, vC, vF, vB, c, e, h1⟩ := code_of h hw
  refine ⟨vP, vC, vF, vB, c, ?_, h1⟩
  congr 1
  have e' : a.toList = [vP, .int .i64 c.M, .int .i64 c.A, vC, vF, .int .i64 c.mn, vB] := e
  rw [← Array.toArray_toList (xs := a), e']
end Go.Proofs.YtoboeipmhfnfdaaDoor.Ck
