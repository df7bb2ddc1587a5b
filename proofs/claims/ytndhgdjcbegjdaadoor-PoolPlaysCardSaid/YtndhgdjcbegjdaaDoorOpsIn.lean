/- A slice of the statements' calls (four ints each), as a list. -/
import Derived.Test.YtndhgdjcbegjdaaDoorOpen
import Derived.Deep.Slices
import Derived.Lib.SmallJoins
namespace Go.Proofs.YtndhgdjcbegjdaaDoor.Ck
open Go.ChangeShapes Go.WideShapes Go.ChangeAt Go.RowKit Go.Joins

structure OpV where
  kind : Int
  arena : Int
  at_ : Int
  v : Int

def OpV.fits (o : OpV) : Prop := (-9223372036854775808 ≤ o.kind ∧ o.kind ≤ 9223372036854775807) ∧ (-9223372036854775808 ≤ o.arena ∧ o.arena ≤ 9223372036854775807) ∧ (-9223372036854775808 ≤ o.at_ ∧ o.at_ ≤ 9223372036854775807) ∧ -9223372036854775808 ≤ o.v ∧ o.v ≤ 9223372036854775807

/-- the slice a (len elements) holds the calls f 0, f 1, .. -/
def OpsAt (w : World) (a : Option Addr) (len : Nat) (f : Nat → OpV) : Prop :=
  len ≤ 9223372036854775807 ∧ ∀ i, i < len → (f i).fits ∧ ∃ b off, a = some ⟨b, off, none⟩ ∧ b < w.heap.size ∧ w.cell? ⟨b, off + i * 4, none⟩ = some (.int .i64 (f i).kind) ∧ w.cell? ⟨b, off + i * 4 + 1, none⟩ = some (.int .i64 (f i).arena) ∧
    w.cell? ⟨b, off + i * 4 + 2, none⟩ = some (.int .i64 (f i).at_) ∧ w.cell? ⟨b, off + i * 4 + 3, none⟩ = some (.int .i64 (f i).v)

theorem OpsAt.below {w w' : World} {a : Option Addr} {len : Nat} {f : Nat → OpV} (h : OpsAt w a len f) (hb : Below w.heap.size w w') : OpsAt w' a len f :=
  ⟨h.1, fun i hi => by
    obtain ⟨h0, b, off, h1, h2, c0, c1, c2, c3⟩ := h.2 i hi
    exact ⟨h0, b, off, h1, Nat.lt_of_lt_of_le h2 hb.size, (hb.cell (p := ⟨b, off + i * 4, none⟩) h2).trans c0, (hb.cell (p := ⟨b, off + i * 4 + 1, none⟩) h2).trans c1, (hb.cell (p := ⟨b, off + i * 4 + 2, none⟩) h2).trans c2, (hb.cell (p := ⟨b, off + i * 4 + 3, none⟩) h2).trans c3⟩⟩

theorem cellsOp : Tryd.prog.cellsOf 45 = 4 := by kernel_rfl

set_option maxRecDepth 100000 in
theorem ops_elem {H : Type} {enc : TypeId × Value → H} {W : World} {n : Nat} {cs : List Value} {x : DataW H × List MemPlace} (h : DataW.trod enc Tryd.prog W 0 (fun _ => true) true n 45 cs = some x) :
    ∃ o : OpV, o.fits ∧ cs = [.int .i64 o.kind, .int .i64 o.arena, .int .i64 o.at_, .int .i64 o.v] := by
  obtain ⟨y0, y1, y2, y3, m, _, hl, h0, h1, h2, h3⟩ := trod_struct4 Tryd.underlying45 h
  rw [cellsOp] at hl
  clear h
  simp only [show Tryd.prog.cellsOf 3 = 1 by kernel_rfl] at h0 h1 h2 h3
  match cs, hl with
  | [c0, c1, c2, c3], _ =>
    simp only [List.drop_zero, List.drop_succ_cons, List.take_succ_cons, List.take_zero] at h0 h1 h2 h3
    obtain ⟨z0, e0, _, w0⟩ := DataW.trod_int Tryd.underlying3 h0
    obtain ⟨z1, e1, _, w1⟩ := DataW.trod_int Tryd.underlying3 h1
    obtain ⟨z2, e2, _, w2⟩ := DataW.trod_int Tryd.underlying3 h2
    obtain ⟨z3, e3, _, w3⟩ := DataW.trod_int Tryd.underlying3 h3
    simp at e0 e1 e2 e3
    subst e0 e1 e2 e3
    exact ⟨⟨z0, z1, z2, z3⟩, ⟨wf_i64 w0, wf_i64 w1, wf_i64 w2, wf_i64 w3⟩, rfl⟩

theorem cells4 {W : World} {a : Addr} {v0 v1 v2 v3 : Value} (h : W.cells? 0 a 4 = some [v0, v1, v2, v3]) : W.cell? a = some v0 ∧ W.cell? (a.add 1) = some v1 ∧ W.cell? (a.add 2) = some v2 ∧ W.cell? (a.add 3) = some v3 := by
  have e : List.range 4 = [0, 1, 2, 3] := by decide
  unfold World.cells? at h
  rw [if_pos (Nat.zero_le _), e] at h
  have ea : a.add 0 = a := by unfold Addr.add; simp
  cases h0 : W.cell? a with
  | none => simp [ea, h0] at h
  | some u0 =>
    cases h1 : W.cell? (a.add 1) with
    | none => simp [ea, h0, h1] at h
    | some u1 =>
      cases h2 : W.cell? (a.add 2) with
      | none => simp [ea, h0, h1, h2] at h
      | some u2 =>
        cases h3 : W.cell? (a.add 3) with
        | none => simp [ea, h0, h1, h2, h3] at h
        | some u3 =>
          simp [ea, h0, h1, h2, h3] at h
          simp [h]

theorem ops_open {H : Type} {enc : TypeId × Value → H} {W : World} {a : Option Addr} {len cap : Nat} {d : DataW H} {p : List MemPlace}
    (h : DataW.Trod enc Tryd.prog W 0 (fun _ => true) true 23 (.slice a len cap) d p) : ∃ f, OpsAt W a len f := by
  obtain ⟨fuel, hf⟩ := h
  rcases Go.Deep.open_slice Tryd.underlying23 hf with ⟨hcs, _⟩ | ⟨x, l, c, m, n, D, Pl, hcs, _, hl, hm, hmm, _, hcell⟩
  · simp [Value.cells] at hcs
    obtain ⟨rfl, rfl, rfl⟩ := hcs
    exact ⟨fun _ => ⟨0, 0, 0, 0⟩, by omega, fun i hi => by omega⟩
  · simp [Value.cells] at hcs
    obtain ⟨rfl, rfl, rfl⟩ := hcs
    simp only [if_pos] at hmm
    subst hmm
    have key : ∀ i, i < len → ∃ o : OpV, o.fits ∧ W.cells? 0 (x.add (i * 4)) 4 = some [.int .i64 o.kind, .int .i64 o.arena, .int .i64 o.at_, .int .i64 o.v] := fun i hi => by
      obtain ⟨cs', h1, h2⟩ := hcell i (by omega)
      rw [cellsOp] at h1
      obtain ⟨o, ho, e⟩ := ops_elem h2
      exact ⟨o, ho, by rw [h1, e]⟩
    have hf : ∃ f : Nat → OpV, ∀ i, i < len → (f i).fits ∧ W.cells? 0 (x.add (i * 4)) 4 = some [.int .i64 (f i).kind, .int .i64 (f i).arena, .int .i64 (f i).at_, .int .i64 (f i).v] := by
      refine ⟨fun i => if h : i < len then (key i h).choose else ⟨0, 0, 0, 0⟩, fun i hi => ?_⟩
      simp only [dif_pos hi]
      exact (key i hi).choose_spec
    obtain ⟨f, hf⟩ := hf
    refine ⟨f, by unfold maxLen at hm; omega, fun i hi => ⟨(hf i hi).1, ?_⟩⟩
    have hc := (hf i hi).2
    obtain ⟨b, off, spot⟩ := x
    have hc4 := cells4 hc
    have hspot : spot = none := by
      have h0 := cells4 (hf 0 (by omega)).2
      simpa [Addr.add] using World.cell?_spot h0.1
    subst hspot
    rw [add_plain] at hc4
    obtain ⟨c0, c1, c2, c3⟩ := hc4
    rw [add_plain] at c1 c2 c3
    exact ⟨b, off, rfl, block_lt c0, c0, c1, c2, c3⟩

end Go.Proofs.YtndhgdjcbegjdaaDoor.Ck
