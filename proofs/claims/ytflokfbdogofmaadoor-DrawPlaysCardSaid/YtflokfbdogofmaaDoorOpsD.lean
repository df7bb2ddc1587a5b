/- A slice of the statements' calls (two ints each), as a list. -/
import Derived.Test.YtflokfbdogofmaaDoorOpen
import Derived.Deep.Slices
import Derived.Lib.SmallJoins
namespace Go.Proofs.YtflokfbdogofmaaDoor.Ck
open Go.ChangeShapes Go.WideShapes Go.ChangeAt Go.RowKit Go.Joins

structure OpV where
  kind : Int
  n : Int

def OpV.fits (o : OpV) : Prop := (-9223372036854775808 ≤ o.kind ∧ o.kind ≤ 9223372036854775807) ∧ -9223372036854775808 ≤ o.n ∧ o.n ≤ 9223372036854775807

/-- the slice a (len elements) holds the calls f 0, f 1, .. -/
def OpsAt (w : World) (a : Option Addr) (len : Nat) (f : Nat → OpV) : Prop :=
  len ≤ 9223372036854775807 ∧ ∀ i, i < len → (f i).fits ∧ ∃ b off, a = some ⟨b, off, none⟩ ∧ b < w.heap.size ∧ w.cell? ⟨b, off + i * 2, none⟩ = some (.int .i64 (f i).kind) ∧ w.cell? ⟨b, off + i * 2 + 1, none⟩ = some (.int .i64 (f i).n)

theorem OpsAt.below {w w' : World} {a : Option Addr} {len : Nat} {f : Nat → OpV} (h : OpsAt w a len f) (hb : Below w.heap.size w w') : OpsAt w' a len f :=
  ⟨h.1, fun i hi => by
    obtain ⟨h0, b, off, h1, h2, c0, c1⟩ := h.2 i hi
    exact ⟨h0, b, off, h1, Nat.lt_of_lt_of_le h2 hb.size, (hb.cell (p := ⟨b, off + i * 2, none⟩) h2).trans c0, (hb.cell (p := ⟨b, off + i * 2 + 1, none⟩) h2).trans c1⟩⟩

theorem cellsOp : Tryd.prog.cellsOf 33 = 2 := by kernel_rfl

set_option maxRecDepth 100000 in
theorem ops_elem {H : Type} {enc : TypeId × Value → H} {W : World} {n : Nat} {cs : List Value} {x : DataW H × List MemPlace} (h : DataW.trod enc Tryd.prog W 0 (fun _ => true) true n 33 cs = some x) :
    ∃ o : OpV, o.fits ∧ cs = [.int .i64 o.kind, .int .i64 o.n] := by
  obtain ⟨y0, y1, m, _, hl, h0, h1⟩ := trod_struct2 Tryd.underlying33 h
  rw [cellsOp] at hl
  clear h
  simp only [show Tryd.prog.cellsOf 3 = 1 by kernel_rfl] at h0 h1
  match cs, hl with
  | [c0, c1], _ =>
    simp only [List.drop_zero, List.drop_succ_cons, List.take_succ_cons, List.take_zero] at h0 h1
    obtain ⟨z0, e0, _, w0⟩ := DataW.trod_int Tryd.underlying3 h0
    obtain ⟨z1, e1, _, w1⟩ := DataW.trod_int Tryd.underlying3 h1
    simp at e0 e1
    subst e0 e1
    exact ⟨⟨z0, z1⟩, ⟨wf_i64 w0, wf_i64 w1⟩, rfl⟩

theorem cells2 {W : World} {a : Addr} {v0 v1 : Value} (h : W.cells? 0 a 2 = some [v0, v1]) : W.cell? a = some v0 ∧ W.cell? (a.add 1) = some v1 := by
  have e : List.range 2 = [0, 1] := by decide
  unfold World.cells? at h
  rw [if_pos (Nat.zero_le _), e] at h
  have ea : a.add 0 = a := by unfold Addr.add; simp
  cases h0 : W.cell? a with
  | none => simp [ea, h0] at h
  | some u0 =>
    cases h1 : W.cell? (a.add 1) with
    | none => simp [ea, h0, h1] at h
    | some u1 =>
      simp [ea, h0, h1] at h
      simp [h]

theorem ops_open {H : Type} {enc : TypeId × Value → H} {W : World} {a : Option Addr} {len cap : Nat} {d : DataW H} {p : List MemPlace}
    (h : DataW.Trod enc Tryd.prog W 0 (fun _ => true) true 23 (.slice a len cap) d p) : ∃ f, OpsAt W a len f := by
  obtain ⟨fuel, hf⟩ := h
  rcases Go.Deep.open_slice Tryd.underlying23 hf with ⟨hcs, _⟩ | ⟨x, l, c, m, n, D, Pl, hcs, _, hl, hm, hmm, _, hcell⟩
  · simp [Value.cells] at hcs
    obtain ⟨rfl, rfl, rfl⟩ := hcs
    exact ⟨fun _ => ⟨0, 0⟩, by omega, fun i hi => by omega⟩
  · simp [Value.cells] at hcs
    obtain ⟨rfl, rfl, rfl⟩ := hcs
    simp only [if_pos] at hmm
    subst hmm
    have key : ∀ i, i < len → ∃ o : OpV, o.fits ∧ W.cells? 0 (x.add (i * 2)) 2 = some [.int .i64 o.kind, .int .i64 o.n] := fun i hi => by
      obtain ⟨cs', h1, h2⟩ := hcell i (by omega)
      rw [cellsOp] at h1
      obtain ⟨o, ho, e⟩ := ops_elem h2
      exact ⟨o, ho, by rw [h1, e]⟩
    have hf : ∃ f : Nat → OpV, ∀ i, i < len → (f i).fits ∧ W.cells? 0 (x.add (i * 2)) 2 = some [.int .i64 (f i).kind, .int .i64 (f i).n] := by
      refine ⟨fun i => if h : i < len then (key i h).choose else ⟨0, 0⟩, fun i hi => ?_⟩
      simp only [dif_pos hi]
      exact (key i hi).choose_spec
    obtain ⟨f, hf⟩ := hf
    refine ⟨f, by unfold maxLen at hm; omega, fun i hi => ⟨(hf i hi).1, ?_⟩⟩
    have hc := (hf i hi).2
    obtain ⟨b, off, spot⟩ := x
    have hc2 := cells2 hc
    have hspot : spot = none := by
      have h0 := cells2 (hf 0 (by omega)).2
      simpa [Addr.add] using World.cell?_spot h0.1
    subst hspot
    rw [add_plain] at hc2
    obtain ⟨c0, c1⟩ := hc2
    rw [add_plain] at c1
    exact ⟨b, off, rfl, block_lt c0, c0, c1⟩

end Go.Proofs.YtflokfbdogofmaaDoor.Ck
