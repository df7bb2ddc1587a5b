/- A slice of the statements' calls (two ints and bytes each), as a list. -/
import Derived.Test.YtejhhkhaoekkiaaDoorLlIn
import Derived.Deep.Strs
namespace Go.Proofs.YtejhhkhaoekkiaaDoor.Ck
open Go.ChangeShapes Go.WideShapes Go.ChangeAt Go.RowKit

structure OpB where
  kind : Int
  state : Int
  v : Value
  bytes : List Int

/-- the slice a (len elements) holds the calls f 0, f 1, .. -/
def OpsAt (w : World) (a : Option Addr) (len : Nat) (f : Nat → OpB) : Prop :=
  len ≤ 9223372036854775807 ∧ ∀ i, i < len → ∃ b off, a = some ⟨b, off, none⟩ ∧ b < w.heap.size ∧ w.cell? ⟨b, off + i * 3, none⟩ = some (.int .i64 (f i).kind) ∧ w.cell? ⟨b, off + i * 3 + 1, none⟩ = some (.int .i64 (f i).state) ∧
    w.cell? ⟨b, off + i * 3 + 2, none⟩ = some (f i).v ∧ SB w (f i).v (f i).bytes

theorem OpsAt.below {w w' : World} {a : Option Addr} {len : Nat} {f : Nat → OpB} (h : OpsAt w a len f) (hb : Below w.heap.size w w') : OpsAt w' a len f :=
  ⟨h.1, fun i hi => by
    obtain ⟨b, off, h1, h2, c0, c1, c2, s⟩ := h.2 i hi
    exact ⟨b, off, h1, Nat.lt_of_lt_of_le h2 hb.size, (hb.cell (p := ⟨b, off + i * 3, none⟩) h2).trans c0, (hb.cell (p := ⟨b, off + i * 3 + 1, none⟩) h2).trans c1, (hb.cell (p := ⟨b, off + i * 3 + 2, none⟩) h2).trans c2, s.bel hb⟩⟩

theorem cellsOp : Tryd.prog.cellsOf 32 = 3 := by kernel_rfl

set_option maxRecDepth 100000 in
theorem ops_elem {H : Type} {enc : TypeId × Value → H} {W : World} {n : Nat} {cs : List Value} {x : DataW H × List MemPlace} (h : DataW.trod enc Tryd.prog W 0 (fun _ => true) true n 32 cs = some x) :
    ∃ o : OpB, cs = [.int .i64 o.kind, .int .i64 o.state, o.v] ∧ SB W o.v o.bytes := by
  obtain ⟨y0, y1, y2, m, _, hl, h0, h1, h2⟩ := Go.Deep.trod_struct3 Tryd.underlying32 h
  rw [cellsOp] at hl
  clear h
  simp only [show Tryd.prog.cellsOf 3 = 1 by kernel_rfl, cellsSl] at h0 h1 h2
  match cs, hl with
  | [c0, c1, c2], _ =>
    simp only [List.drop_zero, List.drop_succ_cons, List.take_succ_cons, List.take_zero] at h0 h1 h2
    obtain ⟨z0, e0, _, w0⟩ := DataW.trod_int Tryd.underlying3 h0
    obtain ⟨z1, e1, _, w1⟩ := DataW.trod_int Tryd.underlying3 h1
    obtain ⟨v, zs, e2, hs⟩ := sl_elem h2
    simp at e0 e1 e2
    subst e0 e1 e2
    exact ⟨⟨z0, z1, c2, zs⟩, rfl, hs⟩

theorem cells3 {W : World} {a : Addr} {v0 v1 v2 : Value} (h : W.cells? 0 a 3 = some [v0, v1, v2]) : W.cell? a = some v0 ∧ W.cell? (a.add 1) = some v1 ∧ W.cell? (a.add 2) = some v2 := by
  have e : List.range 3 = [0, 1, 2] := by decide
  unfold World.cells? at h
  rw [if_pos (Nat.zero_le _), e] at h
  have ea : a.add 0 = a := by unfold Addr.add; simp
  cases h0 : W.cell? a with
  | none => simp [ea, h0] at h
  | some u0 =>
    cases h1 : W.cell? (a.add 1) with
    | none => simp [ea, h0, h1] at h
    | some u1 =>
      cases h2 : W.cell? (a.add 2) with
      | none => simp [ea, h0, h1, h2] at h
      | some u2 =>
        simp [ea, h0, h1, h2] at h
        simp [h]

theorem ops_open {H : Type} {enc : TypeId × Value → H} {W : World} {a : Option Addr} {len cap : Nat} {d : DataW H} {p : List MemPlace}
    (h : DataW.Trod enc Tryd.prog W 0 (fun _ => true) true 22 (.slice a len cap) d p) : ∃ f, OpsAt W a len f := by
  obtain ⟨fuel, hf⟩ := h
  rcases Go.Deep.open_slice Tryd.underlying22 hf with ⟨hcs, _⟩ | ⟨x, l, c, m, n, D, Pl, hcs, _, hl, hm, hmm, _, hcell⟩
  · simp [Value.cells] at hcs
    obtain ⟨rfl, rfl, rfl⟩ := hcs
    exact ⟨fun _ => ⟨0, 0, .slice none 0 0, []⟩, by omega, fun i hi => by omega⟩
  · simp [Value.cells] at hcs
    obtain ⟨rfl, rfl, rfl⟩ := hcs
    simp only [if_pos] at hmm
    subst hmm
    have key : ∀ i, i < len → ∃ o : OpB, W.cells? 0 (x.add (i * 3)) 3 = some [.int .i64 o.kind, .int .i64 o.state, o.v] ∧ SB W o.v o.bytes := fun i hi => by
      obtain ⟨cs', h1, h2⟩ := hcell i (by omega)
      rw [cellsOp] at h1
      obtain ⟨o, e, hs⟩ := ops_elem h2
      exact ⟨o, by rw [h1, e], hs⟩
    have hf : ∃ f : Nat → OpB, ∀ i, i < len → W.cells? 0 (x.add (i * 3)) 3 = some [.int .i64 (f i).kind, .int .i64 (f i).state, (f i).v] ∧ SB W (f i).v (f i).bytes := by
      refine ⟨fun i => if h : i < len then (key i h).choose else ⟨0, 0, .slice none 0 0, []⟩, fun i hi => ?_⟩
      simp only [dif_pos hi]
      exact (key i hi).choose_spec
    obtain ⟨f, hf⟩ := hf
    refine ⟨f, by unfold maxLen at hm; omega, fun i hi => ?_⟩
    have hc := (hf i hi).1
    obtain ⟨b, off, spot⟩ := x
    have hc3 := cells3 hc
    have hspot : spot = none := by
      have h0 := cells3 (hf 0 (by omega)).1
      simpa [Addr.add] using World.cell?_spot h0.1
    subst hspot
    rw [add_plain] at hc3
    obtain ⟨c0, c1, c2⟩ := hc3
    rw [add_plain] at c1 c2
    exact ⟨b, off, rfl, block_lt c0, c0, c1, c2, (hf i hi).2⟩

end Go.Proofs.YtejhhkhaoekkiaaDoor.Ck
