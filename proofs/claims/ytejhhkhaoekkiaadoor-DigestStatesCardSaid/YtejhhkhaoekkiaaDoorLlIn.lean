/- A slice of slices of bytes, as a list of lists. -/
import Derived.Test.YtejhhkhaoekkiaaDoorLaidT
import Derived.Deep.Slices
namespace Go.Proofs.YtejhhkhaoekkiaaDoor.Ck
open Go.ChangeShapes Go.WideShapes Go.ChangeAt Go.RowKit

/-- the slice a (len elements) holds slices that hold the lists f 0, f 1, .. -/
def LlAt (w : World) (a : Option Addr) (len : Nat) (f : Nat → List Int) : Prop :=
  len ≤ 9223372036854775807 ∧ ∀ i, i < len → ∃ b off v, a = some ⟨b, off, none⟩ ∧ b < w.heap.size ∧ w.cell? ⟨b, off + i, none⟩ = some v ∧ SB w v (f i)

theorem LlAt.below {w w' : World} {a : Option Addr} {len : Nat} {f : Nat → List Int} (h : LlAt w a len f) (hb : Below w.heap.size w w') : LlAt w' a len f :=
  ⟨h.1, fun i hi => by
    obtain ⟨b, off, v, h1, h2, c0, s0⟩ := h.2 i hi
    exact ⟨b, off, v, h1, Nat.lt_of_lt_of_le h2 hb.size, (hb.cell (p := ⟨b, off + i, none⟩) h2).trans c0, s0.bel hb⟩⟩

theorem cellsSl : Tryd.prog.cellsOf 29 = 1 := by kernel_rfl

theorem sl_elem {H : Type} {enc : TypeId × Value → H} {W : World} {n : Nat} {cs : List Value} {x : DataW H × List MemPlace} (h : DataW.trod enc Tryd.prog W 0 (fun _ => true) true n 29 cs = some x) :
    ∃ v zs, cs = [v] ∧ SB W v zs := by
  rcases open_ints Tryd.underlying29 Tryd.underlying5 (by kernel_rfl) h with ⟨hcs, _⟩ | ⟨y, l, c, zs, hcs, _, hl, hm, hz, _, hcell, hwz⟩
  · exact ⟨_, [], hcs, SB.nilS W⟩
  · have hz' : zs.length = c := by simpa using hz
    have hlen : (zs.take l).length = l := by simp; omega
    refine ⟨_, zs.take l, hcs, fun z hm' => wf_u8 (hwz z (List.mem_of_mem_take hm')), some y, c, by rw [hlen], by omega, hm, fun i hi => ?_⟩
    rw [hlen] at hi
    have hc := hcell i (by omega)
    obtain ⟨b, off, spot⟩ := y
    have hspot : spot = none := by simpa [Addr.add] using World.cell?_spot (hcell 0 (by omega))
    subst hspot
    rw [add_plain] at hc
    refine ⟨b, off, rfl, block_lt hc, ?_⟩
    have e : (zs.take l).getD i 0 = zs.getD i 0 := by simp [List.getD, hi]
    rw [e]
    exact hc

theorem cells1 {W : World} {a : Addr} {v0 : Value} (h : W.cells? 0 a 1 = some [v0]) : W.cell? a = some v0 := by
  have e : List.range 1 = [0] := by decide
  unfold World.cells? at h
  rw [if_pos (Nat.zero_le _), e] at h
  have ea : a.add 0 = a := by unfold Addr.add; simp
  cases h0 : W.cell? a with
  | none => simp [ea, h0] at h
  | some u0 =>
    simp [ea, h0] at h
    simp [h]

theorem ll_open {H : Type} {enc : TypeId × Value → H} {W : World} {a : Option Addr} {len cap : Nat} {d : DataW H} {p : List MemPlace}
    (h : DataW.Trod enc Tryd.prog W 0 (fun _ => true) true 30 (.slice a len cap) d p) : ∃ f, LlAt W a len f := by
  obtain ⟨fuel, hf⟩ := h
  rcases Go.Deep.open_slice Tryd.underlying30 hf with ⟨hcs, _⟩ | ⟨x, l, c, m, n, D, Pl, hcs, _, hl, hm, hmm, _, hcell⟩
  · simp [Value.cells] at hcs
    obtain ⟨rfl, rfl, rfl⟩ := hcs
    exact ⟨fun _ => [], by omega, fun i hi => by omega⟩
  · simp [Value.cells] at hcs
    obtain ⟨rfl, rfl, rfl⟩ := hcs
    simp only [if_pos] at hmm
    subst hmm
    have key : ∀ i, i < len → ∃ zs : List Int, ∃ v, W.cell? (x.add i) = some v ∧ SB W v zs := fun i hi => by
      obtain ⟨cs', h1, h2⟩ := hcell i (by omega)
      rw [cellsSl, Nat.mul_one] at h1
      obtain ⟨v, zs, e, hs⟩ := sl_elem h2
      rw [e] at h1
      exact ⟨zs, v, cells1 h1, hs⟩
    have hf : ∃ f : Nat → List Int, ∀ i, i < len → ∃ v, W.cell? (x.add i) = some v ∧ SB W v (f i) := by
      refine ⟨fun i => if h : i < len then (key i h).choose else [], fun i hi => ?_⟩
      simp only [dif_pos hi]
      exact (key i hi).choose_spec
    obtain ⟨f, hf⟩ := hf
    refine ⟨f, by unfold maxLen at hm; omega, fun i hi => ?_⟩
    obtain ⟨v, hc, hs⟩ := hf i hi
    obtain ⟨b, off, spot⟩ := x
    have hspot : spot = none := by
      obtain ⟨v0, hc0, _⟩ := hf 0 (by omega)
      simpa [Addr.add] using World.cell?_spot hc0
    subst hspot
    rw [add_plain] at hc
    exact ⟨b, off, v, rfl, block_lt hc, hc, hs⟩

end Go.Proofs.YtejhhkhaoekkiaaDoor.Ck
