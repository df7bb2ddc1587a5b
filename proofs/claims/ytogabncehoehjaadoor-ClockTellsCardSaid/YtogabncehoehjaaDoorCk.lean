/- The plain mathematics of clocks (lists of counts), and what it means that a slice in memory holds such a list: no Go text is walked here. -/
import Derived.WalkKit
import Derived.Deep.OwnRows
namespace Go.Proofs.YtogabncehoehjaaDoor.Ck
open Go.RowKit

/-- the count at place i: what the list lacks is 0, and so is what is below 0 -/
def cnt (c : List Int) (i : Nat) : Int := max (c.getD i 0) 0
/-- the count of goroutine g -/
def get (c : List Int) (g : Int) : Int := if 0 ≤ g ∧ g < c.length then max (c.getD g.toNat 0) 0 else 0

def Fits (c : List Int) : Prop := ∀ z ∈ c, -9223372036854775808 ≤ z ∧ z ≤ 9223372036854775807

theorem cnt_nonneg (c : List Int) (i : Nat) : 0 ≤ cnt c i := by unfold cnt; omega
theorem cnt_out (c : List Int) (i : Nat) (h : c.length ≤ i) : cnt c i = 0 := by
  unfold cnt; simp [List.getD, List.getElem?_eq_none h]
theorem get_nat (c : List Int) (i : Nat) : get c (i : Int) = cnt c i := by
  unfold get
  by_cases h : (i : Int) < c.length
  · rw [if_pos ⟨by omega, h⟩]; simp [cnt]
  · rw [if_neg (by omega), cnt_out c i (by omega)]
theorem get_neg (c : List Int) (g : Int) (h : g < 0) : get c g = 0 := by unfold get; rw [if_neg (by omega)]
theorem get_in (c : List Int) (g : Int) (h0 : 0 ≤ g) (h1 : g < c.length) : get c g = max (c.getD g.toNat 0) 0 := by unfold get; rw [if_pos ⟨h0, h1⟩]
theorem get_out (c : List Int) (g : Int) (h : g < 0 ∨ (c.length : Int) ≤ g) : get c g = 0 := by unfold get; rw [if_neg (by omega)]
theorem get_nonneg (c : List Int) (g : Int) : 0 ≤ get c g := by unfold get; split <;> omega
theorem get_max (c : List Int) (g : Int) (h : Fits c) : get c g ≤ 9223372036854775807 := by
  unfold get
  split
  · rename_i hg
    have hl : g.toNat < c.length := by omega
    have hm : c.getD g.toNat 0 ∈ c := by simp [List.getD, List.getElem?_eq_getElem hl]
    have := h _ hm
    omega
  · omega
theorem cnt_max (c : List Int) (i : Nat) (h : Fits c) : cnt c i ≤ 9223372036854775807 := by
  rw [← get_nat]; exact get_max c i h

/-- a slice value that holds the list zs in the world w -/
def Sl (w : World) (v : Value) (zs : List Int) : Prop :=
  Fits zs ∧ ∃ a cap, v = .slice a zs.length cap ∧ zs.length ≤ cap ∧ cap ≤ maxLen ∧
    ∀ i, i < zs.length → ∃ b off, a = some ⟨b, off, none⟩ ∧ b < w.heap.size ∧ w.cell? ⟨b, off + i, none⟩ = some (.int .i64 (zs.getD i 0))

theorem Sl.below {w w' : World} {v : Value} {zs : List Int} (h : Sl w v zs) {B : Nat} (hB : w.heap.size ≤ B) (hb : Below B w w') : Sl w' v zs := by
  obtain ⟨hf, a, cap, hv, h1, h2, h3⟩ := h
  refine ⟨hf, a, cap, hv, h1, h2, fun i hi => ?_⟩
  obtain ⟨b, off, ha, hlt, hc⟩ := h3 i hi
  exact ⟨b, off, ha, Nat.lt_of_lt_of_le hlt hb.size, by rw [hb.cell (p := ⟨b, off + i, none⟩) (Nat.lt_of_lt_of_le hlt hB)]; exact hc⟩

theorem bel_trans {w w1 w2 : World} (h : Below w.heap.size w w1) (h2 : Below w1.heap.size w1 w2) : Below w.heap.size w w2 := h.trans (h2.mono h.size)
theorem bel_al {w w1 : World} (h : Below w.heap.size w w1) (o : Obj) : Below w.heap.size w (w1.alloc o) := h.alloc h.size o
theorem bel_new (w : World) (o : Obj) : Below w.heap.size w (w.alloc o) := (Below.refl _ _).alloc (Nat.le_refl _) o

/-- a row of the call's own, read as a slice -/
theorem Sl.of_row {w : World} {b : Nat} {t : TypeId} {n : Nat} {f : Nat → Value} {zs : List Int} (h : w.rowIs b t n f) (hn : zs.length ≤ n) (hm : n ≤ maxLen) (hf : Fits zs)
    (he : ∀ i, i < zs.length → f i = .int .i64 (zs.getD i 0)) : Sl w (.slice (some ⟨b, 0, none⟩) zs.length n) zs :=
  ⟨hf, _, _, rfl, hn, hm, fun i hi => ⟨b, 0, rfl, h.lt, by rw [Nat.zero_add, h.cell (Nat.lt_of_lt_of_le hi hn), he i hi]⟩⟩

theorem Sl.nilS (w : World) : Sl w (.slice none 0 0) [] :=
  ⟨fun _ h => (by cases h), none, 0, rfl, Nat.le_refl _, Nat.zero_le _, fun _ h => absurd h (Nat.not_lt_zero _)⟩

end Go.Proofs.YtogabncehoehjaaDoor.Ck
