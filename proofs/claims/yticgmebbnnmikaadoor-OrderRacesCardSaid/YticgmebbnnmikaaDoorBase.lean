/- Slices of ints in memory, by the list that they hold; no Go text is walked here. -/
import Derived.Test.YticgmebbnnmikaaDoorChecked
import Derived.WalkKit
import Derived.Outline
import Derived.BigQuiet
import Derived.Deep.QuietTactic
import Derived.WalkSmall
import Derived.Deep.OwnRows
namespace Go.Proofs.YticgmebbnnmikaaDoor.Ck
open Go.RowKit

def Fits (c : List Int) : Prop := ∀ z ∈ c, -9223372036854775808 ≤ z ∧ z ≤ 9223372036854775807

/-- a slice value that holds the list zs in the world w -/
def Sl (w : World) (v : Value) (zs : List Int) : Prop :=
  Fits zs ∧ ∃ a cap, v = .slice a zs.length cap ∧ zs.length ≤ cap ∧ cap ≤ maxLen ∧
    ∀ i, i < zs.length → ∃ b off, a = some ⟨b, off, none⟩ ∧ b < w.heap.size ∧ w.cell? ⟨b, off + i, none⟩ = some (.int .i64 (zs.getD i 0))

theorem Sl.below {w w' : World} {v : Value} {zs : List Int} (h : Sl w v zs) {B : Nat} (hB : w.heap.size ≤ B) (hb : Below B w w') : Sl w' v zs := by
  obtain ⟨hf, a, cap, hv, h1, h2, h3⟩ := h
  refine ⟨hf, a, cap, hv, h1, h2, fun i hi => ?_⟩
  obtain ⟨b, off, ha, hlt, hc⟩ := h3 i hi
  exact ⟨b, off, ha, Nat.lt_of_lt_of_le hlt hb.size, by rw [hb.cell (p := ⟨b, off + i, none⟩) (Nat.lt_of_lt_of_le hlt hB)]; exact hc⟩

theorem bel_trans {w w1 w2 : World} (h : Below w.heap.size w w1) (h2 : Below w1.heap.size w1 w2) : Below w.heap.size w w2 := h.trans (h2.mono h.size)
theorem bel_al {w w1 : World} (h : Below w.heap.size w w1) (o : Obj) : Below w.heap.size w (w1.alloc o) := h.alloc h.size o
theorem bel_new (w : World) (o : Obj) : Below w.heap.size w (w.alloc o) := (Below.refl _ _).alloc (Nat.le_refl _) o

/-- a row of the call's own, read as a slice -/
theorem Sl.of_row {w : World} {b : Nat} {t : TypeId} {n : Nat} {f : Nat → Value} {zs : List Int} (h : w.rowIs b t n f) (hn : zs.length ≤ n) (hm : n ≤ maxLen) (hf : Fits zs)
    (he : ∀ i, i < zs.length → f i = .int .i64 (zs.getD i 0)) : Sl w (.slice (some ⟨b, 0, none⟩) zs.length n) zs :=
  ⟨hf, _, _, rfl, hn, hm, fun i hi => ⟨b, 0, rfl, h.lt, by rw [Nat.zero_add, h.cell (Nat.lt_of_lt_of_le hi hn), he i hi]⟩⟩

theorem Sl.nilS (w : World) : Sl w (.slice none 0 0) [] :=
  ⟨fun _ h => (by cases h), none, 0, rfl, Nat.le_refl _, Nat.zero_le _, fun _ h => absurd h (Nat.not_lt_zero _)⟩

theorem Sl.fits {w : World} {v : Value} {zs : List Int} (h : Sl w v zs) : Fits zs := h.1
theorem Sl.slice {w : World} {v : Value} {zs : List Int} (h : Sl w v zs) : ∃ a n c, v = .slice a n c ∧ n = zs.length := by
  obtain ⟨_, a, c, rfl, _⟩ := h
  exact ⟨_, _, _, rfl, rfl⟩
theorem Sl.len {W : World} {a : Option Addr} {len cap : Nat} {zs : List Int} (h : Sl W (.slice a len cap) zs) : len = zs.length := by
  obtain ⟨_, a', c', e, _⟩ := h
  cases e
  rfl
theorem Sl.at {w : World} {a : Option Addr} {n c : Nat} {zs : List Int} (h : Sl w (.slice a n c) zs) (i : Nat) (hi : i < n) :
    ∃ b off, a = some ⟨b, off, none⟩ ∧ b < w.heap.size ∧ w.cell? ⟨b, off + i, none⟩ = some (.int .i64 (zs.getD i 0)) := by
  obtain ⟨_, a', c', e, _, _, hc⟩ := h
  cases e
  exact hc i hi
theorem ret_int {k : IntKind} {a b : Int} (h : a = b) : Ending.returned (.int k a) = .returned (.int k b) := by rw [h]
theorem ret_slice {a : Option Addr} {n m c : Nat} (h : n = m) : Ending.returned (.slice a n c) = .returned (.slice a m c) := by rw [h]
theorem ret_bool {a b : Bool} (h : a = b) : Ending.returned (.bool a) = .returned (.bool b) := by rw [h]
theorem info3 : (Tryd.prog.info? 3).map (fun i => (i.zero, i.size, i.bytes)) = some (some (.int .i64 0), 1, 8) := by kernel_rfl
theorem Sl.built {w : World} (xs : List Int) (hf : Fits xs) (hl : xs.length ≤ 1000) :
    Sl (w.alloc (.cells (xs.map (Value.int .i64)).toArray 3)) (.slice (some ⟨w.heap.size, 0, none⟩) xs.length xs.length) xs := by
  refine Sl.of_row (t := 3) (f := fun i => .int .i64 (xs.getD i 0)) ⟨_, Go.Deep.blk_alloc_new _ _, by simp, fun i hi => ?_⟩ (Nat.le_refl _) (by unfold maxLen; omega) hf (fun i _ => rfl)
  simp [List.getD, hi]


end Go.Proofs.YticgmebbnnmikaaDoor.Ck
