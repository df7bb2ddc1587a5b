/- The walk of the statement ValueMakes: it answers true. (Written by mk_m.py.) -/
import Derived.Test.YtmdfciiejenpnaaR2
import Derived.Deep.RegionHeld3
namespace Go.Proofs.Ytmdfciiejenpnaa.Ck
open Go.RowKit

/-- a variable of type Made, in block g -/
def Mad (w : World) (g : Nat) (t n b t' n' b' N : Int) (u : Nat) : Prop := w.heap[g]? = some (.cells #[.int .i64 t, .int .i64 n, .int .u64 b, .int .i64 t', .int .i64 n', .int .u64 b', .int .i64 N, .int .u64 (u : Nat)] 32 (0, 0))
theorem Mad.lt {w : World} {g : Nat} {t n b t' n' b' N : Int} {u : Nat} (h : Mad w g t n b t' n' b' N u) : g < w.heap.size := by
  unfold Mad at h
  by_cases hg : g < w.heap.size
  · exact hg
  · rw [Array.getElem?_eq_none (by omega)] at h; cases h
theorem Mad.al {w w' : World} {g : Nat} {t n b t' n' b' N : Int} {u : Nat} (h : Mad w g t n b t' n' b' N u) (hb : Below w.heap.size w w') : Mad w' g t n b t' n' b' N u := (hb.block g h.lt).trans h
theorem Mad.other {w : World} {g g2 : Nat} {t n b t' n' b' N : Int} {u : Nat} (h : Mad w g t n b t' n' b' N u) (hg : g ≠ g2) (x y z : Value) : Mad (((w.setCell ⟨g2, 0, none⟩ x).setCell ⟨g2, 1, none⟩ y).setCell ⟨g2, 2, none⟩ z) g t n b t' n' b' N u := by
  unfold Mad at *
  rw [Below.heap_setCell _ _ _ _ hg, Below.heap_setCell _ _ _ _ hg, Below.heap_setCell _ _ _ _ hg]
  exact h
theorem Mad.all {w : World} {g : Nat} {t n b t' n' b' N : Int} {u : Nat} (h : Mad w g t n b t' n' b' N u) :
    w.cell? ⟨g, 0, none⟩ = some (.int .i64 t) ∧ w.cell? ⟨g, 1, none⟩ = some (.int .i64 n) ∧ w.cell? ⟨g, 2, none⟩ = some (.int .u64 b) ∧ w.cell? ⟨g, 3, none⟩ = some (.int .i64 t') ∧ w.cell? ⟨g, 4, none⟩ = some (.int .i64 n') ∧ w.cell? ⟨g, 5, none⟩ = some (.int .u64 b') ∧ w.cell? ⟨g, 6, none⟩ = some (.int .i64 N) ∧ w.cell? ⟨g, 7, none⟩ = some (.int .u64 (u : Nat)) := by
  unfold Mad at h
  simp [World.cell?, h]
theorem Val.oth {w : World} {g g2 : Nat} {t n b : Int} (h : Val w g t n b) (hg : g ≠ g2) (x y z : Value) : Val (((w.setCell ⟨g2, 0, none⟩ x).setCell ⟨g2, 1, none⟩ y).setCell ⟨g2, 2, none⟩ z) g t n b := by
  unfold Val at *
  rw [Below.heap_setCell _ _ _ _ hg, Below.heap_setCell _ _ _ _ hg, Below.heap_setCell _ _ _ _ hg]
  exact h
/-- the law's three variables of type Value -/
def Tr3 (w : World) (gv gw gz : Nat) (t n b t' n' b' z : Int) : Prop := Val w gv t n b ∧ Val w gw t' n' b' ∧ Val w gz z 0 0
theorem Tr3.al {w w' : World} {gv gw gz : Nat} {t n b t' n' b' z : Int} (h : Tr3 w gv gw gz t n b t' n' b' z) (hb : Below w.heap.size w w') : Tr3 w' gv gw gz t n b t' n' b' z := ⟨h.1.al hb, h.2.1.al hb, h.2.2.al hb⟩
theorem zeroT_in {n : Int} (h : 1 ≤ n ∧ n ≤ 3) : zeroT n = n := by unfold zeroT; rw [if_pos (by omega)]
theorem zeroT_out {n : Int} (h : n < 1 ∨ 3 < n) : zeroT n = 0 := by unfold zeroT; rw [if_neg (by omega)]
end Go.Proofs.Ytmdfciiejenpnaa.Ck
