/- The contract of the statements' own Num: the number of a sentinel error is its place in the document's table. -/
import Derived.Test.YticgmebbnnmikaaDoorSent
import Derived.Test.YticgmebbnnmikaaDoorIs
import Derived.Test.YticgmebbnnmikaaDoorBase
namespace Go.Proofs.YticgmebbnnmikaaDoor.Ck
open Go.RowKit

/-- the variables' numbers, in the order of the document's table -/
def gl : List Nat := [0, 1, 2, 3, 4, 5, 6, 7, 8, 9, 10, 11, 12, 13, 14, 15, 16]
def adr (p : List Addr) (i : Nat) : Addr := p.getD i ⟨0, 0, none⟩
abbrev errV (p : List Addr) (i : Nat) : Value := .iface 143 (.pointer (some (adr p i)))

/-- the package's errors are there, no two of them one -/
structure Errs17 (w : World) (p : List Addr) : Prop where
  sents : Sents w gl p
  nodup : p.Nodup

theorem Sents.below {w w' : World} {B : Nat} (hB : w.heap.size ≤ B) (hb : Below B w w') {gs : List Nat} {p : List Addr} (h : Sents w gs p) : Sents w' gs p := by
  induction gs generalizing p with
  | nil => cases p with
    | nil => trivial
    | cons a p => exact h
  | cons g gs ih => cases p with
    | nil => exact h
    | cons a p =>
      obtain ⟨⟨h1, h2, c, t, h3⟩, h4⟩ := h
      have hlt : a.block < w.heap.size := by
        rcases Nat.lt_or_ge a.block w.heap.size with h' | h'
        · exact h'
        · simp [Array.getElem?_eq_none h'] at h3
      exact ⟨⟨Nat.lt_of_lt_of_le h1 hb.size, by rw [hb.cell (p := ⟨g, 0, none⟩) (Nat.lt_of_lt_of_le h1 hB)]; exact h2, c, t, by rw [hb.block _ (Nat.lt_of_lt_of_le hlt hB)]; exact h3⟩, ih h4⟩
theorem Errs17.below {w w' : World} {p : List Addr} (h : Errs17 w p) {B : Nat} (hB : w.heap.size ≤ B) (hb : Below B w w') : Errs17 w' p := ⟨h.sents.below hB hb, h.nodup⟩

theorem Errs17.ne {w : World} {p : List Addr} (h : Errs17 w p) {i j : Nat} (hi : i < 17) (hj : j < 17) (hij : i ≠ j) : adr p i ≠ adr p j := by
  have hl : p.length = 17 := h.sents.len
  unfold adr
  have e1 : p.getD i ⟨0, 0, none⟩ = p[i]'(by omega) := by simp [List.getD, List.getElem?_eq_getElem (show i < p.length by omega)]
  have e2 : p.getD j ⟨0, 0, none⟩ = p[j]'(by omega) := by simp [List.getD, List.getElem?_eq_getElem (show j < p.length by omega)]
  rw [e1, e2]
  rcases Nat.lt_or_gt_of_ne hij with hlt | hlt
  · exact List.pairwise_iff_getElem.1 h.nodup i j (by omega) (by omega) hlt
  · exact fun e => List.pairwise_iff_getElem.1 h.nodup j i (by omega) (by omega) hlt e.symm
theorem Errs17.row {w : World} {p : List Addr} (h : Errs17 w p) {i : Nat} (hi : i < 17) : ∃ c t, w.heap[(adr p i).block]? = some (.cells c t (0, 0)) := (h.sents.at i hi).2.2
theorem Errs17.cell {w : World} {p : List Addr} (h : Errs17 w p) (i : Nat) (hi : i < 17) : w.cell? ⟨gl.getD i 0, 0, none⟩ = some (errV p i) := (h.sents.at i hi).2.1

theorem num_nil (w : World) : Calls Tryd.prog 11 #[.nilIface] w fun e w' => e = .returned (.int .i64 0) ∧ w = w' := by
  go_enter Tryd.func11, Tryd.ntmps11
  go_wp2
  go_ret
  exact ⟨rfl, rfl⟩

def listV (p : List Addr) : Array Value := #[errV p 0, errV p 1, errV p 2, errV p 3, errV p 4, errV p 5, errV p 6, errV p 7, errV p 8, errV p 9, errV p 10, errV p 11, errV p 12, errV p 13, errV p 14, errV p 15, errV p 16]
theorem listV_at (p : List Addr) (k : Nat) (h : k < 17) : (listV p)[k]? = some (errV p k) := by
  have : k = 0 ∨ k = 1 ∨ k = 2 ∨ k = 3 ∨ k = 4 ∨ k = 5 ∨ k = 6 ∨ k = 7 ∨ k = 8 ∨ k = 9 ∨ k = 10 ∨ k = 11 ∨ k = 12 ∨ k = 13 ∨ k = 14 ∨ k = 15 ∨ k = 16 := by omega
  rcases this with h | h | h | h | h | h | h | h | h | h | h | h | h | h | h | h | h <;> subst h <;> rfl

set_option maxHeartbeats 400000 in
theorem num_err (p : List Addr) (j : Nat) (w : World) (he : Errs17 w p) (hj : j < 17) :
    Calls Tryd.prog 11 #[errV p j] w fun e w' => e = .returned (.int .i64 (j + 1)) ∧ Below w.heap.size w w' := by
  have c0 := he.cell 0 (by omega)
  have c1 := he.cell 1 (by omega)
  have c2 := he.cell 2 (by omega)
  have c3 := he.cell 3 (by omega)
  have c4 := he.cell 4 (by omega)
  have c5 := he.cell 5 (by omega)
  have c6 := he.cell 6 (by omega)
  have c7 := he.cell 7 (by omega)
  have c8 := he.cell 8 (by omega)
  have c9 := he.cell 9 (by omega)
  have c10 := he.cell 10 (by omega)
  have c11 := he.cell 11 (by omega)
  have c12 := he.cell 12 (by omega)
  have c13 := he.cell 13 (by omega)
  have c14 := he.cell 14 (by omega)
  have c15 := he.cell 15 (by omega)
  have c16 := he.cell 16 (by omega)
  simp only [gl, List.getD, List.getElem?_cons_zero, List.getElem?_cons_succ, Option.getD_some] at c0 c1 c2 c3 c4 c5 c6 c7 c8 c9 c10 c11 c12 c13 c14 c15 c16
  have hb : Below w.heap.size w (w.alloc (.cells (listV p) 29)) := bel_new w _
  have he2 := he.below (Nat.le_refl _) hb
  have HC : Hid (∀ k, k < 17 → (w.alloc (.cells (listV p) 29)).cell? ⟨w.heap.size, k, none⟩ = some (errV p k)) := fun k hk =>
    (World.rowIs_alloc w (listV p) 29 (errV p) (fun i hi => listV_at p i hi)).cell hk
  have HS : Hid (∀ wx, Calls Tryd.prog 25 #[.iface 143 (.pointer (some (adr p j))), errV p j] wx fun e w' => e = .returned (.bool true) ∧ wx = w') := fun wx => is_same _ wx
  have HO : Hid (∀ k, k < 17 → k ≠ j → Calls Tryd.prog 25 #[.iface 143 (.pointer (some (adr p j))), errV p k] (w.alloc (.cells (listV p) 29)) fun e w' => e = .returned (.bool false) ∧ (w.alloc (.cells (listV p) 29)) = w') := fun k hk hkj => by
    obtain ⟨ca, ta, hca⟩ := he2.row hj
    obtain ⟨cb, tb, hcb⟩ := he2.row hk
    exact is_other _ _ ca cb ta tb _ (he2.ne hj hk (Ne.symm hkj)) hca hcb
  clear he2 he
  go_enter Tryd.func11, Tryd.ntmps11
  go_wp2_with fail
  clear c0 c1 c2 c3 c4 c5 c6 c7 c8 c9 c10 c11 c12 c13 c14 c15 c16
  go_loopw [28] (fun i wr => ∃ k : Nat, k ≤ j ∧ i = .int .i64 k ∧ Hid (wr = w.alloc (.cells (listV p) 29))) (fun i _ => 17 - (intOf i).toNat)
  case atStart => exact ⟨0, Nat.zero_le _, rfl, rfl⟩
  case round =>
    obtain ⟨k, hk, rfl, Hw⟩ := hrel
    have hc : wr.cell? ⟨w.heap.size, k, none⟩ = some (errV p k) := by rw [Hw.out]; exact HC.out k (by omega)
    have hbw : Below w.heap.size w wr := by rw [Hw.out]; exact hb
    have hk17 : (k : Int) < 17 := by omega
    by_cases e : k = j
    · subst e
      clear HO HC hb
      go_wp2_with fail
      refine (HS.out _).mono ?_
      rintro e w' ⟨rfl, rfl⟩
      go_wp2_with fail
      go_ret
      exact ⟨rfl, hbw⟩
    · have ho : Hid (Calls Tryd.prog 25 #[.iface 143 (.pointer (some (adr p j))), errV p k] wr fun e w' => e = .returned (.bool false) ∧ wr = w') := by
        rw [Hw.out]
        exact HO.out k (by omega) e
      clear HO HC hb HS
      go_wp2_with fail
      refine ho.out.mono ?_
      rintro e w' ⟨rfl, rfl⟩
      go_wp2_with fail
      exact ⟨⟨k + 1, by omega, by go_num, Hw⟩, by simp [intOf]; omega⟩

end Go.Proofs.YticgmebbnnmikaaDoor.Ck
