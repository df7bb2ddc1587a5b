/- A code without jumps, by the model; ProofreadStack's codes. No Go text is walked here. -/
import Derived.Test.YtidjbgemnohbnaaDoorGq11
import Derived.Test.YtidjbgemnohbnaaDoorGq13
namespace Go.Proofs.YtidjbgemnohbnaaDoor.Ck
open Go.RowKit

/-- what is gone through when i is come to -/
def stS (N : Nat) (ss : Nat → List Int) (i : Nat) : Rw16 := ⟨List.replicate (i + 1) true ++ List.replicate (N - i - 1) false, (List.range (i + 1)).map ss ++ List.replicate (N - i - 1) [], [i]⟩
def stE (N : Nat) (ss : Nat → List Int) (i : Nat) : Rw16 := { stS N ss i with left := [] }
theorem come_str {N : Nat} {ss : Nat → List Int} {i : Nat} (hi : i + 1 < N) (hl : (ss (i + 1)).length ≤ 64) : comeM 0 N (stE N ss i) ((i : Int) + 1) (ss (i + 1)) = some (stS N ss (i + 1)) := by
  have e1 : ((i : Int) + 1).toNat = i + 1 := by omega
  have e2 : N - i - 1 = (N - (i + 1) - 1) + 1 := by omega
  unfold comeM
  rw [if_pos ⟨by omega, by omega⟩, if_pos hl, e1]
  unfold stE stS
  simp only [e2]
  have l1 : (List.replicate (i + 1) true).length = i + 1 := by simp
  have l2 : ((List.range (i + 1)).map ss).length = i + 1 := by simp
  have e3 : (List.replicate (i + 1) true ++ List.replicate (N - (i + 1) - 1 + 1) false).getD (i + 1) false = false := by
    rw [List.getD_eq_getElem?_getD, List.getElem?_append_right (by simp), l1, Nat.sub_self, List.replicate_succ]
    rfl
  rw [e3, if_neg (by simp)]
  have e4 : (List.replicate (i + 1) true ++ List.replicate (N - (i + 1) - 1 + 1) false).set (i + 1) true = List.replicate (i + 1 + 1) true ++ List.replicate (N - (i + 1) - 1) false := by
    rw [List.set_append_right _ _ (by simp), l1, Nat.sub_self, List.replicate_succ (n := N - (i + 1) - 1), List.set_cons_zero, List.replicate_succ' (n := i + 1), List.append_assoc]
    rfl
  have e5 : ((List.range (i + 1)).map ss ++ List.replicate (N - (i + 1) - 1 + 1) []).set (i + 1) (ss (i + 1)) = (List.range (i + 1 + 1)).map ss ++ List.replicate (N - (i + 1) - 1) [] := by
    rw [List.set_append_right _ _ (by simp), l2, Nat.sub_self, List.replicate_succ, List.set_cons_zero, List.range_succ (n := i + 1), List.map_append, List.append_assoc]
    rfl
  rw [e4, e5]
  rfl
theorem st_at {N : Nat} {ss : Nat → List Int} {i : Nat} : (stE N ss i).st.getD i [] = ss i := by
  show ((List.range (i + 1)).map ss ++ List.replicate (N - i - 1) []).getD i [] = ss i
  rw [List.getD_eq_getElem?_getD, List.getElem?_append_left (by simp)]
  simp
/-- an instruction of which the one behind alone is next -/
def Str (c : Cd) (lo : List Int) (ss : Nat → List Int) (i : Nat) : Prop := (c.B.getD i zI).op ≠ 12 ∧ (c.B.getD i zI).op ≠ 13 ∧ (c.B.getD i zI).op ≠ 14 ∧ (c.B.getD i zI).op ≠ 25 ∧ (c.B.getD i zI).op ≠ 26 ∧ changeM c lo (c.B.getD i zI) (ss i) = some (ss (i + 1))
theorem step_str {c : Cd} {f : Fn3} {ss : Nat → List Int} {i : Nat} (hf : f.st = 0) (h : Str c f.lo ss i) : stepM c f c.B.length (stE c.B.length ss i) i = comeM 0 c.B.length (stE c.B.length ss i) ((i : Int) + 1) (ss (i + 1)) := by
  obtain ⟨h1, h2, h3, h4, h5, h6⟩ := h
  unfold stepM
  simp only [st_at]
  rw [if_neg h1, if_neg h2, if_neg h3, if_neg h4, if_neg h5, h6, hf]
  rfl
theorem go_str {c : Cd} {f : Fn3} {ss : Nat → List Int} (hf : f.st = 0) {i k : Nat} (hi : i + 1 < c.B.length) (hl : (ss (i + 1)).length ≤ 64) (h : Str c f.lo ss i) : goM c f c.B.length (k + 1) (stS c.B.length ss i) = goM c f c.B.length k (stS c.B.length ss (i + 1)) := by
  rw [goM_succ (i := i) rfl]
  show (stepM c f c.B.length (stE c.B.length ss i) i).bind _ = _
  rw [step_str hf h, come_str hi hl]
  rfl
theorem go_no {c : Cd} {f : Fn3} {ss : Nat → List Int} (hf : f.st = 0) {i k : Nat} (hl : 64 < (ss (i + 1)).length) (h : Str c f.lo ss i) : goM c f c.B.length (k + 1) (stS c.B.length ss i) = none := by
  rw [goM_succ (i := i) rfl]
  show (stepM c f c.B.length (stE c.B.length ss i) i).bind _ = _
  rw [step_str hf h]
  unfold comeM
  split
  · rw [if_neg (by omega)]
    rfl
  · rfl
theorem go_nil {c : Cd} {f : Fn3} {hi : Int} (k : Nat) {m : Rw16} (h : m.left = []) : goM c f hi k m = some m := by
  cases k with
  | zero => rfl
  | succ k =>
    unfold goM
    rw [h]
    rfl
theorem go_ret {c : Cd} {f : Fn3} {ss : Nat → List Int} {i k : Nat} (h : (c.B.getD i zI).op = 25) (hs : ss i = []) : goM c f c.B.length (k + 1) (stS c.B.length ss i) = some (stE c.B.length ss i) := by
  rw [goM_succ (i := i) rfl]
  show (stepM c f c.B.length (stE c.B.length ss i) i).bind _ = _
  unfold stepM
  simp only [st_at]
  rw [h, hs]
  exact go_nil k rfl
/-- on from i to j, through instructions that have the next one alone -/
theorem go_run {c : Cd} {f : Fn3} {ss : Nat → List Int} (hf : f.st = 0) {i j : Nat} (hj : j < c.B.length) (hij : i ≤ j) (h : ∀ k, i ≤ k → k < j → Str c f.lo ss k ∧ (ss (k + 1)).length ≤ 64) (k : Nat) : goM c f c.B.length (k + (j - i)) (stS c.B.length ss i) = goM c f c.B.length k (stS c.B.length ss j) := by
  obtain ⟨d, hd⟩ : ∃ d, d = j - i := ⟨_, rfl⟩
  rw [← hd]
  induction d generalizing i with
  | zero =>
    obtain rfl : i = j := by omega
    rfl
  | succ d ih =>
    rw [show k + (d + 1) = (k + d) + 1 by omega, go_str hf (by omega) (h i (by omega) (by omega)).2 (h i (by omega) (by omega)).1]
    exact ih (by omega) (fun k h1 h2 => h k (by omega) h2) (by omega)
theorem begin_str {c : Cd} {ss : Nat → List Int} (h0 : ss 0 = []) (hB : 0 < c.B.length) : comeM 0 c.B.length (beginM c) 0 [] = some (stS c.B.length ss 0) := by
  obtain ⟨N, hN⟩ : ∃ N, c.B.length = N + 1 := ⟨c.B.length - 1, by omega⟩
  unfold comeM beginM
  rw [hN, if_pos ⟨by omega, by omega⟩, if_pos (by simp)]
  unfold stS
  simp [List.replicate_succ, h0]
end Go.Proofs.YtidjbgemnohbnaaDoor.Ck
