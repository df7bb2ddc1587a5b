/- How two operators between three names group: the texts, read. No Go text is walked here. -/
import Derived.Test.YtodgkfniimgfcaaGreatDoorQbq
namespace Go.Proofs.YtodgkfniimgfcaaGreatDoor.Ck
open Go.RowKit

def opT : List ByteArray := [⟨#[124, 124]⟩, ⟨#[38, 38]⟩, ⟨#[61, 61]⟩, ⟨#[33, 61]⟩, ⟨#[60]⟩, ⟨#[60, 61]⟩, ⟨#[62]⟩, ⟨#[62, 61]⟩, ⟨#[43]⟩, ⟨#[45]⟩, ⟨#[42]⟩, ⟨#[47]⟩, ⟨#[37]⟩]
def rkT : List Int := [1, 2, 3, 3, 3, 3, 3, 3, 4, 4, 5, 5, 5]
def opA (i : Nat) : ByteArray := opT.getD i ⟨#[]⟩
def rkA (i : Nat) : Int := rkT.getD i 0
def textA (i k : Nat) : ByteArray := ⟨#[97, 32]⟩ ++ opA i ++ ⟨#[32, 98, 32]⟩ ++ opA k ++ ⟨#[32, 99]⟩
/-- what is asked of the reading -/
def grpB (i k : Nat) : Bool :=
  match exprF (textA i k) with
  | .bad _ _ => decide (rkA i = 3 ∧ rkA k = 3)
  | .ok n => decide (¬ (rkA i = 3 ∧ rkA k = 3)) && decide (n.kind = 31) &&
    match n.kids with
    | [x, y] => if rkA k ≤ rkA i then decide (n.name = opA k) && decide (x.name = opA i) && decide (y.name = ⟨#[99]⟩) else decide (n.name = opA i) && decide (x.name = ⟨#[97]⟩) && decide (y.name = opA k)
    | _ => false
theorem grp_all : (List.range 13).all (fun i => (List.range 13).all (fun k => grpB i k)) = true := by kernel_rfl
theorem grp_at {i k : Nat} (hi : i < 13) (hk : k < 13) : grpB i k = true := by
  have h1 := List.all_eq_true.1 grp_all i (List.mem_range.2 hi)
  exact List.all_eq_true.1 h1 k (List.mem_range.2 hk)
/-- the three ways in which such a text comes out -/
theorem grp_ways {i k : Nat} (hi : i < 13) (hk : k < 13) :
    (rkA i = 3 ∧ rkA k = 3 ∧ ∃ q j, exprF (textA i k) = .bad q j) ∨
    (¬ (rkA i = 3 ∧ rkA k = 3) ∧ ∃ n x y, exprF (textA i k) = .ok n ∧ n.kind = 31 ∧ n.kids = [x, y] ∧ ((rkA k ≤ rkA i ∧ n.name = opA k ∧ x.name = opA i ∧ y.name = ⟨#[99]⟩) ∨ (¬ rkA k ≤ rkA i ∧ n.name = opA i ∧ x.name = ⟨#[97]⟩ ∧ y.name = opA k))) := by
  have h := grp_at hi hk
  unfold grpB at h
  cases hq : exprF (textA i k) with
  | bad q j =>
    rw [hq] at h
    have := of_decide_eq_true h
    exact .inl ⟨this.1, this.2, q, j, rfl⟩
  | ok n =>
    rw [hq] at h
    dsimp only at h
    simp only [Bool.and_eq_true, decide_eq_true_eq] at h
    obtain ⟨⟨h1, h2⟩, h3⟩ := h
    split at h3
    · rename_i x y hkids
      refine .inr ⟨h1, n, x, y, rfl, h2, hkids, ?_⟩
      split at h3
      · rename_i hr
        simp only [Bool.and_eq_true, decide_eq_true_eq] at h3
        exact .inl ⟨hr, h3.1.1, h3.1.2, h3.2⟩
      · rename_i hr
        simp only [Bool.and_eq_true, decide_eq_true_eq] at h3
        exact .inr ⟨hr, h3.1.1, h3.1.2, h3.2⟩
    · cases h3

end Go.Proofs.YtodgkfniimgfcaaGreatDoor.Ck
