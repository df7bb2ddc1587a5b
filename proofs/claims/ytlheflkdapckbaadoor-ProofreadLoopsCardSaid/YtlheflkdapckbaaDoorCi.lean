/- Package code: an instruction's form, by its shape. (Written by mk_c.py.) -/
import Derived.Test.YtlheflkdapckbaaDoorCg
import Derived.Test.YtlheflkdapckbaaDoorCd
namespace Go.Proofs.YtlheflkdapckbaaDoor.Ck
open Go.RowKit

theorem has_inN (a : Int) (n : Nat) : hasB 0 ((n : Int) - 1) a = inN a n := by
  unfold hasB inN
  congr 1
  exact decide_eq_decide.2 (by omega)
theorem has_inI (a n : Int) : hasB 0 (n - 1) a = inI a n := by
  unfold hasB inI
  congr 1
  exact decide_eq_decide.2 (by omega)
theorem has_00 (a : Int) : hasB 0 0 a = (a == 0) := by
  unfold hasB
  rw [← Bool.decide_and]
  by_cases h : a = 0
  · subst h; rfl
  · rw [decide_eq_false (by omega), beq_false_of_ne h]
/-- is an instruction as its shape says? -/
def insG (c : Cd) (x : In5) : Bool := ((shF c x.op).isSome && (hasB ((shF c x.op).getD shZ).a0 ((shF c x.op).getD shZ).a1 x.a && (hasB ((shF c x.op).getD shZ).b0 ((shF c x.op).getD shZ).b1 x.b && decide (x.bits ≤ ((shF c x.op).getD shZ).bits)))) &&
  ((decide (0 ≤ x.at_) && decide (x.at_ ≤ 8192)) && (if x.op = 8 ∨ x.op = 9 then decide (x.a.toNat + x.b.toNat ≤ c.P.length) && rowB c.P x.a.toNat x.b.toNat else true))
theorem shF_at (c : Cd) (k : Nat) (h1 : 1 ≤ k) (h2 : k ≤ 26) : shF c (k : Int) = some (shT c k) := by
  unfold shF
  rw [if_pos (by omega), Int.toNat_natCast]
theorem row_nat {P : List Int} {a b : Int} (ha : 0 ≤ a) (hb : 0 ≤ b) : rowB P a.toNat b.toNat = rowB P a b := by
  rw [Int.toNat_of_nonneg ha, Int.toNat_of_nonneg hb]
theorem bits_0 {x : Int} (h : 0 ≤ x) : decide (x ≤ 0) = (x == 0) := by
  by_cases e : x = 0
  · subst e; rfl
  · rw [decide_eq_false (by omega), beq_false_of_ne e]
/-- the shapes ask just what the document asks -/
theorem insG_eq (c : Cd) (x : In5) (hw : InW x) (hi : x.a ≤ 9223372036854775807) : insG c x = insB c x := by
  obtain ⟨_, hb0, hb1⟩ := hw
  by_cases ho : 1 ≤ x.op ∧ x.op ≤ 26
  · obtain ⟨k, hk⟩ : ∃ k : Nat, x.op = k := ⟨x.op.toNat, by omega⟩
    unfold insG insB
    rw [hk, shF_at c k (by omega) (by omega)]
    simp only [Option.isSome_some, Option.getD_some, Bool.true_and]
    have hk2 : k < 27 := by omega
    have hk1 : 1 ≤ k := by omega
    clear hk ho
    have hbits : decide (x.bits ≤ 18446744073709551615) = true := decide_eq_true (by omega)
    have hmax : hasB 0 9223372036854775807 x.a = decide (0 ≤ x.a) := by unfold hasB; rw [decide_eq_true hi, Bool.and_true]
    have h2 : hasB 0 1 x.a = inI x.a 2 := has_inI x.a 2
    have h2b : hasB 0 1 x.b = inI x.b 2 := has_inI x.b 2
    have h32 : hasB 0 31 x.a = inI x.a 32 := has_inI x.a 32
    obtain HKS := hk2
    obtain rfl | rfl | rfl | rfl | rfl | rfl | rfl | rfl | rfl | rfl | rfl | rfl | rfl | rfl | rfl | rfl | rfl | rfl | rfl | rfl | rfl | rfl | rfl | rfl | rfl | rfl : k = 1 ∨ k = 2 ∨ k = 3 ∨ k = 4 ∨ k = 5 ∨ k = 6 ∨ k = 7 ∨ k = 8 ∨ k = 9 ∨ k = 10 ∨ k = 11 ∨ k = 12 ∨ k = 13 ∨ k = 14 ∨ k = 15 ∨ k = 16 ∨ k = 17 ∨ k = 18 ∨ k = 19 ∨ k = 20 ∨ k = 21 ∨ k = 22 ∨ k = 23 ∨ k = 24 ∨ k = 25 ∨ k = 26 := by omega
    all_goals
      simp only [shT, shL, List.getD_cons_zero, List.getD_cons_succ]
      simp (decide := true) only [if_true, if_false, hmax, has_00, bits_0 hb0, hbits, h2, h2b, h32, has_inI]
      rw [Bool.eq_iff_iff]
      simp only [Bool.and_eq_true, decide_eq_true_eq, beq_iff_eq, hasB, inI, inN, and_true]
      first
      | (constructor <;> intro h <;> omega)
      | (constructor
         · rintro ⟨⟨⟨h1, h2⟩, ⟨h3, h4⟩, h5⟩, ⟨h6, h7⟩, h8, h9⟩
           rw [row_nat h1 (by omega)] at h9
           exact ⟨h6, h7, ⟨⟨⟨⟨h3, h4⟩, h1, h2⟩, by omega⟩, h9⟩, h5⟩
         · rintro ⟨h6, h7, ⟨⟨⟨⟨h3, h4⟩, h1, h2⟩, h8⟩, h9⟩, h5⟩
           rw [row_nat h1 (by omega)]
           exact ⟨⟨⟨h1, h2⟩, ⟨h3, h4⟩, h5⟩, ⟨h6, h7⟩, by omega, h9⟩)
  · have hs : shF c x.op = none := by unfold shF; rw [if_neg ho]
    unfold insG insB
    rw [hs]
    simp only [Option.isSome_none, Bool.false_and]
    symm
    rw [Bool.and_eq_false_imp]
    intro _
    rw [Bool.and_eq_false_imp]
    intro _
    iterate 15 rw [if_neg (by omega)]
end Go.Proofs.YtlheflkdapckbaaDoor.Ck
