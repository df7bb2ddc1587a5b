/- The document: which instructions are in form. (Written by mk_f.py.) -/
import Derived.Test.YtigfjjolfeenaaaDoorGe
import Derived.Deep.CutBlock
import Derived.Deep.CutRange
namespace Go.Proofs.YtigfjjolfeenaaaDoor.Ck
open Go.RowKit

theorem rin_any (n k : Int) (w : World) : Calls Tryd.prog 19 #[.int .i64 n, .int .i64 k] w fun e w' => e = .returned (.bool (inI n k)) ∧ w = w' := by
  unfold inI
  by_cases h : 0 ≤ n
  · have d : decide (0 ≤ n) = true := decide_eq_true h
    rw [d]
    go_enter Tryd.func19, Tryd.ntmps19
    go_wp2_with fail
    go_ret
    exact ⟨by simp, rfl⟩
  · have d : decide (0 ≤ n) = false := decide_eq_false h
    rw [d]
    go_enter Tryd.func19, Tryd.ntmps19
    go_wp2_with fail
    go_ret
    exact ⟨by simp, rfl⟩
theorem inN_I (n : Int) (k : Nat) : inN n k = inI n (k : Int) := rfl
theorem rtyp_any (n : Int) (w : World) : Calls Tryd.prog 20 #[.int .i64 n] w fun e w' => e = .returned (.bool (typB n)) ∧ w = w' := by
  unfold typB
  by_cases h : 1 ≤ n
  · have d : decide (1 ≤ n) = true := decide_eq_true h
    rw [d]
    go_enter Tryd.func20, Tryd.ntmps20
    go_wp2_with fail
    go_ret
    exact ⟨by simp, rfl⟩
  · have d : decide (1 ≤ n) = false := decide_eq_false h
    rw [d]
    go_enter Tryd.func20, Tryd.ntmps20
    go_wp2_with fail
    go_ret
    exact ⟨by simp, rfl⟩
/-- an instruction's form, but for the place -/
def insX (c : Cd) (x : In5) : Bool := if x.op = 1 then decide (0 ≤ x.a) && (x.b == 0 && x.bits == 0)
  else if x.op = 2 then x.a == 0 && x.b == 0
  else if x.op = 3 then inI x.a 2 && (x.b == 0 && x.bits == 0)
  else if x.op = 4 ∨ x.op = 5 then inI x.a 32 && (x.b == 0 && x.bits == 0)
  else if x.op = 6 ∨ x.op = 7 then inN x.a c.P.length && (x.b == 0 && x.bits == 0)
  else if x.op = 8 ∨ x.op = 9 then (decide (1 ≤ x.b) && decide (x.b ≤ 64) && inN x.a c.P.length && decide (x.b ≤ (c.P.length : Int) - x.a) && rowB c.P x.a x.b) && x.bits == 0
  else if x.op = 10 then (decide (1 ≤ x.a) && decide (x.a ≤ 4)) && (x.b == 0 && x.bits == 0)
  else if x.op = 11 then (decide (1 ≤ x.a) && decide (x.a ≤ 11)) && (x.b == 0 && x.bits == 0)
  else if x.op = 12 then inN x.a c.B.length && (x.b == 0 && x.bits == 0)
  else if x.op = 13 ∨ x.op = 14 then inN x.a c.B.length && inI x.b 2 && x.bits == 0
  else if x.op = 15 ∨ x.op = 16 then inI x.a c.M && (x.b == 0 && x.bits == 0)
  else if x.op = 17 ∨ x.op = 18 then inN x.a c.C.length && (x.b == 0 && x.bits == 0)
  else if x.op = 19 ∨ x.op = 20 ∨ x.op = 21 then inI x.a c.A && (x.b == 0 && x.bits == 0)
  else if x.op = 22 ∨ x.op = 23 then inN x.a c.F.length && (x.b == 0 && x.bits == 0)
  else if x.op = 24 ∨ x.op = 25 ∨ x.op = 26 then x.a == 0 && (x.b == 0 && x.bits == 0)
  else false
theorem insX_10 (c : Cd) (a b bits at_ : Int) : insX c ⟨10, a, b, bits, at_⟩ = ((decide (1 ≤ a) && decide (a ≤ 4)) && (b == 0 && bits == 0)) := rfl
theorem insX_11 (c : Cd) (a b bits at_ : Int) : insX c ⟨11, a, b, bits, at_⟩ = ((decide (1 ≤ a) && decide (a ≤ 11)) && (b == 0 && bits == 0)) := rfl
theorem insX_8 (c : Cd) (a b bits at_ : Int) : insX c ⟨8, a, b, bits, at_⟩ = ((decide (1 ≤ b) && decide (b ≤ 64) && inN a c.P.length && decide (b ≤ (c.P.length : Int) - a) && rowB c.P a b) && bits == 0) := rfl
theorem insX_9 (c : Cd) (a b bits at_ : Int) : insX c ⟨9, a, b, bits, at_⟩ = ((decide (1 ≤ b) && decide (b ≤ 64) && inN a c.P.length && decide (b ≤ (c.P.length : Int) - a) && rowB c.P a b) && bits == 0) := rfl
theorem no_of {k y : Bool} {A B T : Bool} (h : k = false) : (k && y) = (false && (A && (B && T))) := by subst h; rfl
theorem wrap_sub {n : Nat} {a : Int} (h0 : 0 ≤ a) (h1 : a < (n : Int)) (h : n ≤ 100000) : wrap64 ((n : Int) - a) = (n : Int) - a := by unfold wrap64; omega
theorem drew_blk {w wr : World} {q g : Nat} {o : Obj} (hq : wr = w.drewN q) (h : w.heap[g]? = some o) : wr.heap[g]? = some o := by rw [hq]; simpa using h
theorem row_spec {P : List Int} {a b : Int} {p m : Nat} (ha : a = p) (hb : b = m) : ((∀ j, j < m → P.getD (p + j) 0 = P.getD p 0) → rowB P a b = true) ∧ (∀ k, k < m → P.getD (p + k) 0 ≠ P.getD p 0 → rowB P a b = false) := by
  subst ha hb
  unfold rowB
  simp only [Int.toNat_natCast]
  refine ⟨fun h => List.all_eq_true.2 (fun i hi => ?_), fun k hk h => List.all_eq_false.2 ⟨k, List.mem_range.2 hk, ?_⟩⟩
  · rw [h i (List.mem_range.1 hi)]
    simp
  · simpa using h
theorem insX_at {c : Cd} {x : In5} {res : Bool} {k : Int} (h : x.op = k) : (res = insX c x) = (res = insX c ⟨k, x.a, x.b, x.bits, x.at_⟩) := by
  subst h
  rfl
theorem insB_X (c : Cd) (x : In5) : insB c x = (decide (0 ≤ x.at_) && (decide (x.at_ ≤ 8192) && insX c x)) := rfl
end Go.Proofs.YtigfjjolfeenaaaDoor.Ck
