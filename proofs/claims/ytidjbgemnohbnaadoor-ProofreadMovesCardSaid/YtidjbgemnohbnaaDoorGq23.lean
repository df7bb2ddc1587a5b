/- Texts of this proof, packed. -/
import Derived.Test.YtidjbgemnohbnaaDoorGq20
import Derived.Test.YtidjbgemnohbnaaDoorGq21
import Derived.Test.YtidjbgemnohbnaaDoorGq22
import Derived.Test.YtidjbgemnohbnaaDoorGq4
/- The document: which instructions are in form. (Written by mk_f.py.) -/
namespace Go.Proofs.YtidjbgemnohbnaaDoor.Ck
open Go.RowKit

theorem rinstr_ok {w : World} {vP vC vF vB : Value} {c : Cd} (h : Cv w vP vC vF vB c) (hs : Sml c) (x : In5) (hx : InX x) (ha0 : 0 ≤ x.at_) (ha1 : x.at_ ≤ 8192) :
    Calls Tryd.prog 21 #[codeA vP vC vF vB c, .agg #[.int .i64 x.op, .int .i64 x.a, .int .i64 x.b, .int .u64 x.bits, .int .i64 x.at_]] w (Vb w (.bool (insX c x))) := by
  by_cases ha : x.op = 1 ∨ x.op = 2 ∨ x.op = 3 ∨ x.op = 4 ∨ x.op = 5 ∨ x.op = 6 ∨ x.op = 7
  · exact insX_Iaa h hs x hx ha ha0 ha1
  by_cases hb : x.op = 8
  · exact insX_Iab h hs x hx hb ha0 ha1
  by_cases hc : x.op = 9
  · exact insX_Iac h hs x hx hc ha0 ha1
  by_cases hd : x.op = 10 ∨ x.op = 11 ∨ x.op = 12 ∨ x.op = 13 ∨ x.op = 14 ∨ x.op = 15 ∨ x.op = 16
  · exact insX_Iad h hs x hx hd ha0 ha1
  by_cases he : x.op = 17 ∨ x.op = 18 ∨ x.op = 19 ∨ x.op = 20 ∨ x.op = 21 ∨ x.op = 22 ∨ x.op = 23 ∨ x.op = 24 ∨ x.op = 25 ∨ x.op = 26
  · exact insX_Iae h hs x hx he ha0 ha1
  · exact insX_Iaf h hs x hx (by omega) ha0 ha1
end Go.Proofs.YtidjbgemnohbnaaDoor.Ck

/- The document: which instructions are in form, whatever their place is. (Written by mk_g.py.) -/
namespace Go.Proofs.YtidjbgemnohbnaaDoor.Ck
open Go.RowKit

set_option maxRecDepth 20000 in
set_option maxHeartbeats 8000000 in
theorem dinstr_any {w : World} {vP vC vF vB : Value} {c : Cd} (h : Cv w vP vC vF vB c) (hs : Sml c) (x : In5) (hx : InX x) :
    Calls Tryd.prog 21 #[codeA vP vC vF vB c, .agg #[.int .i64 x.op, .int .i64 x.a, .int .i64 x.b, .int .u64 x.bits, .int .i64 x.at_]] w (Vb w (.bool (insB c x))) := by
  by_cases ha0 : 0 ≤ x.at_
  · by_cases ha1 : x.at_ ≤ 8192
    · have := rinstr_ok h hs x hx ha0 ha1
      rw [insB_X, decide_eq_true ha0, decide_eq_true ha1]
      exact this
    · have d0 : decide (x.at_ < 0) = false := decide_eq_false (by omega)
      have d1 : decide (8192 < x.at_) = true := decide_eq_true (by omega)
      rw [show insB c x = false by rw [insB_X, decide_eq_false ha1]; simp]
      obtain ⟨aP, cP, aC, cC, aF, cF, aB, cB, eP, eC, eF, eB⟩ := h.form
      subst eP eC eF eB
      have b1 := bel_new w (.cells #[.slice aP c.P.length cP, .int .i64 c.M, .int .i64 c.A, .slice aC c.C.length cC, .slice aF c.F.length cF, .int .i64 c.mn, .slice aB c.B.length cB] 27)
      have b2 := bel_new (w.alloc (.cells #[.slice aP c.P.length cP, .int .i64 c.M, .int .i64 c.A, .slice aC c.C.length cC, .slice aF c.F.length cF, .int .i64 c.mn, .slice aB c.B.length cB] 27)) (.cells #[.int .i64 x.op, .int .i64 x.a, .int .i64 x.b, .int .u64 x.bits, .int .i64 x.at_] 44)
      have B0 := hide (bel_trans b1 b2)
      clear b1 b2 h hs hx
      unfold codeA
      go_enter Tryd.func21, Tryd.ntmps21
      go_wp2_with fail
      go_ret
      exact ⟨rfl, B0.out⟩
  · have d0 : decide (x.at_ < 0) = true := decide_eq_true (by omega)
    rw [show insB c x = false by rw [insB_X, decide_eq_false ha0]; rfl]
    obtain ⟨aP, cP, aC, cC, aF, cF, aB, cB, eP, eC, eF, eB⟩ := h.form
    subst eP eC eF eB
    have b1 := bel_new w (.cells #[.slice aP c.P.length cP, .int .i64 c.M, .int .i64 c.A, .slice aC c.C.length cC, .slice aF c.F.length cF, .int .i64 c.mn, .slice aB c.B.length cB] 27)
    have b2 := bel_new (w.alloc (.cells #[.slice aP c.P.length cP, .int .i64 c.M, .int .i64 c.A, .slice aC c.C.length cC, .slice aF c.F.length cF, .int .i64 c.mn, .slice aB c.B.length cB] 27)) (.cells #[.int .i64 x.op, .int .i64 x.a, .int .i64 x.b, .int .u64 x.bits, .int .i64 x.at_] 44)
    have B0 := hide (bel_trans b1 b2)
    clear b1 b2 h hs hx
    unfold codeA
    go_enter Tryd.func21, Tryd.ntmps21
    go_wp2_with fail
    go_ret
    exact ⟨rfl, B0.out⟩
end Go.Proofs.YtidjbgemnohbnaaDoor.Ck

/- The document: which codes are in form, in its parts; no Go text is walked here. (Written by mk_g.py.) -/
namespace Go.Proofs.YtidjbgemnohbnaaDoor.Ck
open Go.RowKit

def z0B (c : Cd) : Bool := decide (c.P.length ≤ 128) && decide (0 ≤ c.M) && decide (0 ≤ c.A) && decide (c.M + c.A + c.C.length ≤ 32) && decide (c.F.length ≤ 16) && decide (c.B.length ≤ 8192) && mainB c
theorem z0_spec {c : Cd} (h : z0B c = true) : c.P.length ≤ 128 ∧ 0 ≤ c.M ∧ 0 ≤ c.A ∧ c.M + c.A + c.C.length ≤ 32 ∧ c.F.length ≤ 16 ∧ c.B.length ≤ 8192 ∧ mainB c = true := by
  simp only [z0B, Bool.and_eq_true, decide_eq_true_eq] at h
  obtain ⟨⟨⟨⟨⟨⟨h1, h2⟩, h3⟩, h4⟩, h5⟩, h6⟩, h7⟩ := h
  exact ⟨h1, h2, h3, h4, h5, h6, h7⟩
theorem z0_no {c : Cd} (h : z0B c = true → False) : z0B c = false := by
  cases hz : z0B c with
  | false => rfl
  | true => exact (h hz).elim
theorem z0_yes {c : Cd} (h1 : c.P.length ≤ 128) (h2 : 0 ≤ c.M) (h3 : 0 ≤ c.A) (h4 : c.M + c.A + c.C.length ≤ 32) (h5 : c.F.length ≤ 16) (h6 : c.B.length ≤ 8192) (h7 : mainB c = true) : z0B c = true := by
  simp only [z0B, Bool.and_eq_true, decide_eq_true_eq]
  exact ⟨⟨⟨⟨⟨⟨h1, h2⟩, h3⟩, h4⟩, h5⟩, h6⟩, h7⟩
theorem main_spec {c : Cd} : mainB c = true ↔ 0 ≤ c.mn ∧ c.mn < (c.F.length : Int) ∧ (c.F.getD c.mn.toNat zF).pa = 0 := by
  unfold mainB
  by_cases h0 : 0 ≤ c.mn
  · rw [if_pos h0]
    by_cases h1 : c.mn.toNat < c.F.length
    · rw [List.getElem?_eq_getElem h1, List.getD_eq_getElem?_getD, List.getElem?_eq_getElem h1]
      simp only [beq_iff_eq, Option.getD_some]
      exact ⟨fun h => ⟨h0, by omega, h⟩, fun h => h.2.2⟩
    · rw [List.getElem?_eq_none (by omega)]
      exact ⟨fun h => (by cases h), fun h => by omega⟩
  · rw [if_neg h0]
    exact ⟨fun h => (by cases h), fun h => absurd h.1 h0⟩
/-- a function's form, at its place -/
def okF (c : Cd) (i : Nat) : Bool := fnB c.B.length (c.F.getD i zF) && (if i = 0 then (c.F.getD 0 zF).st == 0 else decide ((c.F.getD (i - 1) zF).st < (c.F.getD i zF).st))
def startsB : List Fn3 → Bool
  | [] => true
  | f :: l => f.st == 0 && stB 0 l
theorem form_st (c : Cd) : formB c = (z0B c && (c.P.all typB && c.C.all chB && c.F.all (fnB c.B.length) && startsB c.F && c.B.all (insB c))) := by
  obtain ⟨P, M, A, C, F, B, mn⟩ := c
  cases F <;> rfl
theorem starts_iff (F : List Fn3) : startsB F = (List.range F.length).all (fun i => if i = 0 then (F.getD 0 zF).st == 0 else decide ((F.getD (i - 1) zF).st < (F.getD i zF).st)) := by
  cases F with
  | nil => rfl
  | cons f l =>
    rw [Bool.eq_iff_iff]
    simp only [startsB, Bool.and_eq_true, beq_iff_eq, List.all_eq_true, List.mem_range, List.length_cons]
    constructor
    · rintro ⟨h0, h1⟩ i hi
      cases i with
      | zero => simpa using h0
      | succ i =>
        rw [if_neg (by omega)]
        have h2 := (stB_iff l 0).1 h1 i (by omega)
        cases i with
        | zero =>
          rw [if_pos rfl] at h2
          simpa [h0] using h2
        | succ i =>
          rw [if_neg (by omega)] at h2
          simpa using h2
    · intro h
      have h0 := h 0 (by omega)
      rw [if_pos rfl] at h0
      have h0' : f.st = 0 := by simpa using h0
      refine ⟨h0', (stB_iff l 0).2 (fun i hi => ?_)⟩
      have h2 := h (i + 1) (by omega)
      rw [if_neg (by omega)] at h2
      cases i with
      | zero =>
        rw [if_pos rfl]
        simpa [h0'] using h2
      | succ i =>
        rw [if_neg (by omega)]
        simpa using h2
theorem range_and {α : Type} (l : List α) (f g : α → Bool) : l.all (fun i => f i && g i) = (l.all f && l.all g) := by
  induction l with
  | nil => rfl
  | cons x l ih =>
    simp only [List.all_cons, ih]
    cases f x <;> cases g x <;> simp
theorem all_range {α : Type} (l : List α) (d : α) (f : α → Bool) : l.all f = (List.range l.length).all (fun i => f (l.getD i d)) := by
  rw [Bool.eq_iff_iff]
  simp only [List.all_eq_true, List.mem_range]
  constructor
  · intro h i hi
    rw [List.getD_eq_getElem?_getD, List.getElem?_eq_getElem hi]
    exact h _ (List.getElem_mem hi)
  · intro h x hx
    obtain ⟨i, hi, rfl⟩ := List.mem_iff_getElem.1 hx
    have := h i hi
    rw [List.getD_eq_getElem?_getD, List.getElem?_eq_getElem hi] at this
    exact this
theorem form_parts (c : Cd) : formB c = (z0B c && (c.P.all typB && (c.C.all chB && ((List.range c.F.length).all (okF c) && c.B.all (insB c))))) := by
  have e : (List.range c.F.length).all (okF c) = (c.F.all (fnB c.B.length) && startsB c.F) := by
    rw [starts_iff, all_range c.F zF, ← range_and]
    rfl
  rw [e, form_st]
  simp only [Bool.and_assoc]
theorem rng_yes {f : Nat → Bool} {n : Nat} (h : ∀ j, j < n → f j = true) : (List.range n).all f = true := by
  rw [List.all_eq_true]
  intro x hx
  exact h x (List.mem_range.1 hx)
theorem rng_not {f : Nat → Bool} {n : Nat} (k : Nat) (hk : k < n) (h : f k = false) : (List.range n).all f = false := by
  rw [List.all_eq_false]
  exact ⟨k, List.mem_range.2 hk, by simp [h]⟩
theorem okF_iff {c : Cd} {k : Nat} {y : Fn3} (hy : y = c.F.getD k zF) : okF c k = true ↔ (inI y.st (c.B.length : Int) = true ∧ 0 ≤ y.pa ∧ y.pa ≤ 4 ∧ y.pa ≤ (y.lo.length : Int) ∧ y.lo.length ≤ 32 ∧ y.lo.all typB = true) ∧ (k = 0 → y.st = 0) ∧ (0 < k → (c.F.getD (k - 1) zF).st < y.st) := by
  unfold okF fnB
  rw [← hy]
  by_cases hk : k = 0
  · subst hk
    rw [← hy]
    simp only [Bool.and_eq_true, decide_eq_true_eq, beq_iff_eq, if_true]
    exact ⟨fun h => ⟨h.1, fun _ => h.2, fun h0 => by omega⟩, fun h => ⟨h.1, h.2.1 trivial⟩⟩
  · rw [if_neg hk]
    simp only [Bool.and_eq_true, decide_eq_true_eq]
    exact ⟨fun h => ⟨h.1, fun h0 => absurd h0 hk, fun _ => h.2⟩, fun h => ⟨h.1, h.2.2 (by omega)⟩⟩
theorem okF_no {c : Cd} {k : Nat} {y : Fn3} (hy : y = c.F.getD k zF) (h : ¬ ((inI y.st (c.B.length : Int) = true ∧ 0 ≤ y.pa ∧ y.pa ≤ 4 ∧ y.pa ≤ (y.lo.length : Int) ∧ y.lo.length ≤ 32 ∧ y.lo.all typB = true) ∧ (k = 0 → y.st = 0) ∧ (0 < k → (c.F.getD (k - 1) zF).st < y.st))) : okF c k = false := by
  cases hz : okF c k with
  | false => rfl
  | true => exact (h ((okF_iff hy).1 hz)).elim
end Go.Proofs.YtidjbgemnohbnaaDoor.Ck
