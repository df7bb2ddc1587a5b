/- Package code: types, and a code's sizes. -/
import Derived.Test.YtlheflkdapckbaaDoorCb
namespace Go.Proofs.YtlheflkdapckbaaDoor.Ck
open Go.RowKit

theorem typ_eq (t : Int) : (t == 1 || t == 2 || t == 3) = typB t := by
  unfold typB
  by_cases h1 : t = 1
  · subst h1; rfl
  by_cases h2 : t = 2
  · subst h2; rfl
  by_cases h3 : t = 3
  · subst h3; rfl
  have e1 : (t == 1) = false := beq_false_of_ne h1
  have e2 : (t == 2) = false := beq_false_of_ne h2
  have e3 : (t == 3) = false := beq_false_of_ne h3
  rw [e1, e2, e3, ← Bool.decide_and, decide_eq_false (by omega)]
  rfl
set_option maxRecDepth 20000 in
set_option maxHeartbeats 1000000 in
theorem types_any {w : World} {p : List Addr} {v : Value} {l : List Int} (hc : Ec w p) (h : Sl w v l) : Calls Tryd.prog 38 #[v] w (Gt p w (l.all typB) (.tuple #[])) := by
  obtain ⟨_, a, c, rfl, hca, hcm, hac⟩ := h
  unfold maxLen at hcm
  obtain ⟨n, hn⟩ : ∃ n, n = l.length := ⟨_, rfl⟩
  have hs : Hid ((∀ j, j < n → typB (l.getD j 0) = true) → l.all typB = true) := fun h => all_yes (fun j hj => h j (by omega))
  have hs2 : Hid (∀ k, k < n → typB (l.getD k 0) = false → l.all typB = false) := fun k hk => all_not k (by omega)
  have hac' : ∀ i, i < n → _ := fun i hi => hac i (by omega)
  rw [← hn] at hca ⊢
  have HC := hide hc
  clear hn hac hc
  generalize l.all typB = r at *
  go_enter Tryd.func38, Tryd.ntmps38
  go_wp2_with fail
  go_loopw [3, 6] (fun u i wr => ∃ k : Nat, k ≤ n ∧ i = .int .i64 k ∧ Hid (∀ j, j < k → typB (l.getD j 0) = true) ∧ Hid (w = wr)) (fun u i _ => n - (intOf i).toNat)
  case atStart => exact ⟨0, Nat.zero_le _, rfl, fun j hj => absurd hj (Nat.not_lt_zero _), rfl⟩
  case round =>
    obtain ⟨k, hk, rfl, hall, hw⟩ := hrel
    obtain rfl := hw.out
    clear hw
    by_cases hlt : k < n
    · obtain ⟨b1, o1, rfl, hb1, hc1⟩ := hac' k hlt
      have h1 : (k : Int) < (n : Int) := by omega
      have hne := hide (hs2.out k hlt)
      have hstep : Hid (typB (l.getD k 0) = true → ∀ j, j < k + 1 → typB (l.getD j 0) = true) := fun e j hj => by
        by_cases ej : j = k
        · rw [ej]; exact e
        · exact hall.out j (by omega)
      clear hac' hs hs2 hall
      generalize l.getD k 0 = y at *
      by_cases y1 : y = 1
      · subst y1
        go_wp2_with fail
        refine (must_yes _).mono ?_
        rintro e w2 ⟨rfl, rfl⟩
        go_wp2_with fail
        go_roundw
        case rel => exact ⟨k + 1, by omega, by go_num, hstep.out rfl, trivial⟩
        case measure => simp [intOf]; omega
      by_cases y2 : y = 2
      · subst y2
        go_wp2_with fail
        refine (must_yes _).mono ?_
        rintro e w2 ⟨rfl, rfl⟩
        go_wp2_with fail
        go_roundw
        case rel => exact ⟨k + 1, by omega, by go_num, hstep.out rfl, trivial⟩
        case measure => simp [intOf]; omega
      by_cases y3 : y = 3
      · subst y3
        go_wp2_with fail
        refine (must_yes _).mono ?_
        rintro e w2 ⟨rfl, rfl⟩
        go_wp2_with fail
        go_roundw
        case rel => exact ⟨k + 1, by omega, by go_num, hstep.out rfl, trivial⟩
        case measure => simp [intOf]; omega
      have e1 : (y == 1) = false := by simp [y1]
      have e2 : (y == 2) = false := by simp [y2]
      have e3 : (y == 3) = false := by simp [y3]
      have hr := hide (hne.out (by rw [← typ_eq, e1, e2, e3]; rfl))
      clear y1 y2 y3
      go_wp2_with fail
      refine (must_no HC.out).mono ?_
      rintro e w2 ⟨rfl, rfl⟩
      exact ⟨rfl, Gt.no hr.out (Below.refl _ _)⟩
    · obtain rfl : k = n := by omega
      have hr := hide (hs.out hall.out)
      clear hac' hs hs2
      go_wp2_with fail
      go_end0
      exact Gt.yes hr.out (Below.refl _ _)
/-- a code's sizes -/
def sizesB (c : Cd) : Bool := decide (c.P.length ≤ 128) && (decide (0 ≤ c.M) && decide (c.M ≤ 32)) && (decide (0 ≤ c.A) && decide (c.A ≤ 32)) && decide (c.M + c.A + c.C.length ≤ 32) && decide (c.F.length ≤ 16) && decide (c.B.length ≤ 8192)
abbrev codeA (vP vC vF vB : Value) (c : Cd) : Value := .agg #[vP, .int .i64 c.M, .int .i64 c.A, vC, vF, .int .i64 c.mn, vB]
abbrev codeO (vP vC vF vB : Value) (c : Cd) : Obj := .cells #[vP, .int .i64 c.M, .int .i64 c.A, vC, vF, .int .i64 c.mn, vB] 27
set_option maxRecDepth 20000 in
set_option maxHeartbeats 1000000 in
theorem sizes_any {w : World} {p : List Addr} {vP vC vF vB : Value} {c : Cd} (hc : Ec w p) (h : Cv w vP vC vF vB c) : Calls Tryd.prog 37 #[codeA vP vC vF vB c] w (Gt p w (sizesB c) (.tuple #[])) := by
  have C0 := hide (hc.bel (bel_new w (codeO vP vC vF vB c)))
  have B0 := hide (bel_new w (codeO vP vC vF vB c))
  obtain ⟨aP, cP, rfl, _, hmP⟩ := h.P.form
  obtain ⟨aC, cC, rfl, _, hmC⟩ := h.C.form
  obtain ⟨aF, cF, rfl, _, hmF⟩ := h.F.form
  obtain ⟨aB, cB, rfl, _, hmB⟩ := h.B.form
  have h1 := h.L.C
  clear hc h hmP hmF hmB hmC
  obtain ⟨r, hr⟩ : ∃ r, sizesB c = r := ⟨_, rfl⟩
  rw [hr]
  unfold sizesB at hr
  generalize c.P.length = nP at *
  generalize c.C.length = nC at *
  generalize c.F.length = nF at *
  generalize c.B.length = nB at *
  unfold codeA codeO at *
  generalize c.M = M at *
  generalize c.A = A at *
  have HR := hide hr
  clear hr
  go_enter Tryd.func37, Tryd.ntmps37
  go_wp2_with fail
  refine (must_any C0.out _).mono ?_
  rintro e w2 ⟨⟨hq1, rfl⟩ | ⟨hq1, rfl⟩, rfl⟩
  case inr =>
    exact ⟨rfl, Gt.no (by rw [← HR.out]; simp at hq1; simp; omega) B0.out⟩
  have hq1 := hide hq1
  by_cases hp2 : 0 ≤ M
  case neg =>
    go_wp2_with fail
    refine (must_no C0.out).mono ?_
    rintro e w2 ⟨rfl, rfl⟩
    exact ⟨rfl, Gt.no (by rw [← HR.out]; simp; omega) B0.out⟩
  go_wp2_with fail
  refine (must_any C0.out _).mono ?_
  rintro e w2 ⟨⟨hq2, rfl⟩ | ⟨hq2, rfl⟩, rfl⟩
  case inr =>
    exact ⟨rfl, Gt.no (by rw [← HR.out]; simp at hq2; simp; omega) B0.out⟩
  have hq2 := hide hq2
  by_cases hp3 : 0 ≤ A
  case neg =>
    go_wp2_with fail
    refine (must_no C0.out).mono ?_
    rintro e w2 ⟨rfl, rfl⟩
    exact ⟨rfl, Gt.no (by rw [← HR.out]; simp; omega) B0.out⟩
  go_wp2_with fail
  refine (must_any C0.out _).mono ?_
  rintro e w2 ⟨⟨hq3, rfl⟩ | ⟨hq3, rfl⟩, rfl⟩
  case inr =>
    exact ⟨rfl, Gt.no (by rw [← HR.out]; simp at hq3; simp; omega) B0.out⟩
  have hq3 := hide hq3
  have g2 := hq2.out
  have g3 := hq3.out
  simp at g2 g3
  have e4 : wrap64 (M + A) = M + A := by unfold wrap64; omega
  have e5 : wrap64 (M + A + (nC : Int)) = M + A + (nC : Int) := by unfold wrap64; omega
  clear g2 g3
  go_wp2_with fail
  refine (must_any C0.out _).mono ?_
  rintro e w2 ⟨⟨hq4, rfl⟩ | ⟨hq4, rfl⟩, rfl⟩
  case inr =>
    exact ⟨rfl, Gt.no (by rw [← HR.out]; simp at hq4; simp; omega) B0.out⟩
  have hq4 := hide hq4
  go_wp2_with fail
  refine (must_any C0.out _).mono ?_
  rintro e w2 ⟨⟨hq5, rfl⟩ | ⟨hq5, rfl⟩, rfl⟩
  case inr =>
    exact ⟨rfl, Gt.no (by rw [← HR.out]; simp at hq5; simp; omega) B0.out⟩
  have hq5 := hide hq5
  go_wp2_with fail
  refine (must_any C0.out _).mono ?_
  rintro e w2 ⟨⟨hq6, rfl⟩ | ⟨hq6, rfl⟩, rfl⟩
  case inr =>
    exact ⟨rfl, Gt.no (by rw [← HR.out]; simp at hq6; simp; omega) B0.out⟩
  have hq6 := hide hq6
  go_wp2_with fail
  go_end0
  exact Gt.yes (by rw [← HR.out]; have g1 := hq1.out; have g2 := hq2.out; have g3 := hq3.out; have g4 := hq4.out; have g5 := hq5.out; have g6 := hq6.out; simp at g1 g2 g3 g4 g5 g6; simp; omega) B0.out
end Go.Proofs.YtlheflkdapckbaaDoor.Ck
