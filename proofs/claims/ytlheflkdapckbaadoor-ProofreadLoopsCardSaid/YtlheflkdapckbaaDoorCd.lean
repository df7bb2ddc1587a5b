/- Package code: a function, a row of places. (Written by mk_c.py.) -/
import Derived.Test.YtlheflkdapckbaaDoorCc
namespace Go.Proofs.YtlheflkdapckbaaDoor.Ck
open Go.RowKit

/-- a function's numbers and types -/
def entB (f : Fn3) : Bool := (decide (0 ≤ f.pa) && decide (f.pa ≤ 4)) && ((decide (f.pa ≤ (f.lo.length : Int)) && decide (f.lo.length ≤ 32)) && f.lo.all typB)
set_option maxRecDepth 20000 in
set_option maxHeartbeats 1000000 in
theorem entry_any {w : World} {p : List Addr} {vl : Value} (f : Fn3) (hc : Ec w p) (h : Sl w vl f.lo) : Calls Tryd.prog 50 #[.agg #[.int .i64 f.st, .int .i64 f.pa, vl]] w (Gt p w (entB f) (.tuple #[])) := by
  have C0 := hide (hc.bel (bel_new w (.cells #[.int .i64 f.st, .int .i64 f.pa, vl] 46)))
  have B0 := hide (bel_new w (.cells #[.int .i64 f.st, .int .i64 f.pa, vl] 46))
  have T0 := hide (types_any C0.out (h.bel B0.out))
  obtain ⟨a, cp, rfl, _, _⟩ := h.form
  obtain ⟨r, hr⟩ : ∃ r, entB f = r := ⟨_, rfl⟩
  rw [hr]
  unfold entB at hr
  have HR := hide hr
  clear hr hc h
  generalize f.lo.all typB = ty at *
  generalize f.lo.length = n at *
  generalize f.pa = pa at *
  generalize f.st = st at *
  go_enter Tryd.func50, Tryd.ntmps50
  by_cases hp1 : 0 ≤ pa
  case neg =>
    go_wp2_with fail
    refine (must_no C0.out).mono ?_
    rintro e w2 ⟨rfl, rfl⟩
    exact ⟨rfl, Gt.no (by rw [← HR.out]; simp; omega) B0.out⟩
  go_wp2_with fail
  refine (must_any C0.out _).mono ?_
  rintro e w2 ⟨⟨hq1, rfl⟩ | ⟨hq1, rfl⟩, rfl⟩
  case inr =>
    exact ⟨rfl, Gt.no (by rw [← HR.out]; simp at hq1; simp; omega) B0.out⟩
  have hq1 := hide hq1
  by_cases hp2 : pa ≤ (n : Int)
  case neg =>
    go_wp2_with fail
    refine (must_no C0.out).mono ?_
    rintro e w2 ⟨rfl, rfl⟩
    exact ⟨rfl, Gt.no (by rw [← HR.out]; simp; omega) B0.out⟩
  go_wp2_with fail
  refine (must_any C0.out _).mono ?_
  rintro e w2 ⟨⟨hq2, rfl⟩ | ⟨hq2, rfl⟩, rfl⟩
  case inr =>
    exact ⟨rfl, Gt.no (by rw [← HR.out]; simp at hq2; simp; omega) B0.out⟩
  have hq2 := hide hq2
  go_wp2_with fail
  refine T0.out.mono ?_
  intro e w2 hp
  rcases hp.both with ⟨h1, rfl, hb⟩ | ⟨h1, rfl, hb⟩
  · go_wp2_with fail
    go_end0
    exact Gt.yes (by rw [← HR.out, h1]; have g1 := hq1.out; have g2 := hq2.out; simp at g1 g2; simp; omega) (bel_trans B0.out hb)
  · exact ⟨rfl, Gt.no (by rw [← HR.out, h1]; simp) (bel_trans B0.out hb)⟩
theorem rowB_no {P : List Int} {a b k : Nat} (hk : k < b) (h : P.getD (a + k) 0 ≠ P.getD a 0) : rowB P a b = false := by
  unfold rowB
  rw [List.all_eq_false]
  exact ⟨k, by simp; omega, by simpa using h⟩
theorem rowB_yes {P : List Int} {a b : Nat} (h : ∀ k, k < b → P.getD (a + k) 0 = P.getD a 0) : rowB P a b = true := by
  unfold rowB
  rw [List.all_eq_true]
  intro k hk
  simp at hk
  simpa using h k hk
set_option maxRecDepth 20000 in
set_option maxHeartbeats 1000000 in
theorem row_any {w : World} {p : List Addr} {v : Value} {P : List Int} (a b : Nat) (hc : Ec w p) (h : Sl w v P) (h1 : a < P.length) (h2 : b ≤ 64) (h3 : P.length ≤ 128) : Calls Tryd.prog 52 #[v, .int .i64 a, .int .i64 b] w (Gt p w (decide (a + b ≤ P.length) && rowB P a b) (.tuple #[])) := by
  obtain ⟨_, av, cp, rfl, hca, hcm, hac⟩ := h
  unfold maxLen at hcm
  obtain ⟨n, hn⟩ : ∃ n, n = P.length := ⟨_, rfl⟩
  have hac' : ∀ i, i < n → _ := fun i hi => hac i (by omega)
  rw [← hn] at h1 h3 hca ⊢
  have C0 := hide hc
  clear hc hac hn
  by_cases hs : a + b ≤ n
  case neg =>
    have hr := hide (show (decide (a + b ≤ n) && rowB P a b) = false by simp; omega)
    generalize (decide (a + b ≤ n) && rowB P a b) = r at *
    have hd : decide ((a : Int) + (b : Int) ≤ (n : Int)) = false := decide_eq_false (by omega)
    clear hs
    go_enter Tryd.func52, Tryd.ntmps52
    go_wp2_with fail
    refine (must_no C0.out).mono ?_
    rintro e w2 ⟨rfl, rfl⟩
    exact ⟨rfl, Gt.no (hr.out) (Below.refl _ _)⟩
  have hs2 : Hid ((∀ k, k < b → P.getD (a + k) 0 = P.getD a 0) → (decide (a + b ≤ n) && rowB P a b) = true) := fun h => by rw [decide_eq_true hs, rowB_yes h]; rfl
  have hs3 : Hid (∀ k, k < b → P.getD (a + k) 0 ≠ P.getD a 0 → (decide (a + b ≤ n) && rowB P a b) = false) := fun k hk h => by rw [rowB_no hk h]; simp
  generalize (decide (a + b ≤ n) && rowB P a b) = r at *
  obtain ⟨b1, o1, rfl, hb1, hc1⟩ := hac' a h1
  have hcs : ∀ k, k < b → w.cell? ⟨b1, o1 + a + k, none⟩ = some (.int .i64 (P.getD (a + k) 0)) := fun k hk => by
    obtain ⟨b2, o2, e2, _, hc2⟩ := hac' (a + k) (by omega)
    cases e2
    rw [Nat.add_assoc]
    exact hc2
  have hz : (cp = a) = False := by simp; omega
  obtain ⟨en, hen⟩ : ∃ en, en = a + b := ⟨_, rfl⟩
  have hse : (a : Int) + (b : Int) = (en : Int) := by omega
  have hs1 : (en : Int) ≤ (n : Int) := by omega
  have hs4 : en - a = b := by omega
  have hs5 : (a : Int) ≤ (en : Int) := by omega
  have hs6 : (en : Int) ≤ (cp : Int) := by omega
  clear hac' hen hs
  go_enter Tryd.func52, Tryd.ntmps52
  go_wp2_with fail
  refine (must_yes _).mono ?_
  rintro e w2 ⟨rfl, rfl⟩
  go_wp2_with fail
  go_loopw [7, 22] (fun u i wr => ∃ k : Nat, k ≤ b ∧ i = .int .i64 k ∧ Hid (∀ j, j < k → P.getD (a + j) 0 = P.getD a 0) ∧ Hid (w = wr)) (fun u i _ => b - (intOf i).toNat)
  case atStart => exact ⟨0, Nat.zero_le _, rfl, fun j hj => absurd hj (Nat.not_lt_zero _), rfl⟩
  case round =>
    obtain ⟨k, hk, rfl, hall, hw⟩ := hrel
    obtain rfl := hw.out
    clear hw
    by_cases hlt : k < b
    · have hck := hcs k hlt
      have h9 : (k : Int) < (b : Int) := by omega
      have h8 : (a : Int) < (n : Int) := by omega
      have hne := hide (hs3.out k hlt)
      have hstep : Hid (P.getD (a + k) 0 = P.getD a 0 → ∀ j, j < k + 1 → P.getD (a + j) 0 = P.getD a 0) := fun e j hj => by
        by_cases ej : j = k
        · rw [ej]; exact e
        · exact hall.out j (by omega)
      clear hcs hs2 hs3 hall
      generalize P.getD (a + k) 0 = y at *
      generalize P.getD a 0 = y0 at *
      by_cases y1 : y = y0
      · have e1 : (y == y0) = true := by simp [y1]
        have hst := hide (hstep.out y1)
        clear y1 hstep hne
        go_wp2_with fail
        refine (must_yes _).mono ?_
        rintro e w2 ⟨rfl, rfl⟩
        go_wp2_with fail
        go_roundw
        case rel => exact ⟨k + 1, by omega, by go_num, hst.out, trivial⟩
        case measure => simp [intOf]; omega
      · have e1 : (y == y0) = false := beq_false_of_ne y1
        have hr := hide (hne.out y1)
        clear y1 hstep hne
        go_wp2_with fail
        refine (must_no C0.out).mono ?_
        rintro e w2 ⟨rfl, rfl⟩
        exact ⟨rfl, Gt.no hr.out (Below.refl _ _)⟩
    · obtain rfl : k = b := by omega
      have hr := hide (hs2.out hall.out)
      clear hcs hs2 hs3
      go_wp2_with fail
      go_end0
      exact Gt.yes hr.out (Below.refl _ _)
end Go.Proofs.YtlheflkdapckbaaDoor.Ck
