/- The document's ints; a code's form. (Written by mk_s.py.) -/
import Derived.Test.YtigfjjolfeenaaaDoorGa
import Derived.Test.YtigfjjolfeenaaaDoorCp
import Derived.Test.YtigfjjolfeenaaaDoorCk
namespace Go.Proofs.YtigfjjolfeenaaaDoor.Ck
open Go.RowKit

set_option maxRecDepth 20000 in
set_option maxHeartbeats 4000000 in
theorem rints {w : World} {v1 v2 : Value} {l1 l2 : List Int} (h1 : Sl w v1 l1) (h2 : Sl w v2 l2) (hn : l1.length ≤ 100000 ∧ l2.length ≤ 100000) : Calls Tryd.prog 30 #[v1, v2] w (Dr w (.bool (sameL eqN l1 l2))) := by
  obtain ⟨_, a1, c1, e1, p1, p2, h1⟩ := h1
  obtain ⟨_, a2, c2, e2, p3, p4, h2⟩ := h2
  subst e1 e2
  by_cases hl : l1.length = l2.length
  · obtain ⟨n, hn1⟩ : ∃ n, n = l1.length := ⟨_, rfl⟩
    have hs : Hid ((∀ j, j < n → eqN (l1.getD j 0) (l2.getD j 0) = true) → sameL eqN l1 l2 = true) := fun h => sameL_all 0 l1 l2 hl (fun j hj => h j (by omega))
    have hs2 : Hid (∀ k : Nat, k < n → eqN (l1.getD k 0) (l2.getD k 0) = false → sameL eqN l1 l2 = false) := fun k hk => sameL_not 0 l1 l2 k (by omega) (by omega)
    have H1 := hide h1
    have H2 := hide h2
    have HL := hide (And.intro hn1 hl)
    have hnn : n ≤ 100000 := by omega
    rw [← hl, ← hn1]
    clear hl hn1 h1 h2 hn p1 p2 p3 p4
    generalize sameL eqN l1 l2 = r at *
    go_enter Tryd.func30, Tryd.ntmps30
    go_wp2_with fail
    go_loopw [5, 13] (fun x5 i wr => ∃ k : Nat, k ≤ n ∧ i = .int .i64 k ∧ Hid (∀ j, j < k → eqN (l1.getD j 0) (l2.getD j 0) = true) ∧ Hid (∃ q, wr = w.drewN q)) (fun x5 i _ => n - (intOf i).toNat)
    case atStart => exact ⟨0, Nat.zero_le _, rfl, fun j hj => absurd hj (Nat.not_lt_zero _), 0, rfl⟩
    case round =>
      obtain ⟨k, hk, rfl, hall, hw⟩ := hrel
      obtain ⟨q, hq⟩ := hw.out
      have HQ := hide hq
      clear hw
      by_cases hlt : k < n
      · have hlt' : (k : Int) < (n : Int) := by omega
        obtain ⟨b1, o1, e1, hb1, r1⟩ := H1.out k (by have := HL.out; omega)
        obtain ⟨b2, o2, e2, hb2, s1⟩ := H2.out k (by have := HL.out; omega)
        subst e1 e2
        have t0 := drew_at hq r1
        have t1 := drew_at hq s1
        have hb1' := drew_lt hq hb1
        have hb2' := drew_lt hq hb2
        have HY : Hid (eqN (l1.getD k 0) (l2.getD k 0) = true → ∀ j, j < k + 1 → eqN (l1.getD j 0) (l2.getD j 0) = true) := fun e j hj => by
          by_cases ej : j = k
          · rw [ej]; exact e
          · exact hall.out j (by omega)
        have HNO : Hid (eqN (l1.getD k 0) (l2.getD k 0) = false → r = false) := fun e => hs2.out k hlt e
        clear hs hs2 hall H1 H2 hq hb1 hb2 r1 s1
        generalize l1.getD k 0 = x at *
        generalize l2.getD k 0 = y at *
        cases hxy : eqN x y with
        | true =>
          have hy2 := hide (HY.out hxy)
          have hne : (x != y) = false := by rw [eq_of_beq hxy]; simp
          clear HY HNO hxy
          go_wp2_with fail
          go_quiet (fail)
          go_wp2_with fail
          go_roundw
          case rel => exact ⟨k + 1, by omega, by go_num, hy2, q + _, drew_more HQ.out _⟩
          case measure => simp [intOf]; omega
        | false =>
          have hn2 := HNO.out hxy
          subst hn2
          have hne : (x != y) = true := by simpa [eqN] using hxy
          clear HY HNO hxy
          go_wp2_with fail
          go_quiet (fail)
          go_wp2_with fail
          go_ret
          exact ⟨rfl, q + _, drew_more HQ.out _⟩
      · obtain rfl : k = n := by omega
        have hr := hs.out hall.out
        subst hr
        clear hs hs2 hall H1 H2 hq
        go_wp2_with fail
        go_ret
        exact ⟨rfl, q, HQ.out⟩
  · rw [sameL_len l1 l2 hl]
    have ht : ((l1.length : Int) != (l2.length : Int)) = true := by rw [bne_iff_ne]; omega
    clear h1 h2 hl
    go_enter Tryd.func30, Tryd.ntmps30
    go_wp2_with fail
    go_ret
    exact ⟨rfl, 0, rfl⟩
/-- lists that are not too long -/
structure Sml (c : Cd) : Prop where
  P : c.P.length ≤ 100000
  C : c.C.length ≤ 100000
  F : c.F.length ≤ 100000
  B : c.B.length ≤ 100000
  L : ∀ f ∈ c.F, f.lo.length ≤ 100000
theorem Cv.form {w : World} {vP vC vF vB : Value} {c : Cd} (h : Cv w vP vC vF vB c) : ∃ aP cP aC cC aF cF aB cB, vP = .slice aP c.P.length cP ∧ vC = .slice aC c.C.length cC ∧ vF = .slice aF c.F.length cF ∧ vB = .slice aB c.B.length cB := by
  obtain ⟨aP, cP, eP, _⟩ := h.P.form
  obtain ⟨aC, cC, eC, _⟩ := h.C.form
  obtain ⟨aF, cF, eF, _⟩ := h.F.form
  obtain ⟨aB, cB, eB, _⟩ := h.B.form
  exact ⟨aP, cP, aC, cC, aF, cF, aB, cB, eP, eC, eF, eB⟩
end Go.Proofs.YtigfjjolfeenaaaDoor.Ck
