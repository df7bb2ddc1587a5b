/- What the statements ProofreadCodes and ProofreadMoves share. -/
import Derived.Test.YtidjbgemnohbnaaDoorGq14
import Derived.Test.YtidjbgemnohbnaaDoorIcQ
import Derived.BigQuiet
import Derived.Test.YtidjbgemnohbnaaDoorQdQ
import Derived.Test.YtidjbgemnohbnaaDoorGq11
import Derived.Test.YtidjbgemnohbnaaDoorGq24
namespace Go.Proofs.YtidjbgemnohbnaaDoor.Ck
open Go.RowKit

theorem suml_len (F : List Fn3) : F.length ≤ sumL F := by
  unfold sumL
  induction F with
  | nil => simp
  | cons f F ih => simp at ih ⊢; omega
theorem suml_mem (F : List Fn3) (f : Fn3) (hf : f ∈ F) : f.lo.length ≤ sumL F := by
  unfold sumL
  induction F with
  | nil => cases hf
  | cons g F ih =>
    rw [List.mem_cons] at hf
    rcases hf with rfl | hf
    · simp; omega
    · have := ih hf
      simp at this ⊢
      omega
theorem sml3 {c : Cd} (h : lon3B c = false) : Sml c := by
  unfold lon3B lenC at h
  have h' := of_decide_eq_false h
  have h2 := suml_len c.F
  exact ⟨by omega, by omega, by omega, by omega, fun f hf => by have := suml_mem c.F f hf; omega⟩
theorem row_sl {w : World} {B : Nat} {v : Value} {t : List Int} (o : w.ownsRow B 3 1 v t.length (nts t)) (hf : Fits t) : Sl w v t := by
  obtain ⟨a, cc, rfl, e1, e2⟩ := own_slice o
  refine ⟨hf, a, cc, rfl, e1, e2, fun j hj => ?_⟩
  obtain ⟨b, c', eb, _⟩ := own_some o (by omega)
  cases eb
  refine ⟨b, 0, rfl, (own_type o (k := b) rfl).2.1, ?_⟩
  rw [Nat.zero_add]
  exact (own_cell o _ _ (nts_at (by rw [List.getD_eq_getElem?_getD, List.getElem?_eq_getElem hj]; rfl))).1
set_option maxRecDepth 20000 in
set_option maxHeartbeats 4000000 in
theorem sameInts_any {w : World} {v1 v2 : Value} {l1 l2 : List Int} (h1 : Sl w v1 l1) (h2 : Sl w v2 l2) (hn : l1.length ≤ 100000 ∧ l2.length ≤ 100000) : Calls Tryd.prog 12 #[v1, v2] w (Dr w (.bool (sameL eqN l1 l2))) := by
  obtain ⟨_, a1, c1, e1, p1, p2, h1⟩ := h1
  obtain ⟨_, a2, c2, e2, p3, p4, h2⟩ := h2
  subst e1 e2
  by_cases hl : l1.length = l2.length
  · obtain ⟨n, hn1⟩ : ∃ n, n = l1.length := ⟨_, rfl⟩
    have hs : Hid ((∀ j, j < n → eqN (l1.getD j 0) (l2.getD j 0) = true) → sameL eqN l1 l2 = true) := fun h => sameL_all 0 l1 l2 hl (fun j hj => h j (by omega))
    have hs2 : Hid (∀ k : Nat, k < n → eqN (l1.getD k 0) (l2.getD k 0) = false → sameL eqN l1 l2 = false) := fun k hk => sameL_not 0 l1 l2 k (by omega) (by omega)
    have H1 := hide h1
    have H2 := hide h2
    have HL := hide (And.intro hn1 hl)
    have hnn : n ≤ 100000 := by omega
    rw [← hl, ← hn1]
    clear hl hn1 h1 h2 hn p1 p2 p3 p4
    generalize sameL eqN l1 l2 = r at *
    go_enter Tryd.func12, Tryd.ntmps12
    go_wp2_with fail
    go_loopw [5, 13] (fun x5 i wr => ∃ k : Nat, k ≤ n ∧ i = .int .i64 k ∧ Hid (∀ j, j < k → eqN (l1.getD j 0) (l2.getD j 0) = true) ∧ Hid (∃ q, wr = w.drewN q)) (fun x5 i _ => n - (intOf i).toNat)
    case atStart => exact ⟨0, Nat.zero_le _, rfl, fun j hj => absurd hj (Nat.not_lt_zero _), 0, rfl⟩
    case round =>
      obtain ⟨k, hk, rfl, hall, hw⟩ := hrel
      obtain ⟨q, hq⟩ := hw.out
      have HQ := hide hq
      clear hw
      by_cases hlt : k < n
      · have hlt' : (k : Int) < (n : Int) := by omega
        obtain ⟨b1, o1, e1, hb1, r1⟩ := H1.out k (by have := HL.out; omega)
        obtain ⟨b2, o2, e2, hb2, s1⟩ := H2.out k (by have := HL.out; omega)
        subst e1 e2
        have t0 := drew_at hq r1
        have t1 := drew_at hq s1
        have hb1' := drew_lt hq hb1
        have hb2' := drew_lt hq hb2
        have HY : Hid (eqN (l1.getD k 0) (l2.getD k 0) = true → ∀ j, j < k + 1 → eqN (l1.getD j 0) (l2.getD j 0) = true) := fun e j hj => by
          by_cases ej : j = k
          · rw [ej]; exact e
          · exact hall.out j (by omega)
        have HNO : Hid (eqN (l1.getD k 0) (l2.getD k 0) = false → r = false) := fun e => hs2.out k hlt e
        clear hs hs2 hall H1 H2 hq hb1 hb2 r1 s1
        generalize l1.getD k 0 = x at *
        generalize l2.getD k 0 = y at *
        cases hxy : eqN x y with
        | true =>
          have hy2 := hide (HY.out hxy)
          have hne : (x != y) = false := by rw [eq_of_beq hxy]; simp
          clear HY HNO hxy
          go_wp2_with fail
          go_quiet (fail)
          go_wp2_with fail
          go_roundw
          case rel => exact ⟨k + 1, by omega, by go_num, hy2, q + _, drew_more HQ.out _⟩
          case measure => simp [intOf]; omega
        | false =>
          have hn2 := HNO.out hxy
          subst hn2
          have hne : (x != y) = true := by simpa [eqN] using hxy
          clear HY HNO hxy
          go_wp2_with fail
          go_quiet (fail)
          go_wp2_with fail
          go_ret
          exact ⟨rfl, q + _, drew_more HQ.out _⟩
      · obtain rfl : k = n := by omega
        have hr := hs.out hall.out
        subst hr
        clear hs hs2 hall H1 H2 hq
        go_wp2_with fail
        go_ret
        exact ⟨rfl, q, HQ.out⟩
  · rw [sameL_len l1 l2 hl]
    have ht : ((l1.length : Int) != (l2.length : Int)) = true := by rw [bne_iff_ne]; omega
    clear h1 h2 hl
    go_enter Tryd.func12, Tryd.ntmps12
    go_wp2_with fail
    go_ret
    exact ⟨rfl, 0, rfl⟩
end Go.Proofs.YtidjbgemnohbnaaDoor.Ck
