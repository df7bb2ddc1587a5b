/- Package sync: equal lists. (Written by mk_y.py.) -/
import Derived.Test.YtghfjnnmpmfboaaDoorXb
namespace Go.Proofs.YtghfjnnmpmfboaaDoor.Ck
open Go.RowKit

def sameV (l l' : List V3) : Bool := decide (l = l')
theorem sameV_not (l l' : List V3) (k : Nat) (h : l[k]? ≠ l'[k]?) : sameV l l' = false := decide_eq_false (fun e => h (by rw [e]))
theorem sameV_all (l l' : List V3) (hl : l.length = l'.length) (h : ∀ j, j < l.length → l[j]? = l'[j]?) : sameV l l' = true := decide_eq_true (List.ext_getElem? (fun i => by
  by_cases hi : i < l.length
  · exact h i hi
  · rw [List.getElem?_eq_none (by omega), List.getElem?_eq_none (by omega)]))
theorem sameV_len (l l' : List V3) (hl : l.length ≠ l'.length) : sameV l l' = false := decide_eq_false (fun e => hl (by rw [e]))
theorem v3_eq (x y : V3) : (x.1 == y.1 && (x.2.1 == y.2.1 && x.2.2 == y.2.2)) = decide (x = y) := by
  obtain ⟨a, b, c⟩ := x
  obtain ⟨a', b', c'⟩ := y
  by_cases h1 : a = a' <;> by_cases h2 : b = b' <;> by_cases h3 : c = c' <;> simp [h1, h2, h3]
set_option maxRecDepth 20000 in
set_option maxHeartbeats 2000000 in
theorem eqfV {w : World} {v1 v2 : Value} {l1 l2 : List V3} (h1 : w.ownsRow 0 41 3 v1 l1.length (vcs l1)) (h2 : w.ownsRow 0 41 3 v2 l2.length (vcs l2)) (hn : l1.length ≤ 1000 ∧ l2.length ≤ 1000) : Calls Tryd.prog 59 #[v1, v2, .func (.func 60) #[] #[]] w (Vb w (.bool (sameV l1 l2))) := by
  obtain ⟨a1, c1, e1, _⟩ := own_slice h1
  obtain ⟨a2, c2, e2, _⟩ := own_slice h2
  subst e1 e2
  by_cases hl : l1.length = l2.length
  · obtain ⟨n, hn1⟩ : ∃ n, n = l1.length := ⟨_, rfl⟩
    have hs : Hid ((∀ j, j < n → l1[j]? = l2[j]?) → sameV l1 l2 = true) := fun h => sameV_all l1 l2 hl (fun j hj => h j (by omega))
    have hs2 : Hid (∀ k : Nat, l1[k]? ≠ l2[k]? → sameV l1 l2 = false) := fun k => sameV_not l1 l2 k
    have H1 := hide h1
    have H2 := hide h2
    have HL := hide (And.intro hn1 hl)
    have hnn : n ≤ 1000 := by omega
    rw [← hl, ← hn1]
    clear hl hn1 h1 h2 hn
    generalize sameV l1 l2 = r at *
    go_enter Tryd.func59, Tryd.ntmps59
    go_wp2_with fail
    go_loopw [7, 8, 9, 17] (fun x7 x8 x9 i wr => ∃ k : Nat, k ≤ n ∧ i = .int .i64 k ∧ Hid (∀ j, j < k → l1[j]? = l2[j]?) ∧ Hid (Below w.heap.size w wr)) (fun x7 x8 x9 i _ => n - (intOf i).toNat)
    case atStart => exact ⟨0, Nat.zero_le _, rfl, fun j hj => absurd hj (Nat.not_lt_zero _), Below.refl _ _⟩
    case round =>
      obtain ⟨k, hk, rfl, hall, hbel⟩ := hrel
      by_cases hlt : k < n
      · have hlt' : (k : Int) < (n : Int) := by omega
        obtain ⟨x, hx⟩ : ∃ x, l1[k]? = some x := ⟨_, List.getElem?_eq_getElem (by have := HL.out; omega)⟩
        obtain ⟨y, hy⟩ : ∃ y, l2[k]? = some y := ⟨_, List.getElem?_eq_getElem (by have := HL.out; omega)⟩
        obtain ⟨b1, c1', e1, _⟩ := own_some H1.out (by have := HL.out; omega)
        obtain ⟨b2, c2', e2, _⟩ := own_some H2.out (by have := HL.out; omega)
        cases e1
        cases e2
        obtain ⟨p0, p1, p2⟩ := vcs_at _ _ _ hx
        obtain ⟨q0, q1, q2⟩ := vcs_at _ _ _ hy
        rw [Nat.mul_comm] at p0 p1 p2 q0 q1 q2
        have hb1 := (own_type H1.out (k := b1) rfl).2.1
        have hb2 := (own_type H2.out (k := b2) rfl).2.1
        have r0 := (hbel.out.cell (p := ⟨b1, k * 3, none⟩) hb1).trans (own_cell H1.out _ _ p0).1
        have r1 := (hbel.out.cell (p := ⟨b1, k * 3 + 1, none⟩) hb1).trans (own_cell H1.out _ _ p1).1
        have r2 := (hbel.out.cell (p := ⟨b1, k * 3 + 2, none⟩) hb1).trans (own_cell H1.out _ _ p2).1
        have s0 := (hbel.out.cell (p := ⟨b2, k * 3, none⟩) hb2).trans (own_cell H2.out _ _ q0).1
        have s1 := (hbel.out.cell (p := ⟨b2, k * 3 + 1, none⟩) hb2).trans (own_cell H2.out _ _ q1).1
        have s2 := (hbel.out.cell (p := ⟨b2, k * 3 + 2, none⟩) hb2).trans (own_cell H2.out _ _ q2).1
        have hb1r : b1 < wr.heap.size := Nat.lt_of_lt_of_le hb1 hbel.out.size
        have hb2r : b2 < wr.heap.size := Nat.lt_of_lt_of_le hb2 hbel.out.size
        obtain ⟨t, m, z⟩ := x
        obtain ⟨t', m', z'⟩ := y
        obtain ⟨bb, hbb⟩ : ∃ bb, decide (((t, m, z) : V3) = (t', m', z')) = bb := ⟨_, rfl⟩
        have SM : ∀ w, Calls Tryd.prog 60 #[.agg #[.int .i64 t, .int .i64 m, .int .u64 z], .agg #[.int .i64 t', .int .i64 m', .int .u64 z']] w (Vb w (.bool bb)) := fun w => by
          have := same_any t m z t' m' z' w
          rw [show (t == t' && (m == m' && z == z')) = bb from (v3_eq (t, m, z) (t', m', z')).trans hbb] at this
          exact this
        have HY : Hid (bb = true → ∀ j, j < k + 1 → l1[j]? = l2[j]?) := fun e j hj => by
          by_cases ej : j = k
          · rw [ej, hx, hy, of_decide_eq_true (hbb.trans e)]
          · exact hall.out j (by omega)
        have HNO : Hid (bb = false → r = false) := fun e => hs2.out k (by
          rw [hx, hy]
          intro e2
          have := of_decide_eq_false (hbb.trans e)
          exact this (Option.some.inj e2))
        have HB := hide (bel_al (bel_al hbel.out (.cells #[.int .i64 t, .int .i64 m, .int .u64 z] 41)) (.cells #[.int .i64 t', .int .i64 m', .int .u64 z'] 41))
        clear hs hs2 hall hx hy p0 p1 p2 q0 q1 q2 hbb hbel H1 H2
        simp only at r0 r1 r2 s0 s1 s2
        go_wp2_with fail
        refine (SM _).mono ?_
        rintro e w9 ⟨rfl, hb9⟩
        have HB9 := hide (bel_trans HB.out hb9)
        clear hb9 HB
        cases bb with
        | true =>
          have hy2 := hide (HY.out rfl)
          clear HY HNO
          go_wp2_with fail
          go_roundw
          case rel => exact ⟨k + 1, by omega, by go_num, hy2, HB9⟩
          case measure => simp [intOf]; omega
        | false =>
          have hn2 := HNO.out rfl
          subst hn2
          clear HY HNO
          go_wp2_with fail
          go_ret
          exact Vb.mk rfl HB9.out
      · obtain rfl : k = n := by omega
        have hr := hs.out hall.out
        subst hr
        clear hs hs2 hall H1 H2
        go_wp2_with fail
        go_ret
        exact Vb.mk rfl hbel.out
  · have hs := sameV_len l1 l2 hl
    rw [hs]
    have ht : ((l1.length : Int) != (l2.length : Int)) = true := by rw [bne_iff_ne]; omega
    clear h1 h2 hs hl
    go_enter Tryd.func59, Tryd.ntmps59
    go_wp2_with fail
    go_ret
    exact Vb.mk rfl (Below.refl _ _)
set_option maxRecDepth 20000 in
set_option maxHeartbeats 2000000 in
theorem eqB {w : World} {v1 v2 : Value} {l1 l2 : List Bool} (h1 : w.ownsRow 0 4 1 v1 l1.length (bls l1)) (h2 : w.ownsRow 0 4 1 v2 l2.length (bls l2)) (hn : l1.length ≤ 1000 ∧ l2.length ≤ 1000) : Calls Tryd.prog 61 #[v1, v2] w (Vb w (.bool (decide (l1 = l2)))) := by
  obtain ⟨a1, c1, e1, _⟩ := own_slice h1
  obtain ⟨a2, c2, e2, _⟩ := own_slice h2
  subst e1 e2
  by_cases hl : l1.length = l2.length
  · obtain ⟨n, hn1⟩ : ∃ n, n = l1.length := ⟨_, rfl⟩
    have hs : Hid ((∀ j, j < n → l1[j]? = l2[j]?) → decide (l1 = l2) = true) := fun h => decide_eq_true (List.ext_getElem? (fun i => by
      by_cases hi : i < l1.length
      · exact h i (by omega)
      · rw [List.getElem?_eq_none (by omega), List.getElem?_eq_none (by omega)]))
    have hs2 : Hid (∀ k : Nat, l1[k]? ≠ l2[k]? → decide (l1 = l2) = false) := fun k h => decide_eq_false (fun e => h (by rw [e]))
    have H1 := hide h1
    have H2 := hide h2
    have HL := hide (And.intro hn1 hl)
    have hnn : n ≤ 1000 := by omega
    rw [← hl, ← hn1]
    clear hl hn1 h1 h2 hn
    generalize decide (l1 = l2) = r at *
    go_enter Tryd.func61, Tryd.ntmps61
    go_wp2_with fail
    go_loopw [5, 13] (fun x5 i wr => ∃ k : Nat, k ≤ n ∧ i = .int .i64 k ∧ Hid (∀ j, j < k → l1[j]? = l2[j]?) ∧ Hid (Below w.heap.size w wr)) (fun x5 i _ => n - (intOf i).toNat)
    case atStart => exact ⟨0, Nat.zero_le _, rfl, fun j hj => absurd hj (Nat.not_lt_zero _), Below.refl _ _⟩
    case round =>
      obtain ⟨k, hk, rfl, hall, hbel⟩ := hrel
      by_cases hlt : k < n
      · have hlt' : (k : Int) < (n : Int) := by omega
        obtain ⟨x, hx⟩ : ∃ x, l1[k]? = some x := ⟨_, List.getElem?_eq_getElem (by have := HL.out; omega)⟩
        obtain ⟨y, hy⟩ : ∃ y, l2[k]? = some y := ⟨_, List.getElem?_eq_getElem (by have := HL.out; omega)⟩
        obtain ⟨b1, c1', e1, _⟩ := own_some H1.out (by have := HL.out; omega)
        obtain ⟨b2, c2', e2, _⟩ := own_some H2.out (by have := HL.out; omega)
        cases e1
        cases e2
        have r0 := (hbel.out.cell (p := ⟨b1, k, none⟩) (own_type H1.out (k := b1) rfl).2.1).trans (own_cell H1.out _ _ (bls_at hx)).1
        have s0 := (hbel.out.cell (p := ⟨b2, k, none⟩) (own_type H2.out (k := b2) rfl).2.1).trans (own_cell H2.out _ _ (bls_at hy)).1
        have HY : Hid (x = y → ∀ j, j < k + 1 → l1[j]? = l2[j]?) := fun e j hj => by
          by_cases ej : j = k
          · rw [ej, hx, hy, e]
          · exact hall.out j (by omega)
        have HNO : Hid (x ≠ y → r = false) := fun e => hs2.out k (by
          rw [hx, hy]
          exact fun e2 => e (Option.some.inj e2))
        clear hs hs2 hall hx hy H1 H2
        by_cases exy : x = y
        · have hy2 := hide (HY.out exy)
          subst exy
          clear HY HNO
          cases x
          all_goals
            go_wp2_with fail
            go_quiet (fail)
            go_wp2_with fail
            go_roundw
            case rel => exact ⟨k + 1, by omega, by go_num, hy2, below_drewN hbel.out _⟩
            case measure => simp [intOf]; omega
        · have hn2 := HNO.out exy
          subst hn2
          clear HY HNO
          cases x <;> cases y
          · exact absurd rfl exy
          · clear exy
            go_wp2_with fail
            go_quiet (fail)
            go_wp2_with fail
            go_ret
            exact Vb.mk rfl (below_drewN hbel.out _)
          · clear exy
            go_wp2_with fail
            go_quiet (fail)
            go_wp2_with fail
            go_ret
            exact Vb.mk rfl (below_drewN hbel.out _)
          · exact absurd rfl exy
      · obtain rfl : k = n := by omega
        have hr := hs.out hall.out
        subst hr
        clear hs hs2 hall H1 H2
        go_wp2_with fail
        go_ret
        exact Vb.mk rfl hbel.out
  · have hs : decide (l1 = l2) = false := decide_eq_false (fun e => hl (by rw [e]))
    rw [hs]
    have ht : ((l1.length : Int) != (l2.length : Int)) = true := by rw [bne_iff_ne]; omega
    clear h1 h2 hs hl
    go_enter Tryd.func61, Tryd.ntmps61
    go_wp2_with fail
    go_ret
    exact Vb.mk rfl (Below.refl _ _)
set_option maxRecDepth 20000 in
set_option maxHeartbeats 2000000 in
theorem eqI {w : World} {v1 v2 : Value} {l1 l2 : List Int} (h1 : w.ownsRow 0 3 1 v1 l1.length (nts l1)) (h2 : w.ownsRow 0 3 1 v2 l2.length (nts l2)) (hn : l1.length ≤ 1000 ∧ l2.length ≤ 1000) : Calls Tryd.prog 64 #[v1, v2] w (Vb w (.bool (decide (l1 = l2)))) := by
  obtain ⟨a1, c1, e1, _⟩ := own_slice h1
  obtain ⟨a2, c2, e2, _⟩ := own_slice h2
  subst e1 e2
  by_cases hl : l1.length = l2.length
  · obtain ⟨n, hn1⟩ : ∃ n, n = l1.length := ⟨_, rfl⟩
    have hs : Hid ((∀ j, j < n → l1[j]? = l2[j]?) → decide (l1 = l2) = true) := fun h => decide_eq_true (List.ext_getElem? (fun i => by
      by_cases hi : i < l1.length
      · exact h i (by omega)
      · rw [List.getElem?_eq_none (by omega), List.getElem?_eq_none (by omega)]))
    have hs2 : Hid (∀ k : Nat, l1[k]? ≠ l2[k]? → decide (l1 = l2) = false) := fun k h => decide_eq_false (fun e => h (by rw [e]))
    have H1 := hide h1
    have H2 := hide h2
    have HL := hide (And.intro hn1 hl)
    have hnn : n ≤ 1000 := by omega
    rw [← hl, ← hn1]
    clear hl hn1 h1 h2 hn
    generalize decide (l1 = l2) = r at *
    go_enter Tryd.func64, Tryd.ntmps64
    go_wp2_with fail
    go_loopw [5, 13] (fun x5 i wr => ∃ k : Nat, k ≤ n ∧ i = .int .i64 k ∧ Hid (∀ j, j < k → l1[j]? = l2[j]?) ∧ Hid (Below w.heap.size w wr)) (fun x5 i _ => n - (intOf i).toNat)
    case atStart => exact ⟨0, Nat.zero_le _, rfl, fun j hj => absurd hj (Nat.not_lt_zero _), Below.refl _ _⟩
    case round =>
      obtain ⟨k, hk, rfl, hall, hbel⟩ := hrel
      by_cases hlt : k < n
      · have hlt' : (k : Int) < (n : Int) := by omega
        obtain ⟨x, hx⟩ : ∃ x, l1[k]? = some x := ⟨_, List.getElem?_eq_getElem (by have := HL.out; omega)⟩
        obtain ⟨y, hy⟩ : ∃ y, l2[k]? = some y := ⟨_, List.getElem?_eq_getElem (by have := HL.out; omega)⟩
        obtain ⟨b1, c1', e1, _⟩ := own_some H1.out (by have := HL.out; omega)
        obtain ⟨b2, c2', e2, _⟩ := own_some H2.out (by have := HL.out; omega)
        cases e1
        cases e2
        have r0 := (hbel.out.cell (p := ⟨b1, k, none⟩) (own_type H1.out (k := b1) rfl).2.1).trans (own_cell H1.out _ _ (nts_at hx)).1
        have s0 := (hbel.out.cell (p := ⟨b2, k, none⟩) (own_type H2.out (k := b2) rfl).2.1).trans (own_cell H2.out _ _ (nts_at hy)).1
        have HY : Hid (x = y → ∀ j, j < k + 1 → l1[j]? = l2[j]?) := fun e j hj => by
          by_cases ej : j = k
          · rw [ej, hx, hy, e]
          · exact hall.out j (by omega)
        have HNO : Hid (x ≠ y → r = false) := fun e => hs2.out k (by
          rw [hx, hy]
          exact fun e2 => e (Option.some.inj e2))
        clear hs hs2 hall hx hy H1 H2
        by_cases exy : x = y
        · have hy2 := hide (HY.out exy)
          have hne : (x != y) = false := by rw [exy]; simp
          clear HY HNO exy
          go_wp2_with fail
          go_quiet (fail)
          go_wp2_with fail
          go_roundw
          case rel => exact ⟨k + 1, by omega, by go_num, hy2, below_drewN hbel.out _⟩
          case measure => simp [intOf]; omega
        · have hn2 := HNO.out exy
          subst hn2
          have hne : (x != y) = true := by simp [exy]
          clear HY HNO exy
          go_wp2_with fail
          go_quiet (fail)
          go_wp2_with fail
          go_ret
          exact Vb.mk rfl (below_drewN hbel.out _)
      · obtain rfl : k = n := by omega
        have hr := hs.out hall.out
        subst hr
        clear hs hs2 hall H1 H2
        go_wp2_with fail
        go_ret
        exact Vb.mk rfl hbel.out
  · have hs : decide (l1 = l2) = false := decide_eq_false (fun e => hl (by rw [e]))
    rw [hs]
    have ht : ((l1.length : Int) != (l2.length : Int)) = true := by rw [bne_iff_ne]; omega
    clear h1 h2 hs hl
    go_enter Tryd.func64, Tryd.ntmps64
    go_wp2_with fail
    go_ret
    exact Vb.mk rfl (Below.refl _ _)
end Go.Proofs.YtghfjnnmpmfboaaDoor.Ck
