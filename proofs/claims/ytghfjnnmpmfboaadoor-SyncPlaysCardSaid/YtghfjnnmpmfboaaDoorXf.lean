/- The document's Same. (Written by mk_y.py.) -/
import Derived.Test.YtghfjnnmpmfboaaDoorXe
namespace Go.Proofs.YtghfjnnmpmfboaaDoor.Ck
open Go.RowKit

set_option maxRecDepth 20000 in
set_option maxHeartbeats 2000000 in
theorem sInts {w : World} {v1 v2 : Value} {l1 l2 : List Int} (h1 : w.ownsRow 0 3 1 v1 l1.length (nts l1)) (h2 : w.ownsRow 0 3 1 v2 l2.length (nts l2)) (hn : l1.length ≤ 1000 ∧ l2.length ≤ 1000) : Calls Tryd.prog 65 #[v1, v2] w (Vb w (.bool (decide (l1 = l2)))) := by
  obtain ⟨a1, c1, e1, _⟩ := own_slice h1
  obtain ⟨a2, c2, e2, _⟩ := own_slice h2
  subst e1 e2
  by_cases hl : l1.length = l2.length
  · obtain ⟨n, hn1⟩ : ∃ n, n = l1.length := ⟨_, rfl⟩
    have hs : Hid ((∀ j, j < n → l1[j]? = l2[j]?) → decide (l1 = l2) = true) := fun h => decide_eq_true (List.ext_getElem? (fun i => by
      by_cases hi : i < l1.length
      · exact h i (by omega)
      · rw [List.getElem?_eq_none (by omega), List.getElem?_eq_none (by omega)]))
    have hs2 : Hid (∀ k : Nat, l1[k]? ≠ l2[k]? → decide (l1 = l2) = false) := fun k h => decide_eq_false (fun e => h (by rw [e]))
    have H1 := hide h1
    have H2 := hide h2
    have HL := hide (And.intro hn1 hl)
    have hnn : n ≤ 1000 := by omega
    rw [← hl, ← hn1]
    clear hl hn1 h1 h2 hn
    generalize decide (l1 = l2) = r at *
    go_enter Tryd.func65, Tryd.ntmps65
    go_wp2_with fail
    go_loopw [13] (fun i wr => ∃ k : Nat, k ≤ n ∧ i = .int .i64 k ∧ Hid (∀ j, j < k → l1[j]? = l2[j]?) ∧ Hid (Below w.heap.size w wr)) (fun i _ => n - (intOf i).toNat)
    case atStart => exact ⟨0, Nat.zero_le _, rfl, fun j hj => absurd hj (Nat.not_lt_zero _), Below.refl _ _⟩
    case round =>
      obtain ⟨k, hk, rfl, hall, hbel⟩ := hrel
      by_cases hlt : k < n
      · have hlt' : (k : Int) < (n : Int) := by omega
        obtain ⟨x, hx⟩ : ∃ x, l1[k]? = some x := ⟨_, List.getElem?_eq_getElem (by have := HL.out; omega)⟩
        obtain ⟨y, hy⟩ : ∃ y, l2[k]? = some y := ⟨_, List.getElem?_eq_getElem (by have := HL.out; omega)⟩
        obtain ⟨b1, c1', e1, _⟩ := own_some H1.out (by have := HL.out; omega)
        obtain ⟨b2, c2', e2, _⟩ := own_some H2.out (by have := HL.out; omega)
        cases e1
        cases e2
        have r0 := (hbel.out.cell (p := ⟨b1, k, none⟩) (own_type H1.out (k := b1) rfl).2.1).trans (own_cell H1.out _ _ (nts_at hx)).1
        have s0 := (hbel.out.cell (p := ⟨b2, k, none⟩) (own_type H2.out (k := b2) rfl).2.1).trans (own_cell H2.out _ _ (nts_at hy)).1
        have HY : Hid (x = y → ∀ j, j < k + 1 → l1[j]? = l2[j]?) := fun e j hj => by
          by_cases ej : j = k
          · rw [ej, hx, hy, e]
          · exact hall.out j (by omega)
        have HNO : Hid (x ≠ y → r = false) := fun e => hs2.out k (by
          rw [hx, hy]
          exact fun e2 => e (Option.some.inj e2))
        clear hs hs2 hall hx hy H1 H2
        by_cases exy : x = y
        · have hy2 := hide (HY.out exy)
          have hne : (x != y) = false := by rw [exy]; simp
          clear HY HNO exy
          go_wp2_with fail
          go_quiet (fail)
          go_wp2_with fail
          go_roundw
          case rel => exact ⟨k + 1, by omega, by go_num, hy2, below_drewN hbel.out _⟩
          case measure => simp [intOf]; omega
        · have hn2 := HNO.out exy
          subst hn2
          have hne : (x != y) = true := by simp [exy]
          clear HY HNO exy
          go_wp2_with fail
          go_quiet (fail)
          go_wp2_with fail
          go_ret
          exact Vb.mk rfl (below_drewN hbel.out _)
      · obtain rfl : k = n := by omega
        have hr := hs.out hall.out
        subst hr
        clear hs hs2 hall H1 H2
        go_wp2_with fail
        go_ret
        exact Vb.mk rfl hbel.out
  · have hs : decide (l1 = l2) = false := decide_eq_false (fun e => hl (by rw [e]))
    rw [hs]
    have ht : ((l1.length : Int) != (l2.length : Int)) = true := by rw [bne_iff_ne]; omega
    clear h1 h2 hs hl
    go_enter Tryd.func65, Tryd.ntmps65
    go_wp2_with fail
    go_ret
    exact Vb.mk rfl (Below.refl _ _)

theorem sS_P {s s' : St} (h : sameV s.P s'.P = false) : sameS s s' = false := by unfold sameS; rw [h]; rfl
theorem sS_M {s s' : St} (h : decide (s.M = s'.M) = false) : sameS s s' = false := by unfold sameS; rw [h]; simp
theorem sS_C {s s' : St} (h : sameC s.C s'.C = false) : sameS s s' = false := by unfold sameS; rw [h]; simp
theorem sS_A {s s' : St} (h : decide (s.A = s'.A) = false) : sameS s s' = false := by unfold sameS; rw [h]; simp
theorem sS_all {s s' : St} (h1 : sameV s.P s'.P = true) (h2 : decide (s.M = s'.M) = true) (h3 : sameC s.C s'.C = true) (h4 : decide (s.A = s'.A) = true) : sameS s s' = true := by unfold sameS; rw [h1, h2, h3, h4]; rfl
theorem eqQ_no1 {q q' : Qu} (h : (!(q.t == q'.t && q.room == q'.room)) = true) : eqQ q q' = false := by
  unfold eqQ
  cases e : (q.t == q'.t && q.room == q'.room) with
  | true => rw [e] at h; cases h
  | false => rfl
theorem eqQ_no2 {q q' : Qu} (h : q.l.length ≠ q'.l.length) : eqQ q q' = false := by
  unfold eqQ
  rw [sameV_len _ _ h]
  simp
theorem eqQ_no3 {q q' : Qu} (k : Nat) (h : q.l[k]? ≠ q'.l[k]?) : eqQ q q' = false := by
  unfold eqQ
  rw [sameV_not _ _ k h]
  simp
theorem eqQ_yes {q q' : Qu} (h : (!(q.t == q'.t && q.room == q'.room)) = false) (hl : q.l.length = q'.l.length) (ha : ∀ j, j < q.l.length → q.l[j]? = q'.l[j]?) : eqQ q q' = true := by
  unfold eqQ
  rw [sameV_all _ _ hl ha]
  cases e : (q.t == q'.t && q.room == q'.room) with
  | true => rfl
  | false => rw [e] at h; cases h
theorem row_bel {w w' : World} {F R : Nat → Prop} {B g : Nat} {s : St} {vP vL vC vS vT vA : Value} {ss : List Value} {tk : List Int} (h : Rv w F R B g s vP vL vC vS vT vA ss tk) {T : TypeId} {n : Nat} {v : Value} {len : Nat} {xs : List Value} (oq : w.ownsRow 0 T n v len xs) (rq : ∀ k, v.ownBlock = some k → R k) (hb : Below w.heap.size w w') : w'.ownsRow 0 T n v len xs := own_keep oq fun k hk => hb.block k (h.rb k (rq k hk))
theorem own_addr {w : World} {B : Nat} {T : TypeId} {n : Nat} {a : _} {m c len : Nat} {xs : List Value} (h : w.ownsRow B T n (.slice a m c) len xs) (hl : 0 < len) : ∃ b, a = some ⟨b, 0, none⟩ := by
  obtain ⟨b, c, e, _⟩ := own_some h hl
  cases e
  exact ⟨b, rfl⟩
theorem drop_at {f : List V3} {n k : Nat} {l : List V3} (h : f.drop n = l) : l[k]? = f[n + k]? := by rw [← h]; simp
set_option maxRecDepth 20000 in
set_option maxHeartbeats 4000000 in
theorem rSame_any {w : World} {F R F' R' : Nat → Prop} {B B' g g' : Nat} {s s' : St} (h : Rt w F R B g s) (h' : Rt w F' R' B' g' s') (hB1 : B ≤ 1000000) (hB2 : B' ≤ 1000000) : Calls Tryd.prog 20 #[.pointer (some ⟨g, 0, none⟩), .pointer (some ⟨g', 0, none⟩)] w (Vb w (.bool (sameS s s'))) := by
  obtain ⟨vP, vL, vC, vS, vT, vA, ss, tk, h⟩ := h
  obtain ⟨vP', vL', vC', vS', vT', vA', ss', tk', h'⟩ := h'
  have sm := h.small
  have sm' := h'.small
  obtain ⟨aP, cP, eP, _⟩ := own_slice h.pl
  obtain ⟨aL, cL, eL, _⟩ := own_slice h.lo
  obtain ⟨aC, cC, eC, _⟩ := own_slice h.ch
  obtain ⟨aP', cP', eP', _⟩ := own_slice h'.pl
  obtain ⟨aL', cL', eL', _⟩ := own_slice h'.lo
  obtain ⟨aC', cC', eC', _⟩ := own_slice h'.ch
  subst eP eL eC eP' eL' eC'
  have HI := fun wx (hx : Rv wx F R B g s (.slice aP s.P.length cP) (.slice aL s.M.length cL) (.slice aC s.C.length cC) vS vT vA ss tk ∧ Rv wx F' R' B' g' s' (.slice aP' s'.P.length cP') (.slice aL' s'.M.length cL') (.slice aC' s'.C.length cC') vS' vT' vA' ss' tk') => sInts hx.1.ato hx.2.ato ⟨by omega, by omega⟩
  obtain ⟨nP, hnP⟩ : ∃ n, n = s.P.length := ⟨_, rfl⟩
  obtain ⟨nL, hnL⟩ : ∃ n, n = s.M.length := ⟨_, rfl⟩
  obtain ⟨nC, hnC⟩ : ∃ n, n = s.C.length := ⟨_, rfl⟩
  obtain ⟨nP', hnP'⟩ : ∃ n, n = s'.P.length := ⟨_, rfl⟩
  obtain ⟨nL', hnL'⟩ : ∃ n, n = s'.M.length := ⟨_, rfl⟩
  obtain ⟨nC', hnC'⟩ : ∃ n, n = s'.C.length := ⟨_, rfl⟩
  have HLN := hide (And.intro hnP (And.intro hnL (And.intro hnC (And.intro hnP' (And.intro hnL' hnC')))))
  rw [← hnP, ← hnL, ← hnC, ← hnP', ← hnL', ← hnC'] at HI
  rw [← hnP, ← hnL, ← hnC] at h
  rw [← hnP', ← hnL', ← hnC'] at h'
  have bnd : nP ≤ 128 ∧ nL ≤ 32 ∧ nC ≤ 32 ∧ nP' ≤ 128 ∧ nL' ≤ 32 ∧ nC' ≤ 32 := by omega
  obtain ⟨x1, e1⟩ : ∃ x, ((nP : Int) != (nP' : Int)) = x := ⟨_, rfl⟩
  obtain ⟨x2, e2⟩ : ∃ x, ((nL : Int) != (nL' : Int)) = x := ⟨_, rfl⟩
  obtain ⟨x3, e3⟩ : ∃ x, ((nC : Int) != (nC' : Int)) = x := ⟨_, rfl⟩
  obtain ⟨x4, e4⟩ : ∃ x, decide (s.A = s'.A) = x := ⟨_, rfl⟩
  rw [e4] at HI
  have HX1 : Hid (x1 = true → sameS s s' = false) := hide (fun e => sS_P (sameV_len _ _ (by have := HLN.out; rw [e, bne_iff_ne] at e1; omega)))
  have HX2 : Hid (x2 = true → sameS s s' = false) := hide (fun e => sS_M (decide_eq_false (fun e5 => by have := HLN.out; rw [e, bne_iff_ne] at e2; have := congrArg List.length e5; omega)))
  have HX3 : Hid (x3 = true → sameS s s' = false) := hide (fun e => sS_C (sameC_len _ _ (by have := HLN.out; rw [e, bne_iff_ne] at e3; omega)))
  have HX4 : Hid (x4 = false → sameS s s' = false) := hide (fun e => sS_A (e4.trans e))
  have HE := hide (And.intro e1 (And.intro e2 (And.intro e3 e4)))
  have HPk : Hid (∀ k : Nat, s.P[k]? ≠ s'.P[k]? → sameS s s' = false) := hide (fun k hk => sS_P (sameV_not _ _ k hk))
  have HMk : Hid (∀ k : Nat, s.M[k]? ≠ s'.M[k]? → sameS s s' = false) := hide (fun k hk => sS_M (decide_eq_false (fun e => hk (by rw [e]))))
  have HCk : Hid (∀ (k : Nat) q q', s.C[k]? = some q → s'.C[k]? = some q' → eqQ q q' = false → sameS s s' = false) := hide (fun k q q' h1 h2 h3 => sS_C (sameC_not _ _ k q q' h1 h2 h3))
  have HS := hide (And.intro h h')
  clear h h' sm sm' hnP hnL hnC hnP' hnL' hnC' e4
  generalize hres : sameS s s' = res at *
  have HRES := hide hres
  clear hres
  go_enter Tryd.func20, Tryd.ntmps20
  go_wp2_with fail
  refine wp_region_held_drew (S := fun wx => Rv wx F R B g s (.slice aP nP cP) (.slice aL nL cL) (.slice aC nC cC) vS vT vA ss tk ∧ Rv wx F' R' B' g' s' (.slice aP' nP' cP') (.slice aL' nL' cL') (.slice aC' nC' cC') vS' vT' vA' ss' tk') mixed ⟨HS.out.1.bel (bel_drawn (Below.refl _ _)), HS.out.2.bel (bel_drawn (Below.refl _ _))⟩ (fun hH => ?_)
  have B3 := hide (bel_drawn (Below.refl w.heap.size w))
  generalize w.drew = w1 at *
  refine wpAnyH_take (i := 0) (v := ?_) rfl (by kernel_rfl) (by kernel_rfl) (by kernel_rfl) (fun _ _ _ h => h) (Or.inl ⟨by rfl, ?_⟩) hH ?_
  rotate_left 1
  · (intro w hSw; skip; clear hSw; go_simp <;> with_reducible rfl)
  simp only [Act.put, List.getElem_toArray, List.getElem_cons_zero, List.setIfInBounds_toArray, List.set_cons_zero, List.set_cons_succ]
  refine wpAnyH_take (i := 1) (v := ?_) rfl (by kernel_rfl) (by kernel_rfl) (by kernel_rfl) (fun _ _ _ h => h) (Or.inl ⟨by rfl, ?_⟩) hH ?_
  rotate_left 1
  · (intro w hSw; skip; clear hSw; go_simp <;> with_reducible rfl)
  simp only [Act.put, List.getElem_toArray, List.getElem_cons_zero, List.getElem_cons_succ, List.setIfInBounds_toArray, List.set_cons_zero, List.set_cons_succ]
  refine wpAnyH_take (i := 2) (v := ?_) rfl (by kernel_rfl) (by kernel_rfl) (by kernel_rfl) (fun _ _ _ h => h) (Or.inl ⟨by rfl, ?_⟩) hH ?_
  rotate_left 1
  · (intro w hSw; skip; clear hSw; go_simp <;> with_reducible rfl)
  simp only [Act.put, List.getElem_toArray, List.getElem_cons_zero, List.getElem_cons_succ, List.setIfInBounds_toArray, List.set_cons_zero, List.set_cons_succ]
  refine wpAnyH_take (i := 3) (v := ?_) rfl (by kernel_rfl) (by kernel_rfl) (by kernel_rfl) (fun _ _ _ h => h) (Or.inl ⟨by rfl, ?_⟩) hH ?_
  rotate_left 1
  · (intro w hSw; have q := hSw.1.cells; clear hSw; go_simp <;> with_reducible rfl)
  simp only [Act.put, List.getElem_toArray, List.getElem_cons_zero, List.getElem_cons_succ, List.setIfInBounds_toArray, List.set_cons_zero, List.set_cons_succ]
  refine wpAnyH_take (i := 4) (v := ?_) rfl (by kernel_rfl) (by kernel_rfl) (by kernel_rfl) (fun _ _ _ h => h) (Or.inl ⟨by rfl, ?_⟩) hH ?_
  rotate_left 1
  · (intro w hSw; skip; clear hSw; go_simp <;> with_reducible rfl)
  simp only [Act.put, List.getElem_toArray, List.getElem_cons_zero, List.getElem_cons_succ, List.setIfInBounds_toArray, List.set_cons_zero, List.set_cons_succ]
  refine wpAnyH_take (i := 5) (v := ?_) rfl (by kernel_rfl) (by kernel_rfl) (by kernel_rfl) (fun _ _ _ h => h) (Or.inl ⟨by rfl, ?_⟩) hH ?_
  rotate_left 1
  · (intro w hSw; skip; clear hSw; go_simp <;> with_reducible rfl)
  simp only [Act.put, List.getElem_toArray, List.getElem_cons_zero, List.getElem_cons_succ, List.setIfInBounds_toArray, List.set_cons_zero, List.set_cons_succ]
  refine wpAnyH_take (i := 6) (v := ?_) rfl (by kernel_rfl) (by kernel_rfl) (by kernel_rfl) (fun _ _ _ h => h) (Or.inl ⟨by rfl, ?_⟩) hH ?_
  rotate_left 1
  · (intro w hSw; skip; clear hSw; go_simp <;> with_reducible rfl)
  simp only [Act.put, List.getElem_toArray, List.getElem_cons_zero, List.getElem_cons_succ, List.setIfInBounds_toArray, List.set_cons_zero, List.set_cons_succ]
  refine wpAnyH_take (i := 7) (v := ?_) rfl (by kernel_rfl) (by kernel_rfl) (by kernel_rfl) (fun _ _ _ h => h) (Or.inl ⟨by rfl, ?_⟩) hH ?_
  rotate_left 1
  · (intro w hSw; skip; clear hSw; go_simp <;> with_reducible rfl)
  simp only [Act.put, List.getElem_toArray, List.getElem_cons_zero, List.getElem_cons_succ, List.setIfInBounds_toArray, List.set_cons_zero, List.set_cons_succ]
  refine wpAnyH_take (i := 8) (v := ?_) rfl (by kernel_rfl) (by kernel_rfl) (by kernel_rfl) (fun _ _ _ h => h) (Or.inl ⟨by rfl, ?_⟩) hH ?_
  rotate_left 1
  · (intro w hSw; have q := hSw.2.cells; clear hSw; go_simp <;> with_reducible rfl)
  simp only [Act.put, List.getElem_toArray, List.getElem_cons_zero, List.getElem_cons_succ, List.setIfInBounds_toArray, List.set_cons_zero, List.set_cons_succ]
  refine wpAnyH_take (i := 9) (v := ?_) rfl (by kernel_rfl) (by kernel_rfl) (by kernel_rfl) (fun _ _ _ h => h) (Or.inl ⟨by rfl, ?_⟩) hH ?_
  rotate_left 1
  · (intro w hSw; skip; clear hSw; go_simp <;> with_reducible rfl)
  simp only [Act.put, List.getElem_toArray, List.getElem_cons_zero, List.getElem_cons_succ, List.setIfInBounds_toArray, List.set_cons_zero, List.set_cons_succ]
  refine wpAnyH_take (i := 10) (v := ?_) rfl (by kernel_rfl) (by kernel_rfl) (by kernel_rfl) (fun _ _ _ h => h) (Or.inl ⟨by rfl, ?_⟩) hH ?_
  rotate_left 1
  · (intro w hSw; skip; clear hSw; go_simp <;> with_reducible rfl)
  simp only [Act.put, List.getElem_toArray, List.getElem_cons_zero, List.getElem_cons_succ, List.setIfInBounds_toArray, List.set_cons_zero, List.set_cons_succ]
  refine wpAnyH_take (i := 11) (v := ?_) rfl (by kernel_rfl) (by kernel_rfl) (by kernel_rfl) (fun _ _ _ h => h) (Or.inl ⟨by rfl, ?_⟩) hH ?_
  rotate_left 1
  · (intro w hSw; skip; clear hSw; go_simp <;> with_reducible rfl)
  simp only [Act.put, List.getElem_toArray, List.getElem_cons_zero, List.getElem_cons_succ, List.setIfInBounds_toArray, List.set_cons_zero, List.set_cons_succ]
  cases x1 with
  | true =>
    refine wpAnyH_take (i := 12) (v := undef) rfl (by kernel_rfl) (by kernel_rfl) (by kernel_rfl) (fun _ _ _ h => h) (Or.inr ⟨by rfl, rfl⟩) hH ?_
    simp only [Act.put, List.getElem_toArray, List.getElem_cons_zero, List.getElem_cons_succ, List.setIfInBounds_toArray, List.set_cons_zero, List.set_cons_succ]
    refine wpAnyH_take (i := 13) (v := undef) rfl (by kernel_rfl) (by kernel_rfl) (by kernel_rfl) (fun _ _ _ h => h) (Or.inr ⟨by rfl, rfl⟩) hH ?_
    simp only [Act.put, List.getElem_toArray, List.getElem_cons_zero, List.getElem_cons_succ, List.setIfInBounds_toArray, List.set_cons_zero, List.set_cons_succ]
    refine wpAnyH_take (i := 14) (v := undef) rfl (by kernel_rfl) (by kernel_rfl) (by kernel_rfl) (fun _ _ _ h => h) (Or.inr ⟨by rfl, rfl⟩) hH ?_
    simp only [Act.put, List.getElem_toArray, List.getElem_cons_zero, List.getElem_cons_succ, List.setIfInBounds_toArray, List.set_cons_zero, List.set_cons_succ]
    refine wpAnyH_take (i := 15) (v := undef) rfl (by kernel_rfl) (by kernel_rfl) (by kernel_rfl) (fun _ _ _ h => h) (Or.inr ⟨by rfl, rfl⟩) hH ?_
    simp only [Act.put, List.getElem_toArray, List.getElem_cons_zero, List.getElem_cons_succ, List.setIfInBounds_toArray, List.set_cons_zero, List.set_cons_succ]
    refine wpAnyH_take (i := 16) (v := undef) rfl (by kernel_rfl) (by kernel_rfl) (by kernel_rfl) (fun _ _ _ h => h) (Or.inr ⟨by rfl, rfl⟩) hH ?_
    simp only [Act.put, List.getElem_toArray, List.getElem_cons_zero, List.getElem_cons_succ, List.setIfInBounds_toArray, List.set_cons_zero, List.set_cons_succ]
    refine wpAnyH_take (i := 17) (v := undef) rfl (by kernel_rfl) (by kernel_rfl) (by kernel_rfl) (fun _ _ _ h => h) (Or.inr ⟨by rfl, rfl⟩) hH ?_
    simp only [Act.put, List.getElem_toArray, List.getElem_cons_zero, List.getElem_cons_succ, List.setIfInBounds_toArray, List.set_cons_zero, List.set_cons_succ]
    refine wpAnyH_take (i := 18) (v := undef) rfl (by kernel_rfl) (by kernel_rfl) (by kernel_rfl) (fun _ _ _ h => h) (Or.inr ⟨by rfl, rfl⟩) hH ?_
    simp only [Act.put, List.getElem_toArray, List.getElem_cons_zero, List.getElem_cons_succ, List.setIfInBounds_toArray, List.set_cons_zero, List.set_cons_succ]
    refine wpAnyH_take (i := 19) (v := undef) rfl (by kernel_rfl) (by kernel_rfl) (by kernel_rfl) (fun _ _ _ h => h) (Or.inr ⟨by rfl, rfl⟩) hH ?_
    simp only [Act.put, List.getElem_toArray, List.getElem_cons_zero, List.getElem_cons_succ, List.setIfInBounds_toArray, List.set_cons_zero, List.set_cons_succ]
    refine wpAnyH_take (i := 20) (v := undef) rfl (by kernel_rfl) (by kernel_rfl) (by kernel_rfl) (fun _ _ _ h => h) (Or.inr ⟨by rfl, rfl⟩) hH ?_
    simp only [Act.put, List.getElem_toArray, List.getElem_cons_zero, List.getElem_cons_succ, List.setIfInBounds_toArray, List.set_cons_zero, List.set_cons_succ]
    refine wpAnyH_take (i := 21) (v := undef) rfl (by kernel_rfl) (by kernel_rfl) (by kernel_rfl) (fun _ _ _ h => h) (Or.inr ⟨by rfl, rfl⟩) hH ?_
    simp only [Act.put, List.getElem_toArray, List.getElem_cons_zero, List.getElem_cons_succ, List.setIfInBounds_toArray, List.set_cons_zero, List.set_cons_succ]
    refine wpAnyH_take (i := 22) (v := undef) rfl (by kernel_rfl) (by kernel_rfl) (by kernel_rfl) (fun _ _ _ h => h) (Or.inr ⟨by rfl, rfl⟩) hH ?_
    simp only [Act.put, List.getElem_toArray, List.getElem_cons_zero, List.getElem_cons_succ, List.setIfInBounds_toArray, List.set_cons_zero, List.set_cons_succ]
    refine wpAnyH_take (i := 23) (v := ?_) rfl (by kernel_rfl) (by kernel_rfl) (by kernel_rfl) (fun _ _ _ h => h) (Or.inl ⟨by rfl, ?_⟩) hH ?_
    rotate_left 1
    · (intro w hSw; skip; clear hSw; go_simp <;> with_reducible rfl)
    simp only [Act.put, List.getElem_toArray, List.getElem_cons_zero, List.getElem_cons_succ, List.setIfInBounds_toArray, List.set_cons_zero, List.set_cons_succ]
    refine wpAnyH_take (i := 24) (v := ?_) rfl (by kernel_rfl) (by kernel_rfl) (by kernel_rfl) (fun _ _ _ h => h) (Or.inl ⟨by rfl, ?_⟩) hH ?_
    rotate_left 1
    · (intro w hSw; skip; clear hSw; go_simp <;> with_reducible rfl)
    simp only [Act.put, List.getElem_toArray, List.getElem_cons_zero, List.getElem_cons_succ, List.setIfInBounds_toArray, List.set_cons_zero, List.set_cons_succ]
    refine wpAnyH_take (i := 25) (v := undef) rfl (by kernel_rfl) (by kernel_rfl) (by kernel_rfl) (fun _ _ _ h => h) (Or.inr ⟨by rfl, rfl⟩) hH ?_
    simp only [Act.put, List.getElem_toArray, List.getElem_cons_zero, List.getElem_cons_succ, List.setIfInBounds_toArray, List.set_cons_zero, List.set_cons_succ]
    refine wpAnyH_take (i := 26) (v := undef) rfl (by kernel_rfl) (by kernel_rfl) (by kernel_rfl) (fun _ _ _ h => h) (Or.inr ⟨by rfl, rfl⟩) hH ?_
    simp only [Act.put, List.getElem_toArray, List.getElem_cons_zero, List.getElem_cons_succ, List.setIfInBounds_toArray, List.set_cons_zero, List.set_cons_succ]
    refine wpAnyH_take (i := 27) (v := undef) rfl (by kernel_rfl) (by kernel_rfl) (by kernel_rfl) (fun _ _ _ h => h) (Or.inr ⟨by rfl, rfl⟩) hH ?_
    simp only [Act.put, List.getElem_toArray, List.getElem_cons_zero, List.getElem_cons_succ, List.setIfInBounds_toArray, List.set_cons_zero, List.set_cons_succ]
    refine wpAnyH_take (i := 28) (v := undef) rfl (by kernel_rfl) (by kernel_rfl) (by kernel_rfl) (fun _ _ _ h => h) (Or.inr ⟨by rfl, rfl⟩) hH ?_
    simp only [Act.put, List.getElem_toArray, List.getElem_cons_zero, List.getElem_cons_succ, List.setIfInBounds_toArray, List.set_cons_zero, List.set_cons_succ]
    refine wpAnyH_take (i := 29) (v := undef) rfl (by kernel_rfl) (by kernel_rfl) (by kernel_rfl) (fun _ _ _ h => h) (Or.inr ⟨by rfl, rfl⟩) hH ?_
    simp only [Act.put, List.getElem_toArray, List.getElem_cons_zero, List.getElem_cons_succ, List.setIfInBounds_toArray, List.set_cons_zero, List.set_cons_succ]
    refine wpAnyH_take (i := 30) (v := undef) rfl (by kernel_rfl) (by kernel_rfl) (by kernel_rfl) (fun _ _ _ h => h) (Or.inr ⟨by rfl, rfl⟩) hH ?_
    simp only [Act.put, List.getElem_toArray, List.getElem_cons_zero, List.getElem_cons_succ, List.setIfInBounds_toArray, List.set_cons_zero, List.set_cons_succ]
    refine wpAnyH_take (i := 31) (v := undef) rfl (by kernel_rfl) (by kernel_rfl) (by kernel_rfl) (fun _ _ _ h => h) (Or.inr ⟨by rfl, rfl⟩) hH ?_
    simp only [Act.put, List.getElem_toArray, List.getElem_cons_zero, List.getElem_cons_succ, List.setIfInBounds_toArray, List.set_cons_zero, List.set_cons_succ]
    refine wpAnyH_take (i := 32) (v := undef) rfl (by kernel_rfl) (by kernel_rfl) (by kernel_rfl) (fun _ _ _ h => h) (Or.inr ⟨by rfl, rfl⟩) hH ?_
    simp only [Act.put, List.getElem_toArray, List.getElem_cons_zero, List.getElem_cons_succ, List.setIfInBounds_toArray, List.set_cons_zero, List.set_cons_succ]
    refine wpAnyH_take (i := 33) (v := undef) rfl (by kernel_rfl) (by kernel_rfl) (by kernel_rfl) (fun _ _ _ h => h) (Or.inr ⟨by rfl, rfl⟩) hH ?_
    simp only [Act.put, List.getElem_toArray, List.getElem_cons_zero, List.getElem_cons_succ, List.setIfInBounds_toArray, List.set_cons_zero, List.set_cons_succ]
    refine wpAnyH_take (i := 34) (v := undef) rfl (by kernel_rfl) (by kernel_rfl) (by kernel_rfl) (fun _ _ _ h => h) (Or.inr ⟨by rfl, rfl⟩) hH ?_
    simp only [Act.put, List.getElem_toArray, List.getElem_cons_zero, List.getElem_cons_succ, List.setIfInBounds_toArray, List.set_cons_zero, List.set_cons_succ]
    refine wpAnyH_take (i := 35) (v := undef) rfl (by kernel_rfl) (by kernel_rfl) (by kernel_rfl) (fun _ _ _ h => h) (Or.inr ⟨by rfl, rfl⟩) hH ?_
    simp only [Act.put, List.getElem_toArray, List.getElem_cons_zero, List.getElem_cons_succ, List.setIfInBounds_toArray, List.set_cons_zero, List.set_cons_succ]
    refine wpAnyH_take (i := 36) (v := ?_) rfl (by kernel_rfl) (by kernel_rfl) (by kernel_rfl) (fun _ _ _ h => h) (Or.inl ⟨by rfl, ?_⟩) hH ?_
    rotate_left 1
    · (intro w hSw; skip; clear hSw; go_simp <;> with_reducible rfl)
    simp only [Act.put, List.getElem_toArray, List.getElem_cons_zero, List.getElem_cons_succ, List.setIfInBounds_toArray, List.set_cons_zero, List.set_cons_succ]
    refine wpAnyH_take (i := 37) (v := ?_) rfl (by kernel_rfl) (by kernel_rfl) (by kernel_rfl) (fun _ _ _ h => h) (Or.inl ⟨by rfl, ?_⟩) hH ?_
    rotate_left 1
    · (intro w hSw; skip; clear hSw; go_simp <;> with_reducible rfl)
    simp only [Act.put, List.getElem_toArray, List.getElem_cons_zero, List.getElem_cons_succ, List.setIfInBounds_toArray, List.set_cons_zero, List.set_cons_succ]
    refine wpAnyH_take (i := 38) (v := undef) rfl (by kernel_rfl) (by kernel_rfl) (by kernel_rfl) (fun _ _ _ h => h) (Or.inr ⟨by rfl, rfl⟩) hH ?_
    simp only [Act.put, List.getElem_toArray, List.getElem_cons_zero, List.getElem_cons_succ, List.setIfInBounds_toArray, List.set_cons_zero, List.set_cons_succ]
    refine wpAnyH_take (i := 39) (v := undef) rfl (by kernel_rfl) (by kernel_rfl) (by kernel_rfl) (fun _ _ _ h => h) (Or.inr ⟨by rfl, rfl⟩) hH ?_
    simp only [Act.put, List.getElem_toArray, List.getElem_cons_zero, List.getElem_cons_succ, List.setIfInBounds_toArray, List.set_cons_zero, List.set_cons_succ]
    refine wpAnyH_take (i := 40) (v := undef) rfl (by kernel_rfl) (by kernel_rfl) (by kernel_rfl) (fun _ _ _ h => h) (Or.inr ⟨by rfl, rfl⟩) hH ?_
    simp only [Act.put, List.getElem_toArray, List.getElem_cons_zero, List.getElem_cons_succ, List.setIfInBounds_toArray, List.set_cons_zero, List.set_cons_succ]
    refine wpAnyH_take (i := 41) (v := undef) rfl (by kernel_rfl) (by kernel_rfl) (by kernel_rfl) (fun _ _ _ h => h) (Or.inr ⟨by rfl, rfl⟩) hH ?_
    simp only [Act.put, List.getElem_toArray, List.getElem_cons_zero, List.getElem_cons_succ, List.setIfInBounds_toArray, List.set_cons_zero, List.set_cons_succ]
    refine wpAnyH_take (i := 42) (v := undef) rfl (by kernel_rfl) (by kernel_rfl) (by kernel_rfl) (fun _ _ _ h => h) (Or.inr ⟨by rfl, rfl⟩) hH ?_
    simp only [Act.put, List.getElem_toArray, List.getElem_cons_zero, List.getElem_cons_succ, List.setIfInBounds_toArray, List.set_cons_zero, List.set_cons_succ]
    refine wpAnyH_take (i := 43) (v := undef) rfl (by kernel_rfl) (by kernel_rfl) (by kernel_rfl) (fun _ _ _ h => h) (Or.inr ⟨by rfl, rfl⟩) hH ?_
    simp only [Act.put, List.getElem_toArray, List.getElem_cons_zero, List.getElem_cons_succ, List.setIfInBounds_toArray, List.set_cons_zero, List.set_cons_succ]
    refine wpAnyH_take (i := 44) (v := undef) rfl (by kernel_rfl) (by kernel_rfl) (by kernel_rfl) (fun _ _ _ h => h) (Or.inr ⟨by rfl, rfl⟩) hH ?_
    simp only [Act.put, List.getElem_toArray, List.getElem_cons_zero, List.getElem_cons_succ, List.setIfInBounds_toArray, List.set_cons_zero, List.set_cons_succ]
    refine wpAnyH_take (i := 45) (v := undef) rfl (by kernel_rfl) (by kernel_rfl) (by kernel_rfl) (fun _ _ _ h => h) (Or.inr ⟨by rfl, rfl⟩) hH ?_
    simp only [Act.put, List.getElem_toArray, List.getElem_cons_zero, List.getElem_cons_succ, List.setIfInBounds_toArray, List.set_cons_zero, List.set_cons_succ]
    refine wpAnyH_take (i := 46) (v := undef) rfl (by kernel_rfl) (by kernel_rfl) (by kernel_rfl) (fun _ _ _ h => h) (Or.inr ⟨by rfl, rfl⟩) hH ?_
    simp only [Act.put, List.getElem_toArray, List.getElem_cons_zero, List.getElem_cons_succ, List.setIfInBounds_toArray, List.set_cons_zero, List.set_cons_succ]
    refine wpAnyH_take (i := 47) (v := undef) rfl (by kernel_rfl) (by kernel_rfl) (by kernel_rfl) (fun _ _ _ h => h) (Or.inr ⟨by rfl, rfl⟩) hH ?_
    simp only [Act.put, List.getElem_toArray, List.getElem_cons_zero, List.getElem_cons_succ, List.setIfInBounds_toArray, List.set_cons_zero, List.set_cons_succ]
    refine wpAnyH_take (i := 48) (v := ?_) rfl (by kernel_rfl) (by kernel_rfl) (by kernel_rfl) (fun _ _ _ h => h) (Or.inl ⟨by rfl, ?_⟩) hH ?_
    rotate_left 1
    · (intro w hSw; skip; clear hSw; go_simp <;> with_reducible rfl)
    simp only [Act.put, List.getElem_toArray, List.getElem_cons_zero, List.getElem_cons_succ, List.setIfInBounds_toArray, List.set_cons_zero, List.set_cons_succ]
    refine wpAnyH_done (by kernel_rfl) ?_ _
    clear hH
    have hr := HX1.out rfl
    subst hr
    go_wp2_with fail
    go_ret
    exact Vb.mk rfl B3.out
  | false =>
    refine wpAnyH_take (i := 12) (v := ?_) rfl (by kernel_rfl) (by kernel_rfl) (by kernel_rfl) (fun _ _ _ h => h) (Or.inl ⟨by rfl, ?_⟩) hH ?_
    rotate_left 1
    · (intro w hSw; skip; clear hSw; go_simp <;> with_reducible rfl)
    simp only [Act.put, List.getElem_toArray, List.getElem_cons_zero, List.getElem_cons_succ, List.setIfInBounds_toArray, List.set_cons_zero, List.set_cons_succ]
    refine wpAnyH_take (i := 13) (v := ?_) rfl (by kernel_rfl) (by kernel_rfl) (by kernel_rfl) (fun _ _ _ h => h) (Or.inl ⟨by rfl, ?_⟩) hH ?_
    rotate_left 1
    · (intro w hSw; skip; clear hSw; go_simp <;> with_reducible rfl)
    simp only [Act.put, List.getElem_toArray, List.getElem_cons_zero, List.getElem_cons_succ, List.setIfInBounds_toArray, List.set_cons_zero, List.set_cons_succ]
    refine wpAnyH_take (i := 14) (v := ?_) rfl (by kernel_rfl) (by kernel_rfl) (by kernel_rfl) (fun _ _ _ h => h) (Or.inl ⟨by rfl, ?_⟩) hH ?_
    rotate_left 1
    · (intro w hSw; skip; clear hSw; go_simp <;> with_reducible rfl)
    simp only [Act.put, List.getElem_toArray, List.getElem_cons_zero, List.getElem_cons_succ, List.setIfInBounds_toArray, List.set_cons_zero, List.set_cons_succ]
    refine wpAnyH_take (i := 15) (v := ?_) rfl (by kernel_rfl) (by kernel_rfl) (by kernel_rfl) (fun _ _ _ h => h) (Or.inl ⟨by rfl, ?_⟩) hH ?_
    rotate_left 1
    · (intro w hSw; have q := hSw.1.cells; clear hSw; go_simp <;> with_reducible rfl)
    simp only [Act.put, List.getElem_toArray, List.getElem_cons_zero, List.getElem_cons_succ, List.setIfInBounds_toArray, List.set_cons_zero, List.set_cons_succ]
    refine wpAnyH_take (i := 16) (v := ?_) rfl (by kernel_rfl) (by kernel_rfl) (by kernel_rfl) (fun _ _ _ h => h) (Or.inl ⟨by rfl, ?_⟩) hH ?_
    rotate_left 1
    · (intro w hSw; skip; clear hSw; go_simp <;> with_reducible rfl)
    simp only [Act.put, List.getElem_toArray, List.getElem_cons_zero, List.getElem_cons_succ, List.setIfInBounds_toArray, List.set_cons_zero, List.set_cons_succ]
    refine wpAnyH_take (i := 17) (v := ?_) rfl (by kernel_rfl) (by kernel_rfl) (by kernel_rfl) (fun _ _ _ h => h) (Or.inl ⟨by rfl, ?_⟩) hH ?_
    rotate_left 1
    · (intro w hSw; skip; clear hSw; go_simp <;> with_reducible rfl)
    simp only [Act.put, List.getElem_toArray, List.getElem_cons_zero, List.getElem_cons_succ, List.setIfInBounds_toArray, List.set_cons_zero, List.set_cons_succ]
    refine wpAnyH_take (i := 18) (v := ?_) rfl (by kernel_rfl) (by kernel_rfl) (by kernel_rfl) (fun _ _ _ h => h) (Or.inl ⟨by rfl, ?_⟩) hH ?_
    rotate_left 1
    · (intro w hSw; skip; clear hSw; go_simp <;> with_reducible rfl)
    simp only [Act.put, List.getElem_toArray, List.getElem_cons_zero, List.getElem_cons_succ, List.setIfInBounds_toArray, List.set_cons_zero, List.set_cons_succ]
    refine wpAnyH_take (i := 19) (v := ?_) rfl (by kernel_rfl) (by kernel_rfl) (by kernel_rfl) (fun _ _ _ h => h) (Or.inl ⟨by rfl, ?_⟩) hH ?_
    rotate_left 1
    · (intro w hSw; skip; clear hSw; go_simp <;> with_reducible rfl)
    simp only [Act.put, List.getElem_toArray, List.getElem_cons_zero, List.getElem_cons_succ, List.setIfInBounds_toArray, List.set_cons_zero, List.set_cons_succ]
    refine wpAnyH_take (i := 20) (v := ?_) rfl (by kernel_rfl) (by kernel_rfl) (by kernel_rfl) (fun _ _ _ h => h) (Or.inl ⟨by rfl, ?_⟩) hH ?_
    rotate_left 1
    · (intro w hSw; have q := hSw.2.cells; clear hSw; go_simp <;> with_reducible rfl)
    simp only [Act.put, List.getElem_toArray, List.getElem_cons_zero, List.getElem_cons_succ, List.setIfInBounds_toArray, List.set_cons_zero, List.set_cons_succ]
    refine wpAnyH_take (i := 21) (v := ?_) rfl (by kernel_rfl) (by kernel_rfl) (by kernel_rfl) (fun _ _ _ h => h) (Or.inl ⟨by rfl, ?_⟩) hH ?_
    rotate_left 1
    · (intro w hSw; skip; clear hSw; go_simp <;> with_reducible rfl)
    simp only [Act.put, List.getElem_toArray, List.getElem_cons_zero, List.getElem_cons_succ, List.setIfInBounds_toArray, List.set_cons_zero, List.set_cons_succ]
    refine wpAnyH_take (i := 22) (v := ?_) rfl (by kernel_rfl) (by kernel_rfl) (by kernel_rfl) (fun _ _ _ h => h) (Or.inl ⟨by rfl, ?_⟩) hH ?_
    rotate_left 1
    · (intro w hSw; skip; clear hSw; go_simp <;> with_reducible rfl)
    simp only [Act.put, List.getElem_toArray, List.getElem_cons_zero, List.getElem_cons_succ, List.setIfInBounds_toArray, List.set_cons_zero, List.set_cons_succ]
    refine wpAnyH_take (i := 23) (v := ?_) rfl (by kernel_rfl) (by kernel_rfl) (by kernel_rfl) (fun _ _ _ h => h) (Or.inl ⟨by rfl, ?_⟩) hH ?_
    rotate_left 1
    · (intro w hSw; skip; clear hSw; go_simp <;> with_reducible rfl)
    simp only [Act.put, List.getElem_toArray, List.getElem_cons_zero, List.getElem_cons_succ, List.setIfInBounds_toArray, List.set_cons_zero, List.set_cons_succ]
    refine wpAnyH_take (i := 24) (v := ?_) rfl (by kernel_rfl) (by kernel_rfl) (by kernel_rfl) (fun _ _ _ h => h) (Or.inl ⟨by rfl, ?_⟩) hH ?_
    rotate_left 1
    · (intro w hSw; skip; clear hSw; go_simp <;> with_reducible rfl)
    simp only [Act.put, List.getElem_toArray, List.getElem_cons_zero, List.getElem_cons_succ, List.setIfInBounds_toArray, List.set_cons_zero, List.set_cons_succ]
    cases x2 with
    | true =>
      refine wpAnyH_take (i := 25) (v := undef) rfl (by kernel_rfl) (by kernel_rfl) (by kernel_rfl) (fun _ _ _ h => h) (Or.inr ⟨by rfl, rfl⟩) hH ?_
      simp only [Act.put, List.getElem_toArray, List.getElem_cons_zero, List.getElem_cons_succ, List.setIfInBounds_toArray, List.set_cons_zero, List.set_cons_succ]
      refine wpAnyH_take (i := 26) (v := undef) rfl (by kernel_rfl) (by kernel_rfl) (by kernel_rfl) (fun _ _ _ h => h) (Or.inr ⟨by rfl, rfl⟩) hH ?_
      simp only [Act.put, List.getElem_toArray, List.getElem_cons_zero, List.getElem_cons_succ, List.setIfInBounds_toArray, List.set_cons_zero, List.set_cons_succ]
      refine wpAnyH_take (i := 27) (v := undef) rfl (by kernel_rfl) (by kernel_rfl) (by kernel_rfl) (fun _ _ _ h => h) (Or.inr ⟨by rfl, rfl⟩) hH ?_
      simp only [Act.put, List.getElem_toArray, List.getElem_cons_zero, List.getElem_cons_succ, List.setIfInBounds_toArray, List.set_cons_zero, List.set_cons_succ]
      refine wpAnyH_take (i := 28) (v := undef) rfl (by kernel_rfl) (by kernel_rfl) (by kernel_rfl) (fun _ _ _ h => h) (Or.inr ⟨by rfl, rfl⟩) hH ?_
      simp only [Act.put, List.getElem_toArray, List.getElem_cons_zero, List.getElem_cons_succ, List.setIfInBounds_toArray, List.set_cons_zero, List.set_cons_succ]
      refine wpAnyH_take (i := 29) (v := undef) rfl (by kernel_rfl) (by kernel_rfl) (by kernel_rfl) (fun _ _ _ h => h) (Or.inr ⟨by rfl, rfl⟩) hH ?_
      simp only [Act.put, List.getElem_toArray, List.getElem_cons_zero, List.getElem_cons_succ, List.setIfInBounds_toArray, List.set_cons_zero, List.set_cons_succ]
      refine wpAnyH_take (i := 30) (v := undef) rfl (by kernel_rfl) (by kernel_rfl) (by kernel_rfl) (fun _ _ _ h => h) (Or.inr ⟨by rfl, rfl⟩) hH ?_
      simp only [Act.put, List.getElem_toArray, List.getElem_cons_zero, List.getElem_cons_succ, List.setIfInBounds_toArray, List.set_cons_zero, List.set_cons_succ]
      refine wpAnyH_take (i := 31) (v := undef) rfl (by kernel_rfl) (by kernel_rfl) (by kernel_rfl) (fun _ _ _ h => h) (Or.inr ⟨by rfl, rfl⟩) hH ?_
      simp only [Act.put, List.getElem_toArray, List.getElem_cons_zero, List.getElem_cons_succ, List.setIfInBounds_toArray, List.set_cons_zero, List.set_cons_succ]
      refine wpAnyH_take (i := 32) (v := undef) rfl (by kernel_rfl) (by kernel_rfl) (by kernel_rfl) (fun _ _ _ h => h) (Or.inr ⟨by rfl, rfl⟩) hH ?_
      simp only [Act.put, List.getElem_toArray, List.getElem_cons_zero, List.getElem_cons_succ, List.setIfInBounds_toArray, List.set_cons_zero, List.set_cons_succ]
      refine wpAnyH_take (i := 33) (v := undef) rfl (by kernel_rfl) (by kernel_rfl) (by kernel_rfl) (fun _ _ _ h => h) (Or.inr ⟨by rfl, rfl⟩) hH ?_
      simp only [Act.put, List.getElem_toArray, List.getElem_cons_zero, List.getElem_cons_succ, List.setIfInBounds_toArray, List.set_cons_zero, List.set_cons_succ]
      refine wpAnyH_take (i := 34) (v := undef) rfl (by kernel_rfl) (by kernel_rfl) (by kernel_rfl) (fun _ _ _ h => h) (Or.inr ⟨by rfl, rfl⟩) hH ?_
      simp only [Act.put, List.getElem_toArray, List.getElem_cons_zero, List.getElem_cons_succ, List.setIfInBounds_toArray, List.set_cons_zero, List.set_cons_succ]
      refine wpAnyH_take (i := 35) (v := undef) rfl (by kernel_rfl) (by kernel_rfl) (by kernel_rfl) (fun _ _ _ h => h) (Or.inr ⟨by rfl, rfl⟩) hH ?_
      simp only [Act.put, List.getElem_toArray, List.getElem_cons_zero, List.getElem_cons_succ, List.setIfInBounds_toArray, List.set_cons_zero, List.set_cons_succ]
      refine wpAnyH_take (i := 36) (v := ?_) rfl (by kernel_rfl) (by kernel_rfl) (by kernel_rfl) (fun _ _ _ h => h) (Or.inl ⟨by rfl, ?_⟩) hH ?_
      rotate_left 1
      · (intro w hSw; skip; clear hSw; go_simp <;> with_reducible rfl)
      simp only [Act.put, List.getElem_toArray, List.getElem_cons_zero, List.getElem_cons_succ, List.setIfInBounds_toArray, List.set_cons_zero, List.set_cons_succ]
      refine wpAnyH_take (i := 37) (v := ?_) rfl (by kernel_rfl) (by kernel_rfl) (by kernel_rfl) (fun _ _ _ h => h) (Or.inl ⟨by rfl, ?_⟩) hH ?_
      rotate_left 1
      · (intro w hSw; skip; clear hSw; go_simp <;> with_reducible rfl)
      simp only [Act.put, List.getElem_toArray, List.getElem_cons_zero, List.getElem_cons_succ, List.setIfInBounds_toArray, List.set_cons_zero, List.set_cons_succ]
      refine wpAnyH_take (i := 38) (v := undef) rfl (by kernel_rfl) (by kernel_rfl) (by kernel_rfl) (fun _ _ _ h => h) (Or.inr ⟨by rfl, rfl⟩) hH ?_
      simp only [Act.put, List.getElem_toArray, List.getElem_cons_zero, List.getElem_cons_succ, List.setIfInBounds_toArray, List.set_cons_zero, List.set_cons_succ]
      refine wpAnyH_take (i := 39) (v := undef) rfl (by kernel_rfl) (by kernel_rfl) (by kernel_rfl) (fun _ _ _ h => h) (Or.inr ⟨by rfl, rfl⟩) hH ?_
      simp only [Act.put, List.getElem_toArray, List.getElem_cons_zero, List.getElem_cons_succ, List.setIfInBounds_toArray, List.set_cons_zero, List.set_cons_succ]
      refine wpAnyH_take (i := 40) (v := undef) rfl (by kernel_rfl) (by kernel_rfl) (by kernel_rfl) (fun _ _ _ h => h) (Or.inr ⟨by rfl, rfl⟩) hH ?_
      simp only [Act.put, List.getElem_toArray, List.getElem_cons_zero, List.getElem_cons_succ, List.setIfInBounds_toArray, List.set_cons_zero, List.set_cons_succ]
      refine wpAnyH_take (i := 41) (v := undef) rfl (by kernel_rfl) (by kernel_rfl) (by kernel_rfl) (fun _ _ _ h => h) (Or.inr ⟨by rfl, rfl⟩) hH ?_
      simp only [Act.put, List.getElem_toArray, List.getElem_cons_zero, List.getElem_cons_succ, List.setIfInBounds_toArray, List.set_cons_zero, List.set_cons_succ]
      refine wpAnyH_take (i := 42) (v := undef) rfl (by kernel_rfl) (by kernel_rfl) (by kernel_rfl) (fun _ _ _ h => h) (Or.inr ⟨by rfl, rfl⟩) hH ?_
      simp only [Act.put, List.getElem_toArray, List.getElem_cons_zero, List.getElem_cons_succ, List.setIfInBounds_toArray, List.set_cons_zero, List.set_cons_succ]
      refine wpAnyH_take (i := 43) (v := undef) rfl (by kernel_rfl) (by kernel_rfl) (by kernel_rfl) (fun _ _ _ h => h) (Or.inr ⟨by rfl, rfl⟩) hH ?_
      simp only [Act.put, List.getElem_toArray, List.getElem_cons_zero, List.getElem_cons_succ, List.setIfInBounds_toArray, List.set_cons_zero, List.set_cons_succ]
      refine wpAnyH_take (i := 44) (v := undef) rfl (by kernel_rfl) (by kernel_rfl) (by kernel_rfl) (fun _ _ _ h => h) (Or.inr ⟨by rfl, rfl⟩) hH ?_
      simp only [Act.put, List.getElem_toArray, List.getElem_cons_zero, List.getElem_cons_succ, List.setIfInBounds_toArray, List.set_cons_zero, List.set_cons_succ]
      refine wpAnyH_take (i := 45) (v := undef) rfl (by kernel_rfl) (by kernel_rfl) (by kernel_rfl) (fun _ _ _ h => h) (Or.inr ⟨by rfl, rfl⟩) hH ?_
      simp only [Act.put, List.getElem_toArray, List.getElem_cons_zero, List.getElem_cons_succ, List.setIfInBounds_toArray, List.set_cons_zero, List.set_cons_succ]
      refine wpAnyH_take (i := 46) (v := undef) rfl (by kernel_rfl) (by kernel_rfl) (by kernel_rfl) (fun _ _ _ h => h) (Or.inr ⟨by rfl, rfl⟩) hH ?_
      simp only [Act.put, List.getElem_toArray, List.getElem_cons_zero, List.getElem_cons_succ, List.setIfInBounds_toArray, List.set_cons_zero, List.set_cons_succ]
      refine wpAnyH_take (i := 47) (v := undef) rfl (by kernel_rfl) (by kernel_rfl) (by kernel_rfl) (fun _ _ _ h => h) (Or.inr ⟨by rfl, rfl⟩) hH ?_
      simp only [Act.put, List.getElem_toArray, List.getElem_cons_zero, List.getElem_cons_succ, List.setIfInBounds_toArray, List.set_cons_zero, List.set_cons_succ]
      refine wpAnyH_take (i := 48) (v := ?_) rfl (by kernel_rfl) (by kernel_rfl) (by kernel_rfl) (fun _ _ _ h => h) (Or.inl ⟨by rfl, ?_⟩) hH ?_
      rotate_left 1
      · (intro w hSw; skip; clear hSw; go_simp <;> with_reducible rfl)
      simp only [Act.put, List.getElem_toArray, List.getElem_cons_zero, List.getElem_cons_succ, List.setIfInBounds_toArray, List.set_cons_zero, List.set_cons_succ]
      refine wpAnyH_done (by kernel_rfl) ?_ _
      clear hH
      have hr := HX2.out rfl
      subst hr
      go_wp2_with fail
      go_ret
      exact Vb.mk rfl B3.out
    | false =>
      refine wpAnyH_take (i := 25) (v := ?_) rfl (by kernel_rfl) (by kernel_rfl) (by kernel_rfl) (fun _ _ _ h => h) (Or.inl ⟨by rfl, ?_⟩) hH ?_
      rotate_left 1
      · (intro w hSw; skip; clear hSw; go_simp <;> with_reducible rfl)
      simp only [Act.put, List.getElem_toArray, List.getElem_cons_zero, List.getElem_cons_succ, List.setIfInBounds_toArray, List.set_cons_zero, List.set_cons_succ]
      refine wpAnyH_take (i := 26) (v := ?_) rfl (by kernel_rfl) (by kernel_rfl) (by kernel_rfl) (fun _ _ _ h => h) (Or.inl ⟨by rfl, ?_⟩) hH ?_
      rotate_left 1
      · (intro w hSw; skip; clear hSw; go_simp <;> with_reducible rfl)
      simp only [Act.put, List.getElem_toArray, List.getElem_cons_zero, List.getElem_cons_succ, List.setIfInBounds_toArray, List.set_cons_zero, List.set_cons_succ]
      refine wpAnyH_take (i := 27) (v := ?_) rfl (by kernel_rfl) (by kernel_rfl) (by kernel_rfl) (fun _ _ _ h => h) (Or.inl ⟨by rfl, ?_⟩) hH ?_
      rotate_left 1
      · (intro w hSw; skip; clear hSw; go_simp <;> with_reducible rfl)
      simp only [Act.put, List.getElem_toArray, List.getElem_cons_zero, List.getElem_cons_succ, List.setIfInBounds_toArray, List.set_cons_zero, List.set_cons_succ]
      refine wpAnyH_take (i := 28) (v := ?_) rfl (by kernel_rfl) (by kernel_rfl) (by kernel_rfl) (fun _ _ _ h => h) (Or.inl ⟨by rfl, ?_⟩) hH ?_
      rotate_left 1
      · (intro w hSw; have q := hSw.1.cells; clear hSw; go_simp <;> with_reducible rfl)
      simp only [Act.put, List.getElem_toArray, List.getElem_cons_zero, List.getElem_cons_succ, List.setIfInBounds_toArray, List.set_cons_zero, List.set_cons_succ]
      refine wpAnyH_take (i := 29) (v := ?_) rfl (by kernel_rfl) (by kernel_rfl) (by kernel_rfl) (fun _ _ _ h => h) (Or.inl ⟨by rfl, ?_⟩) hH ?_
      rotate_left 1
      · (intro w hSw; skip; clear hSw; go_simp <;> with_reducible rfl)
      simp only [Act.put, List.getElem_toArray, List.getElem_cons_zero, List.getElem_cons_succ, List.setIfInBounds_toArray, List.set_cons_zero, List.set_cons_succ]
      refine wpAnyH_take (i := 30) (v := ?_) rfl (by kernel_rfl) (by kernel_rfl) (by kernel_rfl) (fun _ _ _ h => h) (Or.inl ⟨by rfl, ?_⟩) hH ?_
      rotate_left 1
      · (intro w hSw; skip; clear hSw; go_simp <;> with_reducible rfl)
      simp only [Act.put, List.getElem_toArray, List.getElem_cons_zero, List.getElem_cons_succ, List.setIfInBounds_toArray, List.set_cons_zero, List.set_cons_succ]
      refine wpAnyH_take (i := 31) (v := ?_) rfl (by kernel_rfl) (by kernel_rfl) (by kernel_rfl) (fun _ _ _ h => h) (Or.inl ⟨by rfl, ?_⟩) hH ?_
      rotate_left 1
      · (intro w hSw; skip; clear hSw; go_simp <;> with_reducible rfl)
      simp only [Act.put, List.getElem_toArray, List.getElem_cons_zero, List.getElem_cons_succ, List.setIfInBounds_toArray, List.set_cons_zero, List.set_cons_succ]
      refine wpAnyH_take (i := 32) (v := ?_) rfl (by kernel_rfl) (by kernel_rfl) (by kernel_rfl) (fun _ _ _ h => h) (Or.inl ⟨by rfl, ?_⟩) hH ?_
      rotate_left 1
      · (intro w hSw; skip; clear hSw; go_simp <;> with_reducible rfl)
      simp only [Act.put, List.getElem_toArray, List.getElem_cons_zero, List.getElem_cons_succ, List.setIfInBounds_toArray, List.set_cons_zero, List.set_cons_succ]
      refine wpAnyH_take (i := 33) (v := ?_) rfl (by kernel_rfl) (by kernel_rfl) (by kernel_rfl) (fun _ _ _ h => h) (Or.inl ⟨by rfl, ?_⟩) hH ?_
      rotate_left 1
      · (intro w hSw; have q := hSw.2.cells; clear hSw; go_simp <;> with_reducible rfl)
      simp only [Act.put, List.getElem_toArray, List.getElem_cons_zero, List.getElem_cons_succ, List.setIfInBounds_toArray, List.set_cons_zero, List.set_cons_succ]
      refine wpAnyH_take (i := 34) (v := ?_) rfl (by kernel_rfl) (by kernel_rfl) (by kernel_rfl) (fun _ _ _ h => h) (Or.inl ⟨by rfl, ?_⟩) hH ?_
      rotate_left 1
      · (intro w hSw; skip; clear hSw; go_simp <;> with_reducible rfl)
      simp only [Act.put, List.getElem_toArray, List.getElem_cons_zero, List.getElem_cons_succ, List.setIfInBounds_toArray, List.set_cons_zero, List.set_cons_succ]
      refine wpAnyH_take (i := 35) (v := ?_) rfl (by kernel_rfl) (by kernel_rfl) (by kernel_rfl) (fun _ _ _ h => h) (Or.inl ⟨by rfl, ?_⟩) hH ?_
      rotate_left 1
      · (intro w hSw; skip; clear hSw; go_simp <;> with_reducible rfl)
      simp only [Act.put, List.getElem_toArray, List.getElem_cons_zero, List.getElem_cons_succ, List.setIfInBounds_toArray, List.set_cons_zero, List.set_cons_succ]
      refine wpAnyH_take (i := 36) (v := ?_) rfl (by kernel_rfl) (by kernel_rfl) (by kernel_rfl) (fun _ _ _ h => h) (Or.inl ⟨by rfl, ?_⟩) hH ?_
      rotate_left 1
      · (intro w hSw; skip; clear hSw; go_simp <;> with_reducible rfl)
      simp only [Act.put, List.getElem_toArray, List.getElem_cons_zero, List.getElem_cons_succ, List.setIfInBounds_toArray, List.set_cons_zero, List.set_cons_succ]
      refine wpAnyH_take (i := 37) (v := ?_) rfl (by kernel_rfl) (by kernel_rfl) (by kernel_rfl) (fun _ _ _ h => h) (Or.inl ⟨by rfl, ?_⟩) hH ?_
      rotate_left 1
      · (intro w hSw; skip; clear hSw; go_simp <;> with_reducible rfl)
      simp only [Act.put, List.getElem_toArray, List.getElem_cons_zero, List.getElem_cons_succ, List.setIfInBounds_toArray, List.set_cons_zero, List.set_cons_succ]
      cases x3 with
      | true =>
        refine wpAnyH_take (i := 38) (v := undef) rfl (by kernel_rfl) (by kernel_rfl) (by kernel_rfl) (fun _ _ _ h => h) (Or.inr ⟨by rfl, rfl⟩) hH ?_
        simp only [Act.put, List.getElem_toArray, List.getElem_cons_zero, List.getElem_cons_succ, List.setIfInBounds_toArray, List.set_cons_zero, List.set_cons_succ]
        refine wpAnyH_take (i := 39) (v := undef) rfl (by kernel_rfl) (by kernel_rfl) (by kernel_rfl) (fun _ _ _ h => h) (Or.inr ⟨by rfl, rfl⟩) hH ?_
        simp only [Act.put, List.getElem_toArray, List.getElem_cons_zero, List.getElem_cons_succ, List.setIfInBounds_toArray, List.set_cons_zero, List.set_cons_succ]
        refine wpAnyH_take (i := 40) (v := undef) rfl (by kernel_rfl) (by kernel_rfl) (by kernel_rfl) (fun _ _ _ h => h) (Or.inr ⟨by rfl, rfl⟩) hH ?_
        simp only [Act.put, List.getElem_toArray, List.getElem_cons_zero, List.getElem_cons_succ, List.setIfInBounds_toArray, List.set_cons_zero, List.set_cons_succ]
        refine wpAnyH_take (i := 41) (v := undef) rfl (by kernel_rfl) (by kernel_rfl) (by kernel_rfl) (fun _ _ _ h => h) (Or.inr ⟨by rfl, rfl⟩) hH ?_
        simp only [Act.put, List.getElem_toArray, List.getElem_cons_zero, List.getElem_cons_succ, List.setIfInBounds_toArray, List.set_cons_zero, List.set_cons_succ]
        refine wpAnyH_take (i := 42) (v := undef) rfl (by kernel_rfl) (by kernel_rfl) (by kernel_rfl) (fun _ _ _ h => h) (Or.inr ⟨by rfl, rfl⟩) hH ?_
        simp only [Act.put, List.getElem_toArray, List.getElem_cons_zero, List.getElem_cons_succ, List.setIfInBounds_toArray, List.set_cons_zero, List.set_cons_succ]
        refine wpAnyH_take (i := 43) (v := undef) rfl (by kernel_rfl) (by kernel_rfl) (by kernel_rfl) (fun _ _ _ h => h) (Or.inr ⟨by rfl, rfl⟩) hH ?_
        simp only [Act.put, List.getElem_toArray, List.getElem_cons_zero, List.getElem_cons_succ, List.setIfInBounds_toArray, List.set_cons_zero, List.set_cons_succ]
        refine wpAnyH_take (i := 44) (v := undef) rfl (by kernel_rfl) (by kernel_rfl) (by kernel_rfl) (fun _ _ _ h => h) (Or.inr ⟨by rfl, rfl⟩) hH ?_
        simp only [Act.put, List.getElem_toArray, List.getElem_cons_zero, List.getElem_cons_succ, List.setIfInBounds_toArray, List.set_cons_zero, List.set_cons_succ]
        refine wpAnyH_take (i := 45) (v := undef) rfl (by kernel_rfl) (by kernel_rfl) (by kernel_rfl) (fun _ _ _ h => h) (Or.inr ⟨by rfl, rfl⟩) hH ?_
        simp only [Act.put, List.getElem_toArray, List.getElem_cons_zero, List.getElem_cons_succ, List.setIfInBounds_toArray, List.set_cons_zero, List.set_cons_succ]
        refine wpAnyH_take (i := 46) (v := undef) rfl (by kernel_rfl) (by kernel_rfl) (by kernel_rfl) (fun _ _ _ h => h) (Or.inr ⟨by rfl, rfl⟩) hH ?_
        simp only [Act.put, List.getElem_toArray, List.getElem_cons_zero, List.getElem_cons_succ, List.setIfInBounds_toArray, List.set_cons_zero, List.set_cons_succ]
        refine wpAnyH_take (i := 47) (v := undef) rfl (by kernel_rfl) (by kernel_rfl) (by kernel_rfl) (fun _ _ _ h => h) (Or.inr ⟨by rfl, rfl⟩) hH ?_
        simp only [Act.put, List.getElem_toArray, List.getElem_cons_zero, List.getElem_cons_succ, List.setIfInBounds_toArray, List.set_cons_zero, List.set_cons_succ]
        refine wpAnyH_take (i := 48) (v := ?_) rfl (by kernel_rfl) (by kernel_rfl) (by kernel_rfl) (fun _ _ _ h => h) (Or.inl ⟨by rfl, ?_⟩) hH ?_
        rotate_left 1
        · (intro w hSw; skip; clear hSw; go_simp <;> with_reducible rfl)
        simp only [Act.put, List.getElem_toArray, List.getElem_cons_zero, List.getElem_cons_succ, List.setIfInBounds_toArray, List.set_cons_zero, List.set_cons_succ]
        refine wpAnyH_done (by kernel_rfl) ?_ _
        clear hH
        have hr := HX3.out rfl
        subst hr
        go_wp2_with fail
        go_ret
        exact Vb.mk rfl B3.out
      | false =>
        refine wpAnyH_take (i := 38) (v := ?_) rfl (by kernel_rfl) (by kernel_rfl) (by kernel_rfl) (fun _ _ _ h => h) (Or.inl ⟨by rfl, ?_⟩) hH ?_
        rotate_left 1
        · (intro w hSw; skip; clear hSw; go_simp <;> with_reducible rfl)
        simp only [Act.put, List.getElem_toArray, List.getElem_cons_zero, List.getElem_cons_succ, List.setIfInBounds_toArray, List.set_cons_zero, List.set_cons_succ]
        refine wpAnyH_take (i := 39) (v := ?_) rfl (by kernel_rfl) (by kernel_rfl) (by kernel_rfl) (fun _ _ _ h => h) (Or.inl ⟨by rfl, ?_⟩) hH ?_
        rotate_left 1
        · (intro w hSw; skip; clear hSw; go_simp <;> with_reducible rfl)
        simp only [Act.put, List.getElem_toArray, List.getElem_cons_zero, List.getElem_cons_succ, List.setIfInBounds_toArray, List.set_cons_zero, List.set_cons_succ]
        refine wpAnyH_take (i := 40) (v := ?_) rfl (by kernel_rfl) (by kernel_rfl) (by kernel_rfl) (fun _ _ _ h => h) (Or.inl ⟨by rfl, ?_⟩) hH ?_
        rotate_left 1
        · (intro w hSw; skip; clear hSw; go_simp <;> with_reducible rfl)
        simp only [Act.put, List.getElem_toArray, List.getElem_cons_zero, List.getElem_cons_succ, List.setIfInBounds_toArray, List.set_cons_zero, List.set_cons_succ]
        refine wpAnyH_take (i := 41) (v := ?_) rfl (by kernel_rfl) (by kernel_rfl) (by kernel_rfl) (fun _ _ _ h => h) (Or.inl ⟨by rfl, ?_⟩) hH ?_
        rotate_left 1
        · (intro w hSw; have q := hSw.1.cells; clear hSw; go_simp <;> with_reducible rfl)
        simp only [Act.put, List.getElem_toArray, List.getElem_cons_zero, List.getElem_cons_succ, List.setIfInBounds_toArray, List.set_cons_zero, List.set_cons_succ]
        refine wpAnyH_take (i := 42) (v := ?_) rfl (by kernel_rfl) (by kernel_rfl) (by kernel_rfl) (fun _ _ _ h => h) (Or.inl ⟨by rfl, ?_⟩) hH ?_
        rotate_left 1
        · (intro w hSw; skip; clear hSw; go_simp <;> with_reducible rfl)
        simp only [Act.put, List.getElem_toArray, List.getElem_cons_zero, List.getElem_cons_succ, List.setIfInBounds_toArray, List.set_cons_zero, List.set_cons_succ]
        refine wpAnyH_take (i := 43) (v := ?_) rfl (by kernel_rfl) (by kernel_rfl) (by kernel_rfl) (fun _ _ _ h => h) (Or.inl ⟨by rfl, ?_⟩) hH ?_
        rotate_left 1
        · (intro w hSw; skip; clear hSw; go_simp <;> with_reducible rfl)
        simp only [Act.put, List.getElem_toArray, List.getElem_cons_zero, List.getElem_cons_succ, List.setIfInBounds_toArray, List.set_cons_zero, List.set_cons_succ]
        refine wpAnyH_take (i := 44) (v := ?_) rfl (by kernel_rfl) (by kernel_rfl) (by kernel_rfl) (fun _ _ _ h => h) (Or.inl ⟨by rfl, ?_⟩) hH ?_
        rotate_left 1
        · (intro w hSw; skip; clear hSw; go_simp <;> with_reducible rfl)
        simp only [Act.put, List.getElem_toArray, List.getElem_cons_zero, List.getElem_cons_succ, List.setIfInBounds_toArray, List.set_cons_zero, List.set_cons_succ]
        refine wpAnyH_take (i := 45) (v := ?_) rfl (by kernel_rfl) (by kernel_rfl) (by kernel_rfl) (fun _ _ _ h => h) (Or.inl ⟨by rfl, ?_⟩) hH ?_
        rotate_left 1
        · (intro w hSw; have q := hSw.2.cells; clear hSw; go_simp <;> with_reducible rfl)
        simp only [Act.put, List.getElem_toArray, List.getElem_cons_zero, List.getElem_cons_succ, List.setIfInBounds_toArray, List.set_cons_zero, List.set_cons_succ]
        refine wpAnyH_ready (rs := [46]) (by kernel_rfl) (by decide) ?_
        refine AllReadyH.cons rfl (fun K1 hK1 => ?_) AllReadyH.nil
        go_simp
        refine (HI _ hH).mono ?_
        rintro e d4 ⟨rfl, hb⟩
        replace B3 := hide (bel_trans B3.out hb)
        refine hK1.out _ _ ⟨hH.1.bel hb, hH.2.bel hb⟩ (fun hH => ?_)
        clear hK1 K1 hb
        refine wpAnyH_take (i := 47) (v := ?_) rfl (by kernel_rfl) (by kernel_rfl) (by kernel_rfl) (fun _ _ _ h => h) (Or.inl ⟨by rfl, ?_⟩) hH ?_
        rotate_left 1
        · (intro w hSw; skip; clear hSw; go_simp <;> with_reducible rfl)
        simp only [Act.put, List.getElem_toArray, List.getElem_cons_zero, List.getElem_cons_succ, List.setIfInBounds_toArray, List.set_cons_zero, List.set_cons_succ]
        refine wpAnyH_take (i := 48) (v := ?_) rfl (by kernel_rfl) (by kernel_rfl) (by kernel_rfl) (fun _ _ _ h => h) (Or.inl ⟨by rfl, ?_⟩) hH ?_
        rotate_left 1
        · (intro w hSw; skip; clear hSw; go_simp <;> with_reducible rfl)
        simp only [Act.put, List.getElem_toArray, List.getElem_cons_zero, List.getElem_cons_succ, List.setIfInBounds_toArray, List.set_cons_zero, List.set_cons_succ]
        cases x4 with
        | false =>
          refine wpAnyH_done (by kernel_rfl) ?_ _
          clear hH
          have hr := HX4.out rfl
          subst hr
          go_wp2_with fail
          go_ret
          exact Vb.mk rfl B3.out
        | true =>
          refine wpAnyH_done (by kernel_rfl) ?_ _
          have H0 := hide hH
          rw [show (!true) = false from rfl]
          clear hH HS HI
          have he1 : nP = nP' := by have := HE.out.1; simp only [bne_eq_false_iff_eq] at this; omega
          have he2 : nL = nL' := by have := HE.out.2.1; simp only [bne_eq_false_iff_eq] at this; omega
          have he3 : nC = nC' := by have := HE.out.2.2.1; simp only [bne_eq_false_iff_eq] at this; omega
          have c0 := H0.out.1.cells.1
          have B4 := hide B3.out
          clear B3 HX1 HX2 HX3 HX4
          have HEQ := hide (And.intro he1 (And.intro he2 he3))
          clear he1 he2 he3
          go_wp2_with fail
          go_loopw [5, 63] (fun x5 i wr => ∃ k : Nat, k ≤ nP ∧ i = .int .i64 k ∧ Hid (∀ j : Nat, j < k → s.P[j]? = s'.P[j]?) ∧ Hid (Below d4.heap.size d4 wr)) (fun x5 i _ => nP - (intOf i).toNat)
          case atStart => exact ⟨0, Nat.zero_le _, rfl, fun j hj => absurd hj (Nat.not_lt_zero _), Below.refl _ _⟩
          case round =>
            obtain ⟨k, hk, rfl, hall, hbel⟩ := hrel
            clear c0
            by_cases hlt : k < nP
            · have hlt' : (k : Int) < (nP : Int) := by omega
              have hlt2 : (k : Int) < (nP' : Int) := by have := HEQ.out; omega
              have HA := H0.out.1.bel hbel.out
              have HA' := H0.out.2.bel hbel.out
              obtain ⟨x, hx⟩ : ∃ x, s.P[k]? = some x := ⟨_, List.getElem?_eq_getElem (by have := HLN.out; omega)⟩
              obtain ⟨y, hy⟩ : ∃ y, s'.P[k]? = some y := ⟨_, List.getElem?_eq_getElem (by have := HLN.out; have := HEQ.out; omega)⟩
              obtain ⟨b1, e1'⟩ := own_addr HA.pl (by have := HLN.out; omega)
              obtain ⟨b2, e2'⟩ := own_addr HA'.pl (by have := HLN.out; have := HEQ.out; omega)
              subst e1' e2'
              obtain ⟨p0, p1, p2⟩ := vcs_at _ _ _ hx
              obtain ⟨q0, q1, q2⟩ := vcs_at _ _ _ hy
              rw [Nat.mul_comm] at p0 p1 p2 q0 q1 q2
              have r0 := (own_cell HA.pl _ _ p0).1
              have r1 := (own_cell HA.pl _ _ p1).1
              have r2 := (own_cell HA.pl _ _ p2).1
              have s0 := (own_cell HA'.pl _ _ q0).1
              have s1 := (own_cell HA'.pl _ _ q1).1
              have s2 := (own_cell HA'.pl _ _ q2).1
              have g0 := HA.cells.1
              have g1 := HA'.cells.1
              obtain ⟨t, m, z⟩ := x
              obtain ⟨t', m', z'⟩ := y
              simp only at r0 r1 r2 s0 s1 s2
              have NV := neq_vv
              clear HA HA' p0 p1 p2 q0 q1 q2 H0
              by_cases exy : ((t, m, z) : V3) = (t', m', z')
              · have hy2 : Hid (∀ j : Nat, j < k + 1 → s.P[j]? = s'.P[j]?) := hide (fun j hj => by
                  by_cases ej : j = k
                  · rw [ej, hx, hy, exy]
                  · exact hall.out j (by omega))
                have hne : (!(t == t' && (m == m' && z == z'))) = false := by rw [v3_eq (t, m, z) (t', m', z'), decide_eq_true exy]; rfl
                clear hx hy exy hall HPk HMk HCk
                go_wp2_with fail
                go_quiet (fail)
                go_wp2_with fail
                go_roundw
                case rel => exact ⟨k + 1, by omega, by go_num, hy2, below_drewN hbel.out _⟩
                case measure => simp [intOf]; omega
              · have hr := HPk.out k (by rw [hx, hy]; exact fun e => exy (Option.some.inj e))
                subst hr
                have hne : (!(t == t' && (m == m' && z == z'))) = true := by rw [v3_eq (t, m, z) (t', m', z'), decide_eq_false exy]; rfl
                clear hx hy exy hall HPk HMk HCk
                go_wp2_with fail
                go_quiet (fail)
                go_wp2_with fail
                go_ret
                exact Vb.mk rfl (below_drewN (bel_trans B4.out hbel.out) _)
            · obtain rfl : k = nP := by omega
              have HPA : Hid (sameV s.P s'.P = true) := hide (sameV_all _ _ (by have := HLN.out; have := HEQ.out; omega) (fun j hj => hall.out j (by have := HLN.out; omega)))
              replace H0 := hide (And.intro (H0.out.1.bel hbel.out) (H0.out.2.bel hbel.out))
              replace B4 := hide (bel_trans B4.out hbel.out)
              clear hall hbel hlt hk HPk
              generalize wr = wq at *
              have c0 := H0.out.1.cells.2.1
              go_wp2_with fail
              go_loopw [6, 87] (fun x6 i wr => ∃ k : Nat, k ≤ nL ∧ i = .int .i64 k ∧ Hid (∀ j : Nat, j < k → s.M[j]? = s'.M[j]?) ∧ Hid (Below wq.heap.size wq wr)) (fun x6 i _ => nL - (intOf i).toNat)
              case atStart => exact ⟨0, Nat.zero_le _, rfl, fun j hj => absurd hj (Nat.not_lt_zero _), Below.refl _ _⟩
              case round =>
                obtain ⟨k, hk, rfl, hall, hbel⟩ := hrel
                clear c0
                by_cases hlt : k < nL
                · have hlt' : (k : Int) < (nL : Int) := by omega
                  have hlt2 : (k : Int) < (nL' : Int) := by have := HEQ.out; omega
                  have HA := H0.out.1.bel hbel.out
                  have HA' := H0.out.2.bel hbel.out
                  obtain ⟨x, hx⟩ : ∃ x, s.M[k]? = some x := ⟨_, List.getElem?_eq_getElem (by have := HLN.out; omega)⟩
                  obtain ⟨y, hy⟩ : ∃ y, s'.M[k]? = some y := ⟨_, List.getElem?_eq_getElem (by have := HLN.out; have := HEQ.out; omega)⟩
                  obtain ⟨b1, e1'⟩ := own_addr HA.lo (by have := HLN.out; omega)
                  obtain ⟨b2, e2'⟩ := own_addr HA'.lo (by have := HLN.out; have := HEQ.out; omega)
                  subst e1' e2'
                  have r0 := (own_cell HA.lo _ _ (bls_at hx)).1
                  have s0 := (own_cell HA'.lo _ _ (bls_at hy)).1
                  have g0 := HA.cells.2.1
                  have g1 := HA'.cells.2.1
                  clear HA HA' H0
                  by_cases exy : x = y
                  · have hy2 : Hid (∀ j : Nat, j < k + 1 → s.M[j]? = s'.M[j]?) := hide (fun j hj => by
                      by_cases ej : j = k
                      · rw [ej, hx, hy, exy]
                      · exact hall.out j (by omega))
                    clear hx hy hall HMk HCk
                    subst exy
                    cases x
                    all_goals
                      go_wp2_with fail
                      go_quiet (fail)
                      go_wp2_with fail
                      go_roundw
                      case rel => exact ⟨k + 1, by omega, by go_num, hy2, below_drewN hbel.out _⟩
                      case measure => simp [intOf]; omega
                  · have hr := HMk.out k (by rw [hx, hy]; exact fun e => exy (Option.some.inj e))
                    subst hr
                    clear hx hy hall HMk HCk
                    cases x <;> cases y <;> first | exact absurd rfl exy | skip
                    all_goals
                      clear exy
                      go_wp2_with fail
                      go_quiet (fail)
                      go_wp2_with fail
                      go_ret
                      exact Vb.mk rfl (below_drewN (bel_trans B4.out hbel.out) _)
                · obtain rfl : k = nL := by omega
                  have HMA : Hid (decide (s.M = s'.M) = true) := hide (decide_eq_true (List.ext_getElem? (fun i => by
                    by_cases hi : i < s.M.length
                    · exact hall.out i (by have := HLN.out; omega)
                    · rw [List.getElem?_eq_none (by omega), List.getElem?_eq_none (by have := HLN.out; have := HEQ.out; omega)])))
                  replace H0 := hide (And.intro (H0.out.1.bel hbel.out) (H0.out.2.bel hbel.out))
                  replace B4 := hide (bel_trans B4.out hbel.out)
                  clear hall hbel hlt hk HMk
                  generalize wr = wq at *
                  have c0 := H0.out.1.cells.2.2.1
                  go_wp2_with fail
                  go_loopw [7, 8, 111] (fun x7 x8 i wr => ∃ k : Nat, k ≤ nC ∧ i = .int .i64 k ∧ Hid (∀ (j : Nat) q q', j < k → s.C[j]? = some q → s'.C[j]? = some q' → eqQ q q' = true) ∧ Hid (Below wq.heap.size wq wr)) (fun x7 x8 i _ => nC - (intOf i).toNat)
                  case atStart => exact ⟨0, Nat.zero_le _, rfl, fun j _ _ hj => absurd hj (Nat.not_lt_zero _), Below.refl _ _⟩
                  case round =>
                    obtain ⟨k, hk, rfl, hall, hbel⟩ := hrel
                    clear c0
                    by_cases hlt : k < nC
                    · have hlt' : (k : Int) < (nC : Int) := by omega
                      have hlt2 : (k : Int) < (nC' : Int) := by have := HEQ.out; omega
                      obtain ⟨q, hx⟩ : ∃ x, s.C[k]? = some x := ⟨_, List.getElem?_eq_getElem (by have := HLN.out; omega)⟩
                      obtain ⟨q', hy⟩ : ∃ y, s'.C[k]? = some y := ⟨_, List.getElem?_eq_getElem (by have := HLN.out; have := HEQ.out; omega)⟩
                      have HQD := hide (fun wz (hz : Below wq.heap.size wq wz) => rHeld_q ⟨_, _, _, _, _, _, _, _, H0.out.1.bel hz⟩ hB1 k q hx)
                      have HQE := hide (fun wz (hz : Below wq.heap.size wq wz) => rHeld_q ⟨_, _, _, _, _, _, _, _, H0.out.2.bel hz⟩ hB2 k q' hy)
                      obtain ⟨b1, e1'⟩ := own_addr H0.out.1.ch (by have := HLN.out; omega)
                      obtain ⟨b2, e2'⟩ := own_addr H0.out.2.ch (by have := HLN.out; have := HEQ.out; omega)
                      subst e1' e2'
                      obtain ⟨bS, cS, eS, _⟩ := own_some H0.out.1.se (by have := HLN.out; omega)
                      obtain ⟨bT, cT, eT, _⟩ := own_some H0.out.1.ta (by have := HLN.out; omega)
                      obtain ⟨bS', cS', eS', _⟩ := own_some H0.out.2.se (by have := HLN.out; have := HEQ.out; omega)
                      obtain ⟨bT', cT', eT', _⟩ := own_some H0.out.2.ta (by have := HLN.out; have := HEQ.out; omega)
                      rw [← HLN.out.2.2.1] at eS eT
                      rw [← HLN.out.2.2.2.2.2] at eS' eT'
                      subst eS eT eS' eT'
                      have hsl := H0.out.1.sl
                      have htl := H0.out.1.tl
                      have hsl' := H0.out.2.sl
                      have htl' := H0.out.2.tl
                      obtain ⟨vq, hv⟩ : ∃ v, ss[k]? = some v := ⟨_, List.getElem?_eq_getElem (by have := HLN.out; omega)⟩
                      obtain ⟨t0, ht⟩ : ∃ t, tk[k]? = some t := ⟨_, List.getElem?_eq_getElem (by have := HLN.out; omega)⟩
                      obtain ⟨vq', hv'⟩ : ∃ v, ss'[k]? = some v := ⟨_, List.getElem?_eq_getElem (by have := HLN.out; have := HEQ.out; omega)⟩
                      obtain ⟨t0', ht'⟩ : ∃ t, tk'[k]? = some t := ⟨_, List.getElem?_eq_getElem (by have := HLN.out; have := HEQ.out; omega)⟩
                      obtain ⟨f, tn, e1, hle, hdr, hfB, oq, rq⟩ := H0.out.1.q k q vq t0 hx hv ht
                      obtain ⟨f', tn', e2, hle', hdr', hfB', oq', rq'⟩ := H0.out.2.q k q' vq' t0' hy hv' ht'
                      subst e1 e2
                      have HD := hide (And.intro hdr hdr')
                      have HV := hide (And.intro hv (And.intro hv' (And.intro (nts_at ht) (nts_at ht'))))
                      have HO := hide (And.intro oq oq')
                      have HR := hide (And.intro rq rq')
                      have HXY := hide (And.intro hx hy)
                      have b1f : f.length ≤ 1000000 := by omega
                      have b2f : f'.length ≤ 1000000 := by omega
                      have HFL : Hid (tn + q.l.length = f.length ∧ tn' + q'.l.length = f'.length) := hide ⟨by rw [← hdr, List.length_drop]; omega, by rw [← hdr', List.length_drop]; omega⟩
                      have HBF := hide (And.intro b1f b2f)
                      have HA := H0.out.1.bel hbel.out
                      have HA' := H0.out.2.bel hbel.out
                      obtain ⟨p0, p1⟩ := ccs_at _ _ _ hx
                      obtain ⟨q0, q1⟩ := ccs_at _ _ _ hy
                      rw [Nat.mul_comm] at p0 p1 q0 q1
                      have r0 := (own_cell HA.ch _ _ p0).1
                      have r1 := (own_cell HA.ch _ _ p1).1
                      have s0 := (own_cell HA'.ch _ _ q0).1
                      have s1 := (own_cell HA'.ch _ _ q1).1
                      have g0 := HA.cells.2.2.1
                      have g1 := HA'.cells.2.2.1
                      have hrm := (HA.rooms q (List.mem_of_getElem? hx))
                      have hrm' := (HA'.rooms q' (List.mem_of_getElem? hy))
                      have NC := neq_cc
                      obtain ⟨n1, hn1⟩ : ∃ n, n = q.l.length := ⟨_, rfl⟩
                      obtain ⟨n2, hn2⟩ : ∃ n, n = q'.l.length := ⟨_, rfl⟩
                      have bn1 : n1 ≤ 8 := by omega
                      have bn2 : n2 ≤ 8 := by omega
                      rw [← hn1] at HQD HFL
                      rw [← hn2] at HQE HFL
                      have HN := hide (And.intro hn1 hn2)
                      have HNC := hide (HCk.out k q q' hx hy)
                      clear hdr hdr' hv hv' ht ht' oq oq' rq rq' hx hy b1f b2f HA HA' p0 p1 q0 q1 hrm hrm' hn1 hn2 HCk hle hle' hfB hfB' hsl hsl' htl htl'
                      obtain ⟨bx, hbx⟩ : ∃ b, (!(q.t == q'.t && q.room == q'.room)) = b := ⟨_, rfl⟩
                      cases bx with
                      | true =>
                        have hr := HNC.out (eqQ_no1 hbx)
                        subst hr
                        go_wp2_with fail
                        go_quiet (fail)
                        go_wp2_with fail
                        go_ret
                        exact Vb.mk rfl (below_drewN (bel_trans B4.out hbel.out) _)
                      | false =>
                        obtain ⟨bl, hbl⟩ : ∃ b, ((n1 : Int) != (n2 : Int)) = b := ⟨_, rfl⟩
                        cases bl with
                        | true =>
                          have hr := HNC.out (eqQ_no2 (by have := HN.out; rw [bne_iff_ne] at hbl; omega))
                          subst hr
                          go_wp2_with fail
                          go_quiet (first | (go_at_call_of 17 (Value.pointer (some ⟨g, 0, none⟩)); exact Calls.quiet_of (HQD.out _ (below_drewN hbel.out _))) | (go_at_call_of 17 (Value.pointer (some ⟨g', 0, none⟩)); exact Calls.quiet_of (HQE.out _ (below_drewN hbel.out _))))
                          go_wp2_with fail
                          go_ret
                          exact Vb.mk rfl (below_drewN (bel_trans B4.out hbel.out) _)
                        | false =>
                          have HTY := hide hbx
                          have HEN : Hid (n1 = n2) := hide (by simp only [bne_eq_false_iff_eq] at hbl; omega)
                          go_wp2_with fail
                          go_quiet (first | (go_at_call_of 17 (Value.pointer (some ⟨g, 0, none⟩)); exact Calls.quiet_of (HQD.out _ (below_drewN hbel.out _))) | (go_at_call_of 17 (Value.pointer (some ⟨g', 0, none⟩)); exact Calls.quiet_of (HQE.out _ (below_drewN hbel.out _))))
                          rename_i nq
                          replace hbel := hide (below_drewN hbel.out nq)
                          generalize wr.drewN nq = wx at *
                          clear r0 r1 s0 s1 g0 g1 NC
                          go_wp2_with fail
                          clear hbx hbl
                          go_loopw [8] (fun x8 wr => ∃ j : Nat, j ≤ n1 ∧ x8 = .int .i64 j ∧ Hid (∀ i : Nat, i < j → q.l[i]? = q'.l[i]?) ∧ Hid (Below wx.heap.size wx wr)) (fun x8 _ => n1 - (intOf x8).toNat)
                          case atStart => exact ⟨0, Nat.zero_le _, rfl, fun j hj => absurd hj (Nat.not_lt_zero _), Below.refl _ _⟩
                          case round =>
                            obtain ⟨j, hj, rfl, hall2, hbel2⟩ := hrel
                            go_wp2_with fail
                            refine (HQD.out _ (bel_trans hbel.out hbel2.out)).mono ?_
                            rintro e w5 ⟨rfl, n5, rfl⟩
                            replace hbel2 := hide (below_drewN hbel2.out n5)
                            generalize wr.drewN n5 = wy at *
                            by_cases hj2 : j < n1
                            · have hj3 : (j : Int) < (n1 : Int) := by omega
                              have HA := H0.out.1.bel (bel_trans hbel.out hbel2.out)
                              have HA' := H0.out.2.bel (bel_trans hbel.out hbel2.out)
                              have oy := row_bel H0.out.1 HO.out.1 HR.out.1 (bel_trans hbel.out hbel2.out)
                              have oy' := row_bel H0.out.2 HO.out.2 HR.out.2 (bel_trans hbel.out hbel2.out)
                              obtain ⟨bq, cq, eq1, _⟩ := own_some oy (by have := HFL.out; omega)
                              obtain ⟨bq', cq', eq2, _⟩ := own_some oy' (by have := HFL.out; have := HEN.out; omega)
                              obtain ⟨fl, hfl⟩ : ∃ n, n = f.length := ⟨_, rfl⟩
                              obtain ⟨fl', hfl'⟩ : ∃ n, n = f'.length := ⟨_, rfl⟩
                              rw [← hfl] at eq1
                              rw [← hfl'] at eq2
                              subst eq1 eq2
                              obtain ⟨x, hx2⟩ : ∃ x, q.l[j]? = some x := ⟨_, List.getElem?_eq_getElem (by have := HN.out; omega)⟩
                              obtain ⟨y, hy2⟩ : ∃ y, q'.l[j]? = some y := ⟨_, List.getElem?_eq_getElem (by have := HN.out; have := HEN.out; omega)⟩
                              have fx := (drop_at HD.out.1).symm.trans hx2
                              have fy := (drop_at HD.out.2).symm.trans hy2
                              obtain ⟨m, hm⟩ : ∃ m, m = tn + j := ⟨_, rfl⟩
                              obtain ⟨m', hm'⟩ : ∃ m, m = tn' + j := ⟨_, rfl⟩
                              rw [← hm] at fx
                              rw [← hm'] at fy
                              obtain ⟨p0, p1, p2⟩ := vcs_at _ _ _ fx
                              obtain ⟨q0, q1, q2⟩ := vcs_at _ _ _ fy
                              rw [Nat.mul_comm] at p0 p1 p2 q0 q1 q2
                              have r0 := (own_cell oy _ _ p0).1
                              have r1 := (own_cell oy _ _ p1).1
                              have r2 := (own_cell oy _ _ p2).1
                              have s0 := (own_cell oy' _ _ q0).1
                              have s1 := (own_cell oy' _ _ q1).1
                              have s2 := (own_cell oy' _ _ q2).1
                              have g3 := HA.cells.2.2.2.1
                              have g4 := HA.cells.2.2.2.2.1
                              have k3 := HA'.cells.2.2.2.1
                              have k4 := HA'.cells.2.2.2.2.1
                              have d3 := (own_cell HA.se _ _ HV.out.1).1
                              have d4' := (own_cell HA.ta _ _ HV.out.2.2.1).1
                              have i3 := (own_cell HA'.se _ _ HV.out.2.1).1
                              have i4 := (own_cell HA'.ta _ _ HV.out.2.2.2).1
                              have m1 : (tn : Int) + (j : Int) = (m : Int) := by omega
                              have m2 : (tn' : Int) + (j : Int) = (m' : Int) := by omega
                              have m3 : m < fl := by have := HFL.out; omega
                              have m4 : m' < fl' := by have := HFL.out; have := HEN.out; omega
                              have m5 : fl ≤ 1000000 := by have := HBF.out; omega
                              have m6 : fl' ≤ 1000000 := by have := HBF.out; omega
                              have m7 : tn ≤ 1000000 := by omega
                              have m8 : tn' ≤ 1000000 := by omega
                              obtain ⟨t, u, z⟩ := x
                              obtain ⟨t', u', z'⟩ := y
                              simp only at r0 r1 r2 s0 s1 s2
                              have NV := neq_vv
                              have HHX := hide (And.intro hx2 hy2)
                              clear HA HA' oy oy' p0 p1 p2 q0 q1 q2 fx fy hm hm' hx2 hy2 hfl hfl' H0 HO HV HQD HQE
                              by_cases exy : ((t, u, z) : V3) = (t', u', z')
                              · have hal : Hid (∀ i : Nat, i < j + 1 → q.l[i]? = q'.l[i]?) := hide (fun i hi => by
                                  by_cases ej : i = j
                                  · rw [ej, HHX.out.1, HHX.out.2, exy]
                                  · exact hall2.out i (by omega))
                                have hne : (!(t == t' && (u == u' && z == z'))) = false := by rw [v3_eq (t, u, z) (t', u', z'), decide_eq_true exy]; rfl
                                clear exy hall2
                                go_wp2_with fail
                                go_quiet (fail)
                                go_wp2_with fail
                                go_roundw
                                case rel => exact ⟨j + 1, (by omega), (by go_num), hal, below_drewN hbel2.out _⟩
                                case measure => simp [intOf]; omega
                              · have hr := HNC.out (eqQ_no3 j (by rw [HHX.out.1, HHX.out.2]; exact fun e => exy (Option.some.inj e)))
                                subst hr
                                have hne : (!(t == t' && (u == u' && z == z'))) = true := by rw [v3_eq (t, u, z) (t', u', z'), decide_eq_false exy]; rfl
                                clear exy hall2
                                go_wp2_with fail
                                go_quiet (fail)
                                go_wp2_with fail
                                go_ret
                                exact Vb.mk rfl (below_drewN (bel_trans B4.out (bel_trans hbel.out hbel2.out)) _)
                            · obtain rfl : j = n1 := by omega
                              have hal : Hid (∀ (i : Nat) p p', i < k + 1 → s.C[i]? = some p → s'.C[i]? = some p' → eqQ p p' = true) := hide (fun i p p' hi h1 h2 => by
                                by_cases ej : i = k
                                · subst ej
                                  rw [HXY.out.1] at h1
                                  rw [HXY.out.2] at h2
                                  cases h1
                                  cases h2
                                  exact eqQ_yes HTY.out (by have := HN.out; have := HEN.out; omega) (fun i hi => hall2.out i (by have := HN.out; omega))
                                · exact hall.out i p p' (by omega) h1 h2)
                              clear hall hall2 HO HV HQD HQE H0
                              go_wp2_with fail
                              go_roundw
                              case rel => exact ⟨k + 1, (by omega), (by go_num), hal, bel_trans hbel.out hbel2.out⟩
                              case measure => simp [intOf]; omega
                    · obtain rfl : k = nC := by omega
                      have hr := HRES.out.symm.trans (sS_all HPA.out HMA.out (sameC_all _ _ (by have := HLN.out; have := HEQ.out; omega) (fun j q q' h1 h2 => hall.out j q q' (by have := HLN.out; have := (List.getElem?_eq_some_iff.1 h1).1; omega) h1 h2)) HE.out.2.2.2)
                      subst hr
                      clear hall HCk H0
                      go_wp2_with fail
                      go_ret
                      exact Vb.mk rfl (bel_trans B4.out hbel.out)
end Go.Proofs.YtghfjnnmpmfboaaDoor.Ck
