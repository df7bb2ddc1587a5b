/- The document: Same. (Written by mk_s.py.) -/
import Derived.Test.YtigfjjolfeenaaaDoorGr
namespace Go.Proofs.YtigfjjolfeenaaaDoor.Ck
open Go.RowKit

theorem Sl.drew {w wr : World} {q : Nat} {v : Value} {l : List Int} (hq : wr = w.drewN q) (h : Sl w v l) : Sl wr v l := by rw [hq]; exact h.bel (drew_bel w q)
theorem cells7_drew {w wr : World} {q g : Nat} {v0 v1 v2 v3 v4 v5 v6 : Value} {T : TypeId} (hq : wr = w.drewN q) (h : w.heap[g]? = some (.cells #[v0, v1, v2, v3, v4, v5, v6] T (0, 0))) : wr.heap[g]? = some (.cells #[v0, v1, v2, v3, v4, v5, v6] T (0, 0)) := by rw [hq]; simpa using h
set_option maxRecDepth 20000 in
set_option maxHeartbeats 8000000 in
theorem rSame_any {w : World} {vP vC vF vB uP uC uF uB : Value} {c d : Cd} (h1 : Cv w vP vC vF vB c) (h2 : Cv w uP uC uF uB d) (s1 : Sml c) (s2 : Sml d) : Calls Tryd.prog 13 #[codeA vP vC vF vB c, codeA uP uC uF uB d] w (Vb w (.bool (sameCd c d))) := by
  have b1 := bel_new w (.cells #[vP, .int .i64 c.M, .int .i64 c.A, vC, vF, .int .i64 c.mn, vB] 27)
  have b2 := bel_new (w.alloc (.cells #[vP, .int .i64 c.M, .int .i64 c.A, vC, vF, .int .i64 c.mn, vB] 27)) (.cells #[uP, .int .i64 d.M, .int .i64 d.A, uC, uF, .int .i64 d.mn, uB] 27)
  have hs : (w.alloc (.cells #[vP, .int .i64 c.M, .int .i64 c.A, vC, vF, .int .i64 c.mn, vB] 27)).heap.size = w.heap.size + 1 := by simp
  have KA := hide ((b2.block _ (by rw [hs]; omega)).trans (show (w.alloc (.cells #[vP, .int .i64 c.M, .int .i64 c.A, vC, vF, .int .i64 c.mn, vB] 27)).heap[w.heap.size]? = some (.cells #[vP, .int .i64 c.M, .int .i64 c.A, vC, vF, .int .i64 c.mn, vB] 27 (0, 0)) from Go.Deep.blk_alloc_new _ _))
  have KB : Hid (((w.alloc (.cells #[vP, .int .i64 c.M, .int .i64 c.A, vC, vF, .int .i64 c.mn, vB] 27)).alloc (.cells #[uP, .int .i64 d.M, .int .i64 d.A, uC, uF, .int .i64 d.mn, uB] 27)).heap[w.heap.size + 1]? = some (.cells #[uP, .int .i64 d.M, .int .i64 d.A, uC, uF, .int .i64 d.mn, uB] 27 (0, 0))) := hide (by rw [← hs]; exact Go.Deep.blk_alloc_new _ _)
  have B0 := hide (bel_trans b1 b2)
  have V1 := hide (fun wz (hb : Below w.heap.size w wz) => h1.bel hb)
  have V2 := hide (fun wz (hb : Below w.heap.size w wz) => h2.bel hb)
  have S1 := hide s1
  have S2 := hide s2
  obtain ⟨aP, cP, aC, cC, aF, cF, aB, cB, eP, eC, eF, eB⟩ := h1.form
  obtain ⟨aP2, cP2, aC2, cC2, aF2, cF2, aB2, cB2, eP2, eC2, eF2, eB2⟩ := h2.form
  subst eP eC eF eB eP2 eC2 eF2 eB2
  obtain ⟨x1, hx1⟩ : ∃ x, (c.M == d.M) = x := ⟨_, rfl⟩
  obtain ⟨x2, hx2⟩ : ∃ x, (c.A == d.A) = x := ⟨_, rfl⟩
  obtain ⟨x3, hx3⟩ : ∃ x, (c.mn == d.mn) = x := ⟨_, rfl⟩
  have HE : Hid (sameCd c d = (x1 && (x2 && (x3 && (sameL eqN c.P d.P && (sameL eqC c.C d.C && (sameL eqF c.F d.F && sameL eqI c.B d.B))))))) := hide (by rw [← hx1, ← hx2, ← hx3]; rfl)
  clear h1 h2 b1 b2 hs s1 s2
  generalize sameCd c d = res at *
  unfold codeA
  go_enter Tryd.func13, Tryd.ntmps13
  go_wp2_with fail
  generalize (w.alloc (.cells #[.slice aP c.P.length cP, .int .i64 c.M, .int .i64 c.A, .slice aC c.C.length cC, .slice aF c.F.length cF, .int .i64 c.mn, .slice aB c.B.length cB] 27)).alloc (.cells #[.slice aP2 d.P.length cP2, .int .i64 d.M, .int .i64 d.A, .slice aC2 d.C.length cC2, .slice aF2 d.F.length cF2, .int .i64 d.mn, .slice aB2 d.B.length cB2] 27) = w0 at *
  refine (rints (V1.out _ B0.out).P (V2.out _ B0.out).P ⟨S1.out.P, S2.out.P⟩).mono ?_
  intro e w1 h3
  obtain ⟨rfl, b3⟩ := (show Vb _ _ _ _ from h3.vb)
  replace KA := hide ((b3.block _ (lt_of_blk KA.out)).trans KA.out)
  replace KB := hide ((b3.block _ (lt_of_blk KB.out)).trans KB.out)
  have B1 := hide (bel_trans B0.out b3)
  clear b3 B0 h3
  obtain ⟨g0, g1, g2, g3, g4, g5, g6⟩ := cells7 KA.out
  obtain ⟨k0, k1, k2, k3, k4, k5, k6⟩ := cells7 KB.out
  cases hz : sameL eqN c.P d.P with
  | false =>
    rw [hz] at HE
    clear hz
    have he : res = false := by rw [HE.out]; simp
    subst he
    clear HE
    go_wp2_with fail
    go_ret
    exact ⟨rfl, B1.out⟩
  | true =>
  rw [hz] at HE
  clear hz
  cases x1 with
  | false =>
    have n1 : (c.M != d.M) = true := by rw [bne, hx1]; rfl
    have he : res = false := by rw [HE.out]; simp
    subst he
    clear HE
    go_wp2_with fail
    go_ret
    exact ⟨rfl, B1.out⟩
  | true =>
  have n1 : (c.M != d.M) = false := by rw [bne, hx1]; rfl
  cases x2 with
  | false =>
    have n2 : (c.A != d.A) = true := by rw [bne, hx2]; rfl
    have he : res = false := by rw [HE.out]; simp
    subst he
    clear HE
    go_wp2_with fail
    go_ret
    exact ⟨rfl, B1.out⟩
  | true =>
  have n2 : (c.A != d.A) = false := by rw [bne, hx2]; rfl
  cases x3 with
  | false =>
    have n3 : (c.mn != d.mn) = true := by rw [bne, hx3]; rfl
    have he : res = false := by rw [HE.out]; simp
    subst he
    clear HE
    go_wp2_with fail
    go_ret
    exact ⟨rfl, B1.out⟩
  | true =>
  have n3 : (c.mn != d.mn) = false := by rw [bne, hx3]; rfl
  by_cases l4 : c.C.length = d.C.length
  case neg =>
    have n4 : ((c.C.length : Int) != (d.C.length : Int)) = true := by rw [bne_iff_ne]; omega
    rw [sameL_len c.C d.C l4] at HE
    have he : res = false := by rw [HE.out]; simp
    subst he
    clear HE
    go_wp2_with fail
    go_ret
    exact ⟨rfl, B1.out⟩
  have n4 : ((c.C.length : Int) != (d.C.length : Int)) = false := by rw [bne_eq_false_iff_eq]; omega
  have HL4 := hide l4
  clear l4
  by_cases l5 : c.F.length = d.F.length
  case neg =>
    have n5 : ((c.F.length : Int) != (d.F.length : Int)) = true := by rw [bne_iff_ne]; omega
    rw [sameL_len c.F d.F l5] at HE
    have he : res = false := by rw [HE.out]; simp
    subst he
    clear HE
    go_wp2_with fail
    go_ret
    exact ⟨rfl, B1.out⟩
  have n5 : ((c.F.length : Int) != (d.F.length : Int)) = false := by rw [bne_eq_false_iff_eq]; omega
  have HL5 := hide l5
  clear l5
  by_cases l6 : c.B.length = d.B.length
  case neg =>
    have n6 : ((c.B.length : Int) != (d.B.length : Int)) = true := by rw [bne_iff_ne]; omega
    rw [sameL_len c.B d.B l6] at HE
    have he : res = false := by rw [HE.out]; simp
    subst he
    clear HE
    go_wp2_with fail
    go_ret
    exact ⟨rfl, B1.out⟩
  have n6 : ((c.B.length : Int) != (d.B.length : Int)) = false := by rw [bne_eq_false_iff_eq]; omega
  have HL6 := hide l6
  clear l6
  go_wp2_with fail
  clear hx1 hx2 hx3 n1 n2 n3 n4 n5 n6 g0 g1 g2 g3 g4 g5 g6 k0 k1 k2 k3 k4 k5 k6
  rw [← HL4.out] at KB
  rw [← HL5.out] at KB
  rw [← HL6.out] at KB
  obtain ⟨m, hm⟩ : ∃ m, m = c.C.length := ⟨_, rfl⟩
  have HM := hide (And.intro hm (hm.trans HL4.out))
  have hmm : m ≤ 100000 := by rw [hm]; exact S1.out.C
  have HS : Hid ((∀ j, j < m → eqC (c.C.getD j z2) (d.C.getD j z2) = true) → sameL eqC c.C d.C = true) := fun h => sameL_all z2 _ _ (HM.out.1.symm.trans HM.out.2) (fun j hj => h j (by rw [hm]; exact hj))
  have HS2 : Hid (∀ k : Nat, k < m → eqC (c.C.getD k z2) (d.C.getD k z2) = false → sameL eqC c.C d.C = false) := fun k hk => sameL_not z2 _ _ k (by rw [← HM.out.1]; exact hk) (by rw [← HM.out.2]; exact hk)
  rw [← hm]
  rw [← hm] at KA KB
  clear hm
  go_loopw [5, 65] (fun x5 i wr => ∃ k : Nat, k ≤ m ∧ i = .int .i64 k ∧ Hid (∀ j, j < k → eqC (c.C.getD j z2) (d.C.getD j z2) = true) ∧ Hid (∃ q, wr = w1.drewN q)) (fun x5 i _ => m - (intOf i).toNat)
  case atStart => exact ⟨0, Nat.zero_le _, rfl, fun j hj => absurd hj (Nat.not_lt_zero _), 0, rfl⟩
  case round =>
    obtain ⟨k, hk, rfl, hall, hw⟩ := hrel
    obtain ⟨q, hq⟩ := hw.out
    have HQ := hide hq
    clear hw
    by_cases hlt : k < m
    · have hlt' : (k : Int) < (m : Int) := by omega
      obtain ⟨g0, g1, g2, g3, g4, g5, g6⟩ := cells7 (cells7_drew hq KA.out)
      obtain ⟨k0, k1, k2, k3, k4, k5, k6⟩ := cells7 (cells7_drew hq KB.out)
      have W1 := (V1.out _ B1.out).C
      have W2 := (V2.out _ B1.out).C
      obtain ⟨_, _, eq1, _, _, z1⟩ := W1
      obtain ⟨_, _, eq2, _, _, z2'⟩ := W2
      cases eq1
      cases eq2
      obtain ⟨b1, o1, e1, hb1, r0, r1⟩ := z1 k (by rw [← HM.out.1]; exact hlt)
      obtain ⟨b2, o2, e2, hb2, s0, s1⟩ := z2' k (by rw [← HM.out.2]; exact hlt)
      have ea1 := e1
      have ea2 := e2
      subst ea1 ea2
      have t0 := drew_at hq r0
      have t1 := drew_at hq r1
      have t2 := drew_at hq s0
      have t3 := drew_at hq s1
      have hb1' := drew_lt hq hb1
      have hb2' := drew_lt hq hb2
      have HY : Hid (eqC (c.C.getD k z2) (d.C.getD k z2) = true → ∀ j, j < k + 1 → eqC (c.C.getD j z2) (d.C.getD j z2) = true) := fun e j hj => by
        by_cases ej : j = k
        · rw [ej]; exact e
        · exact hall.out j (by omega)
      have HNO : Hid (eqC (c.C.getD k z2) (d.C.getD k z2) = false → sameL eqC c.C d.C = false) := fun e => HS2.out k hlt e
      clear HS HS2 hall hq hb1 hb2 z1 z2' r0 r1 s0 s1
      generalize c.C.getD k z2 = x at *
      generalize d.C.getD k z2 = y at *
      have NQ := fun w => neq_cc w x y
      cases hxy : eqC x y with
      | true =>
        have hy2 := hide (HY.out hxy)
        rw [hxy] at NQ
        clear HY HNO hxy
        go_wp2_with fail
        go_quiet (fail)
        go_wp2_with fail
        go_roundw
        case rel => exact ⟨k + 1, by omega, by go_num, hy2, q + _, drew_more HQ.out _⟩
        case measure => simp [intOf]; omega
      | false =>
        have hf := HNO.out (hxy)
        rw [hf] at HE
        have he : res = false := by rw [HE.out]; simp
        subst he
        clear HE HY HNO hf
        rw [hxy] at NQ
        clear hxy
        go_wp2_with fail
        go_quiet (fail)
        go_wp2_with fail
        go_ret
        exact ⟨rfl, bel_trans B1.out (by rw [drew_more HQ.out]; exact drew_bel _ _)⟩
    · obtain rfl : k = m := by omega
      have hf := HS.out hall.out
      rw [hf] at HE
      clear HS HS2 hall hf
      replace KA := hide (cells7_drew hq KA.out)
      replace KB := hide (cells7_drew hq KB.out)
      have B2 := hide (bel_trans B1.out (show Below w1.heap.size w1 wr by rw [hq]; exact drew_bel _ _))
      clear hq HQ
      generalize wr = w2 at *
      obtain ⟨g0, g1, g2, g3, g4, g5, g6⟩ := cells7 KA.out
      obtain ⟨k0, k1, k2, k3, k4, k5, k6⟩ := cells7 KB.out
      go_wp2_with fail
      clear g0 g1 g2 g3 g4 g5 g6 k0 k1 k2 k3 k4 k5 k6
      obtain ⟨m, hm⟩ : ∃ m, m = c.F.length := ⟨_, rfl⟩
      have HM := hide (And.intro hm (hm.trans HL5.out))
      have hmm : m ≤ 100000 := by rw [hm]; exact S1.out.F
      have HS : Hid ((∀ j, j < m → eqF (c.F.getD j zF) (d.F.getD j zF) = true) → sameL eqF c.F d.F = true) := fun h => sameL_all zF _ _ (HM.out.1.symm.trans HM.out.2) (fun j hj => h j (by rw [hm]; exact hj))
      have HS2 : Hid (∀ k : Nat, k < m → eqF (c.F.getD k zF) (d.F.getD k zF) = false → sameL eqF c.F d.F = false) := fun k hk => sameL_not zF _ _ k (by rw [← HM.out.1]; exact hk) (by rw [← HM.out.2]; exact hk)
      rw [← hm]
      rw [← hm] at KA KB
      clear hm
      go_loopw [6, 83] (fun x5 i wr => ∃ k : Nat, k ≤ m ∧ i = .int .i64 k ∧ Hid (∀ j, j < k → eqF (c.F.getD j zF) (d.F.getD j zF) = true) ∧ Hid (∃ q, wr = w2.drewN q)) (fun x5 i _ => m - (intOf i).toNat)
      case atStart => exact ⟨0, Nat.zero_le _, rfl, fun j hj => absurd hj (Nat.not_lt_zero _), 0, rfl⟩
      case round =>
        obtain ⟨k, hk, rfl, hall, hw⟩ := hrel
        obtain ⟨q, hq⟩ := hw.out
        have HQ := hide hq
        clear hw
        by_cases hlt : k < m
        · have hlt' : (k : Int) < (m : Int) := by omega
          obtain ⟨g0, g1, g2, g3, g4, g5, g6⟩ := cells7 (cells7_drew hq KA.out)
          obtain ⟨k0, k1, k2, k3, k4, k5, k6⟩ := cells7 (cells7_drew hq KB.out)
          have W1 := (V1.out _ B2.out).F
          have W2 := (V2.out _ B2.out).F
          obtain ⟨_, _, eq1, _, _, z1⟩ := W1
          obtain ⟨_, _, eq2, _, _, z2'⟩ := W2
          cases eq1
          cases eq2
          obtain ⟨b1, o1, vl1, e1, hb1, r0, r1, r2, T1⟩ := z1 k (by rw [← HM.out.1]; exact hlt)
          obtain ⟨b2, o2, vl2, e2, hb2, s0, s1, s2, T2⟩ := z2' k (by rw [← HM.out.2]; exact hlt)
          have ea1 := e1
          have ea2 := e2
          subst ea1 ea2
          have t0 := drew_at hq r0
          have t1 := drew_at hq r1
          have t2 := drew_at hq r2
          have t3 := drew_at hq s0
          have t4 := drew_at hq s1
          have t5 := drew_at hq s2
          have hb1' := drew_lt hq hb1
          have hb2' := drew_lt hq hb2
          have HY : Hid (eqF (c.F.getD k zF) (d.F.getD k zF) = true → ∀ j, j < k + 1 → eqF (c.F.getD j zF) (d.F.getD j zF) = true) := fun e j hj => by
            by_cases ej : j = k
            · rw [ej]; exact e
            · exact hall.out j (by omega)
          have HNO : Hid (eqF (c.F.getD k zF) (d.F.getD k zF) = false → sameL eqF c.F d.F = false) := fun e => HS2.out k hlt e
          have M1 : (c.F.getD k zF).lo.length ≤ 100000 := S1.out.L _ (by rw [List.getD_eq_getElem?_getD, List.getElem?_eq_getElem (by rw [← HM.out.1]; exact hlt)]; exact List.getElem_mem _)
          have M2 : (d.F.getD k zF).lo.length ≤ 100000 := S2.out.L _ (by rw [List.getD_eq_getElem?_getD, List.getElem?_eq_getElem (by rw [← HM.out.2]; exact hlt)]; exact List.getElem_mem _)
          have RI := hide (fun u => rints (T1.drew (drew_more HQ.out u)) (T2.drew (drew_more HQ.out u)) ⟨M1, M2⟩)
          obtain ⟨av, cv, ev, _⟩ := T1.form
          obtain ⟨av2, cv2, ev2, _⟩ := T2.form
          clear M1 M2 T1 T2
          clear HS HS2 hall hq hb1 hb2 z1 z2' r0 r1 r2 s0 s1 s2
          generalize c.F.getD k zF = x at *
          generalize d.F.getD k zF = y at *
          subst ev ev2
          cases y1 : (x.st == y.st) with
          | false =>
            have n1 : (x.st != y.st) = true := by rw [bne, y1]; rfl
            have hf := HNO.out (by unfold eqF; rw [y1]; rfl)
            rw [hf] at HE
            have he : res = false := by rw [HE.out]; simp
            subst he
            clear HE HY HNO hf
            clear y1 RI
            go_wp2_with fail
            go_quiet (fail)
            go_wp2_with fail
            go_ret
            exact ⟨rfl, bel_trans B2.out (by rw [drew_more HQ.out]; exact drew_bel _ _)⟩
          | true =>
          have n1 : (x.st != y.st) = false := by rw [bne, y1]; rfl
          cases y2 : (x.pa == y.pa) with
          | false =>
            have n2 : (x.pa != y.pa) = true := by rw [bne, y2]; rfl
            have hf := HNO.out (by unfold eqF; rw [y1, y2]; rfl)
            rw [hf] at HE
            have he : res = false := by rw [HE.out]; simp
            subst he
            clear HE HY HNO hf
            clear y1 y2 RI
            go_wp2_with fail
            go_quiet (fail)
            go_wp2_with fail
            go_ret
            exact ⟨rfl, bel_trans B2.out (by rw [drew_more HQ.out]; exact drew_bel _ _)⟩
          | true =>
          have n2 : (x.pa != y.pa) = false := by rw [bne, y2]; rfl
          cases y3 : sameL eqN x.lo y.lo with
          | false =>
            have hf := HNO.out (by unfold eqF; rw [y1, y2, y3]; rfl)
            rw [hf] at HE
            have he : res = false := by rw [HE.out]; simp
            subst he
            clear HE HY HNO hf
            rw [y3] at RI
            unfold Dr at RI
            clear y1 y2 y3
            go_wp2_with fail
            go_quiet (first | (go_at_call 30; exact Calls.quiet_of (RI.out _)))
            go_wp2_with fail
            go_ret
            exact ⟨rfl, bel_trans B2.out (by rw [drew_more HQ.out]; exact drew_bel _ _)⟩
          | true =>
            have hy2 := hide (HY.out (by unfold eqF; rw [y1, y2, y3]; rfl))
            rw [y3] at RI
            unfold Dr at RI
            clear y1 y2 y3 HY HNO
            go_wp2_with fail
            go_quiet (first | (go_at_call 30; exact Calls.quiet_of (RI.out _)))
            go_wp2_with fail
            go_roundw
            case rel => exact ⟨k + 1, by omega, by go_num, hy2, q + _, drew_more HQ.out _⟩
            case measure => simp [intOf]; omega
        · obtain rfl : k = m := by omega
          have hf := HS.out hall.out
          rw [hf] at HE
          clear HS HS2 hall hf
          replace KA := hide (cells7_drew hq KA.out)
          replace KB := hide (cells7_drew hq KB.out)
          have B3 := hide (bel_trans B2.out (show Below w2.heap.size w2 wr by rw [hq]; exact drew_bel _ _))
          clear hq HQ
          generalize wr = w3 at *
          obtain ⟨g0, g1, g2, g3, g4, g5, g6⟩ := cells7 KA.out
          obtain ⟨k0, k1, k2, k3, k4, k5, k6⟩ := cells7 KB.out
          go_wp2_with fail
          clear g0 g1 g2 g3 g4 g5 g6 k0 k1 k2 k3 k4 k5 k6
          obtain ⟨m, hm⟩ : ∃ m, m = c.B.length := ⟨_, rfl⟩
          have HM := hide (And.intro hm (hm.trans HL6.out))
          have hmm : m ≤ 100000 := by rw [hm]; exact S1.out.B
          have HS : Hid ((∀ j, j < m → eqI (c.B.getD j zI) (d.B.getD j zI) = true) → sameL eqI c.B d.B = true) := fun h => sameL_all zI _ _ (HM.out.1.symm.trans HM.out.2) (fun j hj => h j (by rw [hm]; exact hj))
          have HS2 : Hid (∀ k : Nat, k < m → eqI (c.B.getD k zI) (d.B.getD k zI) = false → sameL eqI c.B d.B = false) := fun k hk => sameL_not zI _ _ k (by rw [← HM.out.1]; exact hk) (by rw [← HM.out.2]; exact hk)
          rw [← hm]
          rw [← hm] at KA KB
          clear hm
          go_loopw [7, 134] (fun x5 i wr => ∃ k : Nat, k ≤ m ∧ i = .int .i64 k ∧ Hid (∀ j, j < k → eqI (c.B.getD j zI) (d.B.getD j zI) = true) ∧ Hid (∃ q, wr = w3.drewN q)) (fun x5 i _ => m - (intOf i).toNat)
          case atStart => exact ⟨0, Nat.zero_le _, rfl, fun j hj => absurd hj (Nat.not_lt_zero _), 0, rfl⟩
          case round =>
            obtain ⟨k, hk, rfl, hall, hw⟩ := hrel
            obtain ⟨q, hq⟩ := hw.out
            have HQ := hide hq
            clear hw
            by_cases hlt : k < m
            · have hlt' : (k : Int) < (m : Int) := by omega
              obtain ⟨g0, g1, g2, g3, g4, g5, g6⟩ := cells7 (cells7_drew hq KA.out)
              obtain ⟨k0, k1, k2, k3, k4, k5, k6⟩ := cells7 (cells7_drew hq KB.out)
              have W1 := (V1.out _ B3.out).B
              have W2 := (V2.out _ B3.out).B
              obtain ⟨_, _, eq1, _, _, z1⟩ := W1
              obtain ⟨_, _, eq2, _, _, z2'⟩ := W2
              cases eq1
              cases eq2
              obtain ⟨b1, o1, e1, hb1, r0, r1, r2, r3, r4⟩ := z1 k (by rw [← HM.out.1]; exact hlt)
              obtain ⟨b2, o2, e2, hb2, s0, s1, s2, s3, s4⟩ := z2' k (by rw [← HM.out.2]; exact hlt)
              have ea1 := e1
              have ea2 := e2
              subst ea1 ea2
              have t0 := drew_at hq r0
              have t1 := drew_at hq r1
              have t2 := drew_at hq r2
              have t3 := drew_at hq r3
              have t4 := drew_at hq r4
              have t5 := drew_at hq s0
              have t6 := drew_at hq s1
              have t7 := drew_at hq s2
              have t8 := drew_at hq s3
              have t9 := drew_at hq s4
              have hb1' := drew_lt hq hb1
              have hb2' := drew_lt hq hb2
              have HY : Hid (eqI (c.B.getD k zI) (d.B.getD k zI) = true → ∀ j, j < k + 1 → eqI (c.B.getD j zI) (d.B.getD j zI) = true) := fun e j hj => by
                by_cases ej : j = k
                · rw [ej]; exact e
                · exact hall.out j (by omega)
              have HNO : Hid (eqI (c.B.getD k zI) (d.B.getD k zI) = false → sameL eqI c.B d.B = false) := fun e => HS2.out k hlt e
              clear HS HS2 hall hq hb1 hb2 z1 z2' r0 r1 r2 r3 r4 s0 s1 s2 s3 s4
              generalize c.B.getD k zI = x at *
              generalize d.B.getD k zI = y at *
              have NQ := fun w => neq_ii w x y
              cases hxy : eqI x y with
              | true =>
                have hy2 := hide (HY.out hxy)
                rw [hxy] at NQ
                clear HY HNO hxy
                go_wp2_with fail
                go_quiet (fail)
                go_wp2_with fail
                go_roundw
                case rel => exact ⟨k + 1, by omega, by go_num, hy2, q + _, drew_more HQ.out _⟩
                case measure => simp [intOf]; omega
              | false =>
                have hf := HNO.out (hxy)
                rw [hf] at HE
                have he : res = false := by rw [HE.out]; simp
                subst he
                clear HE HY HNO hf
                rw [hxy] at NQ
                clear hxy
                go_wp2_with fail
                go_quiet (fail)
                go_wp2_with fail
                go_ret
                exact ⟨rfl, bel_trans B3.out (by rw [drew_more HQ.out]; exact drew_bel _ _)⟩
            · obtain rfl : k = m := by omega
              have hf := HS.out hall.out
              rw [hf] at HE
              clear HS HS2 hall hf
              replace KA := hide (cells7_drew hq KA.out)
              replace KB := hide (cells7_drew hq KB.out)
              have B4 := hide (bel_trans B3.out (show Below w3.heap.size w3 wr by rw [hq]; exact drew_bel _ _))
              clear hq HQ
              generalize wr = w4 at *
              obtain ⟨g0, g1, g2, g3, g4, g5, g6⟩ := cells7 KA.out
              obtain ⟨k0, k1, k2, k3, k4, k5, k6⟩ := cells7 KB.out
              have he : res = true := by rw [HE.out]; simp
              subst he
              clear HE
              go_wp2_with fail
              go_ret
              exact ⟨rfl, B4.out⟩
end Go.Proofs.YtigfjjolfeenaaaDoor.Ck
