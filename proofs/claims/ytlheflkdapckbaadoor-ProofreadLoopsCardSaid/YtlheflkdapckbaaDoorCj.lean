/- Package code: a code's instructions. (Written by mk_c.py.) -/
import Derived.Test.YtlheflkdapckbaaDoorCi
import Derived.Test.YtlheflkdapckbaaDoorCh
import Derived.Test.YtlheflkdapckbaaDoorCe
namespace Go.Proofs.YtlheflkdapckbaaDoor.Ck
open Go.RowKit

set_option maxRecDepth 20000 in
set_option maxHeartbeats 4000000 in
theorem body_any {w : World} {p : List Addr} {vP vC vF vB : Value} {c : Cd} (hc : Ec w p) (h : Cv w vP vC vF vB c) (hs : sizesB c = true) : Calls Tryd.prog 41 #[codeA vP vC vF vB c] w (Gt p w (c.B.all (insG c)) (.tuple #[])) := by
  have B0 := hide (bel_new w (codeO vP vC vF vB c))
  have C0 := hide (fun wz (hb : Below (w.alloc (codeO vP vC vF vB c)).heap.size (w.alloc (codeO vP vC vF vB c)) wz) => hc.bel (bel_trans B0.out hb))
  have V0 := hide (fun wz (hb : Below (w.alloc (codeO vP vC vF vB c)).heap.size (w.alloc (codeO vP vC vF vB c)) wz) => h.bel (bel_trans B0.out hb))
  have X0 := hide (fun wz (hb : Below (w.alloc (codeO vP vC vF vB c)).heap.size (w.alloc (codeO vP vC vF vB c)) wz) => (hb.block w.heap.size (by simp)).trans (show (w.alloc (codeO vP vC vF vB c)).heap[w.heap.size]? = some (codeO vP vC vF vB c) from Go.Deep.blk_alloc_new _ _))
  have SH := hide (shapes_any (V0.out _ (Below.refl _ _)) hs)
  have HI := hide h.L.I
  obtain ⟨aP, cP, rfl, _, hmP⟩ := h.P.form
  obtain ⟨aC, cC, rfl, _, hmC⟩ := h.C.form
  obtain ⟨aF, cF, rfl, _, hmF⟩ := h.F.form
  obtain ⟨aB, cB, rfl, _, hmB⟩ := h.B.form
  have hB := hide (fun wz (hb : Below (w.alloc (.cells #[.slice aP c.P.length cP, .int .i64 c.M, .int .i64 c.A, .slice aC c.C.length cC, .slice aF c.F.length cF, .int .i64 c.mn, .slice aB c.B.length cB] 27)).heap.size (w.alloc (.cells #[.slice aP c.P.length cP, .int .i64 c.M, .int .i64 c.A, .slice aC c.C.length cC, .slice aF c.F.length cF, .int .i64 c.mn, .slice aB c.B.length cB] 27)) wz) i (hi : i < c.B.length) => (by
    obtain ⟨a, cp, e, _, _, h⟩ := (V0.out wz hb).B
    cases e
    exact h i hi : ∃ b off, aB = some ⟨b, off, none⟩ ∧ b < _ ∧ _))
  have hP := hide (fun wz (hb : Below (w.alloc (.cells #[.slice aP c.P.length cP, .int .i64 c.M, .int .i64 c.A, .slice aC c.C.length cC, .slice aF c.F.length cF, .int .i64 c.mn, .slice aB c.B.length cB] 27)).heap.size (w.alloc (.cells #[.slice aP c.P.length cP, .int .i64 c.M, .int .i64 c.A, .slice aC c.C.length cC, .slice aF c.F.length cF, .int .i64 c.mn, .slice aB c.B.length cB] 27)) wz) => (V0.out wz hb).P)
  have s1 : c.P.length ≤ 128 := by
    simp only [sizesB, Bool.and_eq_true, decide_eq_true_eq] at hs
    exact hs.1.1.1.1.1
  have s8 : c.B.length ≤ 8192 := by
    simp only [sizesB, Bool.and_eq_true, decide_eq_true_eq] at hs
    exact hs.2
  obtain ⟨r, hr⟩ : ∃ r, c.B.all (insG c) = r := ⟨_, rfl⟩
  rw [hr]
  have HY := hide (fun (h : ∀ k, k < c.B.length → insG c (c.B.getD k zI) = true) => (show r = true by rw [← hr]; exact all_yes h))
  have HN := hide (fun k (hk : k < c.B.length) (h1 : insG c (c.B.getD k zI) = false) => (show r = false by rw [← hr]; exact all_not k hk h1))
  have HW := hide (fun k (hk : k < c.B.length) => (show InX (c.B.getD k zI) by
    refine HI.out _ ?_
    rw [List.getD_eq_getElem?_getD, List.getElem?_eq_getElem hk]
    exact List.getElem_mem hk))
  clear hr hc h hmP hmC hmF hmB hs V0 HI
  unfold codeA codeO at *
  go_enter Tryd.func41, Tryd.ntmps41
  go_wp2_with fail
  refine SH.out.mono ?_
  rintro e w2 ⟨mb, rfl, hM, hb2⟩
  have B2 := hide hb2
  have M2 := hide hM
  clear hb2 hM SH
  have g6 : w2.cell? ⟨w.heap.size, 6, none⟩ = some (.slice aB c.B.length cB) := blk_cell (X0.out _ B2.out) 6 _ rfl
  go_wp2_with fail
  generalize w.alloc (.cells #[.slice aP c.P.length cP, .int .i64 c.M, .int .i64 c.A, .slice aC c.C.length cC, .slice aF c.F.length cF, .int .i64 c.mn, .slice aB c.B.length cB] 27) = W1 at *
  generalize hnB : c.B.length = nB at *
  clear hnB g6
  have BB : Hid (∀ wz, Below w2.heap.size w2 wz → Below w.heap.size w wz) := hide (fun wz hb => B0.out.trans ((bel_trans B2.out hb).mono B0.out.size))
  go_loopw [4, 5, 6, 12] (fun u4 u5 u6 i wr => ∃ k : Nat, k ≤ nB ∧ i = .int .i64 k ∧ Hid (∀ j, j < k → insG c (c.B.getD j zI) = true) ∧ Hid (Below w2.heap.size w2 wr)) (fun u4 u5 u6 i _ => nB - (intOf i).toNat)
  case atStart => exact ⟨0, Nat.zero_le _, rfl, fun j hj => absurd hj (Nat.not_lt_zero _), Below.refl _ _⟩
  case round =>
    obtain ⟨k, hk, rfl, hall, hbel⟩ := hrel
    by_cases hlt : k < nB
    · have h1 : (k : Int) < (nB : Int) := by omega
      obtain ⟨b1, o1, rfl, hbk, f1, f2, f3, f4, f5⟩ := hB.out _ (bel_trans B2.out hbel.out) k hlt
      have hne := hide (HN.out k hlt)
      have hstep : Hid (insG c (c.B.getD k zI) = true → ∀ j, j < k + 1 → insG c (c.B.getD j zI) = true) := fun e j hj => by
        by_cases ej : j = k
        · rw [ej]; exact e
        · exact hall.out j (by omega)
      have hx := HW.out k hlt
      generalize c.B.getD k zI = x at *
      obtain ⟨op, a, b, bits, at_⟩ := x
      have Bb := hide (bel_trans hbel.out (bel_new wr (.cells #[.int .i64 op, .int .i64 a, .int .i64 b, .int .u64 bits, .int .i64 at_] 44)))
      have LK := (M2.out.bel Bb.out).look op (wf_int hx.2.1 hx.2.2)
      have Cn := hide (fun wz (hb : Below w2.heap.size w2 wz) => C0.out wz (bel_trans B2.out hb))
      have hP2 := hide (fun wz (hb : Below w2.heap.size w2 wz) => hP.out wz (bel_trans B2.out hb))
      have gP := hide (fun wz (hb : Below w2.heap.size w2 wz) => (show wz.cell? ⟨w.heap.size, 0, none⟩ = some (.slice aP c.P.length cP) from blk_cell (X0.out _ (bel_trans B2.out hb)) 0 _ rfl))
      obtain ⟨IG, hIG⟩ : ∃ ig, insG c ⟨op, a, b, bits, at_⟩ = ig := ⟨_, rfl⟩
      rw [hIG] at hne hstep
      simp only [insG] at hIG
      have f1' : wr.cell? ⟨b1, o1 + k * 5, none⟩ = some (.int .i64 op) := f1
      have f2' : wr.cell? ⟨b1, o1 + k * 5 + 1, none⟩ = some (.int .i64 a) := f2
      have f3' : wr.cell? ⟨b1, o1 + k * 5 + 2, none⟩ = some (.int .i64 b) := f3
      have f4' : wr.cell? ⟨b1, o1 + k * 5 + 3, none⟩ = some (.int .u64 bits) := f4
      have f5' : wr.cell? ⟨b1, o1 + k * 5 + 4, none⟩ = some (.int .i64 at_) := f5
      have HIG := hide hIG
      clear hIG f1 f2 f3 f4 f5 hall hB HY HN HW M2 X0 C0 hP
      cases hsh : shF c op with
      | none =>
        rw [hsh] at LK HIG
        simp only [Option.isSome_none, Option.getD_none, shZ] at LK
        go_wp2_with fail
        refine (must_no (Cn.out _ (bel_trans Bb.out (bel_new _ _)))).mono ?_
        rintro e w4 ⟨rfl, rfl⟩
        exact ⟨rfl, Gt.no (hne.out (by rw [← HIG.out]; rfl)) (BB.out _ (bel_trans Bb.out (bel_new _ _)))⟩
      | some s =>
        rw [hsh] at LK HIG
        obtain ⟨a0, a1, c0, c1, bt⟩ := s
        simp only [Option.isSome_some, Option.getD_some, Bool.true_and] at LK HIG
        have HSH := hide hsh
        clear hsh
        go_wp2_with fail
        have D5 := hide (bel_trans Bb.out (bel_new _ (.cells #[.int .i64 a0, .int .i64 a1, .int .i64 c0, .int .i64 c1, .int .u64 bt] 105)))
        have k5 : ((wr.alloc (.cells #[.int .i64 op, .int .i64 a, .int .i64 b, .int .u64 bits, .int .i64 at_] 44)).alloc (.cells #[.int .i64 a0, .int .i64 a1, .int .i64 c0, .int .i64 c1, .int .u64 bt] 105)).heap[wr.heap.size]? = some (.cells #[.int .i64 op, .int .i64 a, .int .i64 b, .int .u64 bits, .int .i64 at_] 44) := ((bel_new _ (.cells #[.int .i64 a0, .int .i64 a1, .int .i64 c0, .int .i64 c1, .int .u64 bt] 105)).block _ (by simp)).trans (Go.Deep.blk_alloc_new _ _)
        have k6 : ((wr.alloc (.cells #[.int .i64 op, .int .i64 a, .int .i64 b, .int .u64 bits, .int .i64 at_] 44)).alloc (.cells #[.int .i64 a0, .int .i64 a1, .int .i64 c0, .int .i64 c1, .int .u64 bt] 105)).heap[wr.heap.size + 1]? = some (.cells #[.int .i64 a0, .int .i64 a1, .int .i64 c0, .int .i64 c1, .int .u64 bt] 105) := by have e := Go.Deep.blk_alloc_new (wr.alloc (.cells #[.int .i64 op, .int .i64 a, .int .i64 b, .int .u64 bits, .int .i64 at_] 44)) (.cells #[.int .i64 a0, .int .i64 a1, .int .i64 c0, .int .i64 c1, .int .u64 bt] 105); simpa using e
        have FI : Hid (∀ wz, Below ((wr.alloc (.cells #[.int .i64 op, .int .i64 a, .int .i64 b, .int .u64 bits, .int .i64 at_] 44)).alloc (.cells #[.int .i64 a0, .int .i64 a1, .int .i64 c0, .int .i64 c1, .int .u64 bt] 105)).heap.size ((wr.alloc (.cells #[.int .i64 op, .int .i64 a, .int .i64 b, .int .u64 bits, .int .i64 at_] 44)).alloc (.cells #[.int .i64 a0, .int .i64 a1, .int .i64 c0, .int .i64 c1, .int .u64 bt] 105)) wz → wz.cell? ⟨wr.heap.size, 0, none⟩ = some (.int .i64 op) ∧ wz.cell? ⟨wr.heap.size, 1, none⟩ = some (.int .i64 a) ∧ wz.cell? ⟨wr.heap.size, 2, none⟩ = some (.int .i64 b) ∧ wz.cell? ⟨wr.heap.size, 3, none⟩ = some (.int .u64 bits) ∧ wz.cell? ⟨wr.heap.size, 4, none⟩ = some (.int .i64 at_) ∧ wz.cell? ⟨wr.heap.size + 1, 2, none⟩ = some (.int .i64 c0) ∧ wz.cell? ⟨wr.heap.size + 1, 3, none⟩ = some (.int .i64 c1) ∧ wz.cell? ⟨wr.heap.size + 1, 4, none⟩ = some (.int .u64 bt)) := hide (fun wz hb => by
          have e5 := (hb.block _ (lt_of_blk k5)).trans k5
          have e6 := (hb.block _ (lt_of_blk k6)).trans k6
          exact ⟨blk_cell e5 0 _ rfl, blk_cell e5 1 _ rfl, blk_cell e5 2 _ rfl, blk_cell e5 3 _ rfl, blk_cell e5 4 _ rfl, blk_cell e6 2 _ rfl, blk_cell e6 3 _ rfl, blk_cell e6 4 _ rfl⟩)
        clear k5 k6
        refine (has_any _ _ _ _).mono ?_
        rintro e w4 ⟨rfl, hb4⟩
        have D4 := hide (bel_trans D5.out hb4)
        cases hA : hasB a0 a1 a with
        | false =>
          go_wp2_with fail
          refine (must_no (Cn.out _ D4.out)).mono ?_
          rintro e w9 ⟨rfl, rfl⟩
          exact ⟨rfl, Gt.no (hne.out (by rw [← HIG.out, hA]; rfl)) (BB.out _ D4.out)⟩
        | true =>
          obtain ⟨j0, j1, j2, j3, j4, t2, t3, t4⟩ := FI.out w4 hb4
          have HA := hide hA
          rw [hA] at HIG
          clear hA
          go_wp2_with fail
          refine (has_any _ _ _ _).mono ?_
          rintro e w6 ⟨rfl, hb6⟩
          have D6 := hide (bel_trans D4.out hb6)
          have hb46 := bel_trans hb4 hb6
          clear j0 j1 j2 j3 j4 t2 t3 t4
          cases hC : hasB c0 c1 b with
          | false =>
            go_wp2_with fail
            refine (must_no (Cn.out _ D6.out)).mono ?_
            rintro e w9 ⟨rfl, rfl⟩
            exact ⟨rfl, Gt.no (hne.out (by rw [← HIG.out, hC]; rfl)) (BB.out _ D6.out)⟩
          | true =>
            obtain ⟨j0, j1, j2, j3, j4, t2, t3, t4⟩ := FI.out w6 hb46
            have HC := hide hC
            rw [hC] at HIG
            clear hC hb4 hb6 hb46 FI D4
            go_wp2_with fail
            refine (must_any (Cn.out _ D6.out) _).mono ?_
            rintro e w7 ⟨⟨h5, rfl⟩ | ⟨h5, rfl⟩, rfl⟩
            case inr => exact ⟨rfl, Gt.no (hne.out (by rw [← HIG.out, h5]; rfl)) (BB.out _ D6.out)⟩
            have HD := hide h5
            rw [h5] at HIG
            clear h5
            by_cases hat : 0 ≤ at_
            case neg =>
              have hat' : decide (0 ≤ at_) = false := decide_eq_false hat
              go_wp2_with fail
              refine (must_no (Cn.out _ D6.out)).mono ?_
              rintro e w9 ⟨rfl, rfl⟩
              exact ⟨rfl, Gt.no (hne.out (by rw [← HIG.out, hat']; rfl)) (BB.out _ D6.out)⟩
            rw [decide_eq_true hat] at HIG
            go_wp2_with fail
            refine (must_any (Cn.out _ D6.out) _).mono ?_
            rintro e w7 ⟨⟨h5, rfl⟩ | ⟨h5, rfl⟩, rfl⟩
            case inr => exact ⟨rfl, Gt.no (hne.out (by rw [← HIG.out, h5]; rfl)) (BB.out _ D6.out)⟩
            rw [h5] at HIG
            clear h5 hat
            by_cases ho : op = 8 ∨ op = 9
            · have hshape : a0 = 0 ∧ a1 = (c.P.length : Int) - 1 ∧ c0 = 1 ∧ c1 = 64 := by
                have := HSH.out
                rcases ho with rfl | rfl
                · cases this; exact ⟨rfl, rfl, rfl, rfl⟩
                · cases this; exact ⟨rfl, rfl, rfl, rfl⟩
              obtain ⟨rfl, rfl, rfl, rfl⟩ := hshape
              have hA := HA.out
              have hC := HC.out
              simp only [hasB, Bool.and_eq_true, decide_eq_true_eq] at hA hC
              obtain ⟨an, rfl⟩ : ∃ n : Nat, a = n := ⟨a.toNat, by omega⟩
              obtain ⟨bn, rfl⟩ : ∃ n : Nat, b = n := ⟨b.toNat, by omega⟩
              have RW := hide (row_any an bn (Cn.out _ D6.out) (hP2.out _ D6.out) (by omega) (by omega) s1)
              have g0 := gP.out _ D6.out
              rw [if_pos ho] at HIG
              simp only [Int.toNat_natCast] at HIG
              clear hA hC HA HC HSH
              rcases ho with rfl | rfl
              all_goals
                go_wp2_with fail
                refine RW.out.mono ?_
                intro e w8 hp
                rcases hp.both with ⟨h5, rfl, hb⟩ | ⟨h5, rfl, hb⟩
                · have Hb := hide (bel_trans D6.out hb)
                  rw [h5] at HIG
                  clear h5 hb RW
                  go_wp2_with fail
                  go_roundw
                  case rel => exact ⟨k + 1, by omega, by go_num, hstep.out HIG.out.symm, Hb.out⟩
                  case measure => simp [intOf]; omega
                · exact ⟨rfl, Gt.no (hne.out (by rw [← HIG.out, h5]; rfl)) (BB.out _ (bel_trans D6.out hb))⟩
            · have o8 : (op == 8) = false := beq_false_of_ne (fun e => ho (.inl e))
              have o9 : (op == 9) = false := beq_false_of_ne (fun e => ho (.inr e))
              rw [if_neg ho] at HIG
              clear ho
              go_wp2_with fail
              go_roundw
              case rel => exact ⟨k + 1, by omega, by go_num, hstep.out HIG.out.symm, D6.out⟩
              case measure => simp [intOf]; omega
    · obtain rfl : k = nB := by omega
      have hr := hide (HY.out hall.out)
      clear hB HY HN HW M2
      go_wp2_with fail
      go_end0
      exact Gt.yes hr.out (BB.out _ hbel.out)
end Go.Proofs.YtlheflkdapckbaaDoor.Ck
