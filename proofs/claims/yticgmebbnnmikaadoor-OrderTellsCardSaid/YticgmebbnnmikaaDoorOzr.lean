/- The document's Clock; two equal rows of ints. -/
import Derived.Test.YticgmebbnnmikaaDoorOzq
namespace Go.Proofs.YticgmebbnnmikaaDoor.Ck
open Go.RowKit

theorem clkF_le (T : List Ev) (R : List Int) (j g : Nat) : ∀ k, clkF T R j g k ≤ k
  | 0 => Nat.le_refl _
  | k + 1 => by
    have ih := clkF_le T R j g k
    unfold clkF
    split <;> omega
theorem clkF_yes {T : List Ev} {R : List Int} {j k : Nat} (h : k = j ∨ hbM T R j k = true) (g : Nat) : clkF T R j g (k + 1) = if g = gOf T k then clkF T R j g k + 1 else clkF T R j g k := by
  rw [clkF]
  by_cases e : g = gOf T k
  · rw [if_pos e, if_pos ⟨h, e.symm⟩]
  · rw [if_neg e, if_neg (fun q => e q.2.symm)]
theorem clkF_no {T : List Ev} {R : List Int} {j k : Nat} (h : ¬ (k = j ∨ hbM T R j k = true)) (g : Nat) : clkF T R j g (k + 1) = clkF T R j g k := by
  rw [clkF, if_neg (fun q => h q.1)]
set_option maxRecDepth 20000 in
set_option maxHeartbeats 4000000 in
theorem clock_doc {w : World} {vT : Value} {T : List Ev} {R : List Int} {q : Nat} {B : Nat → Nat} (hT : SlE w vT T) (hM : SlM w q T.length B (hbM T R)) (hF : formT T = true) (hn : T.length ≤ 100000) (j : Nat) (hj : j < T.length) :
    Calls Tryd.prog 14 #[vT, .slice (some ⟨q, 0, none⟩) T.length T.length, .int .i64 (j : Nat)] w (fun e w' => ∃ v, e = .returned v ∧ Below w.heap.size w w' ∧ Sl w' v (clM (knowM R T j))) := by
  obtain ⟨aT, cT, rfl, hcT, _⟩ := hT.form
  have HT := hide hT
  have HM := hide hM
  have HF := hide hF
  have CK := hide (fun g (hg : g < 8) => clk_know R hF (by omega) hj hg)
  have hmk := run_make_row' (P := Tryd.prog) 23 3 (.int .i64 0) 8 Tryd.underlying23 info3 rfl .i64 .i64 8 (by omega) (by omega)
  rw [show ((8 : Nat) : Int) = 8 from rfl] at hmk
  have hj' : (j : Int) < (T.length : Int) := by omega
  have hj8 : j ≤ 100000 := by omega
  clear hT hM hF
  go_enter Tryd.func14, Tryd.ntmps14
  go_wp2_with fail
  go_loopw [8] (fun x8 wr => ∃ i : Nat, i ≤ j + 1 ∧ x8 = .int .i64 (i : Nat) ∧ Hid (wr.rowIs w.heap.size 3 8 (fun g => .int .i64 (clkF T R j g i : Nat)) ∧ Below w.heap.size w wr)) (fun x8 _ => j + 1 - (intOf x8).toNat)
  case atStart => exact ⟨0, Nat.zero_le _, rfl, hide ⟨World.rowIs_made w _ _ _, (Below.refl _ _).alloc (Nat.le_refl _) _⟩⟩
  case round =>
    obtain ⟨i, hi, rfl, hI⟩ := hrel
    by_cases hlt : i ≤ j
    · have hlt' : (i : Int) ≤ (j : Int) := by omega
      have hiT : (i : Int) < (T.length : Int) := by omega
      obtain ⟨b, off, rfl, hb, t0, _, _, _⟩ := (HT.out.bel hI.out.2).at i (by omega)
      rw [gOf_cast HF.out (by omega)] at t0
      have G8 := gOf_lt HF.out i
      have a0 := (HM.out.bel hI.out.2).top j hj
      have a1 := (HM.out.bel hI.out.2).row j hj i (by omega)
      have c0 := hI.out.1.cell G8
      have f0 := hI.out.1.frozen (gOf T i)
      have B2 := hide (fun v => hI.out.2.setCell (p := ⟨w.heap.size, gOf T i, none⟩) (Nat.le_refl _) v)
      have R2 := hide (fun v => hI.out.1.set (gOf T i) v)
      have LE := clkF_le T R j (gOf T i) i
      have Y := hide (fun h g => clkF_yes (T := T) (R := R) (j := j) (k := i) h g)
      have N := hide (fun h g => clkF_no (T := T) (R := R) (j := j) (k := i) h g)
      have R3 : Hid ((i = j ∨ hbM T R j i = true) → (wr.setCell ⟨w.heap.size, gOf T i, none⟩ (.int .i64 (clkF T R j (gOf T i) i + 1 : Nat))).rowIs w.heap.size 3 8 (fun g => .int .i64 (clkF T R j g (i + 1) : Nat))) := hide (fun h => (R2.out _).congr (fun g _ => by
        rw [Y.out h g]
        by_cases e : g = gOf T i
        · rw [if_pos e, if_pos e, e]
        · rw [if_neg e, if_neg e]))
      have R4 : Hid (¬ (i = j ∨ hbM T R j i = true) → wr.rowIs w.heap.size 3 8 (fun g => .int .i64 (clkF T R j g (i + 1) : Nat))) := hide (fun h => hI.out.1.congr (fun g _ => by rw [N.out h g]))
      have B3 := hide hI.out.2
      clear R2 Y N hI
      generalize clkF T R j (gOf T i) i = c at *
      generalize gOf T i = g at *
      by_cases hij : i = j
      · subst hij
        have R5 := hide (R3.out (.inl rfl))
        have B5 := hide (B2.out (.int .i64 (c + 1 : Nat)))
        rw [show ((c + 1 : Nat) : Int) = (c : Int) + 1 by omega] at R5 B5
        clear R3 R4 B2
        go_wp2_with fail
        go_roundw
        case rel => exact ⟨i + 1, by omega, by go_num, hide ⟨R5.out, B5.out⟩⟩
        case measure => simp [intOf]
      · have eij : ((i : Int) == (j : Int)) = false := by rw [beq_eq_false_iff_ne]; omega
        cases hv : hbM T R j i with
        | true =>
          rw [hv] at a1
          have R5 := hide (R3.out (.inr hv))
          have B5 := hide (B2.out (.int .i64 (c + 1 : Nat)))
          rw [show ((c + 1 : Nat) : Int) = (c : Int) + 1 by omega] at R5 B5
          clear R3 R4 B2
          go_wp2_with fail
          go_roundw
          case rel => exact ⟨i + 1, by omega, by go_num, hide ⟨R5.out, B5.out⟩⟩
          case measure => simp [intOf]; omega
        | false =>
          rw [hv] at a1
          have R5 := hide (R4.out (fun h => by
            rcases h with h | h
            · exact hij h
            · rw [hv] at h; cases h))
          clear R3 R4 B2
          go_wp2_with fail
          go_roundw
          case rel => exact ⟨i + 1, by omega, by go_num, hide ⟨R5.out, B3.out⟩⟩
          case measure => simp [intOf]; omega
    · obtain rfl : i = j + 1 := by omega
      have C9 : ∀ g, g < 8 → ((clkF T R j g (j + 1) : Nat) : Int) = (shM (knowM R T j)).getD g 0 := fun g hg => by
        rw [shM_at _ _ hg, ← CK.out g hg]
        omega
      have RW := hide (hI.out.1.congr (g := fun g => .int .i64 ((shM (knowM R T j)).getD g 0)) (fun g hg => by rw [C9 g hg]))
      have FT : Hid (Fits (clM (knowM R T j))) := hide (fun z hz => by
        obtain ⟨g, hg, e⟩ := List.mem_iff_getElem.1 (List.mem_of_mem_take hz)
        have h8 : (shM (knowM R T j)).length = 8 := by simp [shM]
        have e2 : (shM (knowM R T j)).getD g 0 = z := by rw [← e]; simp [List.getD, hg]
        rw [← C9 g (by omega)] at e2
        have := clkF_le T R j g (j + 1)
        omega)
      have CL := hide (clM_len (knowM R T j))
      have CD : Hid (clM (knowM R T j) = (shM (knowM R T j)).take (tl (shM (knowM R T j)) 8)) := hide rfl
      have B3 := hide hI.out.2
      obtain ⟨cl, hcl⟩ : ∃ q, q = clM (knowM R T j) := ⟨_, rfl⟩
      rw [← hcl] at FT CL CD
      have HCL := hide hcl
      clear hcl
      generalize shM (knowM R T j) = zs at *
      clear C9 hI CK HM HF HT
      go_wp2_with fail
      go_loopw [9] (fun x9 wz => ∃ k : Nat, k ≤ 8 ∧ x9 = .int .i64 (k : Nat) ∧ wz = wr ∧ Hid (tl zs k = tl zs 8)) (fun x9 _ => (intOf x9).toNat)
      case atStart => exact ⟨8, Nat.le_refl _, rfl, rfl, hide rfl⟩
      case round =>
        obtain ⟨k, hk, rfl, rfl, ht⟩ := hrel
        cases k with
        | zero =>
          have hS : Sl wr (.slice (some ⟨w.heap.size, 0, none⟩) (tl zs 8) 8) cl := by
            have hle := tl_le zs 8
            have h := Sl.of_row (zs := cl) RW.out (by have := CL.out; omega) (by unfold maxLen; omega) FT.out (fun i hi => by
              rw [CL.out] at hi
              rw [CD.out, List.getD_eq_getElem?_getD, List.getD_eq_getElem?_getD, List.getElem?_take_of_lt hi])
            rw [CL.out] at h
            exact h
          have HS := hide hS
          clear hS
          have T0 : tl zs 8 = 0 := ht.out.symm
          rw [T0] at HS
          clear T0 ht RW FT CL CD
          go_wp2_with fail
          go_ret
          exact ⟨.slice (some ⟨w.heap.size, 0, none⟩) 0 8, rfl, B3.out, HCL.out ▸ HS.out⟩
        | succ k =>
          have hcell := RW.out.cell (show k < 8 by omega)
          have e1 : ((k + 1 : Nat) : Int) - 1 = (k : Nat) := by omega
          by_cases hz : zs.getD k 0 = 0
          · rw [hz] at hcell
            have T1 := hide ((tl_zero zs k hz).symm.trans ht.out)
            go_wp2_with fail
            go_roundw
            case rel => exact ⟨k, by omega, by first | rfl | rw [e1], by trivial, T1⟩
            case measure => simp [intOf]
          · have T1 : tl zs 8 = k + 1 := ht.out.symm.trans (tl_stop zs k hz)
            have hz2 : (zs.getD k 0 == 0) = false := by simpa using hz
            have hS : Sl wr (.slice (some ⟨w.heap.size, 0, none⟩) (tl zs 8) 8) cl := by
              have hle := tl_le zs 8
              have h := Sl.of_row (zs := cl) RW.out (by have := CL.out; omega) (by unfold maxLen; omega) FT.out (fun i hi => by
                rw [CL.out] at hi
                rw [CD.out, List.getD_eq_getElem?_getD, List.getD_eq_getElem?_getD, List.getElem?_take_of_lt hi])
              rw [CL.out] at h
              exact h
            have HS := hide hS
            clear hS
            rw [T1] at HS
            generalize zs.getD k 0 = zk at *
            clear T1 ht RW FT CL CD hz
            go_wp2_with fail
            go_ret
            exact ⟨.slice (some ⟨w.heap.size, 0, none⟩) (k + 1) 8, rfl, B3.out, HCL.out ▸ HS.out⟩
theorem sameInts_any {w : World} {v u : Value} {l : List Int} (hv : Sl w v l) (hu : Sl w u l) (hn : l.length ≤ 100000) : Calls Tryd.prog 13 #[v, u] w (Vb w (.bool true)) := by
  obtain ⟨a, c, rfl, _⟩ := hv.form
  obtain ⟨a', c', rfl, _⟩ := hu.form
  have HV := hide hv
  have HU := hide hu
  clear hv hu
  go_enter Tryd.func13, Tryd.ntmps13
  go_wp2_with fail
  go_loopw [13] (fun x13 wr => ∃ k : Nat, k ≤ l.length ∧ x13 = .int .i64 (k : Nat) ∧ Hid (Below w.heap.size w wr)) (fun x13 _ => l.length - (intOf x13).toNat)
  case atStart => exact ⟨0, Nat.zero_le _, rfl, hide (Below.refl _ _)⟩
  case round =>
    obtain ⟨k, hk, rfl, hI⟩ := hrel
    by_cases hlt : k < l.length
    · have hlt' : (k : Int) < (l.length : Int) := by omega
      obtain ⟨b, o, rfl, _, z⟩ := (HV.out.bel hI.out).at k hlt
      obtain ⟨b', o', rfl, _, z'⟩ := (HU.out.bel hI.out).at k hlt
      go_upto_region 6 with fail
      go_quiet (fail)
      have B2 := hide (below_drewN hI.out nq)
      go_wp2_with fail
      go_roundw
      case rel => exact ⟨k + 1, by omega, by go_num, B2⟩
      case measure => simp [intOf]; omega
    · obtain rfl : k = l.length := by omega
      have B2 := hide hI.out
      clear hI
      go_wp2_with fail
      go_ret
      exact ⟨rfl, B2.out⟩
end Go.Proofs.YticgmebbnnmikaaDoor.Ck
