/- The document's Races. -/
import Derived.Test.YticgmebbnnmikaaDoorOzt
namespace Go.Proofs.YticgmebbnnmikaaDoor.Ck
open Go.RowKit

theorem docF_len (T : List Ev) (M : Nat → Nat → Bool) : ∀ k, (docF T M k).length ≤ k
  | 0 => Nat.le_refl _
  | k + 1 => by
    have ih := docF_len T M k
    unfold docF
    split
    · rw [(insR_perm _ _).length_eq, List.length_cons]; omega
    · omega
/-- the races that are found, in memory -/
structure Rb (w0 w : World) (bm b c : Nat) (l : List Rc) (n : Nat) : Prop where
  map : VMap w bm n (.bool false) (dnF l)
  row : w.ownsRow w0.heap.size 54 5 (.slice (some ⟨b, 0, none⟩) l.length c) l.length (l.flatMap rcC)
  lm : w0.heap.size ≤ bm
  bel : Below w0.heap.size w0 w
section
variable {w0 w w' : World} {bm b c n : Nat} {l : List Rc}
theorem Rb.below (h : Rb w0 w bm b c l n) (hb : Below w.heap.size w w') : Rb w0 w' bm b c l n :=
  ⟨h.map.keep (hb.block _ h.map.lt), own_keep h.row (fun _ hk => hb.block _ (own_type h.row hk).2.1), h.lm, h.bel.trans (hb.mono h.bel.size)⟩
theorem Rb.more (h : Rb w0 w bm b c l n) : Rb w0 w bm b c l (n + 1) := by
  obtain ⟨D, h1, h2⟩ := h.map
  exact ⟨⟨D, h1.mono (Nat.le_succ _), h2⟩, h.row, h.lm, h.bel⟩
theorem Rb.ne (h : Rb w0 w bm b c l n) : b ≠ bm := fun e => by
  obtain ⟨_, _, c9, hc⟩ := own_type h.row (k := b) rfl
  obtain ⟨es, cc, hm⟩ := h.map.blk
  rw [e, hm] at hc
  cases hc
theorem bool_zero (w : World) : (zeroValue 4).run Tryd.prog w = .ok (.bool false) w := by kernel_rfl
theorem Rb.look (h : Rb w0 w bm b c l n) {o : Int} (ho : wfI o) : (Instr.lookup 69 (.map (some bm)) (.int .i64 o) false).run Tryd.prog w = .ok (.bool (l.any (fun r => r.p == o))) w := by
  have := h.map.look Tryd.underlying69 (bool_zero w) ho
  rw [dnF_get] at this
  exact this
end
theorem beqJ (a b : Int) : (a == b) = decide (a = b) := by by_cases h : a = b <;> simp [h]
/-- may it not be the first? -/
def canX (ag ak ao eg ek eo : Int) (m : Bool) : Bool := !((ak == 1 || ak == 2) && decide (ao = eo) && !decide (ag = eg) && !(decide (ak = 1) && decide (ek = 1)) && !m)
theorem canX_eq (T : List Ev) (M : Nat → Nat → Bool) (k i : Nat) : canX (T.getD i zE).g (T.getD i zE).k (T.getD i zE).o (T.getD k zE).g (T.getD k zE).k (T.getD k zE).o (M k i) = !cand T M k i := rfl
set_option maxRecDepth 200000 in
set_option maxHeartbeats 8000000 in
theorem rraces_any {w : World} {vT : Value} {T : List Ev} {R : List Int} {q : Nat} {B : Nat → Nat} (hT : SlE w vT T) (hM : SlM w q T.length B (hbM T R)) (hW : ∀ k, k < T.length → wfI (T.getD k zE).o) (hn : T.length ≤ 10000) :
    Calls Tryd.prog 16 #[vT, .slice (some ⟨q, 0, none⟩) T.length T.length] w (fun e w' => ∃ v, e = .returned v ∧ Below w.heap.size w w' ∧ SlR w' v (docF T (hbM T R) T.length)) := by
  obtain ⟨aT, cT, rfl, hcT, _⟩ := hT.form
  have hmm := @run_makeMap Tryd.prog
  have HT := hide hT
  have HM := hide hM
  have HW := hide hW
  have HN := hide hn
  obtain ⟨M, hMe⟩ : ∃ M, M = hbM T R := ⟨_, rfl⟩
  rw [← hMe] at HM ⊢
  clear hT hM hW hMe
  go_enter Tryd.func16, Tryd.ntmps16
  go_wp2_with fail
  have H5 : Hid (Rb w ((w.alloc (.cells #[] 54)).alloc (.map #[] 0)) (w.heap.size + 1) w.heap.size 0 [] 0) := hide (by
    have b1 := bel_new w (.cells #[] 54)
    have b2 := bel_new (w.alloc (.cells #[] 54)) (.map #[] 0)
    have hs : (w.alloc (.cells #[] 54)).heap.size = w.heap.size + 1 := by simp
    refine ⟨by rw [dnF_nil, ← hs]; exact VMap.made _ _, ⟨rfl, .inr ⟨w.heap.size, 0, #[], rfl, Nat.le_refl _, (b2.block w.heap.size (by rw [hs]; omega)).trans (Go.Deep.blk_alloc_new w _), Nat.le_refl _, by unfold maxLen; omega, rfl, rfl⟩⟩, by omega, bel_trans b1 b2⟩)
  generalize ((w.alloc (.cells #[] 54)).alloc (.map #[] 0)) = w5 at *
  obtain ⟨bm, hbm⟩ : ∃ q, q = w.heap.size + 1 := ⟨_, rfl⟩
  rw [← hbm] at H5 ⊢
  clear hbm hmm
  go_loopw [5, 18] (fun x5 x18 wr => ∃ (k b c : Nat), k ≤ T.length ∧ x5 = .slice (some ⟨b, 0, none⟩) (docF T M k).length c ∧ x18 = .int .i64 (k : Nat) ∧ Hid (Rb w wr bm b c (docF T M k) k)) (fun _ x18 _ => T.length - (intOf x18).toNat)
  case atStart => exact ⟨0, _, _, Nat.zero_le _, rfl, rfl, H5⟩
  case round =>
    clear H5
    obtain ⟨k, b, c, hk, rfl, rfl, hI⟩ := hrel
    by_cases hlt : k < T.length
    · have hlt' : (k : Int) < (T.length : Int) := by omega
      obtain ⟨bT, off, rfl, hbT, t0, t1, t2, t3⟩ := (HT.out.bel hI.out.bel).at k hlt
      have HO := HW.out k hlt
      have STEP : Hid (docF T M (k + 1) = if accB (T.getD k zE) = true ∧ (docF T M k).any (fun r => r.p == oOf T k) = false ∧ fstD T M k k ≠ -1 then insR (raceM (T.getD (fstD T M k k).toNat zE) (T.getD k zE)) (docF T M k) else docF T M k) := hide rfl
      have CX := hide (fun i => canX_eq T M k i)
      have FS := hide (fun i => show fstD T M k (i + 1) = if cand T M k i = true ∧ (fstD T M k i < 0 ∨ kOf T i = 2 ∨ (kOf T (fstD T M k i).toNat = 1 ∧ (T.getD i zE).g ≤ (T.getD (fstD T M k i).toNat zE).g)) then (i : Int) else fstD T M k i from rfl)
      have FB : Hid (∀ i, fstD T M k i = -1 ∨ ∃ f : Nat, f < i ∧ fstD T M k i = f) := hide (fun i => by
        rcases fstD_spec T M k i with ⟨h, _⟩ | ⟨f, h1, h2, _⟩
        · exact .inl h
        · exact .inr ⟨f, h2, h1⟩)
      have DL := hide (docF_len T M k)
      unfold oOf at STEP
      obtain ⟨e, he⟩ : ∃ e, e = T.getD k zE := ⟨_, rfl⟩
      rw [← he] at STEP CX HO t0 t1 t2 t3
      obtain ⟨eg, ek, eo, ea⟩ := e
      simp only at STEP CX HO t0 t1 t2 t3
      clear he
      obtain ⟨l, hl⟩ : ∃ l, l = docF T M k := ⟨_, rfl⟩
      rw [← hl] at hI STEP DL ⊢
      clear hl
      have R1 := hide (hI.out.below (bel_new wr (.cells #[.int .i64 eg, .int .i64 ek, .int .i64 eo, .int .i64 ea] 47)))
      have X1 := hide (Go.Deep.blk_alloc_new wr (.cells #[.int .i64 eg, .int .i64 ek, .int .i64 eo, .int .i64 ea] 47))
      have hk8 : k ≤ 10000 := by have := HN.out; omega
      go_upto_region 6 with fail
      generalize wr.alloc (.cells #[.int .i64 eg, .int .i64 ek, .int .i64 eo, .int .i64 ea] 47) = w1 at *
      obtain ⟨bE, hbE⟩ : ∃ q, q = wr.heap.size := ⟨_, rfl⟩
      rw [← hbE] at X1 ⊢
      clear hbE hI t0 t1 t2 t3 hbT
      have z0 := blk_cell X1.out 0 _ rfl
      have z1 := blk_cell X1.out 1 _ rfl
      have z2 := blk_cell X1.out 2 _ rfl
      have lk := R1.out.look HO
      go_cut [36] from 23 to 37 (fun x36 wz => x36 = .bool (!(ek == 1 || ek == 2) || l.any (fun r => r.p == eo)) ∧ wz = w1)
      case first =>
        by_cases c1 : ek = 1
        · subst c1
          go_wp2_with fail
          go_meet
          case rel => exact ⟨by simp, rfl⟩
        · have e1 : (ek == 1) = false := by simpa using c1
          by_cases c2 : ek = 2
          · subst c2
            go_wp2_with fail
            go_meet
            case rel => exact ⟨by simp, rfl⟩
          · have e2 : (ek == 2) = false := by simpa using c2
            go_wp2_with fail
            go_meet
            case rel => exact ⟨by rw [e1, e2]; simp, rfl⟩
      case rest =>
        obtain ⟨rfl, hw⟩ := hcut
        have hw := hw.symm
        subst hw
        clear lk
        have HA : Hid (accB ⟨eg, ek, eo, ea⟩ = (ek == 1 || ek == 2)) := hide rfl
        rw [HA.out] at STEP
        cases p6 : (!(ek == 1 || ek == 2) || l.any (fun r => r.p == eo)) with
        | true =>
          have E : Hid (docF T M (k + 1) = l) := hide (by
            rw [STEP.out, if_neg]
            rintro ⟨h1, h2, _⟩
            rw [h1, h2] at p6
            cases p6)
          have R2 := R1
          clear STEP CX FS FB z0 z1 z2 X1
          go_wp2_with fail
          go_roundw
          case rel => exact ⟨k + 1, b, c, by omega, by rw [E.out], by go_num, hide (by rw [E.out]; exact R2.out.more)⟩
          case measure => simp [intOf]; omega
        | false =>
          obtain ⟨hacc, hany⟩ : (ek == 1 || ek == 2) = true ∧ l.any (fun r => r.p == eo) = false := by
            rw [Bool.or_eq_false_iff] at p6
            refine ⟨?_, p6.2⟩
            cases h : (ek == 1 || ek == 2) with
            | true => rfl
            | false =>
              rw [h] at p6
              cases p6.1
          have STEP : Hid (docF T M (k + 1) = if fstD T M k k ≠ -1 then insR (raceM (T.getD (fstD T M k k).toNat zE) ⟨eg, ek, eo, ea⟩) l else l) := hide (by
            rw [STEP.out, hacc, hany]
            by_cases h : fstD T M k k = -1
            · rw [if_neg (fun q => q.2.2 h), if_neg (fun q => q h)]
            · rw [if_pos ⟨rfl, rfl, h⟩, if_pos h])
          clear hany HA p6
          go_upto_region 8 with fail
          clear z0 z1 z2
          go_wp2_with fail
          go_loopw [9, 10] (fun x9 x10 wz => ∃ i : Nat, i ≤ k ∧ x9 = .int .i64 (fstD T M k i) ∧ x10 = .int .i64 (i : Nat) ∧ Hid (Below w1.heap.size w1 wz)) (fun _ x10 _ => k - (intOf x10).toNat)
          case atStart => exact ⟨0, Nat.zero_le _, rfl, rfl, hide (Below.refl _ _)⟩
          case round =>
            obtain ⟨i, hi, rfl, rfl, hZ⟩ := hrel
            by_cases hik : i < k
            · have hik' : (i : Int) < (k : Int) := by omega
              have hiT : (i : Int) < (T.length : Int) := by omega
              obtain ⟨bT', off', e', hbT', s0, s1, s2, s3⟩ := (HT.out.bel (bel_trans R1.out.bel hZ.out)).at i (by omega)
              injection e' with e'
              injection e' with e1 e2 _
              subst e1 e2
              have CE := hide (CX.out i)
              have FE := hide (FS.out i)
              have FN := hide (FB.out i)
              unfold kOf at FE
              obtain ⟨a, ha⟩ : ∃ a, a = T.getD i zE := ⟨_, rfl⟩
              rw [← ha] at CE FE s0 s1 s2 s3
              obtain ⟨ag, ak, ao, aa⟩ := a
              simp only at CE FE s0 s1 s2 s3
              clear ha
              have B2 := hide (bel_al hZ.out (.cells #[.int .i64 ag, .int .i64 ak, .int .i64 ao, .int .i64 aa] 47))
              have Y2 := hide (Go.Deep.blk_alloc_new wr (.cells #[.int .i64 ag, .int .i64 ak, .int .i64 ao, .int .i64 aa] 47))
              go_upto_region 12 with fail
              generalize wr.alloc (.cells #[.int .i64 ag, .int .i64 ak, .int .i64 ao, .int .i64 aa] 47) = w2 at *
              obtain ⟨bA, hbA⟩ : ∃ q, q = wr.heap.size := ⟨_, rfl⟩
              rw [← hbA] at Y2 ⊢
              clear hbA hZ s0 s1 s2 s3 hbT'
              have z0 := blk_cell ((B2.out.block _ (lt_of_blk X1.out)).trans X1.out) 0 _ rfl
              have z1 := blk_cell ((B2.out.block _ (lt_of_blk X1.out)).trans X1.out) 1 _ rfl
              have z2 := blk_cell ((B2.out.block _ (lt_of_blk X1.out)).trans X1.out) 2 _ rfl
              have y0 := blk_cell Y2.out 0 _ rfl
              have y1 := blk_cell Y2.out 1 _ rfl
              have y2 := blk_cell Y2.out 2 _ rfl
              have m0 := (HM.out.bel (bel_trans R1.out.bel B2.out)).top k hlt
              have m1 := (HM.out.bel (bel_trans R1.out.bel B2.out)).row k hlt i (by omega)
              generalize M k i = mki at *
              generalize hf : fstD T M k i = f at *
              generalize hcd : cand T M k i = cd at *
              have HF := hide hf
              have HCD := hide hcd
              clear hf hcd
              go_cut [86] from 46 to 87 (fun x86 wz => x86 = .bool (canX ag ak ao eg ek eo mki) ∧ wz = w2)
              case first =>
                by_cases o1 : ao = eo
                · subst o1
                  by_cases g1 : ag = eg
                  · subst g1
                    by_cases c1 : ak = 1
                    · subst c1
                      go_wp2_with fail
                      go_meet
                      case rel => exact ⟨by unfold canX; simp, rfl⟩
                    · have e1 : (ak == 1) = false := by simpa using c1
                      by_cases c2 : ak = 2
                      · subst c2
                        go_wp2_with fail
                        go_meet
                        case rel => exact ⟨by unfold canX; simp, rfl⟩
                      · have e2 : (ak == 2) = false := by simpa using c2
                        go_wp2_with fail
                        go_meet
                        case rel => exact ⟨by unfold canX; simp, rfl⟩
                  · have g2 : (ag == eg) = false := by simpa using g1
                    by_cases c1 : ak = 1
                    · subst c1
                      by_cases c3 : ek = 1
                      · subst c3
                        go_wp2_with fail
                        go_meet
                        case rel => exact ⟨by unfold canX; simp, rfl⟩
                      · have e3 : (ek == 1) = false := by simpa using c3
                        go_wp2_with fail
                        go_meet
                        case rel => exact ⟨by unfold canX; simp [g1, c3], rfl⟩
                    · have e1 : (ak == 1) = false := by simpa using c1
                      by_cases c2 : ak = 2
                      · subst c2
                        go_wp2_with fail
                        go_meet
                        case rel => exact ⟨by unfold canX; simp [g1], rfl⟩
                      · have e2 : (ak == 2) = false := by simpa using c2
                        go_wp2_with fail
                        go_meet
                        case rel => exact ⟨by unfold canX; simp [c1, c2], rfl⟩
                · have o2 : (ao != eo) = true := by simpa using o1
                  by_cases c1 : ak = 1
                  · subst c1
                    go_wp2_with fail
                    go_meet
                    case rel => exact ⟨by unfold canX; simp [o1], rfl⟩
                  · have e1 : (ak == 1) = false := by simpa using c1
                    by_cases c2 : ak = 2
                    · subst c2
                      go_wp2_with fail
                      go_meet
                      case rel => exact ⟨by unfold canX; simp [o1], rfl⟩
                    · have e2 : (ak == 2) = false := by simpa using c2
                      go_wp2_with fail
                      go_meet
                      case rel => exact ⟨by unfold canX; simp [c1, c2], rfl⟩
              case rest =>
                obtain ⟨rfl, hw⟩ := hcut
                have hw := hw.symm
                subst hw
                rw [CE.out]
                cases cd with
                | false =>
                  have E : Hid (fstD T M k (i + 1) = f) := hide (by rw [FE.out, if_neg (fun h => by cases h.1)])
                  clear CE FE FN
                  go_wp2_with fail
                  go_roundw
                  case rel => exact ⟨i + 1, by omega, by rw [E.out], by go_num, B2⟩
                  case measure => simp [intOf]; omega
                | true =>
                  go_upto_region 13 with fail
                  go_cut [111] from 87 to 112 (fun x111 wz => x111 = .bool (decide (f < 0) || decide (ak = 2) || (decide ((T.getD f.toNat zE).k = 1) && decide (ag ≤ (T.getD f.toNat zE).g))) ∧ Hid (Below w1.heap.size w1 wz))
                  case first =>
                    rcases FN.out with rfl | ⟨j, hj, rfl⟩
                    · go_quiet (fail)
                      have B3 := hide (below_drewN B2.out nq)
                      go_wp2_with fail
                      go_meet
                      case rel => exact ⟨by simp, B3⟩
                    · have hjT : (j : Int) < (T.length : Int) := by omega
                      have hj0 : ¬ (j : Int) < 0 := by omega
                      obtain ⟨bq, oq, eq, _, q0, q1, _, _⟩ := (HT.out.bel (bel_trans R1.out.bel B2.out)).at j (by omega)
                      injection eq with eq
                      injection eq with eq1 eq2 _
                      subst eq1 eq2
                      by_cases c2 : ak = 2
                      · subst c2
                        go_quiet (fail)
                        have B3 := hide (below_drewN B2.out nq)
                        go_wp2_with fail
                        go_meet
                        case rel => exact ⟨by simp, B3⟩
                      · have e2 : (ak == 2) = false := by simpa using c2
                        obtain ⟨jk, hjk⟩ : ∃ x, x = (T.getD j zE).k := ⟨_, rfl⟩
                        obtain ⟨jg, hjg⟩ : ∃ x, x = (T.getD j zE).g := ⟨_, rfl⟩
                        rw [← hjk] at q1
                        rw [← hjg] at q0
                        have HJ := hide (And.intro hjk hjg)
                        clear hjk hjg
                        by_cases c3 : jk = 1
                        · subst c3
                          go_quiet (fail)
                          have B3 := hide (below_drewN B2.out nq)
                          go_wp2_with fail
                          go_meet
                          case rel => exact ⟨by rw [Int.toNat_natCast, ← HJ.out.1, ← HJ.out.2]; simp [c2]; intro h; omega, B3⟩
                        · have e3 : (jk == 1) = false := by simpa using c3
                          go_quiet (fail)
                          have B3 := hide (below_drewN B2.out nq)
                          go_wp2_with fail
                          go_meet
                          case rel => exact ⟨by rw [Int.toNat_natCast, ← HJ.out.1, ← HJ.out.2]; simp [hj0, c2, c3], B3⟩
                  case rest =>
                    obtain ⟨rfl, hB3⟩ := hcut
                    cases p9 : (decide (f < 0) || decide (ak = 2) || (decide ((T.getD f.toNat zE).k = 1) && decide (ag ≤ (T.getD f.toNat zE).g))) with
                    | true =>
                      have E : Hid (fstD T M k (i + 1) = (i : Int)) := hide (by
                        rw [FE.out, if_pos]
                        refine ⟨rfl, ?_⟩
                        simp only [Bool.or_eq_true, Bool.and_eq_true, decide_eq_true_eq] at p9
                        rcases p9 with (h | h) | h
                        · exact .inl h
                        · exact .inr (.inl h)
                        · exact .inr (.inr h))
                      clear CE FE FN
                      go_wp2_with fail
                      go_roundw
                      case rel => exact ⟨i + 1, by omega, by rw [E.out], by go_num, hB3⟩
                      case measure => simp [intOf]; omega
                    | false =>
                      have E : Hid (fstD T M k (i + 1) = f) := hide (by
                        rw [FE.out, if_neg]
                        rintro ⟨_, h⟩
                        simp only [Bool.or_eq_false_iff, Bool.and_eq_false_iff, decide_eq_false_iff_not] at p9
                        rcases h with h | h | ⟨h1, h2⟩
                        · exact p9.1.1 h
                        · exact p9.1.2 h
                        · exact p9.2.elim (fun q => q h1) (fun q => q h2))
                      clear CE FE FN
                      go_wp2_with fail
                      go_roundw
                      case rel => exact ⟨i + 1, by omega, by rw [E.out], by go_num, hB3⟩
                      case measure => simp [intOf]; omega
            · obtain rfl : i = k := by omega
              have B2 := hide hZ.out
              have R2 := hide (R1.out.below B2.out)
              have X2 := hide ((B2.out.block _ (lt_of_blk X1.out)).trans X1.out)
              have FN := hide (FB.out i)
              generalize hf : fstD T M i i = f at *
              clear hf hZ CX FS FB X1 R1
              rcases FN.out with rfl | ⟨j, hj, rfl⟩
              · have E : Hid (docF T M (i + 1) = l) := hide (by rw [STEP.out, if_neg (fun h => h rfl)])
                clear STEP
                go_wp2_with fail
                go_roundw
                case rel => exact ⟨i + 1, b, c, by omega, by rw [E.out], by go_num, hide (by rw [E.out]; exact R2.out.more)⟩
                case measure => simp [intOf]; omega
              · have E := hide (STEP.out.trans (if_pos (by omega)))
                rw [Int.toNat_natCast] at E
                have hj0 : ¬ (j : Int) < 0 := by omega
                clear STEP
                obtain ⟨w3, hr3, hm3, hg3⟩ := R2.out.map.put (by unfold maxLen; omega) Tryd.underlying69 HO (.bool true)
                have hjT : (j : Int) < (T.length : Int) := by omega
                obtain ⟨bq, oq, eq, hbq, q0, q1, q2, q3⟩ := HT.out.at j (by omega)
                injection eq with eq
                injection eq with eq1 eq2 _
                subst eq1 eq2
                obtain ⟨fe, hfe⟩ : ∃ x, x = T.getD j zE := ⟨_, rfl⟩
                rw [← hfe] at E q0 q1 q2 q3
                obtain ⟨fg, fk, fo, fa⟩ := fe
                simp only at q0 q1 q2 q3
                clear hfe
                obtain ⟨es, cc, hmb⟩ := R2.out.map.blk
                have kp : ∀ k, k < wr.heap.size → k ≠ bm → w3.heap[k]? = wr.heap[k]? := fun k hk hne => hg3.block k hk (fun e => hne (Option.some.inj e))
                have B3 : Hid (Below w.heap.size w w3) := hide ⟨hg3.os.trans R2.out.bel.os, hg3.tape.trans R2.out.bel.tape, hg3.output.trans R2.out.bel.output, Nat.le_trans R2.out.bel.size hg3.size, fun k hk => (kp k (Nat.lt_of_lt_of_le hk R2.out.bel.size) (by have := R2.out.lm; omega)).trans (R2.out.bel.block k hk)⟩
                have X3 : Hid (w3.heap[bE]? = some (.cells #[.int .i64 eg, .int .i64 ek, .int .i64 eo, .int .i64 ea] 47 (0, 0))) := hide ((kp bE (lt_of_blk X2.out) (fun e => by
                  have h := X2.out
                  rw [e, hmb] at h
                  injection h with h
                  cases h)).trans X2.out)
                have O3 := hide (own_keep (w' := w3) R2.out.row (fun k hk => kp k (own_type R2.out.row hk).2.1 (fun e => by
                  have h : b = k := Option.some.inj hk
                  exact R2.out.ne (h.trans e))))
                obtain ⟨r, hrr⟩ : ∃ r, r = raceM ⟨fg, fk, fo, fa⟩ ⟨eg, ek, eo, ea⟩ := ⟨_, rfl⟩
                rw [← hrr] at E
                have RC : Hid (r.p = eo ∧ rcC r = [.int .i64 eo, .int .i64 fa, .int .i64 ea, .bool (fk == 2), .bool (ek == 2)]) := hide (by rw [hrr]; exact ⟨rfl, rfl⟩)
                have M3 : Hid (VMap w3 bm (i + 1) (.bool false) (dnF (insR r l))) := hide (by rw [← dnF_ins, RC.out.1]; exact hm3)
                have LM := hide R2.out.lm
                have LB := hide (show b < w3.heap.size from (own_type O3.out (k := b) rfl).2.1)
                have KS := hide (fun wz (hz : Below w3.heap.size w3 wz) => And.intro (((bel_trans B3.out hz).cell (p := ⟨bT, off + j * 4 + 1, none⟩) hbq).trans q1) (And.intro (((bel_trans B3.out hz).cell (p := ⟨bT, off + j * 4 + 3, none⟩) hbq).trans q3) ((hz.block _ (lt_of_blk X3.out)).trans X3.out)))
                have v2 := blk_cell X2.out 2 _ rfl
                clear hm3 hg3 kp hmb hrr q0 q1 q2 q3
                go_upto_region 17 with fail
                refine wp_region_T (S := fun wz => Below w3.heap.size w3 wz) (fun _ => true) mixed (Below.refl _ _).drew (fun hH => ?_)
                refine Tm 0 ?_
                simp only [Act.put, SA]
                refine Tl 1 (v := .int .i64 eo) ?_ hH ?_
                · (intro wy hSw; have q := blk_cell (KS.out wy hSw).2.2 2 _ rfl; clear hSw; go_simp <;> with_reducible rfl)
                simp only [Act.put, SA]
                refine Tm 2 ?_
                simp only [Act.put, SA]
                refine Tm 3 ?_
                simp only [Act.put, SA]
                refine Tm 4 ?_
                simp only [Act.put, SA]
                refine Tm 5 ?_
                simp only [Act.put, SA]
                refine Tl 6 (v := .int .i64 fa) ?_ hH ?_
                · (intro wy hSw; have q := (KS.out wy hSw).2.1; clear hSw; go_simp <;> with_reducible rfl)
                simp only [Act.put, SA]
                refine Tm 7 ?_
                simp only [Act.put, SA]
                refine Tl 8 (v := .int .i64 ea) ?_ hH ?_
                · (intro wy hSw; have q := blk_cell (KS.out wy hSw).2.2 3 _ rfl; clear hSw; go_simp <;> with_reducible rfl)
                simp only [Act.put, SA]
                refine Tm 9 ?_
                simp only [Act.put, SA]
                refine Tm 10 ?_
                simp only [Act.put, SA]
                refine Tm 11 ?_
                simp only [Act.put, SA]
                refine Tm 12 ?_
                simp only [Act.put, SA]
                refine Tl 13 (v := .int .i64 fk) ?_ hH ?_
                · (intro wy hSw; have q := (KS.out wy hSw).1; clear hSw; go_simp <;> with_reducible rfl)
                simp only [Act.put, SA]
                refine Tm 14 ?_
                simp only [Act.put, SA]
                refine Tm 15 ?_
                simp only [Act.put, SA]
                refine Tl 16 (v := .int .i64 ek) ?_ hH ?_
                · (intro wy hSw; have q := blk_cell (KS.out wy hSw).2.2 1 _ rfl; clear hSw; go_simp <;> with_reducible rfl)
                simp only [Act.put, SA]
                refine Tm 17 ?_
                simp only [Act.put, SA]
                refine Tm 18 ?_
                simp only [Act.put, SA]
                refine Tr 19 (fun K1 hK1 => ?_)
                go_simp
                have B4 := hide ((Below.refl w3.heap.size w3).drew.alloc (Nat.le_refl _) (.cells #[.int .i64 0, .int .i64 0, .int .i64 0, .bool false, .bool false] 54))
                have Z4 := hide (show (w3.drew.alloc (.cells #[.int .i64 0, .int .i64 0, .int .i64 0, .bool false, .bool false] 54)).heap[w3.heap.size]? = some (.cells #[.int .i64 0, .int .i64 0, .int .i64 0, .bool false, .bool false] 54 (0, 0)) from Go.Deep.blk_alloc_new w3.drew _)
                refine hK1.out _ _ (fun _ => B4.out) (fun _ => ?_)
                clear hK1 K1 hH
                refine Tr 20 (fun K1 hK1 => ?_)
                rw [if_pos (by rfl)]
                refine wp_store_row 54 (.tmp 12) (.tmp 136) rfl w3.heap.size (#[.int .i64 eo, .int .i64 fa, .int .i64 ea, .bool (fk == 2), .bool (ek == 2)]) rfl rfl _ _ Z4.out (by kernel_rfl) rfl (by simp [Value.oneCell']) ?_
                have B5 := hide (bel_row B4.out (Nat.le_refl _) (#[.int .i64 eo, .int .i64 fa, .int .i64 ea, .bool (fk == 2), .bool (ek == 2)]))
                have Z5 := hide (setRow_heap _ _ _ (#[.int .i64 eo, .int .i64 fa, .int .i64 ea, .bool (fk == 2), .bool (ek == 2)]) _ _ Z4.out)
                refine hK1.out _ _ (fun _ => B5.out) (fun _ => ?_)
                clear hK1 K1 B4 Z4
                refine T_done (by kernel_rfl) ?_ _
                simp only [Act.put, SA]
                have O5 := hide (own_keep (w' := _) O3.out (fun k hk => B5.out.block k (own_type O3.out hk).2.1))
                have M5 := hide (M3.out.keep (B5.out.block _ M3.out.lt))
                generalize hw5 : ((w3.alloc (.cells #[.int .i64 0, .int .i64 0, .int .i64 0, .bool false, .bool false] 54)).drew.setRow w3.heap.size (#[.int .i64 eo, .int .i64 fa, .int .i64 ea, .bool (fk == 2), .bool (ek == 2)])) = w5
                have B5 : Hid (Below w3.heap.size w3 w5) := by rw [← hw5]; exact B5
                have Z5 : Hid (w5.heap[w3.heap.size]? = some (.cells #[.int .i64 eo, .int .i64 fa, .int .i64 ea, .bool (fk == 2), .bool (ek == 2)] 54 (0, 0))) := by rw [← hw5]; exact Z5
                have O5 : Hid (w5.ownsRow w.heap.size 54 5 (.slice (some ⟨b, 0, none⟩) l.length c) l.length (l.flatMap rcC)) := by rw [← hw5]; exact O5
                have M5 : Hid (VMap w5 bm (i + 1) (.bool false) (dnF (insR r l))) := by rw [← hw5]; exact M5
                clear hw5
                have BW5 := hide (bel_trans B3.out B5.out)
                obtain ⟨bR, hbR⟩ : ∃ q, q = w3.heap.size := ⟨_, rfl⟩
                have BN : Hid (b ≠ bR) := hide (by have := LB.out; omega)
                rw [← hbR] at Z5 ⊢
                clear hbR KS O3 M3 LB
                go_wp2_with fail
                have SP := hide (fun s => insK_spec l eo s)
                go_loopw [13] (fun x13 wz => ∃ s : Nat, s ≤ l.length ∧ x13 = .int .i64 (s : Nat) ∧ Hid (insK l eo s = insK l eo l.length) ∧ Hid (Below w5.heap.size w5 wz)) (fun x13 _ => (intOf x13).toNat)
                case atStart => exact ⟨l.length, Nat.le_refl _, rfl, hide rfl, hide (Below.refl _ _)⟩
                case round =>
                  obtain ⟨s, hs, rfl, hK, hZ⟩ := hrel
                  have zRb := hide ((hZ.out.block _ (lt_of_blk Z5.out)).trans Z5.out)
                  have r0 := blk_cell zRb.out 0 _ rfl
                  have s8 : s ≤ 10000 := by have := DL.out; omega
                  by_cases hgo : 0 < s ∧ eo < (l.getD (s - 1) zR).p
                  · obtain ⟨s', rfl⟩ : ∃ s', s = s' + 1 := ⟨s - 1, by omega⟩
                    have O6 := own_keep (w' := wr) O5.out (fun k hk => hZ.out.block k (own_type O5.out hk).2.1)
                    have c0 : wr.cell? ⟨b, s' * 5, none⟩ = some (.int .i64 (l.getD s' zR).p) := (own_cell O6 (s' * 5 + 0) _ ((flat_rc l s' 0 (by omega) (by omega)).trans rfl)).1
                    have e1 : ((s' + 1 : Nat) : Int) - 1 = (s' : Nat) := by omega
                    have h2 := hgo.2
                    rw [Nat.add_sub_cancel] at h2
                    have hK2 : Hid (insK l eo s' = insK l eo l.length) := hide (by
                      have h := hK.out
                      rw [insK, if_pos h2] at h
                      exact h)
                    have hsl : (s' : Int) < (l.length : Int) := by omega
                    generalize (l.getD s' zR).p = lp at *
                    clear O6 hK hgo
                    go_upto_region 19 with fail
                    go_quiet (fail)
                    have B6 := hide (below_drewN hZ.out nq)
                    go_wp2_with fail
                    go_roundw
                    case rel => exact ⟨s', by omega, by first | rfl | rw [e1], hK2, B6⟩
                    case measure => simp [intOf]
                  · have KE : Hid (insK l eo l.length = s) := hide (by
                      rw [← hK.out]
                      cases s with
                      | zero => rfl
                      | succ s' => rw [insK, if_neg (fun h => hgo ⟨by omega, by rw [Nat.add_sub_cancel]; exact h⟩)])
                    have O6 := hide (own_keep (w' := wr) O5.out (fun k hk => hZ.out.block k (own_type O5.out hk).2.1))
                    have M6 := hide (M5.out.keep (hZ.out.block _ M5.out.lt))
                    have BW6 := hide (bel_trans BW5.out hZ.out)
                    have zZ := hZ
                    clear hK hZ O5 M5
                    go_upto_region 19 with fail
                    go_cut [151] from 139 to 152 (fun x151 wz => x151 = .bool false ∧ ∃ nq, wz = wr.drewN nq)
                    case first =>
                      cases s with
                      | zero =>
                        go_quiet (fail)
                        go_wp2_with fail
                        go_meet
                        case rel => exact ⟨by simp, nq, rfl⟩
                      | succ s' =>
                        have h2 : ¬ eo < (l.getD s' zR).p := fun h => hgo ⟨by omega, by rw [Nat.add_sub_cancel]; exact h⟩
                        have c0 : wr.cell? ⟨b, s' * 5, none⟩ = some (.int .i64 (l.getD s' zR).p) := (own_cell O6.out (s' * 5 + 0) _ ((flat_rc l s' 0 (by omega) (by omega)).trans rfl)).1
                        have hsl : (s' : Int) < (l.length : Int) := by omega
                        generalize (l.getD s' zR).p = lp at *
                        clear hgo KE
                        go_quiet (fail)
                        go_wp2_with fail
                        go_meet
                        case rel => exact ⟨by simp, nq, rfl⟩
                    case rest =>
                      obtain ⟨rfl, nq, rfl⟩ := hcut
                      have hd : Below wr.heap.size wr (wr.drewN nq) := below_drewN (Below.refl _ _) nq
                      have O7 := hide (own_keep (w' := wr.drewN nq) O6.out (fun k hk => hd.block k (own_type O6.out hk).2.1))
                      have M7 := hide (M6.out.keep (hd.block _ M6.out.lt))
                      have BW7 := hide (bel_trans BW6.out hd)
                      have Z7 := hide ((hd.block _ (lt_of_blk zRb.out)).trans zRb.out)
                      generalize wr.drewN nq = w7 at *
                      clear hd O6 M6 BW6 zRb r0 zZ SP hgo
                      have hsc : s ≤ c := by
                        obtain ⟨_, _, e, h1, _⟩ := own_slice O7.out
                        injection e with _ _ e
                        omega
                      have hlc : l.length ≤ c := by
                        obtain ⟨_, _, e, h1, _⟩ := own_slice O7.out
                        injection e with _ _ e
                        omega
                      go_upto_region 21 with fail
                      refine wp_region_T (S := fun wz => wz.heap[bR]? = some (.cells #[.int .i64 eo, .int .i64 fa, .int .i64 ea, .bool (fk == 2), .bool (ek == 2)] 54 (0, 0))) (fun _ => true) mixed Z7.out (fun hH => ?_)
                      refine Tm 0 ?_
                      simp only [Act.put, SA]
                      refine Tm 1 ?_
                      simp only [Act.put, SA]
                      refine Tm 2 ?_
                      simp only [Act.put, SA]
                      refine Tl 3 (v := .agg #[.int .i64 eo, .int .i64 fa, .int .i64 ea, .bool (fk == 2), .bool (ek == 2)]) ?_ hH ?_
                      · (intro wy hSw; refine exec_load_row 54 (.tmp 12) ?_ bR ?_ _ _ _ _ hSw Tryd.underlying54 rfl (by kernel_rfl) <;> rfl)
                      simp only [Act.put, SA]
                      refine Tm 5 ?_
                      simp only [Act.put, SA]
                      refine Tm 6 ?_
                      simp only [Act.put, SA]
                      refine Tm 7 ?_
                      simp only [Act.put, SA]
                      refine Tr 4 (fun K1 hK1 => ?_)
                      go_simp
                      have hb1 := bel_new w7.drew (.cells #[.int .i64 eo, .int .i64 fa, .int .i64 ea, .bool (fk == 2), .bool (ek == 2)] 54)
                      refine hK1.out _ _ (fun _ => (hb1.block _ (lt_of_blk Z7.out)).trans Z7.out) (fun _ => ?_)
                      clear hK1 K1 hH
                      refine Tr 8 (fun K1 hK1 => ?_)
                      rw [if_pos (by rfl)]
                      have IT : ∀ ty, ∃ v' w', (Builtin.append_ #[43, 43] ty #[.slice (some ⟨w7.heap.size, 0, none⟩) 1 1, .slice (if c = s then some ⟨b, 0, none⟩ else some ⟨b, s * 5, none⟩) (l.length - s) (c - s)]).run Tryd.prog (w7.drew.alloc (.cells #[.int .i64 eo, .int .i64 fa, .int .i64 ea, .bool (fk == 2), .bool (ek == 2)] 54)) = .ok v' w' ∧ ((∃ b2 c2, v' = .slice (some ⟨b2, 0, none⟩) (l.length - s + 1) c2 ∧ w7.heap.size ≤ b2 ∧ w'.ownsRow w7.heap.size 54 5 (.slice (some ⟨b2, 0, none⟩) (l.length - s + 1) c2) (l.length - s + 1) ((r :: l.drop s).flatMap rcC)) ∧ Below w7.heap.size w7.drew w') := fun ty => by
                        have hz : (rcC r).toArray = #[.int .i64 eo, .int .i64 fa, .int .i64 ea, .bool (fk == 2), .bool (ek == 2)] := by rw [RC.out.2]
                        have od : w7.drew.ownsRow w.heap.size 54 5 (.slice (some ⟨b, 0, none⟩) l.length c) l.length (l.flatMap rcC) := O7.out
                        rw [← hz]
                        by_cases hcs : c = s
                        · rw [if_pos hcs]
                          exact ins_tail (w := w7.drew) r od (by have := DL.out; omega) hs ty _ rfl _ _ (.inl (by omega))
                        · rw [if_neg hcs]
                          exact ins_tail (w := w7.drew) r od (by have := DL.out; omega) hs ty _ rfl _ _ (.inr rfl)
                      refine wp_appG (TS := 43) (.tmp 158) (.tmp 161) _ _ _ IT rfl rfl rfl ?_
                      rintro v8 w8 ⟨⟨b2, c2, rfl, hb2, o8⟩, hb8⟩
                      have B8 := hide hb8
                      have O8 := hide o8
                      refine hK1.out _ _ (fun _ => (hb8.block bR (lt_of_blk Z7.out)).trans Z7.out) (fun _ => ?_)
                      clear hK1 K1 hb1 IT hb8 o8
                      refine Tr 9 (fun K1 hK1 => ?_)
                      rw [if_pos (by rfl)]
                      have OL := hide (own_keep (w' := w8) O7.out (fun k hk => B8.out.block k (own_type O7.out hk).2.1))
                      have BW8 := hide (bel_trans BW7.out (show Below w7.heap.size w7 w8 from ⟨B8.out.os, B8.out.tape, B8.out.output, B8.out.size, B8.out.block⟩))
                      refine wp_appG (TS := 43) (.tmp 156) (.tmp 162) _ _ _ (fun ty => ins_head r OL.out (by have := DL.out; omega) hs BW8.out.size ty rfl O8.out) rfl rfl rfl ?_
                      rintro v9 w9 ⟨⟨b3, c3, rfl⟩, o9, g9⟩
                      have O9 := hide o9
                      have G9 := hide g9
                      refine hK1.out _ _ (fun _ => ((g9.block bR (Nat.lt_of_lt_of_le (lt_of_blk Z7.out) B8.out.size) (fun e => BN.out (Option.some.inj e).symm)).trans (B8.out.block bR (lt_of_blk Z7.out))).trans Z7.out) (fun _ => ?_)
                      clear hK1 K1 o9 g9
                      refine Tm 10 ?_
                      simp only [Act.put, SA]
                      refine T_done (by kernel_rfl) ?_ _
                      have EI : Hid (insR r l = l.take s ++ r :: l.drop s) := hide (by unfold insR; rw [RC.out.1, KE.out])
                      have EL : Hid ((insR r l).length = l.length + 1) := hide (by rw [(insR_perm r l).length_eq]; rfl)
                      have hbl : w.heap.size ≤ b := (own_type O7.out (k := b) rfl).1
                      have BW9 : Hid (Below w.heap.size w w9) := hide ⟨G9.out.os.trans BW8.out.os, G9.out.tape.trans BW8.out.tape, G9.out.output.trans BW8.out.output, Nat.le_trans BW8.out.size G9.out.size, fun k hk => (G9.out.block k (Nat.lt_of_lt_of_le hk BW8.out.size) (fun e => by have := Option.some.inj e; omega)).trans (BW8.out.block k hk)⟩
                      have M9 := hide (M7.out.keep (((G9.out.block bm (Nat.lt_of_lt_of_le M7.out.lt B8.out.size) (fun e => R2.out.ne (Option.some.inj e).symm)).trans (B8.out.block bm M7.out.lt))))
                      have NEW : Hid (Rb w w9 bm b3 c3 (insR r l) (i + 1)) := hide ⟨M9.out, by rw [EL.out, EI.out]; exact O9.out, LM.out, BW9.out⟩
                      clear O8 OL O9 G9 M9 BW9 EI KE hbl
                      go_wp2_with fail
                      go_roundw
                      case rel => exact ⟨i + 1, b3, c3, by omega, by rw [E.out, EL.out], by go_num, hide (by rw [E.out]; exact NEW.out)⟩
                      case measure => simp [intOf]; omega
    · obtain rfl : k = T.length := by omega
      have B1 := hide hI.out.bel
      have S1 := hide (SlR.own hI.out.row)
      clear hI
      go_wp2_with fail
      go_ret
      exact ⟨.slice (some ⟨b, 0, none⟩) (docF T M T.length).length c, rfl, B1.out, S1.out⟩
end Go.Proofs.YticgmebbnnmikaaDoor.Ck
