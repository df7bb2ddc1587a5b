/- The contract of the document's New: the walk. -/
import Derived.Test.YtejhhkhaoekkiaaDoorRNew
import Derived.Deep.RegionLaw
import Derived.Deep.CutRange
namespace Go.Proofs.YtejhhkhaoekkiaaDoor.Ck
open Go.RowKit

theorem step_appW {w : World} {ops : Array Oper} {o : Oper} {a : Act} {K : Act → World → Prop} {Q : Exit → Act → World → Prop} {E : Prop} (s x : Operand) (v vx : Value) (R : Value → World → Prop)
    (hrun : ∀ ty, ∃ v' w', (Builtin.append_ #[47, 47] ty #[v, vx]).run Tryd.prog w = .ok v' w' ∧ R v' w') (hgd : o.guard = none)
    (ho : o.op = .call { callee := .builtin .append, args := #[s, x], argTypes := #[47, 47] }) (hs : a.eval s = v) (hx : a.eval x = vx)
    (h : ∀ v' w', R v' w' → K (a.put o.dst v') w') : if Region.wanted o (yielded ops a.tmps) = true then Oper.wp Tryd.prog o a w K Q else E := by
  have hw : Region.wanted o (yielded ops a.tmps) = true := by simp [Region.wanted, hgd]
  rw [if_pos hw]
  obtain ⟨v', w', hr, hR⟩ := hrun o.type
  unfold Oper.wp execOp
  simp only [ho, resolve, invoke, builtin, Sem.run_bind, Sem.run_pure, Result.andThen_ok, List.map_toArray, List.map_cons, List.map_nil, hs, hx, hr]
  exact h v' w' hR

set_option maxRecDepth 20000 in
set_option maxHeartbeats 2000000 in
theorem rnew_any (w : World) :
    Calls Tryd.prog 7 #[] w fun e w' => ∃ vS vT, e = .returned (.pointer (some ⟨w.heap.size, 0, none⟩)) ∧ Hs w w' w.heap.size vS vT start8 kTab := by
  obtain ⟨gh, egh⟩ : ∃ gh, gh = w.heap.size := ⟨_, rfl⟩
  have Eg := hide egh
  have Hg : Hid (w.heap.size ≤ gh) := by show _ ≤ _; omega
  go_enter Tryd.func7, Tryd.ntmps7
  go_wp2_with fail
  rw [← Eg.out]
  have b0 : Blk (w.alloc (.cells #[.slice none 0 0, .slice none 0 0] 49)) gh 49 [.slice none 0 0, .slice none 0 0] := by rw [Eg.out]; exact Blk.new w [.slice none 0 0, .slice none 0 0] 49
  have bl0 : Below w.heap.size w (w.alloc (.cells #[.slice none 0 0, .slice none 0 0] 49)) := bel_new _ _
  clear egh
  generalize w.alloc (.cells #[.slice none 0 0, .slice none 0 0] 49) = w0 at *
  go_loopw [2] (fun p wr => ∃ (P : Nat) (vS vT : Value), 2 ≤ P ∧ P ≤ 312 ∧ p = .int .u64 P ∧ Hs w wr gh vS vT (startL P) (turnsL P)) (fun p _ => 312 - (intOf p).toNat)
  case atStart => exact ⟨2, _, _, Nat.le_refl _, by decide, rfl, ⟨b0, Nw.nilS _ _, Nw.nilS _ _, (fun _ h => by cases h), bl0⟩⟩
  case round =>
    obtain ⟨P, vS, vT, hP2, hP, rfl, h⟩ := hrel
    obtain ⟨aS, cS, eS, _⟩ := h.s.form
    obtain ⟨aT, cT, eT, _⟩ := h.t.form
    subst eS eT
    have q0 := h.blk.cell 0
    have q1 := h.blk.cell 1
    simp only [List.getElem?_cons_zero, List.getElem?_cons_succ] at q0 q1
    obtain ⟨nS, enS⟩ : ∃ nS, nS = (startL P).length := ⟨_, rfl⟩
    obtain ⟨nT, enT⟩ : ∃ nT, nT = (turnsL P).length := ⟨_, rfl⟩
    rw [← enS] at h q0
    rw [← enT] at h q1
    have ES := hide enS
    have ET := hide enT
    by_cases hlt : P < 312
    · have hnT : nT ≤ 63 := by rw [enT]; unfold turnsL; rw [List.length_map]; exact primes_lt P (by omega)
      have hnS : nS ≤ 8 := by rw [enS]; simp [startL]; omega
      have iT : (nT : Int) < 64 := by omega
      clear enS enT
      go_wp2_with fail
      go_loop [3, 4] (fun b q => ∃ Q : Nat, 2 ≤ Q ∧ Q ≤ 18 ∧ q = .int .u64 Q ∧ b = .bool (prB P Q)) (fun _ q => 20 - (intOf q).toNat)
      case atStart => exact ⟨2, Nat.le_refl _, by decide, rfl, rfl⟩
      case round =>
        obtain ⟨Q, hQ2, hQ, rfl, rfl⟩ := hrel
        obtain ⟨sq, esq⟩ : ∃ sq, sq = Q * Q := ⟨_, rfl⟩
        have hsq : (Q : Int) * (Q : Int) = (sq : Int) := by rw [esq, Int.natCast_mul]
        have hsq2 : sq ≤ 324 := by rw [esq]; exact Nat.mul_le_mul hQ hQ
        by_cases hle : sq ≤ P
        · obtain ⟨r, er⟩ : ∃ r, r = P % Q := ⟨_, rfl⟩
          have hr : (P : Int) % (Q : Int) = (r : Int) := by rw [er, Int.natCast_emod]
          have hQ17 : Q ≤ 17 := by
            rcases Nat.lt_or_ge Q 18 with h' | h'
            · omega
            · have : 18 * 18 ≤ Q * Q := Nat.mul_le_mul h' h'
              omega
          have hi1 : (sq : Int) ≤ (P : Int) := by omega
          have hQ0 : ¬ ((Q : Int) = 0) := by omega
          have EP : Hid (prB P (Q + 1) = (prB P Q && (r != 0))) := by
            show _ = _
            rw [prB_succ, decide_eq_false (show ¬ Q < 2 by omega), decide_eq_false (show ¬ P < Q * Q by omega), ← er]
            simp
          clear esq er
          by_cases hr0 : r = 0
          · subst hr0
            have E2 : Hid (prB P (Q + 1) = false) := by show _ = _; rw [EP.out]; simp
            generalize prB P Q = bq at *
            go_wp2_with fail
            go_round
            case rel => exact ⟨Q + 1, by omega, by omega, by go_num, by rw [E2.out]⟩
            case measure => simp [intOf]; omega
          · have hrb : ((r : Int) == 0) = false := by rw [beq_eq_false_iff_ne]; omega
            have E2 : Hid (prB P (Q + 1) = prB P Q) := by show _ = _; rw [EP.out]; simp [hr0]
            have hrn : ¬ ((r : Int) = 0) := by omega
            generalize prB P Q = bq at *
            go_wp2_with fail
            go_round
            case rel => exact ⟨Q + 1, by omega, by omega, by go_num, by rw [E2.out]⟩
            case measure => simp [intOf]; omega
        · have hi1 : (P : Int) < (sq : Int) := by omega
          have EI : Hid (prB P Q = isP P) := prB_18 P Q (by omega) hQ
          rw [EI.out]
          clear EI
          cases hp : isP P with
          | false =>
            have hsm := same_succ P hP2 hp
            have HSM := hide hsm
            clear esq hsm
            go_wp2_with fail
            go_roundw
            case rel => exact ⟨P + 1, _, _, by omega, by omega, by go_num, by rw [HSM.out.1, HSM.out.2]; exact h⟩
            case measure => simp [intOf]; omega
          | true =>
            have hst := hide (startL_succ P hP2 hp)
            have htu := hide (turnsL_succ P hP2 hp)
            clear esq
            have hp4 : (0 : Int) ≤ (P : Int) ∧ (P : Int) < 4294967296 := by omega
            have hf0 := h.blk.frozen 0
            have hf1 := h.blk.frozen 1
            by_cases h8 : nS < 8
            · have i8 : (nS : Int) < 8 := by omega
              have est : Hid (startL (P + 1) = startL P ++ [fracP (P : Int) 2]) := by show _ = _; rw [hst.out, if_pos (by rw [← ES.out]; exact h8)]
              have hD := h.drew
              have HP := hide (fun ty => Nw.push (x := fracP (P : Int) 2) ty hD.s hD.t hD.dj (by rw [← ES.out]; omega) (show gh + 1 ≤ wr.drew.heap.size from h.blk.lt))
              have q0a : ∀ o : Obj, (wr.alloc o).cell? ⟨gh, 0, none⟩ = some (.slice aS nS cS) := fun o => ((bel_new _ o).cell (p := ⟨gh, 0, none⟩) h.blk.lt).trans q0
              go_wp2_with fail
              go_cut [34] from 34 to 44 (fun _ wc => ∃ v, Hs w wc gh v (.slice aT nT cT) (startL P ++ [fracP (P : Int) 2]) (turnsL P))
              case first =>
                refine wp_region_any mixed ?_
                change wpAny _ _ _ _ _ _ _ (World.drew _)
                refine wpAny_take (i := 0) (v := .pointer (some ⟨gh, 0, none⟩)) rfl (by kernel_rfl) (by kernel_rfl) (by kernel_rfl) (fun _ _ _ h => h) (Or.inl ⟨by rfl, fun w => by go_simp⟩) ?_
                refine wpAny_take (i := 1) (v := .pointer (some ⟨gh, 0, none⟩)) rfl (by kernel_rfl) (by kernel_rfl) (by kernel_rfl) (fun _ _ _ h => h) (Or.inl ⟨by rfl, fun w => by go_simp⟩) ?_
                refine wpAny_take (i := 2) (v := .pointer (some ⟨gh, 0, none⟩)) rfl (by kernel_rfl) (by kernel_rfl) (by kernel_rfl) (fun _ _ _ h => h) (Or.inl ⟨by rfl, fun w => by go_simp⟩) ?_
                refine wpAny_take (i := 3) (v := .pointer (some ⟨gh, 0, none⟩)) rfl (by kernel_rfl) (by kernel_rfl) (by kernel_rfl) (fun _ _ _ h => h) (Or.inl ⟨by rfl, fun w => by go_simp⟩) ?_
                refine wpAny_take (i := 5) (v := .int .u64 (P : Int)) rfl (by kernel_rfl) (by kernel_rfl) (by kernel_rfl) (fun _ _ _ h => h) (Or.inl ⟨by rfl, fun w => by go_simp⟩) ?_
                refine wpAny_ready (rs := [4, 6]) (by kernel_rfl) (by decide) ?_
                refine AllReady.cons rfl (fun K1 hK1 => ?_) (AllReady.cons rfl (fun K1 hK1 => ?_) AllReady.nil)
                · go_simp
                  refine hK1 _ _ ?_
                  clear hK1 K1
                  refine wpAny_ready (rs := [6]) (by kernel_rfl) (by decide) ?_
                  refine AllReady.cons rfl (fun K1 hK1 => ?_) AllReady.nil
                  go_simp
                  refine (fraction_any (P : Int) 2 (Or.inl rfl) hp4 _).mono ?_
                  rintro e w' ⟨rfl, rfl⟩
                  refine hK1 _ _ ?_
                  clear hK1 K1
                  refine wpAny_ready (rs := [7]) (by kernel_rfl) (by decide) ?_
                  refine AllReady.cons rfl (fun K1 hK1 => ?_) AllReady.nil
                  go_simp
                  refine hK1 _ _ ?_
                  clear hK1 K1
                  refine wpAny_ready (rs := [8]) (by kernel_rfl) (by decide) ?_
                  refine AllReady.cons rfl (fun K1 hK1 => ?_) AllReady.nil
                  refine step_appW (.tmp 38) (.tmp 41) _ _ _ HP.out rfl rfl rfl rfl ?_
                  rintro v5 w5 ⟨o5, u5, j5, b5⟩
                  obtain ⟨a5, c5, e5, _⟩ := o5.form
                  have j5 := hide j5
                  have o5 := hide o5
                  have u5 := hide u5
                  obtain ⟨n5, en5⟩ : ∃ n5, n5 = (startL P ++ [fracP (P : Int) 2]).length := ⟨_, rfl⟩
                  rw [← en5] at e5
                  clear en5
                  subst e5
                  have k5 : Blk w5 gh 49 _ := (b5.block gh (by omega)).trans hD.blk
                  have k6 := k5.cell 0
                  have k7 := k5.frozen 0
                  simp only [List.getElem?_cons_zero] at k6
                  refine hK1 _ _ ?_
                  clear hK1 K1
                  refine wpAny_ready (rs := [9]) (by kernel_rfl) (by decide) ?_
                  refine AllReady.cons rfl (fun K1 hK1 => ?_) AllReady.nil
                  go_simp
                  refine hK1 _ _ ?_
                  clear hK1 K1
                  refine wpAny_ready (rs := [10]) (by kernel_rfl) (by decide) ?_
                  refine AllReady.cons rfl (fun K1 hK1 => ?_) AllReady.nil
                  go_simp
                  refine hK1 _ _ ?_
                  clear hK1 K1
                  refine wpAny_ready (rs := [11]) (by kernel_rfl) (by decide) ?_
                  refine AllReady.cons rfl (fun K1 hK1 => ?_) AllReady.nil
                  go_simp
                  refine hK1 _ _ ?_
                  clear hK1 K1
                  refine wpAny_done (by kernel_rfl) ?_ _
                  have hS := hD.set0 Hg.out o5.out u5.out j5.out b5
                  go_wp2_with fail
                  go_meet
                  case rel => exact ⟨_, hS⟩
                · go_simp
                  refine (fraction_any (P : Int) 2 (Or.inl rfl) hp4 _).mono ?_
                  rintro e w' ⟨rfl, rfl⟩
                  refine hK1 _ _ ?_
                  clear hK1 K1
                  refine wpAny_ready (rs := [4, 7]) (by kernel_rfl) (by decide) ?_
                  refine AllReady.cons rfl (fun K1 hK1 => ?_) (AllReady.cons rfl (fun K1 hK1 => ?_) AllReady.nil)
                  · go_simp
                    refine hK1 _ _ ?_
                    clear hK1 K1
                    refine wpAny_ready (rs := [7]) (by kernel_rfl) (by decide) ?_
                    refine AllReady.cons rfl (fun K1 hK1 => ?_) AllReady.nil
                    go_simp
                    refine hK1 _ _ ?_
                    clear hK1 K1
                    refine wpAny_ready (rs := [8]) (by kernel_rfl) (by decide) ?_
                    refine AllReady.cons rfl (fun K1 hK1 => ?_) AllReady.nil
                    refine step_appW (.tmp 38) (.tmp 41) _ _ _ HP.out rfl rfl rfl rfl ?_
                    rintro v5 w5 ⟨o5, u5, j5, b5⟩
                    obtain ⟨a5, c5, e5, _⟩ := o5.form
                    have j5 := hide j5
                    have o5 := hide o5
                    have u5 := hide u5
                    obtain ⟨n5, en5⟩ : ∃ n5, n5 = (startL P ++ [fracP (P : Int) 2]).length := ⟨_, rfl⟩
                    rw [← en5] at e5
                    clear en5
                    subst e5
                    have k5 : Blk w5 gh 49 _ := (b5.block gh (by omega)).trans hD.blk
                    have k6 := k5.cell 0
                    have k7 := k5.frozen 0
                    simp only [List.getElem?_cons_zero] at k6
                    refine hK1 _ _ ?_
                    clear hK1 K1
                    refine wpAny_ready (rs := [9]) (by kernel_rfl) (by decide) ?_
                    refine AllReady.cons rfl (fun K1 hK1 => ?_) AllReady.nil
                    go_simp
                    refine hK1 _ _ ?_
                    clear hK1 K1
                    refine wpAny_ready (rs := [10]) (by kernel_rfl) (by decide) ?_
                    refine AllReady.cons rfl (fun K1 hK1 => ?_) AllReady.nil
                    go_simp
                    refine hK1 _ _ ?_
                    clear hK1 K1
                    refine wpAny_ready (rs := [11]) (by kernel_rfl) (by decide) ?_
                    refine AllReady.cons rfl (fun K1 hK1 => ?_) AllReady.nil
                    go_simp
                    refine hK1 _ _ ?_
                    clear hK1 K1
                    refine wpAny_done (by kernel_rfl) ?_ _
                    have hS := hD.set0 Hg.out o5.out u5.out j5.out b5
                    go_wp2_with fail
                    go_meet
                    case rel => exact ⟨_, hS⟩
                  · go_simp
                    refine hK1 _ _ ?_
                    clear hK1 K1
                    refine wpAny_ready (rs := [4]) (by kernel_rfl) (by decide) ?_
                    refine AllReady.cons rfl (fun K1 hK1 => ?_) AllReady.nil
                    go_simp
                    refine hK1 _ _ ?_
                    clear hK1 K1
                    refine wpAny_ready (rs := [8]) (by kernel_rfl) (by decide) ?_
                    refine AllReady.cons rfl (fun K1 hK1 => ?_) AllReady.nil
                    refine step_appW (.tmp 38) (.tmp 41) _ _ _ HP.out rfl rfl rfl rfl ?_
                    rintro v5 w5 ⟨o5, u5, j5, b5⟩
                    obtain ⟨a5, c5, e5, _⟩ := o5.form
                    have j5 := hide j5
                    have o5 := hide o5
                    have u5 := hide u5
                    obtain ⟨n5, en5⟩ : ∃ n5, n5 = (startL P ++ [fracP (P : Int) 2]).length := ⟨_, rfl⟩
                    rw [← en5] at e5
                    clear en5
                    subst e5
                    have k5 : Blk w5 gh 49 _ := (b5.block gh (by omega)).trans hD.blk
                    have k6 := k5.cell 0
                    have k7 := k5.frozen 0
                    simp only [List.getElem?_cons_zero] at k6
                    refine hK1 _ _ ?_
                    clear hK1 K1
                    refine wpAny_ready (rs := [9]) (by kernel_rfl) (by decide) ?_
                    refine AllReady.cons rfl (fun K1 hK1 => ?_) AllReady.nil
                    go_simp
                    refine hK1 _ _ ?_
                    clear hK1 K1
                    refine wpAny_ready (rs := [10]) (by kernel_rfl) (by decide) ?_
                    refine AllReady.cons rfl (fun K1 hK1 => ?_) AllReady.nil
                    go_simp
                    refine hK1 _ _ ?_
                    clear hK1 K1
                    refine wpAny_ready (rs := [11]) (by kernel_rfl) (by decide) ?_
                    refine AllReady.cons rfl (fun K1 hK1 => ?_) AllReady.nil
                    go_simp
                    refine hK1 _ _ ?_
                    clear hK1 K1
                    refine wpAny_done (by kernel_rfl) ?_ _
                    have hS := hD.set0 Hg.out o5.out u5.out j5.out b5
                    go_wp2_with fail
                    go_meet
                    case rel => exact ⟨_, hS⟩
              case rest =>
                obtain ⟨v6, hS⟩ := hcut
                clear q0 q1 hf0 hf1 hD HP q0a
                have hE := hS.drew
                have HQ := hide (fun ty => Nw.push (x := fracP (P : Int) 3) ty hE.t hE.s hE.dj.symm (by rw [← ET.out]; omega) (show gh + 1 ≤ wc.drew.heap.size from hS.blk.lt))
                have q1 := hS.blk.cell 1
                simp only [List.getElem?_cons_zero, List.getElem?_cons_succ] at q1
                have q1a : ∀ o : Obj, (wc.alloc o).cell? ⟨gh, 1, none⟩ = some (.slice aT nT cT) := fun o => ((bel_new _ o).cell (p := ⟨gh, 1, none⟩) hS.blk.lt).trans q1
                go_wp2_with fail
                refine wp_region_any mixed ?_
                change wpAny _ _ _ _ _ _ _ (World.drew _)
                refine wpAny_take (i := 0) (v := .pointer (some ⟨gh, 0, none⟩)) rfl (by kernel_rfl) (by kernel_rfl) (by kernel_rfl) (fun _ _ _ h => h) (Or.inl ⟨by rfl, fun w => by go_simp⟩) ?_
                refine wpAny_take (i := 1) (v := .pointer (some ⟨gh, 0, none⟩)) rfl (by kernel_rfl) (by kernel_rfl) (by kernel_rfl) (fun _ _ _ h => h) (Or.inl ⟨by rfl, fun w => by go_simp⟩) ?_
                refine wpAny_take (i := 2) (v := .pointer (some ⟨gh, 0, none⟩)) rfl (by kernel_rfl) (by kernel_rfl) (by kernel_rfl) (fun _ _ _ h => h) (Or.inl ⟨by rfl, fun w => by go_simp⟩) ?_
                refine wpAny_take (i := 3) (v := .pointer (some ⟨gh, 1, none⟩)) rfl (by kernel_rfl) (by kernel_rfl) (by kernel_rfl) (fun _ _ _ h => h) (Or.inl ⟨by rfl, fun w => by go_simp⟩) ?_
                refine wpAny_take (i := 5) (v := .int .u64 (P : Int)) rfl (by kernel_rfl) (by kernel_rfl) (by kernel_rfl) (fun _ _ _ h => h) (Or.inl ⟨by rfl, fun w => by go_simp⟩) ?_
                refine wpAny_ready (rs := [4, 6]) (by kernel_rfl) (by decide) ?_
                refine AllReady.cons rfl (fun K1 hK1 => ?_) (AllReady.cons rfl (fun K1 hK1 => ?_) AllReady.nil)
                · go_simp
                  refine hK1 _ _ ?_
                  clear hK1 K1
                  refine wpAny_ready (rs := [6]) (by kernel_rfl) (by decide) ?_
                  refine AllReady.cons rfl (fun K1 hK1 => ?_) AllReady.nil
                  go_simp
                  refine (fraction_any (P : Int) 3 (Or.inr rfl) hp4 _).mono ?_
                  rintro e w' ⟨rfl, rfl⟩
                  refine hK1 _ _ ?_
                  clear hK1 K1
                  refine wpAny_ready (rs := [7]) (by kernel_rfl) (by decide) ?_
                  refine AllReady.cons rfl (fun K1 hK1 => ?_) AllReady.nil
                  go_simp
                  refine hK1 _ _ ?_
                  clear hK1 K1
                  refine wpAny_ready (rs := [8]) (by kernel_rfl) (by decide) ?_
                  refine AllReady.cons rfl (fun K1 hK1 => ?_) AllReady.nil
                  refine step_appW (.tmp 49) (.tmp 52) _ _ _ HQ.out rfl rfl rfl rfl ?_
                  rintro v5 w5 ⟨o5, u5, j5, b5⟩
                  obtain ⟨a5, c5, e5, _⟩ := o5.form
                  have j5 := hide j5
                  have o5 := hide o5
                  have u5 := hide u5
                  obtain ⟨n5, en5⟩ : ∃ n5, n5 = (turnsL P ++ [fracP (P : Int) 3]).length := ⟨_, rfl⟩
                  rw [← en5] at e5
                  clear en5
                  subst e5
                  have k5 : Blk w5 gh 49 _ := (b5.block gh (by omega)).trans hE.blk
                  have k6 := k5.cell 1
                  have k7 := k5.frozen 1
                  simp only [List.getElem?_cons_zero, List.getElem?_cons_succ] at k6
                  refine hK1 _ _ ?_
                  clear hK1 K1
                  refine wpAny_ready (rs := [9]) (by kernel_rfl) (by decide) ?_
                  refine AllReady.cons rfl (fun K1 hK1 => ?_) AllReady.nil
                  go_simp
                  refine hK1 _ _ ?_
                  clear hK1 K1
                  refine wpAny_ready (rs := [10]) (by kernel_rfl) (by decide) ?_
                  refine AllReady.cons rfl (fun K1 hK1 => ?_) AllReady.nil
                  go_simp
                  refine hK1 _ _ ?_
                  clear hK1 K1
                  refine wpAny_ready (rs := [11]) (by kernel_rfl) (by decide) ?_
                  refine AllReady.cons rfl (fun K1 hK1 => ?_) AllReady.nil
                  go_simp
                  refine hK1 _ _ ?_
                  clear hK1 K1
                  refine wpAny_done (by kernel_rfl) ?_ _
                  have hS := hE.set1 Hg.out o5.out u5.out j5.out b5
                  go_wp2_with fail
                  go_roundw
                  case rel => first | exact ⟨P + 1, _, _, by omega, by omega, by go_num, by rw [htu.out, est.out]; exact hS⟩ | ((repeat apply Exists.intro); exact ⟨⟨P + 1, _, _, by omega, by omega, by go_num, by rw [htu.out, est.out]; exact hS⟩, rfl⟩)
                  case measure => simp [intOf]; omega
                · go_simp
                  refine (fraction_any (P : Int) 3 (Or.inr rfl) hp4 _).mono ?_
                  rintro e w' ⟨rfl, rfl⟩
                  refine hK1 _ _ ?_
                  clear hK1 K1
                  refine wpAny_ready (rs := [4, 7]) (by kernel_rfl) (by decide) ?_
                  refine AllReady.cons rfl (fun K1 hK1 => ?_) (AllReady.cons rfl (fun K1 hK1 => ?_) AllReady.nil)
                  · go_simp
                    refine hK1 _ _ ?_
                    clear hK1 K1
                    refine wpAny_ready (rs := [7]) (by kernel_rfl) (by decide) ?_
                    refine AllReady.cons rfl (fun K1 hK1 => ?_) AllReady.nil
                    go_simp
                    refine hK1 _ _ ?_
                    clear hK1 K1
                    refine wpAny_ready (rs := [8]) (by kernel_rfl) (by decide) ?_
                    refine AllReady.cons rfl (fun K1 hK1 => ?_) AllReady.nil
                    refine step_appW (.tmp 49) (.tmp 52) _ _ _ HQ.out rfl rfl rfl rfl ?_
                    rintro v5 w5 ⟨o5, u5, j5, b5⟩
                    obtain ⟨a5, c5, e5, _⟩ := o5.form
                    have j5 := hide j5
                    have o5 := hide o5
                    have u5 := hide u5
                    obtain ⟨n5, en5⟩ : ∃ n5, n5 = (turnsL P ++ [fracP (P : Int) 3]).length := ⟨_, rfl⟩
                    rw [← en5] at e5
                    clear en5
                    subst e5
                    have k5 : Blk w5 gh 49 _ := (b5.block gh (by omega)).trans hE.blk
                    have k6 := k5.cell 1
                    have k7 := k5.frozen 1
                    simp only [List.getElem?_cons_zero, List.getElem?_cons_succ] at k6
                    refine hK1 _ _ ?_
                    clear hK1 K1
                    refine wpAny_ready (rs := [9]) (by kernel_rfl) (by decide) ?_
                    refine AllReady.cons rfl (fun K1 hK1 => ?_) AllReady.nil
                    go_simp
                    refine hK1 _ _ ?_
                    clear hK1 K1
                    refine wpAny_ready (rs := [10]) (by kernel_rfl) (by decide) ?_
                    refine AllReady.cons rfl (fun K1 hK1 => ?_) AllReady.nil
                    go_simp
                    refine hK1 _ _ ?_
                    clear hK1 K1
                    refine wpAny_ready (rs := [11]) (by kernel_rfl) (by decide) ?_
                    refine AllReady.cons rfl (fun K1 hK1 => ?_) AllReady.nil
                    go_simp
                    refine hK1 _ _ ?_
                    clear hK1 K1
                    refine wpAny_done (by kernel_rfl) ?_ _
                    have hS := hE.set1 Hg.out o5.out u5.out j5.out b5
                    go_wp2_with fail
                    go_roundw
                    case rel => first | exact ⟨P + 1, _, _, by omega, by omega, by go_num, by rw [htu.out, est.out]; exact hS⟩ | ((repeat apply Exists.intro); exact ⟨⟨P + 1, _, _, by omega, by omega, by go_num, by rw [htu.out, est.out]; exact hS⟩, rfl⟩)
                    case measure => simp [intOf]; omega
                  · go_simp
                    refine hK1 _ _ ?_
                    clear hK1 K1
                    refine wpAny_ready (rs := [4]) (by kernel_rfl) (by decide) ?_
                    refine AllReady.cons rfl (fun K1 hK1 => ?_) AllReady.nil
                    go_simp
                    refine hK1 _ _ ?_
                    clear hK1 K1
                    refine wpAny_ready (rs := [8]) (by kernel_rfl) (by decide) ?_
                    refine AllReady.cons rfl (fun K1 hK1 => ?_) AllReady.nil
                    refine step_appW (.tmp 49) (.tmp 52) _ _ _ HQ.out rfl rfl rfl rfl ?_
                    rintro v5 w5 ⟨o5, u5, j5, b5⟩
                    obtain ⟨a5, c5, e5, _⟩ := o5.form
                    have j5 := hide j5
                    have o5 := hide o5
                    have u5 := hide u5
                    obtain ⟨n5, en5⟩ : ∃ n5, n5 = (turnsL P ++ [fracP (P : Int) 3]).length := ⟨_, rfl⟩
                    rw [← en5] at e5
                    clear en5
                    subst e5
                    have k5 : Blk w5 gh 49 _ := (b5.block gh (by omega)).trans hE.blk
                    have k6 := k5.cell 1
                    have k7 := k5.frozen 1
                    simp only [List.getElem?_cons_zero, List.getElem?_cons_succ] at k6
                    refine hK1 _ _ ?_
                    clear hK1 K1
                    refine wpAny_ready (rs := [9]) (by kernel_rfl) (by decide) ?_
                    refine AllReady.cons rfl (fun K1 hK1 => ?_) AllReady.nil
                    go_simp
                    refine hK1 _ _ ?_
                    clear hK1 K1
                    refine wpAny_ready (rs := [10]) (by kernel_rfl) (by decide) ?_
                    refine AllReady.cons rfl (fun K1 hK1 => ?_) AllReady.nil
                    go_simp
                    refine hK1 _ _ ?_
                    clear hK1 K1
                    refine wpAny_ready (rs := [11]) (by kernel_rfl) (by decide) ?_
                    refine AllReady.cons rfl (fun K1 hK1 => ?_) AllReady.nil
                    go_simp
                    refine hK1 _ _ ?_
                    clear hK1 K1
                    refine wpAny_done (by kernel_rfl) ?_ _
                    have hS := hE.set1 Hg.out o5.out u5.out j5.out b5
                    go_wp2_with fail
                    go_roundw
                    case rel => first | exact ⟨P + 1, _, _, by omega, by omega, by go_num, by rw [htu.out, est.out]; exact hS⟩ | ((repeat apply Exists.intro); exact ⟨⟨P + 1, _, _, by omega, by omega, by go_num, by rw [htu.out, est.out]; exact hS⟩, rfl⟩)
                    case measure => simp [intOf]; omega
            · have i8 : (8 : Int) ≤ (nS : Int) := by omega
              have est : Hid (startL (P + 1) = startL P) := by show _ = _; rw [hst.out, if_neg (by rw [← ES.out]; exact h8)]
              have hE := h.drew
              have HQ := hide (fun ty => Nw.push (x := fracP (P : Int) 3) ty hE.t hE.s hE.dj.symm (by rw [← ET.out]; omega) (show gh + 1 ≤ wr.drew.heap.size from h.blk.lt))
              have q1 := h.blk.cell 1
              simp only [List.getElem?_cons_zero, List.getElem?_cons_succ] at q1
              have q1a : ∀ o : Obj, (wr.alloc o).cell? ⟨gh, 1, none⟩ = some (.slice aT nT cT) := fun o => ((bel_new _ o).cell (p := ⟨gh, 1, none⟩) h.blk.lt).trans q1
              go_wp2_with fail
              refine wp_region_any mixed ?_
              change wpAny _ _ _ _ _ _ _ (World.drew _)
              refine wpAny_take (i := 0) (v := .pointer (some ⟨gh, 0, none⟩)) rfl (by kernel_rfl) (by kernel_rfl) (by kernel_rfl) (fun _ _ _ h => h) (Or.inl ⟨by rfl, fun w => by go_simp⟩) ?_
              refine wpAny_take (i := 1) (v := .pointer (some ⟨gh, 0, none⟩)) rfl (by kernel_rfl) (by kernel_rfl) (by kernel_rfl) (fun _ _ _ h => h) (Or.inl ⟨by rfl, fun w => by go_simp⟩) ?_
              refine wpAny_take (i := 2) (v := .pointer (some ⟨gh, 0, none⟩)) rfl (by kernel_rfl) (by kernel_rfl) (by kernel_rfl) (fun _ _ _ h => h) (Or.inl ⟨by rfl, fun w => by go_simp⟩) ?_
              refine wpAny_take (i := 3) (v := .pointer (some ⟨gh, 1, none⟩)) rfl (by kernel_rfl) (by kernel_rfl) (by kernel_rfl) (fun _ _ _ h => h) (Or.inl ⟨by rfl, fun w => by go_simp⟩) ?_
              refine wpAny_take (i := 5) (v := .int .u64 (P : Int)) rfl (by kernel_rfl) (by kernel_rfl) (by kernel_rfl) (fun _ _ _ h => h) (Or.inl ⟨by rfl, fun w => by go_simp⟩) ?_
              refine wpAny_ready (rs := [4, 6]) (by kernel_rfl) (by decide) ?_
              refine AllReady.cons rfl (fun K1 hK1 => ?_) (AllReady.cons rfl (fun K1 hK1 => ?_) AllReady.nil)
              · go_simp
                refine hK1 _ _ ?_
                clear hK1 K1
                refine wpAny_ready (rs := [6]) (by kernel_rfl) (by decide) ?_
                refine AllReady.cons rfl (fun K1 hK1 => ?_) AllReady.nil
                go_simp
                refine (fraction_any (P : Int) 3 (Or.inr rfl) hp4 _).mono ?_
                rintro e w' ⟨rfl, rfl⟩
                refine hK1 _ _ ?_
                clear hK1 K1
                refine wpAny_ready (rs := [7]) (by kernel_rfl) (by decide) ?_
                refine AllReady.cons rfl (fun K1 hK1 => ?_) AllReady.nil
                go_simp
                refine hK1 _ _ ?_
                clear hK1 K1
                refine wpAny_ready (rs := [8]) (by kernel_rfl) (by decide) ?_
                refine AllReady.cons rfl (fun K1 hK1 => ?_) AllReady.nil
                refine step_appW (.tmp 49) (.tmp 52) _ _ _ HQ.out rfl rfl rfl rfl ?_
                rintro v5 w5 ⟨o5, u5, j5, b5⟩
                obtain ⟨a5, c5, e5, _⟩ := o5.form
                have j5 := hide j5
                have o5 := hide o5
                have u5 := hide u5
                obtain ⟨n5, en5⟩ : ∃ n5, n5 = (turnsL P ++ [fracP (P : Int) 3]).length := ⟨_, rfl⟩
                rw [← en5] at e5
                clear en5
                subst e5
                have k5 : Blk w5 gh 49 _ := (b5.block gh (by omega)).trans hE.blk
                have k6 := k5.cell 1
                have k7 := k5.frozen 1
                simp only [List.getElem?_cons_zero, List.getElem?_cons_succ] at k6
                refine hK1 _ _ ?_
                clear hK1 K1
                refine wpAny_ready (rs := [9]) (by kernel_rfl) (by decide) ?_
                refine AllReady.cons rfl (fun K1 hK1 => ?_) AllReady.nil
                go_simp
                refine hK1 _ _ ?_
                clear hK1 K1
                refine wpAny_ready (rs := [10]) (by kernel_rfl) (by decide) ?_
                refine AllReady.cons rfl (fun K1 hK1 => ?_) AllReady.nil
                go_simp
                refine hK1 _ _ ?_
                clear hK1 K1
                refine wpAny_ready (rs := [11]) (by kernel_rfl) (by decide) ?_
                refine AllReady.cons rfl (fun K1 hK1 => ?_) AllReady.nil
                go_simp
                refine hK1 _ _ ?_
                clear hK1 K1
                refine wpAny_done (by kernel_rfl) ?_ _
                have hS := hE.set1 Hg.out o5.out u5.out j5.out b5
                go_wp2_with fail
                go_roundw
                case rel => first | exact ⟨P + 1, _, _, by omega, by omega, by go_num, by rw [htu.out, est.out]; exact hS⟩ | ((repeat apply Exists.intro); exact ⟨⟨P + 1, _, _, by omega, by omega, by go_num, by rw [htu.out, est.out]; exact hS⟩, rfl⟩)
                case measure => simp [intOf]; omega
              · go_simp
                refine (fraction_any (P : Int) 3 (Or.inr rfl) hp4 _).mono ?_
                rintro e w' ⟨rfl, rfl⟩
                refine hK1 _ _ ?_
                clear hK1 K1
                refine wpAny_ready (rs := [4, 7]) (by kernel_rfl) (by decide) ?_
                refine AllReady.cons rfl (fun K1 hK1 => ?_) (AllReady.cons rfl (fun K1 hK1 => ?_) AllReady.nil)
                · go_simp
                  refine hK1 _ _ ?_
                  clear hK1 K1
                  refine wpAny_ready (rs := [7]) (by kernel_rfl) (by decide) ?_
                  refine AllReady.cons rfl (fun K1 hK1 => ?_) AllReady.nil
                  go_simp
                  refine hK1 _ _ ?_
                  clear hK1 K1
                  refine wpAny_ready (rs := [8]) (by kernel_rfl) (by decide) ?_
                  refine AllReady.cons rfl (fun K1 hK1 => ?_) AllReady.nil
                  refine step_appW (.tmp 49) (.tmp 52) _ _ _ HQ.out rfl rfl rfl rfl ?_
                  rintro v5 w5 ⟨o5, u5, j5, b5⟩
                  obtain ⟨a5, c5, e5, _⟩ := o5.form
                  have j5 := hide j5
                  have o5 := hide o5
                  have u5 := hide u5
                  obtain ⟨n5, en5⟩ : ∃ n5, n5 = (turnsL P ++ [fracP (P : Int) 3]).length := ⟨_, rfl⟩
                  rw [← en5] at e5
                  clear en5
                  subst e5
                  have k5 : Blk w5 gh 49 _ := (b5.block gh (by omega)).trans hE.blk
                  have k6 := k5.cell 1
                  have k7 := k5.frozen 1
                  simp only [List.getElem?_cons_zero, List.getElem?_cons_succ] at k6
                  refine hK1 _ _ ?_
                  clear hK1 K1
                  refine wpAny_ready (rs := [9]) (by kernel_rfl) (by decide) ?_
                  refine AllReady.cons rfl (fun K1 hK1 => ?_) AllReady.nil
                  go_simp
                  refine hK1 _ _ ?_
                  clear hK1 K1
                  refine wpAny_ready (rs := [10]) (by kernel_rfl) (by decide) ?_
                  refine AllReady.cons rfl (fun K1 hK1 => ?_) AllReady.nil
                  go_simp
                  refine hK1 _ _ ?_
                  clear hK1 K1
                  refine wpAny_ready (rs := [11]) (by kernel_rfl) (by decide) ?_
                  refine AllReady.cons rfl (fun K1 hK1 => ?_) AllReady.nil
                  go_simp
                  refine hK1 _ _ ?_
                  clear hK1 K1
                  refine wpAny_done (by kernel_rfl) ?_ _
                  have hS := hE.set1 Hg.out o5.out u5.out j5.out b5
                  go_wp2_with fail
                  go_roundw
                  case rel => first | exact ⟨P + 1, _, _, by omega, by omega, by go_num, by rw [htu.out, est.out]; exact hS⟩ | ((repeat apply Exists.intro); exact ⟨⟨P + 1, _, _, by omega, by omega, by go_num, by rw [htu.out, est.out]; exact hS⟩, rfl⟩)
                  case measure => simp [intOf]; omega
                · go_simp
                  refine hK1 _ _ ?_
                  clear hK1 K1
                  refine wpAny_ready (rs := [4]) (by kernel_rfl) (by decide) ?_
                  refine AllReady.cons rfl (fun K1 hK1 => ?_) AllReady.nil
                  go_simp
                  refine hK1 _ _ ?_
                  clear hK1 K1
                  refine wpAny_ready (rs := [8]) (by kernel_rfl) (by decide) ?_
                  refine AllReady.cons rfl (fun K1 hK1 => ?_) AllReady.nil
                  refine step_appW (.tmp 49) (.tmp 52) _ _ _ HQ.out rfl rfl rfl rfl ?_
                  rintro v5 w5 ⟨o5, u5, j5, b5⟩
                  obtain ⟨a5, c5, e5, _⟩ := o5.form
                  have j5 := hide j5
                  have o5 := hide o5
                  have u5 := hide u5
                  obtain ⟨n5, en5⟩ : ∃ n5, n5 = (turnsL P ++ [fracP (P : Int) 3]).length := ⟨_, rfl⟩
                  rw [← en5] at e5
                  clear en5
                  subst e5
                  have k5 : Blk w5 gh 49 _ := (b5.block gh (by omega)).trans hE.blk
                  have k6 := k5.cell 1
                  have k7 := k5.frozen 1
                  simp only [List.getElem?_cons_zero, List.getElem?_cons_succ] at k6
                  refine hK1 _ _ ?_
                  clear hK1 K1
                  refine wpAny_ready (rs := [9]) (by kernel_rfl) (by decide) ?_
                  refine AllReady.cons rfl (fun K1 hK1 => ?_) AllReady.nil
                  go_simp
                  refine hK1 _ _ ?_
                  clear hK1 K1
                  refine wpAny_ready (rs := [10]) (by kernel_rfl) (by decide) ?_
                  refine AllReady.cons rfl (fun K1 hK1 => ?_) AllReady.nil
                  go_simp
                  refine hK1 _ _ ?_
                  clear hK1 K1
                  refine wpAny_ready (rs := [11]) (by kernel_rfl) (by decide) ?_
                  refine AllReady.cons rfl (fun K1 hK1 => ?_) AllReady.nil
                  go_simp
                  refine hK1 _ _ ?_
                  clear hK1 K1
                  refine wpAny_done (by kernel_rfl) ?_ _
                  have hS := hE.set1 Hg.out o5.out u5.out j5.out b5
                  go_wp2_with fail
                  go_roundw
                  case rel => first | exact ⟨P + 1, _, _, by omega, by omega, by go_num, by rw [htu.out, est.out]; exact hS⟩ | ((repeat apply Exists.intro); exact ⟨⟨P + 1, _, _, by omega, by omega, by go_num, by rw [htu.out, est.out]; exact hS⟩, rfl⟩)
                  case measure => simp [intOf]; omega
    · have e : P = 312 := by omega
      subst e
      have e64 : nT = 64 := by rw [enT]; unfold turnsL; rw [List.length_map]; exact primes_len
      rw [start_all, turns_all] at h
      have HF := hide h
      clear h enS enT ES ET
      subst e64
      go_wp2_with fail
      go_ret
      rw [← Eg.out]
      exact ⟨_, _, rfl, HF.out⟩

end Go.Proofs.YtejhhkhaoekkiaaDoor.Ck
