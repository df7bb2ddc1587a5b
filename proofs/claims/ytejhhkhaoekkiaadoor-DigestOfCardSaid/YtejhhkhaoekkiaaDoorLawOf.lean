/- The walk of the statement DigestOf. -/
import Derived.Test.YtejhhkhaoekkiaaDoorLaidT
import Derived.Test.YtejhhkhaoekkiaaDoorMarksK
import Derived.Test.YtejhhkhaoekkiaaDoorROfE
namespace Go.Proofs.YtejhhkhaoekkiaaDoor.Ck
open Go.RowKit

theorem eq_more (a : List Int) : eqB a a = true := by simp [eqB]
theorem step_appG {w : World} {ops : Array Oper} {o : Oper} {a : Act} {K : Act → World → Prop} {Q : Exit → Act → World → Prop} {E : Prop} (s x : Operand) (v vx : Value) (R : Value → World → Prop)
    (hrun : ∀ ty, ∃ v' w', (Builtin.append_ #[29, 29] ty #[v, vx]).run Tryd.prog w = .ok v' w' ∧ R v' w') (hw : Region.wanted o (yielded ops a.tmps) = true)
    (ho : o.op = .call { callee := .builtin .append, args := #[s, x], argTypes := #[29, 29] }) (hs : a.eval s = v) (hx : a.eval x = vx)
    (h : ∀ v' w', R v' w' → K (a.put o.dst v') w') : if Region.wanted o (yielded ops a.tmps) = true then Oper.wp Tryd.prog o a w K Q else E := by
  rw [if_pos hw]
  obtain ⟨v', w', hr, hR⟩ := hrun o.type
  unfold Oper.wp execOp
  simp only [ho, resolve, invoke, builtin, Sem.run_bind, Sem.run_pure, Result.andThen_ok, List.map_toArray, List.map_cons, List.map_nil, hs, hx, hr]
  exact h v' w' hR

set_option maxRecDepth 20000 in
set_option maxHeartbeats 2000000 in
theorem of_main (va vb : Value) (a b : List Int) (w : World) (ha : SB w va a) (hb : SB w vb b) (htab : Tab w) :
    Calls Tryd.prog 5 #[va, vb] w fun e w' => e = .returned (.bool true) ∧ Below w.heap.size w w' := by
  obtain ⟨aa, ca, rfl, hca, hcm⟩ := ha.form
  obtain ⟨ab, cb, rfl, hcb, hcm2⟩ := hb.form
  unfold maxLen at hcm hcm2
  obtain ⟨n, en⟩ : ∃ n, n = a.length := ⟨_, rfl⟩
  obtain ⟨m, em⟩ : ∃ m, m = b.length := ⟨_, rfl⟩
  have En := hide en
  have Em := hide em
  rw [← en] at ha hca ⊢
  rw [← em] at hb hcb ⊢
  clear en em
  go_enter Tryd.func5, Tryd.ntmps5
  go_wp2_with fail
  refine (alive_any w htab).mono ?_
  rintro e w1 ⟨rfl, hb1⟩
  by_cases h1 : n ≤ 9000
  · by_cases h2 : m ≤ 9000
    · have d1 : decide ((9000 : Int) < (n : Int)) = false := decide_eq_false (by omega)
      have d2 : decide ((9000 : Int) < (m : Int)) = false := decide_eq_false (by omega)
      have i1 : (n : Int) ≤ 9000 := by omega
      have i2 : (m : Int) ≤ 9000 := by omega
      have hla : Hid (a.length ≤ 9000) := by show _ ≤ _; rw [← En.out]; exact h1
      have hlb : Hid (b.length ≤ 9000) := by show _ ≤ _; rw [← Em.out]; exact h2
      go_wp2_with fail
      refine (bytes_any _ a w1 (ha.bel hb1) (by have := hla.out; omega)).mono ?_
      rintro e w2 ⟨g2, rfl, o2, hb2⟩
      rw [← En.out] at o2 ⊢
      have hb12 := bel_trans hb1 hb2
      have s2 : SB w2 (.slice (some ⟨g2, 0, none⟩) n (n + 6)) a := by
        refine ⟨ha.fits, some ⟨g2, 0, none⟩, n + 6, by rw [En.out], by have := En.out; omega, by unfold maxLen; omega, fun i hi => ⟨g2, 0, rfl, o2.lt, ?_⟩⟩
        rw [Nat.zero_add, o2.cell i (by simp; omega)]
        simp only [List.getD, List.getElem?_append_left hi]
      go_wp2_with fail
      refine (of_any a _ w2 s2 (by have := hla.out; omega) (htab.bel hb12)).mono ?_
      rintro e w3 ⟨rfl, hb3⟩
      have hsl : Hid ((sha a).length = 32) := sha_len _
      have hsf : Hid (Fit8 (sha a)) := sha_fit _
      have hsz : Hid ((Tryd.prog.info? 37).map (·.size) = some (bv (sha a)).length) := by show _ = _; rw [bv_len, hsl.out]; exact info37
      have hl0 : Hid ((List.replicate 32 (Value.int .u8 0)).length = (bv (sha a)).length) := by show _ = _; rw [bv_len, hsl.out]; rfl
      go_wp2_with (first | (refine wpList_new 37 _ zero37 6 rfl rfl rfl ?_; intro w4 g4 e4 b4 hb4 s4) | (refine wpList_lay 37 (.tmp 6) (.tmp 20) g4 37 _ (bv (sha a)) b4 hl0.out hsz.out (bv_one _) rfl rfl rfl rfl ?_; intro w5 b5 t5 s5))
      have hb34 := bel_trans hb3 hb4
      have hg4 : Hid (w2.heap.size ≤ g4) := by show _ ≤ _; rw [e4.out]; exact hb3.size
      have hb5 : Below w2.heap.size w2 w5 := bel_tn hb34 t5 hg4.out
      have hb5w := bel_trans hb12 hb5
      have o5 := o2.below hb5
      have HK1 : Hid (∀ w', Blk w' g4 37 (bv (sha a)) → (convert 29 9 (.slice (some ⟨g4, 0, none⟩) 32 32)).run Tryd.prog w' = .ok (.string (strOf (sha a))) w') := fun w' h => by
        have := SB.of_blk h (by rw [hsl.out]; unfold maxLen; omega) hsf.out
        rw [hsl.out] at this
        exact conv_str this
      have HK2 : Hid (∀ w', Below w.heap.size w w' → (convert 29 9 (.slice aa n ca)).run Tryd.prog w' = .ok (.string (strOf a)) w') := fun w' h => conv_str (ha.bel h)
      have HK3 : Hid (∀ w', Below w.heap.size w w' → (convert 29 9 (.slice ab m cb)).run Tryd.prog w' = .ok (.string (strOf b)) w') := fun w' h => conv_str (hb.bel h)
      have hse : ((strOf a).toList == (strOf b).toList) = eqB a b := strOf_eq ha.fits hb.fits
      obtain ⟨q, eq⟩ : ∃ q, q = eqB a b := ⟨_, rfl⟩
      rw [← eq] at hse
      have EQ := hide eq
      have hq : (q == q) = true := by simp
      clear eq hb3 hb4 hb34 t5 b4 e4 s4 s5 hsz hl0 o2 s2
      have HS : Hid (∀ w', Blk w' g4 37 (bv (sha a)) → Below w.heap.size w w' → ((convert 29 9 (.slice (some ⟨g4, 0, none⟩) 32 32)).run Tryd.prog w' = .ok (.string (strOf (sha a))) w' ∧ (convert 29 9 (.slice aa n ca)).run Tryd.prog w' = .ok (.string (strOf a)) w' ∧ (convert 29 9 (.slice ab m cb)).run Tryd.prog w' = .ok (.string (strOf b)) w')) := fun w' h1 h2 => ⟨HK1.out w' h1, HK2.out w' h2, HK3.out w' h2⟩
      have HKept : Hid (∀ w', SB w' (.slice aa n ca) a → OwnB w' w1.heap.size g2 (n + 6) (a ++ marks6) → Calls Tryd.prog 11 #[.slice (some ⟨g2, 0, none⟩) n (n + 6), .slice aa n ca] w' fun e w'' => e = .returned (.bool true) ∧ Below w'.heap.size w' w'') := fun w' h1 h2 => by
        have := keptB_any (.slice aa n ca) a g2 _ w' h1 (by rw [← En.out]; exact h2) (by have := hla.out; omega)
        rw [← En.out] at this
        exact this
      have hm6 : Hid (m ≤ 1000000) := by show _ ≤ _; omega
      have hqt : (true == true) = true := rfl
      have hkd := HS.out w5.drew b5.drew hb5w.drew
      clear HK1 HK2 HK3
      go_wp2_with fail
      refine wp_region_held_drew (S := fun w' => ((convert 29 9 (.slice (some ⟨g4, 0, none⟩) 32 32)).run Tryd.prog w' = .ok (.string (strOf (sha a))) w' ∧ (convert 29 9 (.slice aa n ca)).run Tryd.prog w' = .ok (.string (strOf a)) w' ∧ (convert 29 9 (.slice ab m cb)).run Tryd.prog w' = .ok (.string (strOf b)) w')) mixed hkd (fun hH => ?_)
      refine wpAnyH_take (i := 0) (v := ?_) rfl (by kernel_rfl) (by kernel_rfl) (by kernel_rfl) (fun _ _ _ h => h) (Or.inl ⟨by rfl, ?_⟩) (by assumption) ?_
      rotate_left 1
      · (intro w hSw; (try dsimp only at hSw); go_simp <;> with_reducible rfl)
      simp only [Act.put, List.getElem_toArray, List.getElem_cons_zero, List.setIfInBounds_toArray, List.set_cons_zero, List.set_cons_succ]
      refine wpAnyH_take (i := 1) (v := ?_) rfl (by kernel_rfl) (by kernel_rfl) (by kernel_rfl) (fun _ _ _ h => h) (Or.inl ⟨by rfl, ?_⟩) (by assumption) ?_
      rotate_left 1
      · (intro w hSw; (try dsimp only at hSw); go_simp <;> with_reducible rfl)
      simp only [Act.put, List.getElem_toArray, List.getElem_cons_zero, List.getElem_cons_succ, List.setIfInBounds_toArray, List.set_cons_zero, List.set_cons_succ]
      refine wpAnyH_take (i := 3) (v := ?_) rfl (by kernel_rfl) (by kernel_rfl) (by kernel_rfl) (fun _ _ _ h => h) (Or.inl ⟨by rfl, ?_⟩) (by assumption) ?_
      rotate_left 1
      · (intro w hSw; (try dsimp only at hSw); go_simp <;> with_reducible rfl)
      simp only [Act.put, List.getElem_toArray, List.getElem_cons_zero, List.getElem_cons_succ, List.setIfInBounds_toArray, List.set_cons_zero, List.set_cons_succ]
      refine wpAnyH_ready (rs := [2]) (by kernel_rfl) (by decide) ?_
      refine AllReadyH.cons rfl (fun K1 hK1 => ?_) AllReadyH.nil
      go_simp
      refine (rnew_ha w5.drew).mono ?_
      rintro e w6 ⟨gh, gS, cS, gT, cT, rfl, hh6, hb6⟩
      have hb6 : Below w5.heap.size w5 w6 := ⟨hb6.os, hb6.tape, hb6.output, hb6.size, hb6.block⟩
      have f6 := bel_trans hb5w hb6
      have hk6 := HS.out w6 (b5.bel hb6) f6
      refine hK1.out _ _ hk6 (fun hH => ?_)
      clear hK1 K1
      refine wpAnyH_ready (rs := [4]) (by kernel_rfl) (by decide) ?_
      refine AllReadyH.cons rfl (fun K1 hK1 => ?_) AllReadyH.nil
      go_simp
      refine (rof_any gh gS cS gT cT _ a w6 hh6 (ha.bel f6) (by have := hla.out; omega)).mono ?_
      rintro e w7 ⟨g7, c7, rfl, o7, hb7⟩
      have hb67 := bel_trans hb6 hb7
      have f7 := bel_trans f6 hb7
      have hk7 := HS.out w7 (b5.bel hb67) f7
      have kc7 := conv_str (show SB w7 (.slice (some ⟨g7, 0, none⟩) 32 c7) (sha a) by have := o7.sl hsf.out; rw [hsl.out] at this; exact this)
      refine hK1.out _ _ hk7 (fun hH => ?_)
      clear hK1 K1
      refine wpAnyH_ready (rs := [5]) (by kernel_rfl) (by decide) ?_
      refine AllReadyH.cons rfl (fun K1 hK1 => ?_) AllReadyH.nil
      go_simp
      refine hK1.out _ _ hk7 (fun hH => ?_)
      clear hK1 K1
      refine wpAnyH_take (i := 6) (v := ?_) rfl (by kernel_rfl) (by kernel_rfl) (by kernel_rfl) (fun _ _ _ h => h) (Or.inl ⟨by rfl, ?_⟩) (by assumption) ?_
      rotate_left 1
      · (intro w hSw; (try dsimp only at hSw); go_simp <;> with_reducible rfl)
      simp only [Act.put, List.getElem_toArray, List.getElem_cons_zero, List.getElem_cons_succ, List.setIfInBounds_toArray, List.set_cons_zero, List.set_cons_succ]
      refine wpAnyH_take (i := 7) (v := ?_) rfl (by kernel_rfl) (by kernel_rfl) (by kernel_rfl) (fun _ _ _ h => h) (Or.inl ⟨by rfl, ?_⟩) (by assumption) ?_
      rotate_left 1
      · (intro w hSw; (try dsimp only at hSw); go_simp <;> with_reducible rfl)
      simp only [Act.put, List.getElem_toArray, List.getElem_cons_zero, List.getElem_cons_succ, List.setIfInBounds_toArray, List.set_cons_zero, List.set_cons_succ]
      refine wpAnyH_take (i := 8) (v := ?_) rfl (by kernel_rfl) (by kernel_rfl) (by kernel_rfl) (fun _ _ _ h => h) (Or.inl ⟨by rfl, ?_⟩) (by assumption) ?_
      rotate_left 1
      · (intro w hSw; (try dsimp only at hSw); go_simp <;> with_reducible rfl)
      simp only [Act.put, List.getElem_toArray, List.getElem_cons_zero, List.getElem_cons_succ, List.setIfInBounds_toArray, List.set_cons_zero, List.set_cons_succ]
      refine wpAnyH_take (i := 9) (v := ?_) rfl (by kernel_rfl) (by kernel_rfl) (by kernel_rfl) (fun _ _ _ h => h) (Or.inl ⟨by rfl, ?_⟩) (by assumption) ?_
      rotate_left 1
      · (intro w hSw; (try dsimp only at hSw); go_simp <;> with_reducible rfl)
      simp only [Act.put, List.getElem_toArray, List.getElem_cons_zero, List.getElem_cons_succ, List.setIfInBounds_toArray, List.set_cons_zero, List.set_cons_succ]
      refine wpAnyH_ready (rs := [10]) (by kernel_rfl) (by decide) ?_
      refine AllReadyH.cons rfl (fun K1 hK1 => ?_) AllReadyH.nil
      go_simp
      refine (HKept.out w7 (ha.bel f7) (o5.below hb67)).mono ?_
      rintro e w8 ⟨rfl, hb8⟩
      have f8 := bel_trans f7 hb8
      have f58 := bel_trans hb67 hb8
      have hk8 := HS.out w8 (b5.bel f58) f8
      clear kc7
      refine hK1.out _ _ hk8 (fun hH => ?_)
      clear hK1 K1
      refine wpAnyH_take (i := 11) (v := ?_) rfl (by kernel_rfl) (by kernel_rfl) (by kernel_rfl) (fun _ _ _ h => h) (Or.inl ⟨by rfl, ?_⟩) (by assumption) ?_
      rotate_left 1
      · (intro w hSw; (try dsimp only at hSw); go_simp <;> with_reducible rfl)
      simp only [Act.put, List.getElem_toArray, List.getElem_cons_zero, List.getElem_cons_succ, List.setIfInBounds_toArray, List.set_cons_zero, List.set_cons_succ]
      refine wpAnyH_take (i := 12) (v := ?_) rfl (by kernel_rfl) (by kernel_rfl) (by kernel_rfl) (fun _ _ _ h => h) (Or.inl ⟨by rfl, ?_⟩) (by assumption) ?_
      rotate_left 1
      · (intro w hSw; (try dsimp only at hSw); go_simp <;> with_reducible rfl)
      simp only [Act.put, List.getElem_toArray, List.getElem_cons_zero, List.getElem_cons_succ, List.setIfInBounds_toArray, List.set_cons_zero, List.set_cons_succ]
      refine wpAnyH_take (i := 13) (v := ?_) rfl (by kernel_rfl) (by kernel_rfl) (by kernel_rfl) (fun _ _ _ h => h) (Or.inl ⟨by rfl, ?_⟩) (by assumption) ?_
      rotate_left 1
      · (intro w hSw; (try dsimp only at hSw); go_simp <;> with_reducible rfl)
      simp only [Act.put, List.getElem_toArray, List.getElem_cons_zero, List.getElem_cons_succ, List.setIfInBounds_toArray, List.set_cons_zero, List.set_cons_succ]
      refine wpAnyH_take (i := 14) (v := ?_) rfl (by kernel_rfl) (by kernel_rfl) (by kernel_rfl) (fun _ _ _ h => h) (Or.inl ⟨by rfl, ?_⟩) (by assumption) ?_
      rotate_left 1
      · (intro w hSw; (try dsimp only at hSw); go_simp <;> with_reducible rfl)
      simp only [Act.put, List.getElem_toArray, List.getElem_cons_zero, List.getElem_cons_succ, List.setIfInBounds_toArray, List.set_cons_zero, List.set_cons_succ]
      refine wpAnyH_take (i := 16) (v := ?_) rfl (by kernel_rfl) (by kernel_rfl) (by kernel_rfl) (fun _ _ _ h => h) (Or.inl ⟨by rfl, ?_⟩) (by assumption) ?_
      rotate_left 1
      · (intro w hSw; (try dsimp only at hSw); go_simp <;> with_reducible rfl)
      simp only [Act.put, List.getElem_toArray, List.getElem_cons_zero, List.getElem_cons_succ, List.setIfInBounds_toArray, List.set_cons_zero, List.set_cons_succ]
      refine wpAnyH_take (i := 17) (v := ?_) rfl (by kernel_rfl) (by kernel_rfl) (by kernel_rfl) (fun _ _ _ h => h) (Or.inl ⟨by rfl, ?_⟩) (by assumption) ?_
      rotate_left 1
      · (intro w hSw; (try dsimp only at hSw); go_simp <;> with_reducible rfl)
      simp only [Act.put, List.getElem_toArray, List.getElem_cons_zero, List.getElem_cons_succ, List.setIfInBounds_toArray, List.set_cons_zero, List.set_cons_succ]
      refine wpAnyH_take (i := 18) (v := ?_) rfl (by kernel_rfl) (by kernel_rfl) (by kernel_rfl) (fun _ _ _ h => h) (Or.inl ⟨by rfl, ?_⟩) (by assumption) ?_
      rotate_left 1
      · (intro w hSw; (try dsimp only at hSw); go_simp <;> with_reducible rfl)
      simp only [Act.put, List.getElem_toArray, List.getElem_cons_zero, List.getElem_cons_succ, List.setIfInBounds_toArray, List.set_cons_zero, List.set_cons_succ]
      refine wpAnyH_take (i := 19) (v := ?_) rfl (by kernel_rfl) (by kernel_rfl) (by kernel_rfl) (fun _ _ _ h => h) (Or.inl ⟨by rfl, ?_⟩) (by assumption) ?_
      rotate_left 1
      · (intro w hSw; (try dsimp only at hSw); go_simp <;> with_reducible rfl)
      simp only [Act.put, List.getElem_toArray, List.getElem_cons_zero, List.getElem_cons_succ, List.setIfInBounds_toArray, List.set_cons_zero, List.set_cons_succ]
      refine wpAnyH_take (i := 20) (v := ?_) rfl (by kernel_rfl) (by kernel_rfl) (by kernel_rfl) (fun _ _ _ h => h) (Or.inl ⟨by rfl, ?_⟩) (by assumption) ?_
      rotate_left 1
      · (intro w hSw; (try dsimp only at hSw); go_simp <;> with_reducible rfl)
      simp only [Act.put, List.getElem_toArray, List.getElem_cons_zero, List.getElem_cons_succ, List.setIfInBounds_toArray, List.set_cons_zero, List.set_cons_succ]
      refine wpAnyH_ready (rs := [15]) (by kernel_rfl) (by decide) ?_
      refine AllReadyH.cons rfl (fun K1 hK1 => ?_) AllReadyH.nil
      go_simp
      refine (equal_any _ _ a b w8 (ha.bel f8) (hb.bel f8)).mono ?_
      rintro e w9 ⟨rfl, hb9⟩
      rw [← EQ.out]
      have f9 := bel_trans f8 hb9
      have f59 := bel_trans f58 hb9
      have hk9 := HS.out w9 (b5.bel f59) f9
      refine hK1.out _ _ hk9 (fun hH => ?_)
      clear hK1 K1
      refine wpAnyH_take (i := 21) (v := ?_) rfl (by kernel_rfl) (by kernel_rfl) (by kernel_rfl) (fun _ _ _ h => h) (Or.inl ⟨by rfl, ?_⟩) (by assumption) ?_
      rotate_left 1
      · (intro w hSw; (try dsimp only at hSw); go_simp <;> with_reducible rfl)
      simp only [Act.put, List.getElem_toArray, List.getElem_cons_zero, List.getElem_cons_succ, List.setIfInBounds_toArray, List.set_cons_zero, List.set_cons_succ]
      refine wpAnyH_take (i := 22) (v := ?_) rfl (by kernel_rfl) (by kernel_rfl) (by kernel_rfl) (fun _ _ _ h => h) (Or.inl ⟨by rfl, ?_⟩) (by assumption) ?_
      rotate_left 1
      · (intro w hSw; (try dsimp only at hSw); go_simp <;> with_reducible rfl)
      simp only [Act.put, List.getElem_toArray, List.getElem_cons_zero, List.getElem_cons_succ, List.setIfInBounds_toArray, List.set_cons_zero, List.set_cons_succ]
      refine wpAnyH_take (i := 23) (v := ?_) rfl (by kernel_rfl) (by kernel_rfl) (by kernel_rfl) (fun _ _ _ h => h) (Or.inl ⟨by rfl, ?_⟩) (by assumption) ?_
      rotate_left 1
      · (intro w hSw; (try dsimp only at hSw); go_simp <;> with_reducible rfl)
      simp only [Act.put, List.getElem_toArray, List.getElem_cons_zero, List.getElem_cons_succ, List.setIfInBounds_toArray, List.set_cons_zero, List.set_cons_succ]
      refine wpAnyH_take (i := 24) (v := ?_) rfl (by kernel_rfl) (by kernel_rfl) (by kernel_rfl) (fun _ _ _ h => h) (Or.inl ⟨by rfl, ?_⟩) (by assumption) ?_
      rotate_left 1
      · (intro w hSw; (try dsimp only at hSw); go_simp <;> with_reducible rfl)
      simp only [Act.put, List.getElem_toArray, List.getElem_cons_zero, List.getElem_cons_succ, List.setIfInBounds_toArray, List.set_cons_zero, List.set_cons_succ]
      refine wpAnyH_take (i := 26) (v := ?_) rfl (by kernel_rfl) (by kernel_rfl) (by kernel_rfl) (fun _ _ _ h => h) (Or.inl ⟨by rfl, ?_⟩) (by assumption) ?_
      rotate_left 1
      · (intro w hSw; (try dsimp only at hSw); go_simp <;> with_reducible rfl)
      simp only [Act.put, List.getElem_toArray, List.getElem_cons_zero, List.getElem_cons_succ, List.setIfInBounds_toArray, List.set_cons_zero, List.set_cons_succ]
      refine wpAnyH_ready (rs := [25]) (by kernel_rfl) (by decide) ?_
      refine AllReadyH.cons rfl (fun K1 hK1 => ?_) AllReadyH.nil
      go_simp
      refine hK1.out _ _ (HS.out _ ((b5.bel f59).bel (bel_new _ _)) (bel_al f9 _)) (fun hH => ?_)
      clear hK1 K1
      refine wpAnyH_ready (rs := [27]) (by kernel_rfl) (by decide) ?_
      refine AllReadyH.cons rfl (fun K1 hK1 => ?_) AllReadyH.nil
      refine step_appG (.tmp 46) (.tmp 47) _ _ _ (fun ty => app_copyB ty Em.out (hb.bel f9) hm6.out) rfl rfl rfl rfl ?_
      rintro v10 w10 ⟨⟨g10, c10, rfl, o10⟩, hb10⟩
      have f10 := bel_trans f9 hb10
      have f5a := bel_trans f59 hb10
      have hk10 := HS.out w10 (b5.bel f5a) f10
      refine hK1.out _ _ hk10 (fun hH => ?_)
      clear hK1 K1
      refine wpAnyH_ready (rs := [28]) (by kernel_rfl) (by decide) ?_
      refine AllReadyH.cons rfl (fun K1 hK1 => ?_) AllReadyH.nil
      go_simp
      refine (equal_any _ _ b b w10 (hb.bel f10) (by have := o10.sl hb.fits; rw [← Em.out] at this; exact this)).mono ?_
      rintro e w11 ⟨rfl, hb11⟩
      rw [eq_more]
      have f11 := bel_trans f10 hb11
      have hk11 := HS.out w11 (b5.bel (bel_trans f5a hb11)) f11
      refine hK1.out _ _ hk11 (fun hH => ?_)
      clear hK1 K1
      refine wpAnyH_take (i := 29) (v := ?_) rfl (by kernel_rfl) (by kernel_rfl) (by kernel_rfl) (fun _ _ _ h => h) (Or.inl ⟨by rfl, ?_⟩) (by assumption) ?_
      rotate_left 1
      · (intro w hSw; (try dsimp only at hSw); go_simp <;> with_reducible rfl)
      simp only [Act.put, List.getElem_toArray, List.getElem_cons_zero, List.getElem_cons_succ, List.setIfInBounds_toArray, List.set_cons_zero, List.set_cons_succ]
      refine wpAnyH_take (i := 30) (v := ?_) rfl (by kernel_rfl) (by kernel_rfl) (by kernel_rfl) (fun _ _ _ h => h) (Or.inl ⟨by rfl, ?_⟩) (by assumption) ?_
      rotate_left 1
      · (intro w hSw; (try dsimp only at hSw); go_simp <;> with_reducible rfl)
      simp only [Act.put, List.getElem_toArray, List.getElem_cons_zero, List.getElem_cons_succ, List.setIfInBounds_toArray, List.set_cons_zero, List.set_cons_succ]
      refine wpAnyH_done (by kernel_rfl) ?_ _
      go_wp2_with fail
      go_ret
      exact ⟨rfl, f11⟩
    · have d1 : decide ((9000 : Int) < (n : Int)) = false := decide_eq_false (by omega)
      have d2 : decide ((9000 : Int) < (m : Int)) = true := decide_eq_true (by omega)
      have i1 : (n : Int) ≤ 9000 := by omega
      have i2 : (9000 : Int) < (m : Int) := by omega
      go_wp2_with fail
      go_ret
      exact ⟨rfl, hb1⟩
  · have d1 : decide ((9000 : Int) < (n : Int)) = true := decide_eq_true (by omega)
    have i1 : (9000 : Int) < (n : Int) := by omega
    go_wp2_with fail
    go_ret
    exact ⟨rfl, hb1⟩

theorem digestOf_walk {W : World} {a0 a1 : Option Addr} {len0 cap0 len1 cap1 : Nat} {z0 z1 : List Int} (s0 : SB W (.slice a0 len0 cap0) z0) (s1 : SB W (.slice a1 len1 cap1) z1) (hL : laidMetH Tryd.prog laidT W) :
    Calls Tryd.prog 5 #[.slice a0 len0 cap0, .slice a1 len1 cap1] W fun e w' => e = .returned (.bool true) ∧ Below W.heap.size W w' :=
  of_main _ _ z0 z1 W s0 s1 (tab_of_laid hL)

end Go.Proofs.YtejhhkhaoekkiaaDoor.Ck
