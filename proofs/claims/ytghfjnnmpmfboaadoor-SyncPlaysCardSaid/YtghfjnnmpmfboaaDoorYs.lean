/- Package sync: New. (Written by mk_y.py.) -/
import Derived.Test.YtghfjnnmpmfboaaDoorYr
import Derived.Deep.CutBlock
namespace Go.Proofs.YtghfjnnmpmfboaaDoor.Ck
open Go.RowKit

set_option maxRecDepth 20000 in
set_option maxHeartbeats 2000000 in
theorem new_ok (vP vC : Value) (ps : List Int) (cs : List (Int × Int)) (m a : Int) {w : World} (hP : Sl w vP ps) (hC : SlC w vC cs) (hok : okN ps m cs a = true) : Calls Tryd.prog 8 #[vP, .int .i64 m, vC, .int .i64 a] w (NewP w (newS ps m cs a)) := by
  obtain ⟨aP, lP, cP, rfl, hlP⟩ := hP.slice
  obtain ⟨aC, cC, eC, hcC, _, hcc⟩ := id hC
  obtain ⟨lC, hlC⟩ : ∃ n, n = cs.length := ⟨_, rfl⟩
  rw [← hlC] at eC hcC hcc
  subst eC
  have CI := hide (fun w' hb => contains_int (.slice aP lP cP) ps w' (hP.below (Nat.le_refl _) hb))
  have CC := hide (fun w' (hb : Below w.heap.size w w') => contains_chan (.slice aC lC cC) cs w' (hC.below hb))
  have FM : ∀ w, Calls Tryd.prog 35 #[.int .i64 m] w fun e w' => e = .returned (.bool (fitB m)) ∧ w = w' := fun w => fits_any m w
  have FC : ∀ w, Calls Tryd.prog 35 #[.int .i64 (lC : Nat)] w fun e w' => e = .returned (.bool (fitB lC)) ∧ w = w' := fun w => fits_any lC w
  have FA : ∀ w, Calls Tryd.prog 35 #[.int .i64 a] w fun e w' => e = .returned (.bool (fitB a)) ∧ w = w' := fun w => fits_any a w
  unfold okN at hok
  rw [← hlP, ← hlC] at hok
  simp only [Bool.and_eq_true, Bool.not_eq_true', decide_eq_false_iff_not] at hok
  obtain ⟨h0, h1, h2, h3, h4, h5⟩ := hok
  rw [h1] at FM
  rw [h2] at FC
  rw [h3] at FA
  rw [h4] at CI
  rw [h5] at CC
  simp only [fitB, Bool.and_eq_true, decide_eq_true_eq] at h1 h2 h3
  have h0' : (lP : Int) ≤ 128 := by omega
  obtain ⟨mn, rfl⟩ := Int.eq_ofNat_of_zero_le h1.1
  obtain ⟨an, rfl⟩ := Int.eq_ofNat_of_zero_le h3.1
  have hmn : mn ≤ 32 := by omega
  have han : an ≤ 32 := by omega
  have hlC32 : lC ≤ 32 := by omega
  have HP := hide (fun i hi => hP.at i hi)
  have HC := hide hcc
  have H4 := hide h4
  have H5 := hide h5
  have HLP := hide hlP
  have HLC := hide hlC
  clear hP hC hcc h0 h1 h2 h3 h4 h5 hlP hlC
  go_enter Tryd.func8, Tryd.ntmps8
  go_wp2_with fail
  refine (FM _).mono ?_
  rintro e wx ⟨rfl, rfl⟩
  go_wp2_with fail
  refine (FC _).mono ?_
  rintro e wx ⟨rfl, rfl⟩
  go_wp2_with fail
  refine (FA _).mono ?_
  rintro e wx ⟨rfl, rfl⟩
  go_wp2_with fail
  refine (CI.out _ (Below.refl _ _)).mono ?_
  rintro e w1 ⟨rfl, hb1⟩
  go_wp2_with fail
  refine (CC.out _ hb1).mono ?_
  rintro e w2 ⟨rfl, hb2⟩
  have B2 := hide (bel_trans hb1 hb2)
  clear hb1 hb2 CI CC FM FC FA
  go_wp2_with fail
  go_cut [10] from 42 to 47 (fun x wc => ∃ g, x = .pointer (some ⟨g, 0, none⟩) ∧ Hid (Mk w wc g ⟨[], List.replicate mn false, [], List.replicate an 0⟩))
  case first =>
      have B0 := hide (bel_drawn B2.out)
      clear B2
      refine wp_region_any mixed ?_
      change wpAny _ _ _ _ _ _ _ (World.drew _)
      generalize World.drew _ = W0 at *
      refine wpAny_take (i := 0) (v := ?_) rfl (by kernel_rfl) (by kernel_rfl) (by kernel_rfl) (fun _ _ _ h => h) (Or.inl ⟨by rfl, fun w => ?_⟩) ?_
      rotate_left 1
      · (go_simp <;> with_reducible rfl)
      simp only [Act.put, List.getElem_toArray, List.getElem_cons_zero, List.setIfInBounds_toArray, List.set_cons_zero, List.set_cons_succ]
      refine wpAny_take (i := 2) (v := ?_) rfl (by kernel_rfl) (by kernel_rfl) (by kernel_rfl) (fun _ _ _ h => h) (Or.inl ⟨by rfl, fun w => ?_⟩) ?_
      rotate_left 1
      · (go_simp <;> with_reducible rfl)
      simp only [Act.put, List.getElem_toArray, List.getElem_cons_zero, List.getElem_cons_succ, List.setIfInBounds_toArray, List.set_cons_zero, List.set_cons_succ]
      refine wpAny_ready (rs := [1, 3]) (by kernel_rfl) (by decide) ?_
      refine AllReady.cons rfl (fun K1 hK1 => ?_) (AllReady.cons rfl (fun K1 hK1 => ?_) AllReady.nil)
      · have q := run_mkB mn hmn
        go_simp
        refine hK1 _ _ ?_
        clear hK1 K1 q
        refine wpAny_ready (rs := [3]) (by kernel_rfl) (by decide) ?_
        refine AllReady.cons rfl (fun K1 hK1 => ?_) AllReady.nil
        have q := run_mkI an han
        go_simp
        refine hK1 _ _ ?_
        clear hK1 K1 q
        refine wpAny_take (i := 4) (v := ?_) rfl (by kernel_rfl) (by kernel_rfl) (by kernel_rfl) (fun _ _ _ h => h) (Or.inl ⟨by rfl, fun w => ?_⟩) ?_
        rotate_left 1
        · (go_simp <;> with_reducible rfl)
        simp only [Act.put, List.getElem_toArray, List.getElem_cons_zero, List.getElem_cons_succ, List.setIfInBounds_toArray, List.set_cons_zero, List.set_cons_succ]
        refine wpAny_ready (rs := [5]) (by kernel_rfl) (by decide) ?_
        refine AllReady.cons rfl (fun K1 hK1 => ?_) AllReady.nil
        go_simp
        refine hK1 _ _ ?_
        clear hK1 K1
        refine wpAny_take (i := 6) (v := ?_) rfl (by kernel_rfl) (by kernel_rfl) (by kernel_rfl) (fun _ _ _ h => h) (Or.inl ⟨by rfl, fun w => ?_⟩) ?_
        rotate_left 1
        · (go_simp <;> with_reducible rfl)
        simp only [Act.put, List.getElem_toArray, List.getElem_cons_zero, List.getElem_cons_succ, List.setIfInBounds_toArray, List.set_cons_zero, List.set_cons_succ]
        refine wpAny_done (by kernel_rfl) ?_ _
        go_wp2_with fail
        go_meet
        case rel =>
          first | exact ⟨_, rfl, mk_new hmn han B0.out rfl⟩ | exact ⟨_, rfl, mk_new2 hmn han B0.out rfl⟩
      · have q := run_mkI an han
        go_simp
        refine hK1 _ _ ?_
        clear hK1 K1 q
        refine wpAny_ready (rs := [1]) (by kernel_rfl) (by decide) ?_
        refine AllReady.cons rfl (fun K1 hK1 => ?_) AllReady.nil
        have q := run_mkB mn hmn
        go_simp
        refine hK1 _ _ ?_
        clear hK1 K1 q
        refine wpAny_take (i := 4) (v := ?_) rfl (by kernel_rfl) (by kernel_rfl) (by kernel_rfl) (fun _ _ _ h => h) (Or.inl ⟨by rfl, fun w => ?_⟩) ?_
        rotate_left 1
        · (go_simp <;> with_reducible rfl)
        simp only [Act.put, List.getElem_toArray, List.getElem_cons_zero, List.getElem_cons_succ, List.setIfInBounds_toArray, List.set_cons_zero, List.set_cons_succ]
        refine wpAny_ready (rs := [5]) (by kernel_rfl) (by decide) ?_
        refine AllReady.cons rfl (fun K1 hK1 => ?_) AllReady.nil
        go_simp
        refine hK1 _ _ ?_
        clear hK1 K1
        refine wpAny_take (i := 6) (v := ?_) rfl (by kernel_rfl) (by kernel_rfl) (by kernel_rfl) (fun _ _ _ h => h) (Or.inl ⟨by rfl, fun w => ?_⟩) ?_
        rotate_left 1
        · (go_simp <;> with_reducible rfl)
        simp only [Act.put, List.getElem_toArray, List.getElem_cons_zero, List.getElem_cons_succ, List.setIfInBounds_toArray, List.set_cons_zero, List.set_cons_succ]
        refine wpAny_done (by kernel_rfl) ?_ _
        go_wp2_with fail
        go_meet
        case rel =>
          first | exact ⟨_, rfl, mk_new hmn han B0.out rfl⟩ | exact ⟨_, rfl, mk_new2 hmn han B0.out rfl⟩
  case rest =>
    obtain ⟨g, rfl, M0⟩ := hcut
    clear B2
    go_wp2_with fail
    go_loopw [12, 50] (fun x i wr => ∃ k : Nat, k ≤ lP ∧ i = .int .i64 k ∧ Hid (Mk w wr g ⟨zz (ps.take k), List.replicate mn false, [], List.replicate an 0⟩)) (fun x i _ => lP - (intOf i).toNat)
    case atStart => exact ⟨0, Nat.zero_le _, rfl, M0⟩
    case round =>
     obtain ⟨k, hk, rfl, M1⟩ := hrel
     clear M0
     by_cases hlt : k < lP
     · have hlt' : (k : Int) < (lP : Int) := by omega
       obtain ⟨b1, o1, rfl, hb1, hc1⟩ := HP.out k hlt
       obtain ⟨F, ⟨vP, vM, vC, vA, vs, S⟩, hF, hB⟩ := M1.out
       have hcr := (hB.cell (p := ⟨b1, o1 + k, none⟩) hb1).trans hc1
       obtain ⟨aQ, cQ, eQ, _⟩ := own_slice S.pl
       obtain ⟨nQ, hnQ⟩ : ∃ n, n = (zz (ps.take k)).length := ⟨_, rfl⟩
       rw [show ({ P := zz (ps.take k), M := List.replicate mn false, C := [], A := List.replicate an 0 } : St).P.length = nQ from hnQ.symm] at eQ
       subst eQ
       have HLS : Hid ((zz (ps.take k)).length < 128) := hide (by simp [zz]; have := HLP.out; omega)
       have ZA : ∀ w, Calls Tryd.prog 40 #[.int .i64 (ps.getD k 0)] w (Vv w (ps.getD k 0) 0 0) := fun w => by
         have := zero_any (ps.getD k 0) w
         rw [zeroT_of (any_at H4.out k 0 (by have := HLP.out; omega))] at this
         exact this
       have HSN : Hid (zz (ps.take (k + 1)) = zz (ps.take k) ++ [(ps.getD k 0, 0, 0)]) := hide (by rw [take_snoc ps k 0 (by have := HLP.out; omega)]; simp [zz])
       have S0 := hide (S.bel (bel_drawn (Below.refl wr.heap.size wr)))
       have B0 := hide (bel_drawn hB)
       have HF := hide hF
       generalize ps.getD k 0 = y at *
       clear S hB hF M1 hc1 hb1 hnQ
       go_wp2_with fail
       refine wp_region_any mixed ?_
       change wpAny _ _ _ _ _ _ _ (World.drew _)
       generalize World.drew _ = W0 at *
       refine wpAny_take (i := 0) (v := ?_) rfl (by kernel_rfl) (by kernel_rfl) (by kernel_rfl) (fun _ _ _ h => h) (Or.inl ⟨by rfl, fun w => ?_⟩) ?_
       rotate_left 1
       · (go_simp <;> with_reducible rfl)
       simp only [Act.put, List.getElem_toArray, List.getElem_cons_zero, List.setIfInBounds_toArray, List.set_cons_zero, List.set_cons_succ]
       refine wpAny_take (i := 1) (v := ?_) rfl (by kernel_rfl) (by kernel_rfl) (by kernel_rfl) (fun _ _ _ h => h) (Or.inl ⟨by rfl, fun w => ?_⟩) ?_
       rotate_left 1
       · (go_simp <;> with_reducible rfl)
       simp only [Act.put, List.getElem_toArray, List.getElem_cons_zero, List.getElem_cons_succ, List.setIfInBounds_toArray, List.set_cons_zero, List.set_cons_succ]
       refine wpAny_take (i := 2) (v := ?_) rfl (by kernel_rfl) (by kernel_rfl) (by kernel_rfl) (fun _ _ _ h => h) (Or.inl ⟨by rfl, fun w => ?_⟩) ?_
       rotate_left 1
       · (go_simp <;> with_reducible rfl)
       simp only [Act.put, List.getElem_toArray, List.getElem_cons_zero, List.getElem_cons_succ, List.setIfInBounds_toArray, List.set_cons_zero, List.set_cons_succ]
       refine wpAny_take (i := 3) (v := ?_) rfl (by kernel_rfl) (by kernel_rfl) (by kernel_rfl) (fun _ _ _ h => h) (Or.inl ⟨by rfl, fun w => ?_⟩) ?_
       rotate_left 1
       · (go_simp <;> with_reducible rfl)
       simp only [Act.put, List.getElem_toArray, List.getElem_cons_zero, List.getElem_cons_succ, List.setIfInBounds_toArray, List.set_cons_zero, List.set_cons_succ]
       refine wpAny_take (i := 5) (v := ?_) rfl (by kernel_rfl) (by kernel_rfl) (by kernel_rfl) (fun _ _ _ h => h) (Or.inl ⟨by rfl, fun w => ?_⟩) ?_
       rotate_left 1
       · (go_simp <;> with_reducible rfl)
       simp only [Act.put, List.getElem_toArray, List.getElem_cons_zero, List.getElem_cons_succ, List.setIfInBounds_toArray, List.set_cons_zero, List.set_cons_succ]
       refine wpAny_ready (rs := [4, 6]) (by kernel_rfl) (by decide) ?_
       refine AllReady.cons rfl (fun K1 hK1 => ?_) (AllReady.cons rfl (fun K1 hK1 => ?_) AllReady.nil)
       · have q := (show W0.cell? ⟨g, 0, none⟩ = some (.slice aQ nQ cQ) from S0.out.cells.1)
         go_simp
         refine hK1 _ _ ?_
         clear hK1 K1 q
         refine wpAny_ready (rs := [6]) (by kernel_rfl) (by decide) ?_
         refine AllReady.cons rfl (fun K1 hK1 => ?_) AllReady.nil
         go_simp
         refine (ZA _).mono ?_
         rintro e W1 ⟨rfl, hb1⟩
         have S1 := hide (S0.out.bel hb1)
         have B1 := hide (bel_trans B0.out hb1)
         have PU := hide (fun ty => S1.out.pushP (y, 0, 0) HLS.out ty)
         clear hb1
         refine hK1 _ _ ?_
         clear hK1 K1
         refine wpAny_ready (rs := [7]) (by kernel_rfl) (by decide) ?_
         refine AllReady.cons rfl (fun K1 hK1 => ?_) AllReady.nil
         go_simp
         refine hK1 _ _ ?_
         clear hK1 K1
         refine wpAny_ready (rs := [8]) (by kernel_rfl) (by decide) ?_
         refine AllReady.cons rfl (fun K1 hK1 => ?_) AllReady.nil
         refine step_appV (TS := 46) (.tmp 58) (.tmp 61) _ _ _ (fun ty => PU.out ty) rfl rfl rfl rfl ?_
         rintro v9 w9 ⟨⟨a9, l9, c9, rfl⟩, z1, z2, r9⟩
         have R9 := hide r9
         clear r9
         refine hK1 _ _ ?_
         clear hK1 K1
         refine wpAny_take (i := 9) (v := ?_) rfl (by kernel_rfl) (by kernel_rfl) (by kernel_rfl) (fun _ _ _ h => h) (Or.inl ⟨by rfl, fun w => ?_⟩) ?_
         rotate_left 1
         · (go_simp <;> with_reducible rfl)
         simp only [Act.put, List.getElem_toArray, List.getElem_cons_zero, List.getElem_cons_succ, List.setIfInBounds_toArray, List.set_cons_zero, List.set_cons_succ]
         refine wpAny_take (i := 10) (v := ?_) rfl (by kernel_rfl) (by kernel_rfl) (by kernel_rfl) (fun _ _ _ h => h) (Or.inl ⟨by rfl, fun w => ?_⟩) ?_
         rotate_left 1
         · (go_simp <;> with_reducible rfl)
         simp only [Act.put, List.getElem_toArray, List.getElem_cons_zero, List.getElem_cons_succ, List.setIfInBounds_toArray, List.set_cons_zero, List.set_cons_succ]
         refine wpAny_ready (rs := [11]) (by kernel_rfl) (by decide) ?_
         refine AllReady.cons rfl (fun K1 hK1 => ?_) AllReady.nil
         go_simp
         refine hK1 _ _ ?_
         clear hK1 K1 z1 z2
         refine wpAny_done (by kernel_rfl) ?_ _
         go_wp2_with fail
         go_roundw
         case rel =>
           refine ⟨k + 1, by omega, by go_num, ?_⟩
           have hx := Mk.of HF.out B1.out ⟨_, _, _, _, _, R9.out.1⟩ R9.out.2
           have e : zz (ps.take (k + 1)) = zz (ps.take k) ++ [(y, 0, 0)] := HSN.out
           rw [e]
           exact hx
         case measure => simp [intOf]; omega
       · go_simp
         refine (ZA _).mono ?_
         rintro e W1 ⟨rfl, hb1⟩
         have S1 := hide (S0.out.bel hb1)
         have B1 := hide (bel_trans B0.out hb1)
         have PU := hide (fun ty => S1.out.pushP (y, 0, 0) HLS.out ty)
         clear hb1
         refine hK1 _ _ ?_
         clear hK1 K1
         refine wpAny_ready (rs := [4, 7]) (by kernel_rfl) (by decide) ?_
         refine AllReady.cons rfl (fun K1 hK1 => ?_) (AllReady.cons rfl (fun K1 hK1 => ?_) AllReady.nil)
         · have q := (show W1.cell? ⟨g, 0, none⟩ = some (.slice aQ nQ cQ) from S1.out.cells.1)
           go_simp
           refine hK1 _ _ ?_
           clear hK1 K1 q
           refine wpAny_ready (rs := [7]) (by kernel_rfl) (by decide) ?_
           refine AllReady.cons rfl (fun K1 hK1 => ?_) AllReady.nil
           go_simp
           refine hK1 _ _ ?_
           clear hK1 K1
           refine wpAny_ready (rs := [8]) (by kernel_rfl) (by decide) ?_
           refine AllReady.cons rfl (fun K1 hK1 => ?_) AllReady.nil
           refine step_appV (TS := 46) (.tmp 58) (.tmp 61) _ _ _ (fun ty => PU.out ty) rfl rfl rfl rfl ?_
           rintro v9 w9 ⟨⟨a9, l9, c9, rfl⟩, z1, z2, r9⟩
           have R9 := hide r9
           clear r9
           refine hK1 _ _ ?_
           clear hK1 K1
           refine wpAny_take (i := 9) (v := ?_) rfl (by kernel_rfl) (by kernel_rfl) (by kernel_rfl) (fun _ _ _ h => h) (Or.inl ⟨by rfl, fun w => ?_⟩) ?_
           rotate_left 1
           · (go_simp <;> with_reducible rfl)
           simp only [Act.put, List.getElem_toArray, List.getElem_cons_zero, List.getElem_cons_succ, List.setIfInBounds_toArray, List.set_cons_zero, List.set_cons_succ]
           refine wpAny_take (i := 10) (v := ?_) rfl (by kernel_rfl) (by kernel_rfl) (by kernel_rfl) (fun _ _ _ h => h) (Or.inl ⟨by rfl, fun w => ?_⟩) ?_
           rotate_left 1
           · (go_simp <;> with_reducible rfl)
           simp only [Act.put, List.getElem_toArray, List.getElem_cons_zero, List.getElem_cons_succ, List.setIfInBounds_toArray, List.set_cons_zero, List.set_cons_succ]
           refine wpAny_ready (rs := [11]) (by kernel_rfl) (by decide) ?_
           refine AllReady.cons rfl (fun K1 hK1 => ?_) AllReady.nil
           go_simp
           refine hK1 _ _ ?_
           clear hK1 K1 z1 z2
           refine wpAny_done (by kernel_rfl) ?_ _
           go_wp2_with fail
           go_roundw
           case rel =>
             refine ⟨k + 1, by omega, by go_num, ?_⟩
             have hx := Mk.of HF.out B1.out ⟨_, _, _, _, _, R9.out.1⟩ R9.out.2
             have e : zz (ps.take (k + 1)) = zz (ps.take k) ++ [(y, 0, 0)] := HSN.out
             rw [e]
             exact hx
           case measure => simp [intOf]; omega
         · go_simp
           refine hK1 _ _ ?_
           clear hK1 K1
           refine wpAny_ready (rs := [4]) (by kernel_rfl) (by decide) ?_
           refine AllReady.cons rfl (fun K1 hK1 => ?_) AllReady.nil
           have q := (show (W1.alloc (.cells #[.int .i64 y, .int .i64 0, .int .u64 0] 41)).cell? ⟨g, 0, none⟩ = some (.slice aQ nQ cQ) from ((bel_new W1 _).cell (p := ⟨g, 0, none⟩) (S1.out.fb g S1.out.fg)).trans S1.out.cells.1)
           go_simp
           refine hK1 _ _ ?_
           clear hK1 K1 q
           refine wpAny_ready (rs := [8]) (by kernel_rfl) (by decide) ?_
           refine AllReady.cons rfl (fun K1 hK1 => ?_) AllReady.nil
           refine step_appV (TS := 46) (.tmp 58) (.tmp 61) _ _ _ (fun ty => PU.out ty) rfl rfl rfl rfl ?_
           rintro v9 w9 ⟨⟨a9, l9, c9, rfl⟩, z1, z2, r9⟩
           have R9 := hide r9
           clear r9
           refine hK1 _ _ ?_
           clear hK1 K1
           refine wpAny_take (i := 9) (v := ?_) rfl (by kernel_rfl) (by kernel_rfl) (by kernel_rfl) (fun _ _ _ h => h) (Or.inl ⟨by rfl, fun w => ?_⟩) ?_
           rotate_left 1
           · (go_simp <;> with_reducible rfl)
           simp only [Act.put, List.getElem_toArray, List.getElem_cons_zero, List.getElem_cons_succ, List.setIfInBounds_toArray, List.set_cons_zero, List.set_cons_succ]
           refine wpAny_take (i := 10) (v := ?_) rfl (by kernel_rfl) (by kernel_rfl) (by kernel_rfl) (fun _ _ _ h => h) (Or.inl ⟨by rfl, fun w => ?_⟩) ?_
           rotate_left 1
           · (go_simp <;> with_reducible rfl)
           simp only [Act.put, List.getElem_toArray, List.getElem_cons_zero, List.getElem_cons_succ, List.setIfInBounds_toArray, List.set_cons_zero, List.set_cons_succ]
           refine wpAny_ready (rs := [11]) (by kernel_rfl) (by decide) ?_
           refine AllReady.cons rfl (fun K1 hK1 => ?_) AllReady.nil
           go_simp
           refine hK1 _ _ ?_
           clear hK1 K1 z1 z2
           refine wpAny_done (by kernel_rfl) ?_ _
           go_wp2_with fail
           go_roundw
           case rel =>
             refine ⟨k + 1, by omega, by go_num, ?_⟩
             have hx := Mk.of HF.out B1.out ⟨_, _, _, _, _, R9.out.1⟩ R9.out.2
             have e : zz (ps.take (k + 1)) = zz (ps.take k) ++ [(y, 0, 0)] := HSN.out
             rw [e]
             exact hx
           case measure => simp [intOf]; omega
     · obtain rfl : k = lP := by omega
       have M2 : Hid (Mk w wr g ⟨zz ps, List.replicate mn false, cz (cs.take 0), List.replicate an 0⟩) := hide (by
         have := M1.out
         rw [List.take_of_length_le (by have := HLP.out; omega)] at this
         exact this)
       clear M1
       go_wp2_with fail
       go_loopw [14, 68] (fun x i wr => ∃ k : Nat, k ≤ lC ∧ i = .int .i64 k ∧ Hid (Mk w wr g ⟨zz ps, List.replicate mn false, cz (cs.take k), List.replicate an 0⟩)) (fun x i _ => lC - (intOf i).toNat)
       case atStart => exact ⟨0, Nat.zero_le _, rfl, M2⟩
       case round =>
        obtain ⟨k, hk, rfl, M1⟩ := hrel
        clear M2
        by_cases hlt : k < lC
        · have hlt' : (k : Int) < (lC : Int) := by omega
          obtain ⟨b1, o1, rfl, hb1, hc1, hc2⟩ := HC.out k hlt
          obtain ⟨F, ⟨vP, vM, vC, vA, vs, S⟩, hF, hB⟩ := M1.out
          have hcr := (hB.cell (p := ⟨b1, o1 + k * 2, none⟩) hb1).trans hc1
          have hcs := (hB.cell (p := ⟨b1, o1 + k * 2 + 1, none⟩) hb1).trans hc2
          obtain ⟨aQ, cQ, eQ, _⟩ := own_slice S.ch
          obtain ⟨nQ, hnQ⟩ : ∃ n, n = (cz (cs.take k)).length := ⟨_, rfl⟩
          rw [show ({ P := zz ps, M := List.replicate mn false, C := cz (cs.take k), A := List.replicate an 0 } : St).C.length = nQ from hnQ.symm] at eQ
          subst eQ
          have HLS : Hid ((cz (cs.take k)).length < 32) := hide (by simp [cz]; have := HLC.out; omega)
          have HSN : Hid (cz (cs.take (k + 1)) = cz (cs.take k) ++ [⟨(cs.getD k (0, 0)).1, (cs.getD k (0, 0)).2, []⟩]) := hide (by rw [take_snoc cs k (0, 0) (by have := HLC.out; omega)]; simp [cz])
          have hbc := any_at H5.out k (0, 0) (by have := HLC.out; omega)
          have HRM : Hid (0 ≤ (cs.getD k (0, 0)).2 ∧ (cs.getD k (0, 0)).2 ≤ 8 ∧ ((0 : Nat) : Int) ≤ (cs.getD k (0, 0)).2) := hide (by
            unfold badC chanB at hbc
            simp only [Bool.or_eq_false_iff, decide_eq_false_iff_not] at hbc
            omega)
          clear hbc
          generalize (cs.getD k (0, 0)).1 = y1 at *
          generalize (cs.getD k (0, 0)).2 = y2 at *
          have hbX := bel_new wr (.cells #[.int .i64 y1, .int .i64 y2] 52)
          have S0 := hide (S.bel (bel_drawn hbX))
          have B0 := hide (bel_drawn (bel_trans hB hbX))
          have X0 : Hid ((wr.alloc (.cells #[.int .i64 y1, .int .i64 y2] 52)).drew.cell? ⟨wr.heap.size, 0, none⟩ = some (.int .i64 y1) ∧ (wr.alloc (.cells #[.int .i64 y1, .int .i64 y2] 52)).drew.cell? ⟨wr.heap.size, 1, none⟩ = some (.int .i64 y2)) := hide ⟨blk_cell (Go.Deep.blk_alloc_new wr _) 0 _ rfl, blk_cell (Go.Deep.blk_alloc_new wr _) 1 _ rfl⟩
          have PU := hide (fun ty => S0.out.pushC ⟨y1, y2, []⟩ (own_nil _ _ _) (fun k hk => by cases hk) HLS.out HRM.out ty)
          have HF := hide hF
          clear S hB hF M1 hc1 hb1 hnQ hbX hc2
          go_wp2_with fail
          refine wp_region_any mixed ?_
          change wpAny _ _ _ _ _ _ _ (World.drew _)
          generalize World.drew _ = W0 at *
          refine wpAny_take (i := 0) (v := ?_) rfl (by kernel_rfl) (by kernel_rfl) (by kernel_rfl) (fun _ _ _ h => h) (Or.inl ⟨by rfl, fun w => ?_⟩) ?_
          rotate_left 1
          · (go_simp <;> with_reducible rfl)
          simp only [Act.put, List.getElem_toArray, List.getElem_cons_zero, List.setIfInBounds_toArray, List.set_cons_zero, List.set_cons_succ]
          refine wpAny_take (i := 1) (v := ?_) rfl (by kernel_rfl) (by kernel_rfl) (by kernel_rfl) (fun _ _ _ h => h) (Or.inl ⟨by rfl, fun w => ?_⟩) ?_
          rotate_left 1
          · (go_simp <;> with_reducible rfl)
          simp only [Act.put, List.getElem_toArray, List.getElem_cons_zero, List.getElem_cons_succ, List.setIfInBounds_toArray, List.set_cons_zero, List.set_cons_succ]
          refine wpAny_take (i := 2) (v := ?_) rfl (by kernel_rfl) (by kernel_rfl) (by kernel_rfl) (fun _ _ _ h => h) (Or.inl ⟨by rfl, fun w => ?_⟩) ?_
          rotate_left 1
          · (go_simp <;> with_reducible rfl)
          simp only [Act.put, List.getElem_toArray, List.getElem_cons_zero, List.getElem_cons_succ, List.setIfInBounds_toArray, List.set_cons_zero, List.set_cons_succ]
          refine wpAny_take (i := 3) (v := ?_) rfl (by kernel_rfl) (by kernel_rfl) (by kernel_rfl) (fun _ _ _ h => h) (Or.inl ⟨by rfl, fun w => ?_⟩) ?_
          rotate_left 1
          · (go_simp <;> with_reducible rfl)
          simp only [Act.put, List.getElem_toArray, List.getElem_cons_zero, List.getElem_cons_succ, List.setIfInBounds_toArray, List.set_cons_zero, List.set_cons_succ]
          refine wpAny_ready (rs := [4, 5]) (by kernel_rfl) (by decide) ?_
          refine AllReady.cons rfl (fun K1 hK1 => ?_) (AllReady.cons rfl (fun K1 hK1 => ?_) AllReady.nil)
          · have q := (show W0.cell? ⟨g, 2, none⟩ = some (.slice aQ nQ cQ) from S0.out.cells.2.2.1)
            go_simp
            refine hK1 _ _ ?_
            clear hK1 K1 q
            refine wpAny_ready (rs := [5]) (by kernel_rfl) (by decide) ?_
            refine AllReady.cons rfl (fun K1 hK1 => ?_) AllReady.nil
            obtain ⟨q0, q1⟩ := X0.out
            go_simp
            refine hK1 _ _ ?_
            clear hK1 K1 q0 q1
            refine wpAny_take (i := 6) (v := ?_) rfl (by kernel_rfl) (by kernel_rfl) (by kernel_rfl) (fun _ _ _ h => h) (Or.inl ⟨by rfl, fun w => ?_⟩) ?_
            rotate_left 1
            · (go_simp <;> with_reducible rfl)
            simp only [Act.put, List.getElem_toArray, List.getElem_cons_zero, List.getElem_cons_succ, List.setIfInBounds_toArray, List.set_cons_zero, List.set_cons_succ]
            refine wpAny_ready (rs := [7]) (by kernel_rfl) (by decide) ?_
            refine AllReady.cons rfl (fun K1 hK1 => ?_) AllReady.nil
            go_simp
            refine hK1 _ _ ?_
            clear hK1 K1
            refine wpAny_ready (rs := [8]) (by kernel_rfl) (by decide) ?_
            refine AllReady.cons rfl (fun K1 hK1 => ?_) AllReady.nil
            refine step_appV (TS := 94) (.tmp 76) (.tmp 79) _ _ _ (fun ty => PU.out ty) rfl rfl rfl rfl ?_
            rintro v9 w9 ⟨⟨a9, l9, c9, rfl⟩, z1, z2, r9⟩
            have R9 := hide r9
            clear r9
            refine hK1 _ _ ?_
            clear hK1 K1
            refine wpAny_take (i := 9) (v := ?_) rfl (by kernel_rfl) (by kernel_rfl) (by kernel_rfl) (fun _ _ _ h => h) (Or.inl ⟨by rfl, fun w => ?_⟩) ?_
            rotate_left 1
            · (go_simp <;> with_reducible rfl)
            simp only [Act.put, List.getElem_toArray, List.getElem_cons_zero, List.getElem_cons_succ, List.setIfInBounds_toArray, List.set_cons_zero, List.set_cons_succ]
            refine wpAny_take (i := 10) (v := ?_) rfl (by kernel_rfl) (by kernel_rfl) (by kernel_rfl) (fun _ _ _ h => h) (Or.inl ⟨by rfl, fun w => ?_⟩) ?_
            rotate_left 1
            · (go_simp <;> with_reducible rfl)
            simp only [Act.put, List.getElem_toArray, List.getElem_cons_zero, List.getElem_cons_succ, List.setIfInBounds_toArray, List.set_cons_zero, List.set_cons_succ]
            refine wpAny_ready (rs := [11]) (by kernel_rfl) (by decide) ?_
            refine AllReady.cons rfl (fun K1 hK1 => ?_) AllReady.nil
            go_simp
            refine hK1 _ _ ?_
            clear hK1 K1 z1 z2
            refine wpAny_done (by kernel_rfl) ?_ _
            go_wp2_with fail
            go_roundw
            case rel =>
              refine ⟨k + 1, by omega, by go_num, ?_⟩
              have e : cz (cs.take (k + 1)) = cz (cs.take k) ++ [⟨y1, y2, []⟩] := HSN.out
              rw [e]
              refine ⟨_, ⟨_, _, _, _, _, R9.out.2.1⟩, fun k hk => ?_, B0.out.trans (R9.out.2.2.bel HF.out B0.out.size)⟩
              rcases hk with hk | hk | hk
              · exact HF.out k hk
              · rcases R9.out.1 k hk with h1 | h1
                · exact HF.out k (S0.out.fC k h1)
                · exact Nat.le_trans B0.out.size h1
              · cases hk
            case measure => simp [intOf]; omega
          · obtain ⟨q0, q1⟩ := X0.out
            go_simp
            refine hK1 _ _ ?_
            clear hK1 K1 q0 q1
            refine wpAny_take (i := 6) (v := ?_) rfl (by kernel_rfl) (by kernel_rfl) (by kernel_rfl) (fun _ _ _ h => h) (Or.inl ⟨by rfl, fun w => ?_⟩) ?_
            rotate_left 1
            · (go_simp <;> with_reducible rfl)
            simp only [Act.put, List.getElem_toArray, List.getElem_cons_zero, List.getElem_cons_succ, List.setIfInBounds_toArray, List.set_cons_zero, List.set_cons_succ]
            refine wpAny_ready (rs := [4, 7]) (by kernel_rfl) (by decide) ?_
            refine AllReady.cons rfl (fun K1 hK1 => ?_) (AllReady.cons rfl (fun K1 hK1 => ?_) AllReady.nil)
            · have q := (show W0.cell? ⟨g, 2, none⟩ = some (.slice aQ nQ cQ) from S0.out.cells.2.2.1)
              go_simp
              refine hK1 _ _ ?_
              clear hK1 K1 q
              refine wpAny_ready (rs := [7]) (by kernel_rfl) (by decide) ?_
              refine AllReady.cons rfl (fun K1 hK1 => ?_) AllReady.nil
              go_simp
              refine hK1 _ _ ?_
              clear hK1 K1
              refine wpAny_ready (rs := [8]) (by kernel_rfl) (by decide) ?_
              refine AllReady.cons rfl (fun K1 hK1 => ?_) AllReady.nil
              refine step_appV (TS := 94) (.tmp 76) (.tmp 79) _ _ _ (fun ty => PU.out ty) rfl rfl rfl rfl ?_
              rintro v9 w9 ⟨⟨a9, l9, c9, rfl⟩, z1, z2, r9⟩
              have R9 := hide r9
              clear r9
              refine hK1 _ _ ?_
              clear hK1 K1
              refine wpAny_take (i := 9) (v := ?_) rfl (by kernel_rfl) (by kernel_rfl) (by kernel_rfl) (fun _ _ _ h => h) (Or.inl ⟨by rfl, fun w => ?_⟩) ?_
              rotate_left 1
              · (go_simp <;> with_reducible rfl)
              simp only [Act.put, List.getElem_toArray, List.getElem_cons_zero, List.getElem_cons_succ, List.setIfInBounds_toArray, List.set_cons_zero, List.set_cons_succ]
              refine wpAny_take (i := 10) (v := ?_) rfl (by kernel_rfl) (by kernel_rfl) (by kernel_rfl) (fun _ _ _ h => h) (Or.inl ⟨by rfl, fun w => ?_⟩) ?_
              rotate_left 1
              · (go_simp <;> with_reducible rfl)
              simp only [Act.put, List.getElem_toArray, List.getElem_cons_zero, List.getElem_cons_succ, List.setIfInBounds_toArray, List.set_cons_zero, List.set_cons_succ]
              refine wpAny_ready (rs := [11]) (by kernel_rfl) (by decide) ?_
              refine AllReady.cons rfl (fun K1 hK1 => ?_) AllReady.nil
              go_simp
              refine hK1 _ _ ?_
              clear hK1 K1 z1 z2
              refine wpAny_done (by kernel_rfl) ?_ _
              go_wp2_with fail
              go_roundw
              case rel =>
                refine ⟨k + 1, by omega, by go_num, ?_⟩
                have e : cz (cs.take (k + 1)) = cz (cs.take k) ++ [⟨y1, y2, []⟩] := HSN.out
                rw [e]
                refine ⟨_, ⟨_, _, _, _, _, R9.out.2.1⟩, fun k hk => ?_, B0.out.trans (R9.out.2.2.bel HF.out B0.out.size)⟩
                rcases hk with hk | hk | hk
                · exact HF.out k hk
                · rcases R9.out.1 k hk with h1 | h1
                  · exact HF.out k (S0.out.fC k h1)
                  · exact Nat.le_trans B0.out.size h1
                · cases hk
              case measure => simp [intOf]; omega
            · go_simp
              refine hK1 _ _ ?_
              clear hK1 K1
              refine wpAny_ready (rs := [4]) (by kernel_rfl) (by decide) ?_
              refine AllReady.cons rfl (fun K1 hK1 => ?_) AllReady.nil
              have q := (show (W0.alloc (.cells #[.int .i64 y1, .int .i64 y2, .slice none 0 0] 98)).cell? ⟨g, 2, none⟩ = some (.slice aQ nQ cQ) from ((bel_new W0 _).cell (p := ⟨g, 2, none⟩) (S0.out.fb g S0.out.fg)).trans S0.out.cells.2.2.1)
              go_simp
              refine hK1 _ _ ?_
              clear hK1 K1 q
              refine wpAny_ready (rs := [8]) (by kernel_rfl) (by decide) ?_
              refine AllReady.cons rfl (fun K1 hK1 => ?_) AllReady.nil
              refine step_appV (TS := 94) (.tmp 76) (.tmp 79) _ _ _ (fun ty => PU.out ty) rfl rfl rfl rfl ?_
              rintro v9 w9 ⟨⟨a9, l9, c9, rfl⟩, z1, z2, r9⟩
              have R9 := hide r9
              clear r9
              refine hK1 _ _ ?_
              clear hK1 K1
              refine wpAny_take (i := 9) (v := ?_) rfl (by kernel_rfl) (by kernel_rfl) (by kernel_rfl) (fun _ _ _ h => h) (Or.inl ⟨by rfl, fun w => ?_⟩) ?_
              rotate_left 1
              · (go_simp <;> with_reducible rfl)
              simp only [Act.put, List.getElem_toArray, List.getElem_cons_zero, List.getElem_cons_succ, List.setIfInBounds_toArray, List.set_cons_zero, List.set_cons_succ]
              refine wpAny_take (i := 10) (v := ?_) rfl (by kernel_rfl) (by kernel_rfl) (by kernel_rfl) (fun _ _ _ h => h) (Or.inl ⟨by rfl, fun w => ?_⟩) ?_
              rotate_left 1
              · (go_simp <;> with_reducible rfl)
              simp only [Act.put, List.getElem_toArray, List.getElem_cons_zero, List.getElem_cons_succ, List.setIfInBounds_toArray, List.set_cons_zero, List.set_cons_succ]
              refine wpAny_ready (rs := [11]) (by kernel_rfl) (by decide) ?_
              refine AllReady.cons rfl (fun K1 hK1 => ?_) AllReady.nil
              go_simp
              refine hK1 _ _ ?_
              clear hK1 K1 z1 z2
              refine wpAny_done (by kernel_rfl) ?_ _
              go_wp2_with fail
              go_roundw
              case rel =>
                refine ⟨k + 1, by omega, by go_num, ?_⟩
                have e : cz (cs.take (k + 1)) = cz (cs.take k) ++ [⟨y1, y2, []⟩] := HSN.out
                rw [e]
                refine ⟨_, ⟨_, _, _, _, _, R9.out.2.1⟩, fun k hk => ?_, B0.out.trans (R9.out.2.2.bel HF.out B0.out.size)⟩
                rcases hk with hk | hk | hk
                · exact HF.out k hk
                · rcases R9.out.1 k hk with h1 | h1
                  · exact HF.out k (S0.out.fC k h1)
                  · exact Nat.le_trans B0.out.size h1
                · cases hk
              case measure => simp [intOf]; omega
        · obtain rfl : k = lC := by omega
          have M3 : Hid (Mk w wr g (newS ps (mn : Nat) cs (an : Nat))) := hide (by
            have := M1.out
            rw [List.take_of_length_le (by have := HLC.out; omega)] at this
            exact this)
          clear M1
          go_wp2_with fail
          go_ret2
          obtain ⟨F, h1, h2, h3⟩ := M3.out
          exact ⟨g, F, rfl, h1, h2, h3⟩
end Go.Proofs.YtghfjnnmpmfboaaDoor.Ck
