/- Texts of this proof, packed: contracts of the program's functions, and the plain model that they are held against. -/
import Derived.Test.YtbiilnpblnjliaaDoorQad
import Derived.Deep.CutBlock
/- Package sync: New. (Written by mk_y.py.) -/
namespace Go.Proofs.YtbiilnpblnjliaaDoor.Ck
open Go.RowKit

set_option maxRecDepth 20000 in
set_option maxHeartbeats 2000000 in
theorem new_ok (vP vC : Value) (ps : List Int) (cs : List (Int × Int)) (m a : Int) {w : World} (hP : Sl w vP ps) (hC : SlC w vC cs) (hok : okN ps m cs a = true) : Calls Tryd.prog 8 #[vP, .int .i64 m, vC, .int .i64 a] w (NewP w (newS ps m cs a)) := by
  obtain ⟨aP, lP, cP, rfl, hlP⟩ := hP.slice
  obtain ⟨aC, cC, eC, hcC, _, hcc⟩ := id hC
  obtain ⟨lC, hlC⟩ : ∃ n, n = cs.length := ⟨_, rfl⟩
  rw [← hlC] at eC hcC hcc
  subst eC
  have CI := hide (fun w' hb => contains_int (.slice aP lP cP) ps w' (hP.below (Nat.le_refl _) hb))
  have CC := hide (fun w' (hb : Below w.heap.size w w') => contains_chan (.slice aC lC cC) cs w' (hC.below hb))
  have FM : ∀ w, Calls Tryd.prog 34 #[.int .i64 m] w fun e w' => e = .returned (.bool (fitB m)) ∧ w = w' := fun w => fits_any m w
  have FC : ∀ w, Calls Tryd.prog 34 #[.int .i64 (lC : Nat)] w fun e w' => e = .returned (.bool (fitB lC)) ∧ w = w' := fun w => fits_any lC w
  have FA : ∀ w, Calls Tryd.prog 34 #[.int .i64 a] w fun e w' => e = .returned (.bool (fitB a)) ∧ w = w' := fun w => fits_any a w
  unfold okN at hok
  rw [← hlP, ← hlC] at hok
  simp only [Bool.and_eq_true, Bool.not_eq_true', decide_eq_false_iff_not] at hok
  obtain ⟨h0, h1, h2, h3, h4, h5⟩ := hok
  rw [h1] at FM
  rw [h2] at FC
  rw [h3] at FA
  rw [h4] at CI
  rw [h5] at CC
  simp only [fitB, Bool.and_eq_true, decide_eq_true_eq] at h1 h2 h3
  have h0' : (lP : Int) ≤ 128 := by omega
  obtain ⟨mn, rfl⟩ := Int.eq_ofNat_of_zero_le h1.1
  obtain ⟨an, rfl⟩ := Int.eq_ofNat_of_zero_le h3.1
  have hmn : mn ≤ 32 := by omega
  have han : an ≤ 32 := by omega
  have hlC32 : lC ≤ 32 := by omega
  have HP := hide (fun i hi => hP.at i hi)
  have HC := hide hcc
  have H4 := hide h4
  have H5 := hide h5
  have HLP := hide hlP
  have HLC := hide hlC
  clear hP hC hcc h0 h1 h2 h3 h4 h5 hlP hlC
  go_enter Tryd.func8, Tryd.ntmps8
  go_wp2_with fail
  refine (FM _).mono ?_
  rintro e wx ⟨rfl, rfl⟩
  go_wp2_with fail
  refine (FC _).mono ?_
  rintro e wx ⟨rfl, rfl⟩
  go_wp2_with fail
  refine (FA _).mono ?_
  rintro e wx ⟨rfl, rfl⟩
  go_wp2_with fail
  refine (CI.out _ (Below.refl _ _)).mono ?_
  rintro e w1 ⟨rfl, hb1⟩
  go_wp2_with fail
  refine (CC.out _ hb1).mono ?_
  rintro e w2 ⟨rfl, hb2⟩
  have B2 := hide (bel_trans hb1 hb2)
  clear hb1 hb2 CI CC FM FC FA
  go_wp2_with fail
  go_cut [10] from 42 to 47 (fun x wc => ∃ g, x = .pointer (some ⟨g, 0, none⟩) ∧ Hid (Mk w wc g ⟨[], List.replicate mn false, [], List.replicate an 0⟩))
  case first =>
      have B0 := hide (bel_drawn B2.out)
      clear B2
      refine wp_region_any mixed ?_
      change wpAny _ _ _ _ _ _ _ (World.drew _)
      generalize World.drew _ = W0 at *
      refine wpAny_take (i := 0) (v := ?_) rfl (by kernel_rfl) (by kernel_rfl) (by kernel_rfl) (fun _ _ _ h => h) (Or.inl ⟨by rfl, fun w => ?_⟩) ?_
      rotate_left 1
      · (go_simp <;> with_reducible rfl)
      simp only [Act.put, List.getElem_toArray, List.getElem_cons_zero, List.setIfInBounds_toArray, List.set_cons_zero, List.set_cons_succ]
      refine wpAny_take (i := 2) (v := ?_) rfl (by kernel_rfl) (by kernel_rfl) (by kernel_rfl) (fun _ _ _ h => h) (Or.inl ⟨by rfl, fun w => ?_⟩) ?_
      rotate_left 1
      · (go_simp <;> with_reducible rfl)
      simp only [Act.put, List.getElem_toArray, List.getElem_cons_zero, List.getElem_cons_succ, List.setIfInBounds_toArray, List.set_cons_zero, List.set_cons_succ]
      refine wpAny_ready (rs := [1, 3]) (by kernel_rfl) (by decide) ?_
      refine AllReady.cons rfl (fun K1 hK1 => ?_) (AllReady.cons rfl (fun K1 hK1 => ?_) AllReady.nil)
      · have q := run_mkB mn hmn
        go_simp
        refine hK1 _ _ ?_
        clear hK1 K1 q
        refine wpAny_ready (rs := [3]) (by kernel_rfl) (by decide) ?_
        refine AllReady.cons rfl (fun K1 hK1 => ?_) AllReady.nil
        have q := run_mkI an han
        go_simp
        refine hK1 _ _ ?_
        clear hK1 K1 q
        refine wpAny_take (i := 4) (v := ?_) rfl (by kernel_rfl) (by kernel_rfl) (by kernel_rfl) (fun _ _ _ h => h) (Or.inl ⟨by rfl, fun w => ?_⟩) ?_
        rotate_left 1
        · (go_simp <;> with_reducible rfl)
        simp only [Act.put, List.getElem_toArray, List.getElem_cons_zero, List.getElem_cons_succ, List.setIfInBounds_toArray, List.set_cons_zero, List.set_cons_succ]
        refine wpAny_ready (rs := [5]) (by kernel_rfl) (by decide) ?_
        refine AllReady.cons rfl (fun K1 hK1 => ?_) AllReady.nil
        go_simp
        refine hK1 _ _ ?_
        clear hK1 K1
        refine wpAny_take (i := 6) (v := ?_) rfl (by kernel_rfl) (by kernel_rfl) (by kernel_rfl) (fun _ _ _ h => h) (Or.inl ⟨by rfl, fun w => ?_⟩) ?_
        rotate_left 1
        · (go_simp <;> with_reducible rfl)
        simp only [Act.put, List.getElem_toArray, List.getElem_cons_zero, List.getElem_cons_succ, List.setIfInBounds_toArray, List.set_cons_zero, List.set_cons_succ]
        refine wpAny_done (by kernel_rfl) ?_ _
        go_wp2_with fail
        go_meet
        case rel =>
          first | exact ⟨_, rfl, mk_new hmn han B0.out rfl⟩ | exact ⟨_, rfl, mk_new2 hmn han B0.out rfl⟩
      · have q := run_mkI an han
        go_simp
        refine hK1 _ _ ?_
        clear hK1 K1 q
        refine wpAny_ready (rs := [1]) (by kernel_rfl) (by decide) ?_
        refine AllReady.cons rfl (fun K1 hK1 => ?_) AllReady.nil
        have q := run_mkB mn hmn
        go_simp
        refine hK1 _ _ ?_
        clear hK1 K1 q
        refine wpAny_take (i := 4) (v := ?_) rfl (by kernel_rfl) (by kernel_rfl) (by kernel_rfl) (fun _ _ _ h => h) (Or.inl ⟨by rfl, fun w => ?_⟩) ?_
        rotate_left 1
        · (go_simp <;> with_reducible rfl)
        simp only [Act.put, List.getElem_toArray, List.getElem_cons_zero, List.getElem_cons_succ, List.setIfInBounds_toArray, List.set_cons_zero, List.set_cons_succ]
        refine wpAny_ready (rs := [5]) (by kernel_rfl) (by decide) ?_
        refine AllReady.cons rfl (fun K1 hK1 => ?_) AllReady.nil
        go_simp
        refine hK1 _ _ ?_
        clear hK1 K1
        refine wpAny_take (i := 6) (v := ?_) rfl (by kernel_rfl) (by kernel_rfl) (by kernel_rfl) (fun _ _ _ h => h) (Or.inl ⟨by rfl, fun w => ?_⟩) ?_
        rotate_left 1
        · (go_simp <;> with_reducible rfl)
        simp only [Act.put, List.getElem_toArray, List.getElem_cons_zero, List.getElem_cons_succ, List.setIfInBounds_toArray, List.set_cons_zero, List.set_cons_succ]
        refine wpAny_done (by kernel_rfl) ?_ _
        go_wp2_with fail
        go_meet
        case rel =>
          first | exact ⟨_, rfl, mk_new hmn han B0.out rfl⟩ | exact ⟨_, rfl, mk_new2 hmn han B0.out rfl⟩
  case rest =>
    obtain ⟨g, rfl, M0⟩ := hcut
    clear B2
    go_wp2_with fail
    go_loopw [12, 50] (fun x i wr => ∃ k : Nat, k ≤ lP ∧ i = .int .i64 k ∧ Hid (Mk w wr g ⟨zz (ps.take k), List.replicate mn false, [], List.replicate an 0⟩)) (fun x i _ => lP - (intOf i).toNat)
    case atStart => exact ⟨0, Nat.zero_le _, rfl, M0⟩
    case round =>
     obtain ⟨k, hk, rfl, M1⟩ := hrel
     clear M0
     by_cases hlt : k < lP
     · have hlt' : (k : Int) < (lP : Int) := by omega
       obtain ⟨b1, o1, rfl, hb1, hc1⟩ := HP.out k hlt
       obtain ⟨F, ⟨vP, vM, vC, vA, vs, S⟩, hF, hB⟩ := M1.out
       have hcr := (hB.cell (p := ⟨b1, o1 + k, none⟩) hb1).trans hc1
       obtain ⟨aQ, cQ, eQ, _⟩ := own_slice S.pl
       obtain ⟨nQ, hnQ⟩ : ∃ n, n = (zz (ps.take k)).length := ⟨_, rfl⟩
       rw [show ({ P := zz (ps.take k), M := List.replicate mn false, C := [], A := List.replicate an 0 } : St).P.length = nQ from hnQ.symm] at eQ
       subst eQ
       have HLS : Hid ((zz (ps.take k)).length < 128) := hide (by simp [zz]; have := HLP.out; omega)
       have ZA : ∀ w, Calls Tryd.prog 39 #[.int .i64 (ps.getD k 0)] w (Vv w (ps.getD k 0) 0 0) := fun w => by
         have := zero_any (ps.getD k 0) w
         rw [zeroT_of (any_at H4.out k 0 (by have := HLP.out; omega))] at this
         exact this
       have HSN : Hid (zz (ps.take (k + 1)) = zz (ps.take k) ++ [(ps.getD k 0, 0, 0)]) := hide (by rw [take_snoc ps k 0 (by have := HLP.out; omega)]; simp [zz])
       have S0 := hide (S.bel (bel_drawn (Below.refl wr.heap.size wr)))
       have B0 := hide (bel_drawn hB)
       have HF := hide hF
       generalize ps.getD k 0 = y at *
       clear S hB hF M1 hc1 hb1 hnQ
       go_wp2_with fail
       refine wp_region_any mixed ?_
       change wpAny _ _ _ _ _ _ _ (World.drew _)
       generalize World.drew _ = W0 at *
       refine wpAny_take (i := 0) (v := ?_) rfl (by kernel_rfl) (by kernel_rfl) (by kernel_rfl) (fun _ _ _ h => h) (Or.inl ⟨by rfl, fun w => ?_⟩) ?_
       rotate_left 1
       · (go_simp <;> with_reducible rfl)
       simp only [Act.put, List.getElem_toArray, List.getElem_cons_zero, List.setIfInBounds_toArray, List.set_cons_zero, List.set_cons_succ]
       refine wpAny_take (i := 1) (v := ?_) rfl (by kernel_rfl) (by kernel_rfl) (by kernel_rfl) (fun _ _ _ h => h) (Or.inl ⟨by rfl, fun w => ?_⟩) ?_
       rotate_left 1
       · (go_simp <;> with_reducible rfl)
       simp only [Act.put, List.getElem_toArray, List.getElem_cons_zero, List.getElem_cons_succ, List.setIfInBounds_toArray, List.set_cons_zero, List.set_cons_succ]
       refine wpAny_take (i := 2) (v := ?_) rfl (by kernel_rfl) (by kernel_rfl) (by kernel_rfl) (fun _ _ _ h => h) (Or.inl ⟨by rfl, fun w => ?_⟩) ?_
       rotate_left 1
       · (go_simp <;> with_reducible rfl)
       simp only [Act.put, List.getElem_toArray, List.getElem_cons_zero, List.getElem_cons_succ, List.setIfInBounds_toArray, List.set_cons_zero, List.set_cons_succ]
       refine wpAny_take (i := 3) (v := ?_) rfl (by kernel_rfl) (by kernel_rfl) (by kernel_rfl) (fun _ _ _ h => h) (Or.inl ⟨by rfl, fun w => ?_⟩) ?_
       rotate_left 1
       · (go_simp <;> with_reducible rfl)
       simp only [Act.put, List.getElem_toArray, List.getElem_cons_zero, List.getElem_cons_succ, List.setIfInBounds_toArray, List.set_cons_zero, List.set_cons_succ]
       refine wpAny_take (i := 5) (v := ?_) rfl (by kernel_rfl) (by kernel_rfl) (by kernel_rfl) (fun _ _ _ h => h) (Or.inl ⟨by rfl, fun w => ?_⟩) ?_
       rotate_left 1
       · (go_simp <;> with_reducible rfl)
       simp only [Act.put, List.getElem_toArray, List.getElem_cons_zero, List.getElem_cons_succ, List.setIfInBounds_toArray, List.set_cons_zero, List.set_cons_succ]
       refine wpAny_ready (rs := [4, 6]) (by kernel_rfl) (by decide) ?_
       refine AllReady.cons rfl (fun K1 hK1 => ?_) (AllReady.cons rfl (fun K1 hK1 => ?_) AllReady.nil)
       · have q := (show W0.cell? ⟨g, 0, none⟩ = some (.slice aQ nQ cQ) from S0.out.cells.1)
         go_simp
         refine hK1 _ _ ?_
         clear hK1 K1 q
         refine wpAny_ready (rs := [6]) (by kernel_rfl) (by decide) ?_
         refine AllReady.cons rfl (fun K1 hK1 => ?_) AllReady.nil
         go_simp
         refine (ZA _).mono ?_
         rintro e W1 ⟨rfl, hb1⟩
         have S1 := hide (S0.out.bel hb1)
         have B1 := hide (bel_trans B0.out hb1)
         have PU := hide (fun ty => S1.out.pushP (y, 0, 0) HLS.out ty)
         clear hb1
         refine hK1 _ _ ?_
         clear hK1 K1
         refine wpAny_ready (rs := [7]) (by kernel_rfl) (by decide) ?_
         refine AllReady.cons rfl (fun K1 hK1 => ?_) AllReady.nil
         go_simp
         refine hK1 _ _ ?_
         clear hK1 K1
         refine wpAny_ready (rs := [8]) (by kernel_rfl) (by decide) ?_
         refine AllReady.cons rfl (fun K1 hK1 => ?_) AllReady.nil
         refine step_appV (TS := 46) (.tmp 58) (.tmp 61) _ _ _ (fun ty => PU.out ty) rfl rfl rfl rfl ?_
         rintro v9 w9 ⟨⟨a9, l9, c9, rfl⟩, z1, z2, r9⟩
         have R9 := hide r9
         clear r9
         refine hK1 _ _ ?_
         clear hK1 K1
         refine wpAny_take (i := 9) (v := ?_) rfl (by kernel_rfl) (by kernel_rfl) (by kernel_rfl) (fun _ _ _ h => h) (Or.inl ⟨by rfl, fun w => ?_⟩) ?_
         rotate_left 1
         · (go_simp <;> with_reducible rfl)
         simp only [Act.put, List.getElem_toArray, List.getElem_cons_zero, List.getElem_cons_succ, List.setIfInBounds_toArray, List.set_cons_zero, List.set_cons_succ]
         refine wpAny_take (i := 10) (v := ?_) rfl (by kernel_rfl) (by kernel_rfl) (by kernel_rfl) (fun _ _ _ h => h) (Or.inl ⟨by rfl, fun w => ?_⟩) ?_
         rotate_left 1
         · (go_simp <;> with_reducible rfl)
         simp only [Act.put, List.getElem_toArray, List.getElem_cons_zero, List.getElem_cons_succ, List.setIfInBounds_toArray, List.set_cons_zero, List.set_cons_succ]
         refine wpAny_ready (rs := [11]) (by kernel_rfl) (by decide) ?_
         refine AllReady.cons rfl (fun K1 hK1 => ?_) AllReady.nil
         go_simp
         refine hK1 _ _ ?_
         clear hK1 K1 z1 z2
         refine wpAny_done (by kernel_rfl) ?_ _
         go_wp2_with fail
         go_roundw
         case rel =>
           refine ⟨k + 1, by omega, by go_num, ?_⟩
           have hx := Mk.of HF.out B1.out ⟨_, _, _, _, _, R9.out.1⟩ R9.out.2
           have e : zz (ps.take (k + 1)) = zz (ps.take k) ++ [(y, 0, 0)] := HSN.out
           rw [e]
           exact hx
         case measure => simp [intOf]; omega
       · go_simp
         refine (ZA _).mono ?_
         rintro e W1 ⟨rfl, hb1⟩
         have S1 := hide (S0.out.bel hb1)
         have B1 := hide (bel_trans B0.out hb1)
         have PU := hide (fun ty => S1.out.pushP (y, 0, 0) HLS.out ty)
         clear hb1
         refine hK1 _ _ ?_
         clear hK1 K1
         refine wpAny_ready (rs := [4, 7]) (by kernel_rfl) (by decide) ?_
         refine AllReady.cons rfl (fun K1 hK1 => ?_) (AllReady.cons rfl (fun K1 hK1 => ?_) AllReady.nil)
         · have q := (show W1.cell? ⟨g, 0, none⟩ = some (.slice aQ nQ cQ) from S1.out.cells.1)
           go_simp
           refine hK1 _ _ ?_
           clear hK1 K1 q
           refine wpAny_ready (rs := [7]) (by kernel_rfl) (by decide) ?_
           refine AllReady.cons rfl (fun K1 hK1 => ?_) AllReady.nil
           go_simp
           refine hK1 _ _ ?_
           clear hK1 K1
           refine wpAny_ready (rs := [8]) (by kernel_rfl) (by decide) ?_
           refine AllReady.cons rfl (fun K1 hK1 => ?_) AllReady.nil
           refine step_appV (TS := 46) (.tmp 58) (.tmp 61) _ _ _ (fun ty => PU.out ty) rfl rfl rfl rfl ?_
           rintro v9 w9 ⟨⟨a9, l9, c9, rfl⟩, z1, z2, r9⟩
           have R9 := hide r9
           clear r9
           refine hK1 _ _ ?_
           clear hK1 K1
           refine wpAny_take (i := 9) (v := ?_) rfl (by kernel_rfl) (by kernel_rfl) (by kernel_rfl) (fun _ _ _ h => h) (Or.inl ⟨by rfl, fun w => ?_⟩) ?_
           rotate_left 1
           · (go_simp <;> with_reducible rfl)
           simp only [Act.put, List.getElem_toArray, List.getElem_cons_zero, List.getElem_cons_succ, List.setIfInBounds_toArray, List.set_cons_zero, List.set_cons_succ]
           refine wpAny_take (i := 10) (v := ?_) rfl (by kernel_rfl) (by kernel_rfl) (by kernel_rfl) (fun _ _ _ h => h) (Or.inl ⟨by rfl, fun w => ?_⟩) ?_
           rotate_left 1
           · (go_simp <;> with_reducible rfl)
           simp only [Act.put, List.getElem_toArray, List.getElem_cons_zero, List.getElem_cons_succ, List.setIfInBounds_toArray, List.set_cons_zero, List.set_cons_succ]
           refine wpAny_ready (rs := [11]) (by kernel_rfl) (by decide) ?_
           refine AllReady.cons rfl (fun K1 hK1 => ?_) AllReady.nil
           go_simp
           refine hK1 _ _ ?_
           clear hK1 K1 z1 z2
           refine wpAny_done (by kernel_rfl) ?_ _
           go_wp2_with fail
           go_roundw
           case rel =>
             refine ⟨k + 1, by omega, by go_num, ?_⟩
             have hx := Mk.of HF.out B1.out ⟨_, _, _, _, _, R9.out.1⟩ R9.out.2
             have e : zz (ps.take (k + 1)) = zz (ps.take k) ++ [(y, 0, 0)] := HSN.out
             rw [e]
             exact hx
           case measure => simp [intOf]; omega
         · go_simp
           refine hK1 _ _ ?_
           clear hK1 K1
           refine wpAny_ready (rs := [4]) (by kernel_rfl) (by decide) ?_
           refine AllReady.cons rfl (fun K1 hK1 => ?_) AllReady.nil
           have q := (show (W1.alloc (.cells #[.int .i64 y, .int .i64 0, .int .u64 0] 41)).cell? ⟨g, 0, none⟩ = some (.slice aQ nQ cQ) from ((bel_new W1 _).cell (p := ⟨g, 0, none⟩) (S1.out.fb g S1.out.fg)).trans S1.out.cells.1)
           go_simp
           refine hK1 _ _ ?_
           clear hK1 K1 q
           refine wpAny_ready (rs := [8]) (by kernel_rfl) (by decide) ?_
           refine AllReady.cons rfl (fun K1 hK1 => ?_) AllReady.nil
           refine step_appV (TS := 46) (.tmp 58) (.tmp 61) _ _ _ (fun ty => PU.out ty) rfl rfl rfl rfl ?_
           rintro v9 w9 ⟨⟨a9, l9, c9, rfl⟩, z1, z2, r9⟩
           have R9 := hide r9
           clear r9
           refine hK1 _ _ ?_
           clear hK1 K1
           refine wpAny_take (i := 9) (v := ?_) rfl (by kernel_rfl) (by kernel_rfl) (by kernel_rfl) (fun _ _ _ h => h) (Or.inl ⟨by rfl, fun w => ?_⟩) ?_
           rotate_left 1
           · (go_simp <;> with_reducible rfl)
           simp only [Act.put, List.getElem_toArray, List.getElem_cons_zero, List.getElem_cons_succ, List.setIfInBounds_toArray, List.set_cons_zero, List.set_cons_succ]
           refine wpAny_take (i := 10) (v := ?_) rfl (by kernel_rfl) (by kernel_rfl) (by kernel_rfl) (fun _ _ _ h => h) (Or.inl ⟨by rfl, fun w => ?_⟩) ?_
           rotate_left 1
           · (go_simp <;> with_reducible rfl)
           simp only [Act.put, List.getElem_toArray, List.getElem_cons_zero, List.getElem_cons_succ, List.setIfInBounds_toArray, List.set_cons_zero, List.set_cons_succ]
           refine wpAny_ready (rs := [11]) (by kernel_rfl) (by decide) ?_
           refine AllReady.cons rfl (fun K1 hK1 => ?_) AllReady.nil
           go_simp
           refine hK1 _ _ ?_
           clear hK1 K1 z1 z2
           refine wpAny_done (by kernel_rfl) ?_ _
           go_wp2_with fail
           go_roundw
           case rel =>
             refine ⟨k + 1, by omega, by go_num, ?_⟩
             have hx := Mk.of HF.out B1.out ⟨_, _, _, _, _, R9.out.1⟩ R9.out.2
             have e : zz (ps.take (k + 1)) = zz (ps.take k) ++ [(y, 0, 0)] := HSN.out
             rw [e]
             exact hx
           case measure => simp [intOf]; omega
     · obtain rfl : k = lP := by omega
       have M2 : Hid (Mk w wr g ⟨zz ps, List.replicate mn false, cz (cs.take 0), List.replicate an 0⟩) := hide (by
         have := M1.out
         rw [List.take_of_length_le (by have := HLP.out; omega)] at this
         exact this)
       clear M1
       go_wp2_with fail
       go_loopw [14, 68] (fun x i wr => ∃ k : Nat, k ≤ lC ∧ i = .int .i64 k ∧ Hid (Mk w wr g ⟨zz ps, List.replicate mn false, cz (cs.take k), List.replicate an 0⟩)) (fun x i _ => lC - (intOf i).toNat)
       case atStart => exact ⟨0, Nat.zero_le _, rfl, M2⟩
       case round =>
        obtain ⟨k, hk, rfl, M1⟩ := hrel
        clear M2
        by_cases hlt : k < lC
        · have hlt' : (k : Int) < (lC : Int) := by omega
          obtain ⟨b1, o1, rfl, hb1, hc1, hc2⟩ := HC.out k hlt
          obtain ⟨F, ⟨vP, vM, vC, vA, vs, S⟩, hF, hB⟩ := M1.out
          have hcr := (hB.cell (p := ⟨b1, o1 + k * 2, none⟩) hb1).trans hc1
          have hcs := (hB.cell (p := ⟨b1, o1 + k * 2 + 1, none⟩) hb1).trans hc2
          obtain ⟨aQ, cQ, eQ, _⟩ := own_slice S.ch
          obtain ⟨nQ, hnQ⟩ : ∃ n, n = (cz (cs.take k)).length := ⟨_, rfl⟩
          rw [show ({ P := zz ps, M := List.replicate mn false, C := cz (cs.take k), A := List.replicate an 0 } : St).C.length = nQ from hnQ.symm] at eQ
          subst eQ
          have HLS : Hid ((cz (cs.take k)).length < 32) := hide (by simp [cz]; have := HLC.out; omega)
          have HSN : Hid (cz (cs.take (k + 1)) = cz (cs.take k) ++ [⟨(cs.getD k (0, 0)).1, (cs.getD k (0, 0)).2, []⟩]) := hide (by rw [take_snoc cs k (0, 0) (by have := HLC.out; omega)]; simp [cz])
          have hbc := any_at H5.out k (0, 0) (by have := HLC.out; omega)
          have HRM : Hid (0 ≤ (cs.getD k (0, 0)).2 ∧ (cs.getD k (0, 0)).2 ≤ 8 ∧ ((0 : Nat) : Int) ≤ (cs.getD k (0, 0)).2) := hide (by
            unfold badC chanB at hbc
            simp only [Bool.or_eq_false_iff, decide_eq_false_iff_not] at hbc
            omega)
          clear hbc
          generalize (cs.getD k (0, 0)).1 = y1 at *
          generalize (cs.getD k (0, 0)).2 = y2 at *
          have hbX := bel_new wr (.cells #[.int .i64 y1, .int .i64 y2] 52)
          have S0 := hide (S.bel (bel_drawn hbX))
          have B0 := hide (bel_drawn (bel_trans hB hbX))
          have X0 : Hid ((wr.alloc (.cells #[.int .i64 y1, .int .i64 y2] 52)).drew.cell? ⟨wr.heap.size, 0, none⟩ = some (.int .i64 y1) ∧ (wr.alloc (.cells #[.int .i64 y1, .int .i64 y2] 52)).drew.cell? ⟨wr.heap.size, 1, none⟩ = some (.int .i64 y2)) := hide ⟨blk_cell (Go.Deep.blk_alloc_new wr _) 0 _ rfl, blk_cell (Go.Deep.blk_alloc_new wr _) 1 _ rfl⟩
          have PU := hide (fun ty => S0.out.pushC ⟨y1, y2, []⟩ (own_nil _ _ _) (fun k hk => by cases hk) HLS.out HRM.out ty)
          have HF := hide hF
          clear S hB hF M1 hc1 hb1 hnQ hbX hc2
          go_wp2_with fail
          refine wp_region_any mixed ?_
          change wpAny _ _ _ _ _ _ _ (World.drew _)
          generalize World.drew _ = W0 at *
          refine wpAny_take (i := 0) (v := ?_) rfl (by kernel_rfl) (by kernel_rfl) (by kernel_rfl) (fun _ _ _ h => h) (Or.inl ⟨by rfl, fun w => ?_⟩) ?_
          rotate_left 1
          · (go_simp <;> with_reducible rfl)
          simp only [Act.put, List.getElem_toArray, List.getElem_cons_zero, List.setIfInBounds_toArray, List.set_cons_zero, List.set_cons_succ]
          refine wpAny_take (i := 1) (v := ?_) rfl (by kernel_rfl) (by kernel_rfl) (by kernel_rfl) (fun _ _ _ h => h) (Or.inl ⟨by rfl, fun w => ?_⟩) ?_
          rotate_left 1
          · (go_simp <;> with_reducible rfl)
          simp only [Act.put, List.getElem_toArray, List.getElem_cons_zero, List.getElem_cons_succ, List.setIfInBounds_toArray, List.set_cons_zero, List.set_cons_succ]
          refine wpAny_take (i := 2) (v := ?_) rfl (by kernel_rfl) (by kernel_rfl) (by kernel_rfl) (fun _ _ _ h => h) (Or.inl ⟨by rfl, fun w => ?_⟩) ?_
          rotate_left 1
          · (go_simp <;> with_reducible rfl)
          simp only [Act.put, List.getElem_toArray, List.getElem_cons_zero, List.getElem_cons_succ, List.setIfInBounds_toArray, List.set_cons_zero, List.set_cons_succ]
          refine wpAny_take (i := 3) (v := ?_) rfl (by kernel_rfl) (by kernel_rfl) (by kernel_rfl) (fun _ _ _ h => h) (Or.inl ⟨by rfl, fun w => ?_⟩) ?_
          rotate_left 1
          · (go_simp <;> with_reducible rfl)
          simp only [Act.put, List.getElem_toArray, List.getElem_cons_zero, List.getElem_cons_succ, List.setIfInBounds_toArray, List.set_cons_zero, List.set_cons_succ]
          refine wpAny_ready (rs := [4, 5]) (by kernel_rfl) (by decide) ?_
          refine AllReady.cons rfl (fun K1 hK1 => ?_) (AllReady.cons rfl (fun K1 hK1 => ?_) AllReady.nil)
          · have q := (show W0.cell? ⟨g, 2, none⟩ = some (.slice aQ nQ cQ) from S0.out.cells.2.2.1)
            go_simp
            refine hK1 _ _ ?_
            clear hK1 K1 q
            refine wpAny_ready (rs := [5]) (by kernel_rfl) (by decide) ?_
            refine AllReady.cons rfl (fun K1 hK1 => ?_) AllReady.nil
            obtain ⟨q0, q1⟩ := X0.out
            go_simp
            refine hK1 _ _ ?_
            clear hK1 K1 q0 q1
            refine wpAny_take (i := 6) (v := ?_) rfl (by kernel_rfl) (by kernel_rfl) (by kernel_rfl) (fun _ _ _ h => h) (Or.inl ⟨by rfl, fun w => ?_⟩) ?_
            rotate_left 1
            · (go_simp <;> with_reducible rfl)
            simp only [Act.put, List.getElem_toArray, List.getElem_cons_zero, List.getElem_cons_succ, List.setIfInBounds_toArray, List.set_cons_zero, List.set_cons_succ]
            refine wpAny_ready (rs := [7]) (by kernel_rfl) (by decide) ?_
            refine AllReady.cons rfl (fun K1 hK1 => ?_) AllReady.nil
            go_simp
            refine hK1 _ _ ?_
            clear hK1 K1
            refine wpAny_ready (rs := [8]) (by kernel_rfl) (by decide) ?_
            refine AllReady.cons rfl (fun K1 hK1 => ?_) AllReady.nil
            refine step_appV (TS := 93) (.tmp 76) (.tmp 79) _ _ _ (fun ty => PU.out ty) rfl rfl rfl rfl ?_
            rintro v9 w9 ⟨⟨a9, l9, c9, rfl⟩, z1, z2, r9⟩
            have R9 := hide r9
            clear r9
            refine hK1 _ _ ?_
            clear hK1 K1
            refine wpAny_take (i := 9) (v := ?_) rfl (by kernel_rfl) (by kernel_rfl) (by kernel_rfl) (fun _ _ _ h => h) (Or.inl ⟨by rfl, fun w => ?_⟩) ?_
            rotate_left 1
            · (go_simp <;> with_reducible rfl)
            simp only [Act.put, List.getElem_toArray, List.getElem_cons_zero, List.getElem_cons_succ, List.setIfInBounds_toArray, List.set_cons_zero, List.set_cons_succ]
            refine wpAny_take (i := 10) (v := ?_) rfl (by kernel_rfl) (by kernel_rfl) (by kernel_rfl) (fun _ _ _ h => h) (Or.inl ⟨by rfl, fun w => ?_⟩) ?_
            rotate_left 1
            · (go_simp <;> with_reducible rfl)
            simp only [Act.put, List.getElem_toArray, List.getElem_cons_zero, List.getElem_cons_succ, List.setIfInBounds_toArray, List.set_cons_zero, List.set_cons_succ]
            refine wpAny_ready (rs := [11]) (by kernel_rfl) (by decide) ?_
            refine AllReady.cons rfl (fun K1 hK1 => ?_) AllReady.nil
            go_simp
            refine hK1 _ _ ?_
            clear hK1 K1 z1 z2
            refine wpAny_done (by kernel_rfl) ?_ _
            go_wp2_with fail
            go_roundw
            case rel =>
              refine ⟨k + 1, by omega, by go_num, ?_⟩
              have e : cz (cs.take (k + 1)) = cz (cs.take k) ++ [⟨y1, y2, []⟩] := HSN.out
              rw [e]
              refine ⟨_, ⟨_, _, _, _, _, R9.out.2.1⟩, fun k hk => ?_, B0.out.trans (R9.out.2.2.bel HF.out B0.out.size)⟩
              rcases hk with hk | hk | hk
              · exact HF.out k hk
              · rcases R9.out.1 k hk with h1 | h1
                · exact HF.out k (S0.out.fC k h1)
                · exact Nat.le_trans B0.out.size h1
              · cases hk
            case measure => simp [intOf]; omega
          · obtain ⟨q0, q1⟩ := X0.out
            go_simp
            refine hK1 _ _ ?_
            clear hK1 K1 q0 q1
            refine wpAny_take (i := 6) (v := ?_) rfl (by kernel_rfl) (by kernel_rfl) (by kernel_rfl) (fun _ _ _ h => h) (Or.inl ⟨by rfl, fun w => ?_⟩) ?_
            rotate_left 1
            · (go_simp <;> with_reducible rfl)
            simp only [Act.put, List.getElem_toArray, List.getElem_cons_zero, List.getElem_cons_succ, List.setIfInBounds_toArray, List.set_cons_zero, List.set_cons_succ]
            refine wpAny_ready (rs := [4, 7]) (by kernel_rfl) (by decide) ?_
            refine AllReady.cons rfl (fun K1 hK1 => ?_) (AllReady.cons rfl (fun K1 hK1 => ?_) AllReady.nil)
            · have q := (show W0.cell? ⟨g, 2, none⟩ = some (.slice aQ nQ cQ) from S0.out.cells.2.2.1)
              go_simp
              refine hK1 _ _ ?_
              clear hK1 K1 q
              refine wpAny_ready (rs := [7]) (by kernel_rfl) (by decide) ?_
              refine AllReady.cons rfl (fun K1 hK1 => ?_) AllReady.nil
              go_simp
              refine hK1 _ _ ?_
              clear hK1 K1
              refine wpAny_ready (rs := [8]) (by kernel_rfl) (by decide) ?_
              refine AllReady.cons rfl (fun K1 hK1 => ?_) AllReady.nil
              refine step_appV (TS := 93) (.tmp 76) (.tmp 79) _ _ _ (fun ty => PU.out ty) rfl rfl rfl rfl ?_
              rintro v9 w9 ⟨⟨a9, l9, c9, rfl⟩, z1, z2, r9⟩
              have R9 := hide r9
              clear r9
              refine hK1 _ _ ?_
              clear hK1 K1
              refine wpAny_take (i := 9) (v := ?_) rfl (by kernel_rfl) (by kernel_rfl) (by kernel_rfl) (fun _ _ _ h => h) (Or.inl ⟨by rfl, fun w => ?_⟩) ?_
              rotate_left 1
              · (go_simp <;> with_reducible rfl)
              simp only [Act.put, List.getElem_toArray, List.getElem_cons_zero, List.getElem_cons_succ, List.setIfInBounds_toArray, List.set_cons_zero, List.set_cons_succ]
              refine wpAny_take (i := 10) (v := ?_) rfl (by kernel_rfl) (by kernel_rfl) (by kernel_rfl) (fun _ _ _ h => h) (Or.inl ⟨by rfl, fun w => ?_⟩) ?_
              rotate_left 1
              · (go_simp <;> with_reducible rfl)
              simp only [Act.put, List.getElem_toArray, List.getElem_cons_zero, List.getElem_cons_succ, List.setIfInBounds_toArray, List.set_cons_zero, List.set_cons_succ]
              refine wpAny_ready (rs := [11]) (by kernel_rfl) (by decide) ?_
              refine AllReady.cons rfl (fun K1 hK1 => ?_) AllReady.nil
              go_simp
              refine hK1 _ _ ?_
              clear hK1 K1 z1 z2
              refine wpAny_done (by kernel_rfl) ?_ _
              go_wp2_with fail
              go_roundw
              case rel =>
                refine ⟨k + 1, by omega, by go_num, ?_⟩
                have e : cz (cs.take (k + 1)) = cz (cs.take k) ++ [⟨y1, y2, []⟩] := HSN.out
                rw [e]
                refine ⟨_, ⟨_, _, _, _, _, R9.out.2.1⟩, fun k hk => ?_, B0.out.trans (R9.out.2.2.bel HF.out B0.out.size)⟩
                rcases hk with hk | hk | hk
                · exact HF.out k hk
                · rcases R9.out.1 k hk with h1 | h1
                  · exact HF.out k (S0.out.fC k h1)
                  · exact Nat.le_trans B0.out.size h1
                · cases hk
              case measure => simp [intOf]; omega
            · go_simp
              refine hK1 _ _ ?_
              clear hK1 K1
              refine wpAny_ready (rs := [4]) (by kernel_rfl) (by decide) ?_
              refine AllReady.cons rfl (fun K1 hK1 => ?_) AllReady.nil
              have q := (show (W0.alloc (.cells #[.int .i64 y1, .int .i64 y2, .slice none 0 0] 97)).cell? ⟨g, 2, none⟩ = some (.slice aQ nQ cQ) from ((bel_new W0 _).cell (p := ⟨g, 2, none⟩) (S0.out.fb g S0.out.fg)).trans S0.out.cells.2.2.1)
              go_simp
              refine hK1 _ _ ?_
              clear hK1 K1 q
              refine wpAny_ready (rs := [8]) (by kernel_rfl) (by decide) ?_
              refine AllReady.cons rfl (fun K1 hK1 => ?_) AllReady.nil
              refine step_appV (TS := 93) (.tmp 76) (.tmp 79) _ _ _ (fun ty => PU.out ty) rfl rfl rfl rfl ?_
              rintro v9 w9 ⟨⟨a9, l9, c9, rfl⟩, z1, z2, r9⟩
              have R9 := hide r9
              clear r9
              refine hK1 _ _ ?_
              clear hK1 K1
              refine wpAny_take (i := 9) (v := ?_) rfl (by kernel_rfl) (by kernel_rfl) (by kernel_rfl) (fun _ _ _ h => h) (Or.inl ⟨by rfl, fun w => ?_⟩) ?_
              rotate_left 1
              · (go_simp <;> with_reducible rfl)
              simp only [Act.put, List.getElem_toArray, List.getElem_cons_zero, List.getElem_cons_succ, List.setIfInBounds_toArray, List.set_cons_zero, List.set_cons_succ]
              refine wpAny_take (i := 10) (v := ?_) rfl (by kernel_rfl) (by kernel_rfl) (by kernel_rfl) (fun _ _ _ h => h) (Or.inl ⟨by rfl, fun w => ?_⟩) ?_
              rotate_left 1
              · (go_simp <;> with_reducible rfl)
              simp only [Act.put, List.getElem_toArray, List.getElem_cons_zero, List.getElem_cons_succ, List.setIfInBounds_toArray, List.set_cons_zero, List.set_cons_succ]
              refine wpAny_ready (rs := [11]) (by kernel_rfl) (by decide) ?_
              refine AllReady.cons rfl (fun K1 hK1 => ?_) AllReady.nil
              go_simp
              refine hK1 _ _ ?_
              clear hK1 K1 z1 z2
              refine wpAny_done (by kernel_rfl) ?_ _
              go_wp2_with fail
              go_roundw
              case rel =>
                refine ⟨k + 1, by omega, by go_num, ?_⟩
                have e : cz (cs.take (k + 1)) = cz (cs.take k) ++ [⟨y1, y2, []⟩] := HSN.out
                rw [e]
                refine ⟨_, ⟨_, _, _, _, _, R9.out.2.1⟩, fun k hk => ?_, B0.out.trans (R9.out.2.2.bel HF.out B0.out.size)⟩
                rcases hk with hk | hk | hk
                · exact HF.out k hk
                · rcases R9.out.1 k hk with h1 | h1
                  · exact HF.out k (S0.out.fC k h1)
                  · exact Nat.le_trans B0.out.size h1
                · cases hk
              case measure => simp [intOf]; omega
        · obtain rfl : k = lC := by omega
          have M3 : Hid (Mk w wr g (newS ps (mn : Nat) cs (an : Nat))) := hide (by
            have := M1.out
            rw [List.take_of_length_le (by have := HLC.out; omega)] at this
            exact this)
          clear M1
          go_wp2_with fail
          go_ret2
          obtain ⟨F, h1, h2, h3⟩ := M3.out
          exact ⟨g, F, rfl, h1, h2, h3⟩
end Go.Proofs.YtbiilnpblnjliaaDoor.Ck

/- Layer 11's statements: the chapter's example. (Written by mk_y.py.) -/
namespace Go.Proofs.YtbiilnpblnjliaaDoor.Ck
open Go.RowKit

theorem SlC.one (w : World) (t r : Int) : SlC (w.alloc (.cells #[.int .i64 t, .int .i64 r] 52)) (.slice (some ⟨w.heap.size, 0, none⟩) 1 1) [(t, r)] :=
  ⟨_, _, rfl, Nat.le_refl _, by unfold maxLen; omega, fun i hi => by
    have e : i = 0 := by simpa using hi
    subst e
    exact ⟨_, _, rfl, by simp, blk_cell (Go.Deep.blk_alloc_new w _) 0 _ rfl, blk_cell (Go.Deep.blk_alloc_new w _) 1 _ rfl⟩⟩
theorem Mk.bel {w wc wd : World} {g : Nat} {s : St} (h : Mk w wc g s) (hb : Below wc.heap.size wc wd) : Mk w wd g s := by
  obtain ⟨F, h1, h2, h3⟩ := h
  exact ⟨F, h1.bel hb, h2, bel_trans h3 hb⟩
theorem Mk.sp {w wc wd : World} {g : Nat} {s : St} {F F' : Nat → Prop} (hF : ∀ k, F k → w.heap.size ≤ k) (hb : Below w.heap.size w wc) (h : Stt wd F' g s) (c : Ch F F' wc wd) : Mk w wd g s := Mk.of hF hb h c
theorem Mk.errs {w wc : World} {g : Nat} {s : St} (h : Mk w wc g s) {p : List Addr} (h17 : E2 w p) : E2 wc p := by
  obtain ⟨F, h1, h2, h3⟩ := h
  exact h17.below (Nat.le_refl _) h3
theorem Mk.below {w wc : World} {g : Nat} {s : St} (h : Mk w wc g s) : Below w.heap.size w wc := by
  obtain ⟨F, h1, h2, h3⟩ := h
  exact h3
theorem Mk.of_new {w wa wc : World} {g : Nat} {s : St} {F : Nat → Prop} (ha : Below w.heap.size w wa) (h : Stt wc F g s) (hl : ∀ k, F k → wa.heap.size ≤ k) (hb : Below wa.heap.size wa wc) : Mk w wc g s :=
  ⟨F, h, fun k hk => Nat.le_trans ha.size (hl k hk), bel_trans ha hb⟩
/-- calls on a state that is the law's own -/
theorem Mk.room {w wc : World} {g : Nat} {s : St} (h : Mk w wc g s) {p : List Addr} (h17 : E2 w p) (i : Nat) (q : Qu) (hx : s.C[i]? = some q) (t m z : Int) (hB : isB t m z q.t = true) (hr : (q.l.length : Int) < q.room) :
    Calls Tryd.prog 31 #[.pointer (some ⟨g, 0, none⟩), .int .i64 (i : Nat), .agg #[.int .i64 t, .int .i64 m, .int .u64 z]] wc fun e w' => e = .returned (.tuple #[.bool true, .nilIface]) ∧ Mk w w' g { s with C := s.C.set i { q with l := q.l ++ [(t, m, z)] } } := by
  have h7 := h.errs h17
  obtain ⟨F, h1, h2, h3⟩ := h
  exact (Send_room h1 h7 i q hx t m z hB hr).mono fun e w' ⟨he, F', hs, hc⟩ => ⟨he, Mk.of h2 h3 hs hc⟩
theorem Mk.full {w wc : World} {g : Nat} {s : St} (h : Mk w wc g s) {p : List Addr} (h17 : E2 w p) (i : Nat) (q : Qu) (hx : s.C[i]? = some q) (t m z : Int) (hB : isB t m z q.t = true) (hr : q.room ≤ (q.l.length : Int)) :
    Calls Tryd.prog 31 #[.pointer (some ⟨g, 0, none⟩), .int .i64 (i : Nat), .agg #[.int .i64 t, .int .i64 m, .int .u64 z]] wc fun e w' => e = .returned (.tuple #[.bool false, .nilIface]) ∧ Mk w w' g s := by
  have h7 := h.errs h17
  obtain ⟨F, h1, h2, h3⟩ := id h
  exact (Send_full h1 h7 i q hx t m z hB hr).mono fun e w' ⟨he, hb⟩ => ⟨he, h.bel hb⟩
theorem Mk.recv {w wc : World} {g : Nat} {s : St} (h : Mk w wc g s) (i : Nat) (q : Qu) (hx : s.C[i]? = some q) (v : V3) (l : List V3) (hl : q.l = v :: l) :
    Calls Tryd.prog 33 #[.pointer (some ⟨g, 0, none⟩), .int .i64 (i : Nat)] wc fun e w' => e = .returned (.tuple #[.agg #[.int .i64 v.1, .int .i64 v.2.1, .int .u64 v.2.2], .bool true, .nilIface]) ∧ Mk w w' g { s with C := s.C.set i { q with l := l } } := by
  obtain ⟨F, h1, h2, h3⟩ := h
  exact (Recv_some h1 i q hx v l hl).mono fun e w' ⟨he, F', hs, hc⟩ => ⟨he, Mk.of h2 h3 hs hc⟩
theorem Mk.empty {w wc : World} {g : Nat} {s : St} (h : Mk w wc g s) (i : Nat) (q : Qu) (hx : s.C[i]? = some q) (hl : q.l = []) :
    Calls Tryd.prog 33 #[.pointer (some ⟨g, 0, none⟩), .int .i64 (i : Nat)] wc fun e w' => e = .returned (.tuple #[.agg #[.int .i64 0, .int .i64 0, .int .u64 0], .bool false, .nilIface]) ∧ Mk w w' g s := by
  obtain ⟨F, h1, h2, h3⟩ := id h
  exact (Recv_none h1 i q hx hl).mono fun e w' ⟨he, hb⟩ => ⟨he, h.bel hb⟩
set_option maxRecDepth 20000 in
set_option maxHeartbeats 2000000 in
theorem alive_any {w : World} {p : List Addr} (h17 : E2 w p) : Calls Tryd.prog 7 #[] w (Vb w (.bool true)) := by
  have NW := hide (new_ok (.slice none 0 0) (.slice (some ⟨w.heap.size, 0, none⟩) 1 1) [] [(1, 1)] 0 0 (Sl.nilS _) (SlC.one w 1 1) rfl)
  have H7 := hide h17
  have EV := eq_vv
  clear h17
  go_enter Tryd.func7, Tryd.ntmps7
  go_wp2_with fail
  refine NW.out.mono ?_
  rintro e w1 ⟨g, F, rfl, h1, hl, hb⟩
  have M1 : Hid (Mk w w1 g ⟨[], [], [⟨1, 1, []⟩], []⟩) := hide (Mk.of_new (bel_new w _) h1 hl hb)
  clear h1 hl hb NW
  go_wp2_with fail
  refine (int_any _ _).mono ?_
  rintro e w2 ⟨rfl, hb⟩
  have M2 := hide (M1.out.bel hb)
  clear hb M1
  go_wp2_with fail
  refine (M2.out.room H7.out 0 ⟨1, 1, []⟩ rfl 1 7 0 rfl (by decide)).mono ?_
  rintro e w3 ⟨rfl, h3⟩
  have M3 : Hid (Mk w w3 g ⟨[], [], [⟨1, 1, [(1, 7, 0)]⟩], []⟩) := hide h3
  clear h3 M2
  go_wp2_with fail
  refine (int_any _ _).mono ?_
  rintro e w4 ⟨rfl, hb⟩
  have M4 := hide (M3.out.bel hb)
  clear hb M3
  go_wp2_with fail
  refine (M4.out.full H7.out 0 ⟨1, 1, [(1, 7, 0)]⟩ rfl 1 8 0 rfl (by decide)).mono ?_
  rintro e w5 ⟨rfl, h5⟩
  have M5 := hide h5
  clear h5 M4
  go_wp2_with fail
  refine (M5.out.recv 0 ⟨1, 1, [(1, 7, 0)]⟩ rfl (1, 7, 0) [] rfl).mono ?_
  rintro e w6 ⟨rfl, h6⟩
  have B6 := hide (bel_al h6.below (.cells #[.int .i64 1, .int .i64 7, .int .u64 0] 41))
  have V6 := hide (Val.new w6 1 7 0)
  clear h6 M5
  go_wp2_with fail
  generalize w6.alloc (.cells #[.int .i64 1, .int .i64 7, .int .u64 0] 41) = w7 at *
  obtain ⟨_, f0, f1, f2⟩ := V6.out.all
  go_region_held3 (fun w' => (w'.cell? ⟨w6.heap.size, 0, none⟩ = some (.int .i64 1) ∧ w'.cell? ⟨w6.heap.size, 1, none⟩ = some (.int .i64 7) ∧ w'.cell? ⟨w6.heap.size, 2, none⟩ = some (.int .u64 0))) (first | (exact ⟨by assumption, by assumption, by assumption⟩)) (first | (go_at_call 32; refine (int_any _ _).mono ?_; rintro e w8 ⟨rfl, hb⟩; replace hb : Below w7.heap.size w7 w8 := ⟨hb.os, hb.tape, hb.output, hb.size, hb.block⟩; have V8 := hide (V6.out.al hb); have B8 := hide (bel_trans B6.out hb); obtain ⟨_, f0', f1', f2'⟩ := V8.out.all))
  go_wp2_with fail
  go_ret
  exact Vb.mk rfl B8.out
end Go.Proofs.YtbiilnpblnjliaaDoor.Ck

/- What package act does, as plain functions; no Go text is walked here. -/
namespace Go.Proofs.YtbiilnpblnjliaaDoor.Ck
open Go.RowKit

/-- a wait, but its arguments -/
structure Wt where
  k : Int
  o : Int
  a : Int
  v : V3
/-- a goroutine: what its script has left, and its wait -/
structure Gr where
  rest : List Wt
  w : Wt
structure Evt where
  g : Int
  k : Int
  o : Int
  a : Int
structure En where
  o : Int
  f : Int
  g : Int
  n : Int
  a : Int
structure Rm where
  s : St
  gs : List Gr
  ev : List Evt
  e : En
def z3 : V3 := (0, 0, 0)
def zW : Wt := ⟨0, 0, 0, z3⟩
def zE : En := ⟨0, 0, 0, 0, 0⟩
/-- a list's element of this number -/
def lk {α : Type} (l : List α) (i : Int) : Option α := if 0 ≤ i then l[i.toNat]? else none
def isV (v : V3) (t : Int) : Bool := isB v.1 v.2.1 v.2.2 t
/-- who waits to receive -/
def recvs (c : Int) (x : Gr) : Bool := x.w.k == 6 && x.w.o == c
def recvR (gs : List Gr) (c : Int) : Option Nat := gs.findIdx? (recvs c)
def canA (s : St) (w : Wt) : Bool := match lk s.P w.o with
  | some x => w.k == 1 || isV w.v x.1
  | none => false
def canS (r : Rm) (w : Wt) : Bool := match lk r.s.C w.o with
  | some q => isV w.v q.t && (if q.room = 0 then (recvR r.gs w.o).isSome else decide ((q.l.length : Int) < q.room))
  | none => false
def canC (s : St) (w : Wt) : Bool := match lk s.A w.o with
  | some _ => w.k == 7 || isV w.v 1
  | none => false
def canL (s : St) (w : Wt) : Bool := match lk s.M w.o with
  | some b => !b
  | none => false
def canR (s : St) (w : Wt) : Bool := match lk s.C w.o with
  | some q => decide (0 < q.l.length)
  | none => false
/-- can a goroutine with this wait run? -/
def canW (r : Rm) (w : Wt) : Bool :=
  if w.k = 1 ∨ w.k = 2 then canA r.s w
  else if w.k = 3 then canL r.s w
  else if w.k = 4 then (lk r.s.M w.o).isSome
  else if w.k = 5 then canS r w
  else if w.k = 6 then canR r.s w
  else if w.k = 7 ∨ w.k = 8 ∨ w.k = 9 then canC r.s w
  else decide (w.k = 10 ∨ w.k = 11 ∨ w.k = 12)
def can (r : Rm) (g : Int) : Bool := match lk r.gs g with
  | some x => canW r x.w
  | none => false
def nextR : List Wt → (Wt × V3) × List Wt
  | [] => ((⟨12, 0, 0, z3⟩, z3), [])
  | x :: l => if x.k = 0 then ((zW, (7, x.v.2.1, x.a)), l) else ((x, z3), l)
def faultR (r : Rm) (g : Nat) (h : V3) : Rm := { r with e := ⟨3, h.1, g, h.2.1, h.2.2⟩ }
def askR (r : Rm) (g : Nat) : Rm × Bool := match r.gs[g]? with
  | some x =>
    if (nextR x.rest).1.2.1 = 0 then ({ r with gs := r.gs.set g ⟨(nextR x.rest).2, (nextR x.rest).1.1⟩ }, true)
    else (faultR { r with gs := r.gs.set g ⟨(nextR x.rest).2, x.w⟩ } g (nextR x.rest).1.2, false)
  | none => (r, false)
def noteR (r : Rm) (g : Nat) (o : Int) : Rm := match r.gs[g]? with
  | some x => { r with ev := r.ev ++ [⟨g, x.w.k, o, x.w.a⟩] }
  | none => r
def enterR (S : List (List Wt)) (r : Rm) (fn : Int) : Option Rm := match lk S fn with
  | some l => some { r with gs := r.gs ++ [⟨l, zW⟩] }
  | none => none
/-- what a wait's call of layer 11 does, and what it gives -/
def shareR (s : St) (w : Wt) : St × V3 :=
  if w.k = 1 then (s, (lk s.P w.o).getD z3)
  else if w.k = 2 then ({ s with P := s.P.set w.o.toNat w.v }, z3)
  else if w.k = 3 then ({ s with M := s.M.set w.o.toNat true }, z3)
  else if w.k = 4 then ({ s with M := s.M.set w.o.toNat false }, z3)
  else if w.k = 5 then (match lk s.C w.o with | some q => ({ s with C := s.C.set w.o.toNat { q with l := q.l ++ [w.v] } }, z3) | none => (s, z3))
  else if w.k = 6 then (match lk s.C w.o with | some q => ({ s with C := s.C.set w.o.toNat { q with l := q.l.tail } }, q.l.headD z3) | none => (s, z3))
  else if w.k = 7 then (s, (1, (lk s.A w.o).getD 0, 0))
  else if w.k = 8 then ({ s with A := s.A.set w.o.toNat w.v.2.1 }, z3)
  else if w.k = 9 then ({ s with A := s.A.set w.o.toNat (wrap64 ((lk s.A w.o).getD 0 + w.v.2.1)) }, z3)
  else (s, z3)
def splitR (S : List (List Wt)) (r : Rm) (g : Nat) (w : Wt) : Rm :=
  if 8 ≤ r.gs.length then faultR r g (5, 0, w.a)
  else match enterR S r w.o with
    | none => faultR r g (5, 0, w.a)
    | some r1 => match askR (noteR r1 g r.gs.length) g with
      | (r2, true) => (askR r2 r.gs.length).1
      | (r2, false) => r2
def meetR (r : Rm) (g : Nat) (w : Wt) : Rm := match recvR r.gs w.o with
  | some t => match askR (noteR (noteR r g w.o) t w.o) g with
    | (r2, true) => (askR r2 t).1
    | (r2, false) => r2
  | none => r
def roomZ (s : St) (c : Int) : Bool := match lk s.C c with
  | some q => q.room == 0
  | none => true
def stepR (S : List (List Wt)) (r : Rm) (g : Nat) : Rm := match r.gs[g]? with
  | none => r
  | some x =>
    if x.w.k = 4 ∧ lk r.s.M x.w.o ≠ some true then faultR r g (4, 0, x.w.a)
    else if x.w.k = 10 then splitR S r g x.w
    else if x.w.k = 5 ∧ roomZ r.s x.w.o = true then meetR r g x.w
    else if x.w.k = 12 then { noteR r g x.w.o with gs := r.gs.set g ⟨x.rest, zW⟩ }
    else (askR (noteR { r with s := (shareR r.s x.w).1 } g x.w.o) g).1
def outR (r : Rm) : Int := if r.gs.any (fun x => canW r x.w) then 0 else if r.gs.any (fun x => x.w.k != 0) then 2 else 1
def endR (r : Rm) : En := if r.e.o = 0 then ⟨outR r, 0, 0, 0, 0⟩ else r.e
def settleR (r : Rm) : Rm := { r with e := endR r }
def runs (r : Rm) : Bool := (endR r).o == 0
def runnR (r : Rm) : List Int := if runs r then ((List.range r.gs.length).filter fun (i : Nat) => can r i).map fun (i : Nat) => (i : Int) else []
def doR (S : List (List Wt)) (r : Rm) (g : Nat) : Rm := settleR (stepR S r g)
def startR (S : List (List Wt)) (s : St) (fn : Int) : Rm :=
  settleR (match enterR S ⟨s, [], [], zE⟩ fn with
    | some r => (askR r 0).1
    | none => faultR ⟨s, [], [], zE⟩ 0 (5, 0, 0))
/-- the pick of a list, and the list's next place -/
def pickR (l : List Int) (n : Nat) : Int × Nat := match l[n]? with
  | some x => (x, (n + 1) % l.length)
  | none => (0, n)
def chooseR (L : List Int) (l : List Int) (n : Nat) : Int × Nat :=
  if L.length = 1 then (L.getD 0 0, n) else (L.getD ((max (pickR l n).1 0).toNat % L.length) 0, (pickR l n).2)
def playR (S : List (List Wt)) (l : List Int) (fuel : Int) : Nat → Rm → Nat → Rm × Nat
  | 0, r, n => (r, n)
  | f + 1, r, n =>
    if runs r = true ∧ (r.ev.length : Int) < fuel then playR S l fuel f (doR S r (chooseR (runnR r) l n).1.toNat) (chooseR (runnR r) l n).2
    else (r, n)
end Go.Proofs.YtbiilnpblnjliaaDoor.Ck
