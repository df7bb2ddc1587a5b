/- Texts of this proof, packed: contracts of the program's functions, and the plain model that they are held against. -/
import Derived.Test.YtfojninaginnoaaGreatDoorVab
import Derived.Deep.CutBlock
import Derived.RegionTactic
set_option maxRecDepth 20000
set_option maxHeartbeats 4000000
namespace Go.Proofs.YtfojninaginnoaaGreatDoor.Ck
open Go.RowKit
theorem new_ok (vP vC : Value) (ps : List Int) (cs : List (Int × Int)) (m a : Int) {w : World} (hP : Sl w vP ps) (hC : SlC w vC cs) (hok : okN ps m cs a = true) : Calls Tryz.prog 16 #[vP, I_ m, vC, I_ a] w (NewP w (newS ps m cs a)) := by
  obtain ⟨aP, lP, cP, rfl, hlP⟩ := hP.slice
  obtain ⟨aC, cC, eC, hcC, _, hcc⟩ := id hC
  obtain ⟨lC, hlC⟩ : ∃ n, n = cs.length := ⟨_, rfl⟩
  rw [← hlC] at eC hcC hcc
  subst eC
  have CI := Za (fun w' hb => contains_int (.slice aP lP cP) ps w' (hP.below (Nat.le_refl _) hb))
  have CC := Za (fun w' (hb : Below w.heap.size w w') => contains_chan (.slice aC lC cC) cs w' (hC.below hb))
  have FM : ∀ w, Calls Tryz.prog 48 #[I_ m] w fun e w' => e = .returned (.bool (fitB m)) /\ w = w' := fun w => fits_any m w
  have FC : ∀ w, Calls Tryz.prog 48 #[I_ (lC : Nat)] w fun e w' => e = .returned (.bool (fitB lC)) /\ w = w' := fun w => fits_any lC w
  have FA : ∀ w, Calls Tryz.prog 48 #[I_ a] w fun e w' => e = .returned (.bool (fitB a)) /\ w = w' := fun w => fits_any a w
  unfold okN at hok
  rw [← hlP, ← hlC] at hok
  simp only [Bool.and_eq_true, Bool.not_eq_true', decide_eq_false_iff_not] at hok
  obtain ⟨h0, h1, h2, h3, h4, h5⟩ := hok
  rw [h1] at FM
  rw [h2] at FC
  rw [h3] at FA
  rw [h4] at CI
  rw [h5] at CC
  simp only [fitB, Bool.and_eq_true, decide_eq_true_eq] at h1 h2 h3
  have h0' : (lP : Int) <= 128 := by omega
  obtain ⟨mn, rfl⟩ := Int.eq_ofNat_of_zero_le h1.1
  obtain ⟨an, rfl⟩ := Int.eq_ofNat_of_zero_le h3.1
  have hmn : mn <= 32 := by omega
  have han : an <= 32 := by omega
  have hlC32 : lC <= 32 := by omega
  have HP := Za (fun i hi => hP.at i hi)
  have HC := Za hcc
  have H4 := Za h4
  have H5 := Za h5
  have HLP := Za hlP
  have HLC := Za hlC
  clear hP hC hcc h0 h1 h2 h3 h4 h5 hlP hlC
  go_enter Tryz.func16, Tryz.ntmps16
  go_wp2_with fail
  refine (FM _).mono ?_
  rintro e wx ⟨rfl, rfl⟩
  go_wp2_with fail
  refine (FC _).mono ?_
  rintro e wx ⟨rfl, rfl⟩
  go_wp2_with fail
  refine (FA _).mono ?_
  rintro e wx ⟨rfl, rfl⟩
  go_wp2_with fail
  refine (CI.out _ (Below.refl _ _)).mono ?_
  rintro e w1 ⟨rfl, hb1⟩
  go_wp2_with fail
  refine (CC.out _ hb1).mono ?_
  rintro e w2 ⟨rfl, hb2⟩
  have B2 := Za (Zg hb1 hb2)
  clear hb1 hb2 CI CC FM FC FA
  go_wp2_with fail
  go_cut [10] from 42 to 47 (fun x wc => ∃ g, x = P_ g /\ Hid (Mk w wc g ⟨[], List.replicate mn false, [], List.replicate an 0⟩))
  case first =>
      have B0 := Za (Zp B2.out)
      clear B2
      refine wp_region_any ZJ ?_
      change wpAny _ _ _ _ _ _ _ (World.drew _)
      generalize World.drew _ = W0 at *
      refine T2_ 0 ?_
      simp only [Act.put, S_]
      refine T2_ 2 ?_
      simp only [Act.put, S_]
      refine wpAny_ready (rs := [1, 3]) (by kernel_rfl) (by decide) ?_
      refine AllReady.cons rfl (fun K1 hK1 => ?_) (AllReady.cons rfl (fun K1 hK1 => ?_) AllReady.nil)
      · have q := run_mkB mn hmn
        go_simp
        refine hK1 _ _ ?_
        clear hK1 K1 q
        refine R_ 3 (fun K1 hK1 => ?_)
        have q := run_mkI an han
        go_simp
        refine hK1 _ _ ?_
        clear hK1 K1 q
        refine T2_ 4 ?_
        simp only [Act.put, S_]
        refine R_ 5 (fun K1 hK1 => ?_)
        go_simp
        refine hK1 _ _ ?_
        clear hK1 K1
        refine T2_ 6 ?_
        simp only [Act.put, S_]
        refine wpAny_done (by kernel_rfl) ?_ _
        go_wp2_with fail
        go_meet
        case rel =>
          first | exact ⟨_, rfl, mk_new hmn han B0.out rfl⟩ | exact ⟨_, rfl, mk_new2 hmn han B0.out rfl⟩
      · have q := run_mkI an han
        go_simp
        refine hK1 _ _ ?_
        clear hK1 K1 q
        refine R_ 1 (fun K1 hK1 => ?_)
        have q := run_mkB mn hmn
        go_simp
        refine hK1 _ _ ?_
        clear hK1 K1 q
        refine T2_ 4 ?_
        simp only [Act.put, S_]
        refine R_ 5 (fun K1 hK1 => ?_)
        go_simp
        refine hK1 _ _ ?_
        clear hK1 K1
        refine T2_ 6 ?_
        simp only [Act.put, S_]
        refine wpAny_done (by kernel_rfl) ?_ _
        go_wp2_with fail
        go_meet
        case rel =>
          first | exact ⟨_, rfl, mk_new hmn han B0.out rfl⟩ | exact ⟨_, rfl, mk_new2 hmn han B0.out rfl⟩
  case rest =>
    obtain ⟨g, rfl, M0⟩ := hcut
    clear B2
    go_wp2_with fail
    go_loopw [12, 50] (fun x i wr => ∃ k : Nat, k <= lP /\ i = I_ k /\ Hid (Mk w wr g ⟨zz (ps.take k), List.replicate mn false, [], List.replicate an 0⟩)) (fun x i _ => lP - (intOf i).toNat)
    case atStart => exact ⟨0, Nat.zero_le _, rfl, M0⟩
    case round =>
     obtain ⟨k, hk, rfl, M1⟩ := hrel
     clear M0
     by_cases hlt : k < lP
     · have hlt' : (k : Int) < (lP : Int) := by omega
       obtain ⟨b1, o1, rfl, hb1, hc1⟩ := HP.out k hlt
       obtain ⟨F, ⟨vP, vM, vC, vA, vs, S⟩, hF, hB⟩ := M1.out
       have hcr := (hB.cell (p := ⟨b1, o1 + k, none⟩) hb1).trans hc1
       obtain ⟨aQ, cQ, eQ, _⟩ := Zl S.pl
       obtain ⟨nQ, hnQ⟩ : ∃ n, n = (zz (ps.take k)).length := ⟨_, rfl⟩
       rw [show ({ P := zz (ps.take k), M := List.replicate mn false, C := [], A := List.replicate an 0 } : St).P.length = nQ from hnQ.symm] at eQ
       subst eQ
       have HLS : Hid ((zz (ps.take k)).length < 128) := Za (by simp [zz]; have := HLP.out; omega)
       have ZA : ∀ w, Calls Tryz.prog 53 #[I_ (ps.getD k 0)] w (Vv w (ps.getD k 0) 0 0) := fun w => by
         have := zero_any (ps.getD k 0) w
         rw [zeroT_of (any_at H4.out k 0 (by have := HLP.out; omega))] at this
         exact this
       have HSN : Hid (zz (ps.take (k + 1)) = zz (ps.take k) ++ [(ps.getD k 0, 0, 0)]) := Za (by rw [take_snoc ps k 0 (by have := HLP.out; omega)]; simp [zz])
       have S0 := Za (S.bel (Zp (Below.refl wr.heap.size wr)))
       have B0 := Za (Zp hB)
       have HF := Za hF
       generalize ps.getD k 0 = y at *
       clear S hB hF M1 hc1 hb1 hnQ
       go_wp2_with fail
       refine wp_region_any ZJ ?_
       change wpAny _ _ _ _ _ _ _ (World.drew _)
       generalize World.drew _ = W0 at *
       refine T2_ 0 ?_
       simp only [Act.put, S_]
       refine T2_ 1 ?_
       simp only [Act.put, S_]
       refine T2_ 2 ?_
       simp only [Act.put, S_]
       refine T2_ 3 ?_
       simp only [Act.put, S_]
       refine T2_ 5 ?_
       simp only [Act.put, S_]
       refine wpAny_ready (rs := [4, 6]) (by kernel_rfl) (by decide) ?_
       refine AllReady.cons rfl (fun K1 hK1 => ?_) (AllReady.cons rfl (fun K1 hK1 => ?_) AllReady.nil)
       · have q := (show W0.cell? ⟨g, 0, none⟩ = some (.slice aQ nQ cQ) from S0.out.cells.1)
         go_simp
         refine hK1 _ _ ?_
         clear hK1 K1 q
         refine R_ 6 (fun K1 hK1 => ?_)
         go_simp
         refine (ZA _).mono ?_
         rintro e W1 ⟨rfl, hb1⟩
         have S1 := Za (S0.out.bel hb1)
         have B1 := Za (Zg B0.out hb1)
         have PU := Za (fun ty => S1.out.pushP (y, 0, 0) HLS.out ty)
         clear hb1
         refine hK1 _ _ ?_
         clear hK1 K1
         refine R_ 7 (fun K1 hK1 => ?_)
         go_simp
         refine hK1 _ _ ?_
         clear hK1 K1
         refine R_ 8 (fun K1 hK1 => ?_)
         refine Zr (TS := 65) (.tmp 58) (.tmp 61) _ _ _ (fun ty => PU.out ty) rfl rfl rfl rfl ?_
         rintro v9 w9 ⟨⟨a9, l9, c9, rfl⟩, z1, z2, r9⟩
         have R9 := Za r9
         clear r9
         refine hK1 _ _ ?_
         clear hK1 K1
         refine T2_ 9 ?_
         simp only [Act.put, S_]
         refine T2_ 10 ?_
         simp only [Act.put, S_]
         refine R_ 11 (fun K1 hK1 => ?_)
         go_simp
         refine hK1 _ _ ?_
         clear hK1 K1 z1 z2
         refine wpAny_done (by kernel_rfl) ?_ _
         go_wp2_with fail
         go_roundw
         case rel =>
           refine ⟨k + 1, by omega, by go_num, ?_⟩
           have hx := Mk.of HF.out B1.out ⟨_, _, _, _, _, R9.out.1⟩ R9.out.2
           have e : zz (ps.take (k + 1)) = zz (ps.take k) ++ [(y, 0, 0)] := HSN.out
           rw [e]
           exact hx
         case measure => simp [intOf]; omega
       · go_simp
         refine (ZA _).mono ?_
         rintro e W1 ⟨rfl, hb1⟩
         have S1 := Za (S0.out.bel hb1)
         have B1 := Za (Zg B0.out hb1)
         have PU := Za (fun ty => S1.out.pushP (y, 0, 0) HLS.out ty)
         clear hb1
         refine hK1 _ _ ?_
         clear hK1 K1
         refine wpAny_ready (rs := [4, 7]) (by kernel_rfl) (by decide) ?_
         refine AllReady.cons rfl (fun K1 hK1 => ?_) (AllReady.cons rfl (fun K1 hK1 => ?_) AllReady.nil)
         · have q := (show W1.cell? ⟨g, 0, none⟩ = some (.slice aQ nQ cQ) from S1.out.cells.1)
           go_simp
           refine hK1 _ _ ?_
           clear hK1 K1 q
           refine R_ 7 (fun K1 hK1 => ?_)
           go_simp
           refine hK1 _ _ ?_
           clear hK1 K1
           refine R_ 8 (fun K1 hK1 => ?_)
           refine Zr (TS := 65) (.tmp 58) (.tmp 61) _ _ _ (fun ty => PU.out ty) rfl rfl rfl rfl ?_
           rintro v9 w9 ⟨⟨a9, l9, c9, rfl⟩, z1, z2, r9⟩
           have R9 := Za r9
           clear r9
           refine hK1 _ _ ?_
           clear hK1 K1
           refine T2_ 9 ?_
           simp only [Act.put, S_]
           refine T2_ 10 ?_
           simp only [Act.put, S_]
           refine R_ 11 (fun K1 hK1 => ?_)
           go_simp
           refine hK1 _ _ ?_
           clear hK1 K1 z1 z2
           refine wpAny_done (by kernel_rfl) ?_ _
           go_wp2_with fail
           go_roundw
           case rel =>
             refine ⟨k + 1, by omega, by go_num, ?_⟩
             have hx := Mk.of HF.out B1.out ⟨_, _, _, _, _, R9.out.1⟩ R9.out.2
             have e : zz (ps.take (k + 1)) = zz (ps.take k) ++ [(y, 0, 0)] := HSN.out
             rw [e]
             exact hx
           case measure => simp [intOf]; omega
         · go_simp
           refine hK1 _ _ ?_
           clear hK1 K1
           refine R_ 4 (fun K1 hK1 => ?_)
           have q := (show (W1.alloc (.cells #[I_ y, I_ 0, .int .u64 0] 64)).cell? ⟨g, 0, none⟩ = some (.slice aQ nQ cQ) from ((Zd W1 _).cell (p := ⟨g, 0, none⟩) (S1.out.fb g S1.out.fg)).trans S1.out.cells.1)
           go_simp
           refine hK1 _ _ ?_
           clear hK1 K1 q
           refine R_ 8 (fun K1 hK1 => ?_)
           refine Zr (TS := 65) (.tmp 58) (.tmp 61) _ _ _ (fun ty => PU.out ty) rfl rfl rfl rfl ?_
           rintro v9 w9 ⟨⟨a9, l9, c9, rfl⟩, z1, z2, r9⟩
           have R9 := Za r9
           clear r9
           refine hK1 _ _ ?_
           clear hK1 K1
           refine T2_ 9 ?_
           simp only [Act.put, S_]
           refine T2_ 10 ?_
           simp only [Act.put, S_]
           refine R_ 11 (fun K1 hK1 => ?_)
           go_simp
           refine hK1 _ _ ?_
           clear hK1 K1 z1 z2
           refine wpAny_done (by kernel_rfl) ?_ _
           go_wp2_with fail
           go_roundw
           case rel =>
             refine ⟨k + 1, by omega, by go_num, ?_⟩
             have hx := Mk.of HF.out B1.out ⟨_, _, _, _, _, R9.out.1⟩ R9.out.2
             have e : zz (ps.take (k + 1)) = zz (ps.take k) ++ [(y, 0, 0)] := HSN.out
             rw [e]
             exact hx
           case measure => simp [intOf]; omega
     · obtain rfl : k = lP := by omega
       have M2 : Hid (Mk w wr g ⟨zz ps, List.replicate mn false, cz (cs.take 0), List.replicate an 0⟩) := Za (by
         have := M1.out
         rw [List.take_of_length_le (by have := HLP.out; omega)] at this
         exact this)
       clear M1
       go_wp2_with fail
       go_loopw [14, 68] (fun x i wr => ∃ k : Nat, k <= lC /\ i = I_ k /\ Hid (Mk w wr g ⟨zz ps, List.replicate mn false, cz (cs.take k), List.replicate an 0⟩)) (fun x i _ => lC - (intOf i).toNat)
       case atStart => exact ⟨0, Nat.zero_le _, rfl, M2⟩
       case round =>
        obtain ⟨k, hk, rfl, M1⟩ := hrel
        clear M2
        by_cases hlt : k < lC
        · have hlt' : (k : Int) < (lC : Int) := by omega
          obtain ⟨b1, o1, rfl, hb1, hc1, hc2⟩ := HC.out k hlt
          obtain ⟨F, ⟨vP, vM, vC, vA, vs, S⟩, hF, hB⟩ := M1.out
          have hcr := (hB.cell (p := ⟨b1, o1 + k * 2, none⟩) hb1).trans hc1
          have hcs := (hB.cell (p := ⟨b1, o1 + k * 2 + 1, none⟩) hb1).trans hc2
          obtain ⟨aQ, cQ, eQ, _⟩ := Zl S.ch
          obtain ⟨nQ, hnQ⟩ : ∃ n, n = (cz (cs.take k)).length := ⟨_, rfl⟩
          rw [show ({ P := zz ps, M := List.replicate mn false, C := cz (cs.take k), A := List.replicate an 0 } : St).C.length = nQ from hnQ.symm] at eQ
          subst eQ
          have HLS : Hid ((cz (cs.take k)).length < 32) := Za (by simp [cz]; have := HLC.out; omega)
          have HSN : Hid (cz (cs.take (k + 1)) = cz (cs.take k) ++ [⟨(cs.getD k (0, 0)).1, (cs.getD k (0, 0)).2, []⟩]) := Za (by rw [take_snoc cs k (0, 0) (by have := HLC.out; omega)]; simp [cz])
          have hbc := any_at H5.out k (0, 0) (by have := HLC.out; omega)
          have HRM : Hid (0 <= (cs.getD k (0, 0)).2 /\ (cs.getD k (0, 0)).2 <= 8 /\ ((0 : Nat) : Int) <= (cs.getD k (0, 0)).2) := Za (by
            unfold badC chanB at hbc
            simp only [Bool.or_eq_false_iff, decide_eq_false_iff_not] at hbc
            omega)
          clear hbc
          generalize (cs.getD k (0, 0)).1 = y1 at *
          generalize (cs.getD k (0, 0)).2 = y2 at *
          have hbX := Zd wr (.cells #[I_ y1, I_ y2] 94)
          have S0 := Za (S.bel (Zp hbX))
          have B0 := Za (Zp (Zg hB hbX))
          have X0 : Hid ((wr.alloc (.cells #[I_ y1, I_ y2] 94)).drew.cell? ⟨wr.heap.size, 0, none⟩ = some (I_ y1) /\ (wr.alloc (.cells #[I_ y1, I_ y2] 94)).drew.cell? ⟨wr.heap.size, 1, none⟩ = some (I_ y2)) := Za ⟨Zb (B_ wr _) 0 _ rfl, Zb (B_ wr _) 1 _ rfl⟩
          have PU := Za (fun ty => S0.out.pushC ⟨y1, y2, []⟩ (Yi _ _ _) (fun k hk => by cases hk) HLS.out HRM.out ty)
          have HF := Za hF
          clear S hB hF M1 hc1 hb1 hnQ hbX hc2
          go_wp2_with fail
          refine wp_region_any ZJ ?_
          change wpAny _ _ _ _ _ _ _ (World.drew _)
          generalize World.drew _ = W0 at *
          refine T2_ 0 ?_
          simp only [Act.put, S_]
          refine T2_ 1 ?_
          simp only [Act.put, S_]
          refine T2_ 2 ?_
          simp only [Act.put, S_]
          refine T2_ 3 ?_
          simp only [Act.put, S_]
          refine wpAny_ready (rs := [4, 5]) (by kernel_rfl) (by decide) ?_
          refine AllReady.cons rfl (fun K1 hK1 => ?_) (AllReady.cons rfl (fun K1 hK1 => ?_) AllReady.nil)
          · have q := (show W0.cell? ⟨g, 2, none⟩ = some (.slice aQ nQ cQ) from S0.out.cells.2.2.1)
            go_simp
            refine hK1 _ _ ?_
            clear hK1 K1 q
            refine R_ 5 (fun K1 hK1 => ?_)
            obtain ⟨q0, q1⟩ := X0.out
            go_simp
            refine hK1 _ _ ?_
            clear hK1 K1 q0 q1
            refine T2_ 6 ?_
            simp only [Act.put, S_]
            refine R_ 7 (fun K1 hK1 => ?_)
            go_simp
            refine hK1 _ _ ?_
            clear hK1 K1
            refine R_ 8 (fun K1 hK1 => ?_)
            refine Zr (TS := 108) (.tmp 76) (.tmp 79) _ _ _ (fun ty => PU.out ty) rfl rfl rfl rfl ?_
            rintro v9 w9 ⟨⟨a9, l9, c9, rfl⟩, z1, z2, r9⟩
            have R9 := Za r9
            clear r9
            refine hK1 _ _ ?_
            clear hK1 K1
            refine T2_ 9 ?_
            simp only [Act.put, S_]
            refine T2_ 10 ?_
            simp only [Act.put, S_]
            refine R_ 11 (fun K1 hK1 => ?_)
            go_simp
            refine hK1 _ _ ?_
            clear hK1 K1 z1 z2
            refine wpAny_done (by kernel_rfl) ?_ _
            go_wp2_with fail
            go_roundw
            case rel =>
              refine ⟨k + 1, by omega, by go_num, ?_⟩
              have e : cz (cs.take (k + 1)) = cz (cs.take k) ++ [⟨y1, y2, []⟩] := HSN.out
              rw [e]
              refine ⟨_, ⟨_, _, _, _, _, R9.out.2.1⟩, fun k hk => ?_, B0.out.trans (R9.out.2.2.bel HF.out B0.out.size)⟩
              rcases hk with hk | hk | hk
              · exact HF.out k hk
              · rcases R9.out.1 k hk with h1 | h1
                · exact HF.out k (S0.out.fC k h1)
                · exact Nat.le_trans B0.out.size h1
              · cases hk
            case measure => simp [intOf]; omega
          · obtain ⟨q0, q1⟩ := X0.out
            go_simp
            refine hK1 _ _ ?_
            clear hK1 K1 q0 q1
            refine T2_ 6 ?_
            simp only [Act.put, S_]
            refine wpAny_ready (rs := [4, 7]) (by kernel_rfl) (by decide) ?_
            refine AllReady.cons rfl (fun K1 hK1 => ?_) (AllReady.cons rfl (fun K1 hK1 => ?_) AllReady.nil)
            · have q := (show W0.cell? ⟨g, 2, none⟩ = some (.slice aQ nQ cQ) from S0.out.cells.2.2.1)
              go_simp
              refine hK1 _ _ ?_
              clear hK1 K1 q
              refine R_ 7 (fun K1 hK1 => ?_)
              go_simp
              refine hK1 _ _ ?_
              clear hK1 K1
              refine R_ 8 (fun K1 hK1 => ?_)
              refine Zr (TS := 108) (.tmp 76) (.tmp 79) _ _ _ (fun ty => PU.out ty) rfl rfl rfl rfl ?_
              rintro v9 w9 ⟨⟨a9, l9, c9, rfl⟩, z1, z2, r9⟩
              have R9 := Za r9
              clear r9
              refine hK1 _ _ ?_
              clear hK1 K1
              refine T2_ 9 ?_
              simp only [Act.put, S_]
              refine T2_ 10 ?_
              simp only [Act.put, S_]
              refine R_ 11 (fun K1 hK1 => ?_)
              go_simp
              refine hK1 _ _ ?_
              clear hK1 K1 z1 z2
              refine wpAny_done (by kernel_rfl) ?_ _
              go_wp2_with fail
              go_roundw
              case rel =>
                refine ⟨k + 1, by omega, by go_num, ?_⟩
                have e : cz (cs.take (k + 1)) = cz (cs.take k) ++ [⟨y1, y2, []⟩] := HSN.out
                rw [e]
                refine ⟨_, ⟨_, _, _, _, _, R9.out.2.1⟩, fun k hk => ?_, B0.out.trans (R9.out.2.2.bel HF.out B0.out.size)⟩
                rcases hk with hk | hk | hk
                · exact HF.out k hk
                · rcases R9.out.1 k hk with h1 | h1
                  · exact HF.out k (S0.out.fC k h1)
                  · exact Nat.le_trans B0.out.size h1
                · cases hk
              case measure => simp [intOf]; omega
            · go_simp
              refine hK1 _ _ ?_
              clear hK1 K1
              refine R_ 4 (fun K1 hK1 => ?_)
              have q := (show (W0.alloc (.cells #[I_ y1, I_ y2, .slice none 0 0] 113)).cell? ⟨g, 2, none⟩ = some (.slice aQ nQ cQ) from ((Zd W0 _).cell (p := ⟨g, 2, none⟩) (S0.out.fb g S0.out.fg)).trans S0.out.cells.2.2.1)
              go_simp
              refine hK1 _ _ ?_
              clear hK1 K1 q
              refine R_ 8 (fun K1 hK1 => ?_)
              refine Zr (TS := 108) (.tmp 76) (.tmp 79) _ _ _ (fun ty => PU.out ty) rfl rfl rfl rfl ?_
              rintro v9 w9 ⟨⟨a9, l9, c9, rfl⟩, z1, z2, r9⟩
              have R9 := Za r9
              clear r9
              refine hK1 _ _ ?_
              clear hK1 K1
              refine T2_ 9 ?_
              simp only [Act.put, S_]
              refine T2_ 10 ?_
              simp only [Act.put, S_]
              refine R_ 11 (fun K1 hK1 => ?_)
              go_simp
              refine hK1 _ _ ?_
              clear hK1 K1 z1 z2
              refine wpAny_done (by kernel_rfl) ?_ _
              go_wp2_with fail
              go_roundw
              case rel =>
                refine ⟨k + 1, by omega, by go_num, ?_⟩
                have e : cz (cs.take (k + 1)) = cz (cs.take k) ++ [⟨y1, y2, []⟩] := HSN.out
                rw [e]
                refine ⟨_, ⟨_, _, _, _, _, R9.out.2.1⟩, fun k hk => ?_, B0.out.trans (R9.out.2.2.bel HF.out B0.out.size)⟩
                rcases hk with hk | hk | hk
                · exact HF.out k hk
                · rcases R9.out.1 k hk with h1 | h1
                  · exact HF.out k (S0.out.fC k h1)
                  · exact Nat.le_trans B0.out.size h1
                · cases hk
              case measure => simp [intOf]; omega
        · obtain rfl : k = lC := by omega
          have M3 : Hid (Mk w wr g (newS ps (mn : Nat) cs (an : Nat))) := Za (by
            have := M1.out
            rw [List.take_of_length_le (by have := HLC.out; omega)] at this
            exact this)
          clear M1
          go_wp2_with fail
          go_ret2
          obtain ⟨F, h1, h2, h3⟩ := M3.out
          exact ⟨g, F, rfl, h1, h2, h3⟩
theorem Mk.errs {w wc : World} {g : Nat} {s : St} (h : Mk w wc g s) {p : List Addr} (h17 : E2 w p) : E2 wc p := by
 obtain ⟨F, h1, h2, h3⟩ := h
 exact h17.below (Nat.le_refl _) h3
theorem Mk.below {w wc : World} {g : Nat} {s : St} (h : Mk w wc g s) : Below w.heap.size w wc := by
 obtain ⟨F, h1, h2, h3⟩ := h
 exact h3
structure Wt where
 k : Int
 o : Int
 a : Int
 v : V3
structure Gr where
 rest : List Wt
 w : Wt
structure Evt where
 g : Int
 k : Int
 o : Int
 a : Int
structure En where
 o : Int
 f : Int
 g : Int
 n : Int
 a : Int
structure Rm where
 s : St
 gs : List Gr
 ev : List Evt
 e : En
def z3 : V3 := (0, 0, 0)
def zW : Wt := ⟨0, 0, 0, z3⟩
def zE : En := ⟨0, 0, 0, 0, 0⟩
def lk {α : Type} (l : List α) (i : Int) : Option α := if 0 <= i then l[i.toNat]? else none
def isV (v : V3) (t : Int) : Bool := isB v.1 v.2.1 v.2.2 t
def recvs (c : Int) (x : Gr) : Bool := x.w.k == 6 && x.w.o == c
def recvR (gs : List Gr) (c : Int) : Option Nat := gs.findIdx? (recvs c)
def canA (s : St) (w : Wt) : Bool := match lk s.P w.o with
 | some x => w.k == 1 || isV w.v x.1
 | none => false
def canS (r : Rm) (w : Wt) : Bool := match lk r.s.C w.o with
 | some q => isV w.v q.t && (if q.room = 0 then (recvR r.gs w.o).isSome else decide ((q.l.length : Int) < q.room))
 | none => false
def canC (s : St) (w : Wt) : Bool := match lk s.A w.o with
 | some _ => w.k == 7 || isV w.v 1
 | none => false
def canL (s : St) (w : Wt) : Bool := match lk s.M w.o with
 | some b => !b
 | none => false
def canR (s : St) (w : Wt) : Bool := match lk s.C w.o with
 | some q => decide (0 < q.l.length)
 | none => false
def Ya (r : Rm) (w : Wt) : Bool :=
 if w.k = 1 ∨ w.k = 2 then canA r.s w
 else if w.k = 3 then canL r.s w
 else if w.k = 4 then (lk r.s.M w.o).isSome
 else if w.k = 5 then canS r w
 else if w.k = 6 then canR r.s w
 else if w.k = 7 ∨ w.k = 8 ∨ w.k = 9 then canC r.s w
 else decide (w.k = 10 ∨ w.k = 11 ∨ w.k = 12)
def can (r : Rm) (g : Int) : Bool := match lk r.gs g with
 | some x => Ya r x.w
 | none => false
def Yt : List Wt -> (Wt × V3) × List Wt
 | [] => ((⟨12, 0, 0, z3⟩, z3), [])
 | x :: l => if x.k = 0 then ((zW, (7, x.v.2.1, x.a)), l) else ((x, z3), l)
def faultR (r : Rm) (g : Nat) (h : V3) : Rm := { r with e := ⟨3, h.1, g, h.2.1, h.2.2⟩ }
def Ye (r : Rm) (g : Nat) : Rm × Bool := match r.gs[g]? with
 | some x =>
  if (Yt x.rest).1.2.1 = 0 then ({ r with gs := r.gs.set g ⟨(Yt x.rest).2, (Yt x.rest).1.1⟩ }, true)
  else (faultR { r with gs := r.gs.set g ⟨(Yt x.rest).2, x.w⟩ } g (Yt x.rest).1.2, false)
 | none => (r, false)
def ZI (r : Rm) (g : Nat) (o : Int) : Rm := match r.gs[g]? with
 | some x => { r with ev := r.ev ++ [⟨g, x.w.k, o, x.w.a⟩] }
 | none => r
def enterR (S : List (List Wt)) (r : Rm) (fn : Int) : Option Rm := match lk S fn with
 | some l => some { r with gs := r.gs ++ [⟨l, zW⟩] }
 | none => none
def ZH (s : St) (w : Wt) : St × V3 :=
 if w.k = 1 then (s, (lk s.P w.o).getD z3)
 else if w.k = 2 then ({ s with P := s.P.set w.o.toNat w.v }, z3)
 else if w.k = 3 then ({ s with M := s.M.set w.o.toNat true }, z3)
 else if w.k = 4 then ({ s with M := s.M.set w.o.toNat false }, z3)
 else if w.k = 5 then (match lk s.C w.o with | some q => ({ s with C := s.C.set w.o.toNat { q with l := q.l ++ [w.v] } }, z3) | none => (s, z3))
 else if w.k = 6 then (match lk s.C w.o with | some q => ({ s with C := s.C.set w.o.toNat { q with l := q.l.tail } }, q.l.headD z3) | none => (s, z3))
 else if w.k = 7 then (s, (1, (lk s.A w.o).getD 0, 0))
 else if w.k = 8 then ({ s with A := s.A.set w.o.toNat w.v.2.1 }, z3)
 else if w.k = 9 then ({ s with A := s.A.set w.o.toNat (wrap64 ((lk s.A w.o).getD 0 + w.v.2.1)) }, z3)
 else (s, z3)
def splitR (S : List (List Wt)) (r : Rm) (g : Nat) (w : Wt) : Rm :=
 if 8 <= r.gs.length then faultR r g (5, 0, w.a)
 else match enterR S r w.o with
  | none => faultR r g (5, 0, w.a)
  | some r1 => match Ye (ZI r1 g r.gs.length) g with
   | (r2, true) => (Ye r2 r.gs.length).1
   | (r2, false) => r2
def meetR (r : Rm) (g : Nat) (w : Wt) : Rm := match recvR r.gs w.o with
 | some t => match Ye (ZI (ZI r g w.o) t w.o) g with
  | (r2, true) => (Ye r2 t).1
  | (r2, false) => r2
 | none => r
def YI (s : St) (c : Int) : Bool := match lk s.C c with
 | some q => q.room == 0
 | none => true
def Yg (S : List (List Wt)) (r : Rm) (g : Nat) : Rm := match r.gs[g]? with
 | none => r
 | some x =>
  if x.w.k = 4 /\ lk r.s.M x.w.o ≠ some true then faultR r g (4, 0, x.w.a)
  else if x.w.k = 10 then splitR S r g x.w
  else if x.w.k = 5 /\ YI r.s x.w.o = true then meetR r g x.w
  else if x.w.k = 12 then { ZI r g x.w.o with gs := r.gs.set g ⟨x.rest, zW⟩ }
  else (Ye (ZI { r with s := (ZH r.s x.w).1 } g x.w.o) g).1
def outR (r : Rm) : Int := if r.gs.any (fun x => Ya r x.w) then 0 else if r.gs.any (fun x => x.w.k != 0) then 2 else 1
def endR (r : Rm) : En := if r.e.o = 0 then ⟨outR r, 0, 0, 0, 0⟩ else r.e
def Yr (r : Rm) : Rm := { r with e := endR r }
def runs (r : Rm) : Bool := (endR r).o == 0
def runnR (r : Rm) : List Int := if runs r then ((List.range r.gs.length).filter fun (i : Nat) => can r i).map fun (i : Nat) => (i : Int) else []
def doR (S : List (List Wt)) (r : Rm) (g : Nat) : Rm := Yr (Yg S r g)
def startR (S : List (List Wt)) (s : St) (fn : Int) : Rm :=
  Yr (match enterR S ⟨s, [], [], zE⟩ fn with
    | some r => (Ye r 0).1
    | none => faultR ⟨s, [], [], zE⟩ 0 (5, 0, 0))
def ccs : List Qu -> List Value
 | [] => []
 | q :: C => .int .i64 q.t :: .int .i64 q.room :: ccs C
theorem ccs_app : ∀ (C : List Qu) (q : Qu), ccs (C ++ [q]) = ccs C ++ [I_ q.t, I_ q.room]
 | [], q => rfl
 | x :: C, q => by simp [ccs, ccs_app C q]
theorem ccs_at : ∀ (C : List Qu) (i : Nat) (q : Qu), C[i]? = some q -> (ccs C)[2 * i]? = some (I_ q.t) /\ (ccs C)[2 * i + 1]? = some (I_ q.room)
 | [], i, q, h => by simp at h
 | q :: C, 0, q', h => by
  simp at h
  subst h
  exact ⟨rfl, rfl⟩
 | q :: C, i + 1, q', h => ccs_at C i q' (by simpa using h)
theorem ccs_set : ∀ (C : List Qu) (i : Nat) (q q' : Qu), C[i]? = some q -> q'.t = q.t -> q'.room = q.room -> ccs (C.set i q') = ccs C
 | [], i, q, q', h, _, _ => by simp at h
 | x :: C, 0, q, q', h, h1, h2 => by
  simp at h
  subst h
  simp [ccs, h1, h2]
 | x :: C, i + 1, q, q', h, h1, h2 => by simp only [List.set_cons_succ, ccs, ccs_set C i q q' (by simpa using h) h1 h2]
theorem own_empty {w : World} {B : Nat} {T : TypeId} {n b j : Nat} {v u : Value} {len : Nat} {xs : List Value} (h : w.ownsRow B T n v len xs) (h0 : len = 0) (hb : v.ownBlock = some b) : (w.setCell ⟨b, j, none⟩ u).ownsRow B T n v len xs := by
 subst h0
 rcases own_form h with ⟨rfl, _⟩ | ⟨b', c, rfl, _⟩
 · cases hb
 · cases hb
   have h2 := ZT h j u
   have e : xs = [] := by
    have := h.1
    simpa using this
   subst e
   exact h2
structure Rv (w : World) (F R : Nat -> Prop) (B g : Nat) (s : St) (vP vL vC vS vT vA : Value) (ss : List Value) (tk : List Int) : Prop where
 at_ : w.heap[g]? = some (.cells #[vP, vL, vC, vS, vT, vA] 91 (0, 0))
 pl : w.ownsRow 0 64 3 vP s.P.length (vcs s.P)
 lo : w.ownsRow 0 4 1 vL s.M.length (bls s.M)
 ch : w.ownsRow 0 94 2 vC s.C.length (ccs s.C)
 se : w.ownsRow 0 65 1 vS s.C.length ss
 ta : w.ownsRow 0 3 1 vT s.C.length (nts tk)
 ato : w.ownsRow 0 3 1 vA s.A.length (nts s.A)
 q : ∀ (i : Nat) (q : Qu) (v : Value) (t : Int), s.C[i]? = some q -> ss[i]? = some v -> tk[i]? = some t -> ∃ (f : List V3) (n : Nat), t = n /\ n <= f.length /\ f.drop n = q.l /\ f.length <= B /\ w.ownsRow 0 64 3 v f.length (vcs f) /\ ∀ k, v.ownBlock = some k -> R k
 ne : ∀ k, vT.ownBlock = some k -> vA.ownBlock = some k -> s.C.length = 0 ∨ s.A.length = 0
 fg : F g
 fP : ∀ k, vP.ownBlock = some k -> F k
 fL : ∀ k, vL.ownBlock = some k -> F k
 fC : ∀ k, vC.ownBlock = some k -> F k
 fS : ∀ k, vS.ownBlock = some k -> F k
 fT : ∀ k, vT.ownBlock = some k -> F k
 fA : ∀ k, vA.ownBlock = some k -> F k
 fb : ∀ k, F k -> k < w.heap.size
 rb : ∀ k, R k -> k < w.heap.size
 fr : ∀ k, R k -> ¬ F k
 small : s.P.length <= 128 /\ s.M.length <= 32 /\ s.C.length <= 32 /\ s.A.length <= 32
 rooms : ∀ q ∈ s.C, 0 <= q.room /\ q.room <= 8 /\ (q.l.length : Int) <= q.room
def Rt (w : World) (F R : Nat -> Prop) (B g : Nat) (s : St) : Prop := ∃ vP vL vC vS vT vA ss tk, Rv w F R B g s vP vL vC vS vT vA ss tk
section
variable {w w' : World} {F F' G R R' : Nat → Prop} {B g : Nat} {s : St} {vP vL vC vS vT vA : Value} {ss : List Value} {tk : List Int}
theorem Rv.sl (h : Rv w F R B g s vP vL vC vS vT vA ss tk) : ss.length = s.C.length := by have := h.se.1; omega
theorem Rv.tl (h : Rv w F R B g s vP vL vC vS vT vA ss tk) : tk.length = s.C.length := by have := h.ta.1; simp [nts] at this; omega
theorem Rv.keep (h : Rv w F R B g s vP vL vC vS vT vA ss tk) (hb : ∀ k, F k ∨ R k -> w'.heap[k]? = w.heap[k]?) (hs : w.heap.size <= w'.heap.size) : Rv w' F R B g s vP vL vC vS vT vA ss tk :=
 { h with
  at_ := (hb g (.inl h.fg)).trans h.at_
  pl := Zj h.pl fun k hk => hb k (.inl (h.fP k hk))
  lo := Zj h.lo fun k hk => hb k (.inl (h.fL k hk))
  ch := Zj h.ch fun k hk => hb k (.inl (h.fC k hk))
  se := Zj h.se fun k hk => hb k (.inl (h.fS k hk))
  ta := Zj h.ta fun k hk => hb k (.inl (h.fT k hk))
  ato := Zj h.ato fun k hk => hb k (.inl (h.fA k hk))
  q := fun i q v t hq hv ht => by
   obtain ⟨f, n, h1, h2, h3, h4, h5, h6⟩ := h.q i q v t hq hv ht
   exact ⟨f, n, h1, h2, h3, h4, Zj h5 fun k hk => hb k (.inr (h6 k hk)), h6⟩
  fb := fun k hk => Nat.lt_of_lt_of_le (h.fb k hk) hs
  rb := fun k hk => Nat.lt_of_lt_of_le (h.rb k hk) hs }
theorem Rv.bel (h : Rv w F R B g s vP vL vC vS vT vA ss tk) (hb : Below w.heap.size w w') : Rv w' F R B g s vP vL vC vS vT vA ss tk :=
 h.keep (fun k hk => hb.block k (hk.elim (h.fb k) (h.rb k))) hb.size
theorem Rt.bel (h : Rt w F R B g s) (hb : Below w.heap.size w w') : Rt w' F R B g s := by
 obtain ⟨vP, vL, vC, vS, vT, vA, ss, tk, h⟩ := h
 exact ⟨_, _, _, _, _, _, _, _, h.bel hb⟩
theorem Rt.fb (h : Rt w F R B g s) : ∀ k, F k -> k < w.heap.size := by
 obtain ⟨vP, vL, vC, vS, vT, vA, ss, tk, h⟩ := h
 exact h.fb
theorem Rt.rb (h : Rt w F R B g s) : ∀ k, R k -> k < w.heap.size := by
 obtain ⟨vP, vL, vC, vS, vT, vA, ss, tk, h⟩ := h
 exact h.rb
theorem Rt.fr (h : Rt w F R B g s) : ∀ k, R k -> ¬ F k := by
 obtain ⟨vP, vL, vC, vS, vT, vA, ss, tk, h⟩ := h
 exact h.fr
theorem Rt.more (h : Rt w F R B g s) {B' : Nat} (hB : B <= B') (hR : ∀ k, R k -> R' k) (hb : ∀ k, R' k -> k < w.heap.size) (hf : ∀ k, R' k -> ¬ F k) : Rt w F R' B' g s := by
 obtain ⟨vP, vL, vC, vS, vT, vA, ss, tk, h⟩ := h
 exact ⟨_, _, _, _, _, _, _, _, { h with
  q := fun i q v t hq hv ht => by
   obtain ⟨f, n, h1, h2, h3, h4, h5, h6⟩ := h.q i q v t hq hv ht
   exact ⟨f, n, h1, h2, h3, by omega, h5, fun k hk => hR k (h6 k hk)⟩
  rb := hb
  fr := hf }⟩
theorem Rv.cells (h : Rv w F R B g s vP vL vC vS vT vA ss tk) : w.cell? ⟨g, 0, none⟩ = some vP /\ w.cell? ⟨g, 1, none⟩ = some vL /\ w.cell? ⟨g, 2, none⟩ = some vC /\ w.cell? ⟨g, 3, none⟩ = some vS /\ w.cell? ⟨g, 4, none⟩ = some vT /\ w.cell? ⟨g, 5, none⟩ = some vA :=
 ⟨Zb h.at_ 0 _ rfl, Zb h.at_ 1 _ rfl, Zb h.at_ 2 _ rfl, Zb h.at_ 3 _ rfl, Zb h.at_ 4 _ rfl, Zb h.at_ 5 _ rfl⟩
theorem Rv.other (h : Rv w F R B g s vP vL vC vS vT vA ss tk) {b : Nat} (hb : F b) (ho : ∀ k, k ≠ b -> w'.heap[k]? = w.heap[k]?) :
 (∀ {T : TypeId} {n : Nat} {v : Value} {len : Nat} {xs : List Value}, w.ownsRow 0 T n v len xs -> v.ownBlock ≠ some b -> w'.ownsRow 0 T n v len xs) ∧
 (∀ (i : Nat) (q : Qu) (v : Value) (t : Int), s.C[i]? = some q -> ss[i]? = some v -> tk[i]? = some t -> ∃ (f : List V3) (n : Nat), t = n /\ n <= f.length /\ f.drop n = q.l /\ f.length <= B /\ w'.ownsRow 0 64 3 v f.length (vcs f) /\ ∀ k, v.ownBlock = some k -> R k) := by
 have hap : ∀ {T : TypeId} {n : Nat} {v : Value} {len : Nat} {xs : List Value}, w.ownsRow 0 T n v len xs -> v.ownBlock ≠ some b -> w'.ownsRow 0 T n v len xs := fun hr hT =>
  Zj hr fun k hk => ho k (fun e => by subst e; exact hT hk)
 refine ⟨hap, fun i q v t hq hv ht => ?_⟩
 obtain ⟨f, n, h1, h2, h3, h4, h5, h6⟩ := h.q i q v t hq hv ht
 exact ⟨f, n, h1, h2, h3, h4, hap h5 (fun e => h.fr b (h6 b e) hb), h6⟩
theorem Rv.setP {b n c : Nat} (h : Rv w F R B g s (.slice (some ⟨b, 0, none⟩) n c) vL vC vS vT vA ss tk) (hn : n = s.P.length) (i : Nat) (x : V3) :
 Rv (((w.setCell ⟨b, 3 * i, none⟩ (I_ x.1)).setCell ⟨b, 3 * i + 1, none⟩ (I_ x.2.1)).setCell ⟨b, 3 * i + 2, none⟩ (.int .u64 x.2.2)) F R B g { s with P := s.P.set i x } (.slice (some ⟨b, 0, none⟩) n c) vL vC vS vT vA ss tk ∧
  Ch F F w (((w.setCell ⟨b, 3 * i, none⟩ (I_ x.1)).setCell ⟨b, 3 * i + 1, none⟩ (I_ x.2.1)).setCell ⟨b, 3 * i + 2, none⟩ (.int .u64 x.2.2)) := by
 subst hn
 have hF := h.fP b rfl
 generalize hw : ((w.setCell ⟨b, 3 * i, none⟩ (I_ x.1)).setCell ⟨b, 3 * i + 1, none⟩ (I_ x.2.1)).setCell ⟨b, 3 * i + 2, none⟩ (.int .u64 x.2.2) = w'
 have ho : ∀ k, k ≠ b -> w'.heap[k]? = w.heap[k]? := fun k hk => by
  rw [← hw]
  exact (Below.heap_setCell _ _ _ _ hk).trans ((Below.heap_setCell _ _ _ _ hk).trans (Below.heap_setCell _ _ _ _ hk))
 obtain ⟨hap, hq⟩ := h.other hF ho
 have hne : ∀ {T : TypeId} {n : Nat} {v : Value} {len : Nat} {xs : List Value}, w.ownsRow 0 T n v len xs -> T ≠ 64 -> v.ownBlock ≠ some b := fun hr hT e => Zo hr h.pl hT b e rfl
 refine ⟨?_, by rw [← hw]; exact (ZM hF _).trans ((ZM hF _).trans (ZM hF _))⟩
 have hsz : w'.heap.size = w.heap.size := by rw [← hw, Zi, Zi, Zi]
 exact { h with
  at_ := (ho g (fun e => Zu h.pl h.at_ (by decide) (by rw [e]; rfl))).trans h.at_
  pl := by
   have := ZT (ZT (ZT h.pl (3 * i) (I_ x.1)) (3 * i + 1) (I_ x.2.1)) (3 * i + 2) (.int .u64 x.2.2)
   rw [hw] at this
   simp only [List.length_set, vcs_set]
   exact this
  lo := hap h.lo (hne h.lo (by decide))
  ch := hap h.ch (hne h.ch (by decide))
  se := hap h.se (hne h.se (by decide))
  ta := hap h.ta (hne h.ta (by decide))
  ato := hap h.ato (hne h.ato (by decide))
  q := hq
  fb := fun k hk => by rw [hsz]; exact h.fb k hk
  rb := fun k hk => by rw [hsz]; exact h.rb k hk
  small := by simpa using h.small }
theorem Rv.setL {b n c : Nat} (h : Rv w F R B g s vP (.slice (some ⟨b, 0, none⟩) n c) vC vS vT vA ss tk) (hn : n = s.M.length) (i : Nat) (x : Bool) :
 Rv (w.setCell ⟨b, i, none⟩ (.bool x)) F R B g { s with M := s.M.set i x } vP (.slice (some ⟨b, 0, none⟩) n c) vC vS vT vA ss tk /\ Ch F F w (w.setCell ⟨b, i, none⟩ (.bool x)) := by
 subst hn
 have hF := h.fL b rfl
 have ho : ∀ k, k ≠ b -> (w.setCell ⟨b, i, none⟩ (.bool x)).heap[k]? = w.heap[k]? := fun k hk => Below.heap_setCell _ _ _ _ hk
 obtain ⟨hap, hq⟩ := h.other hF ho
 have hne : ∀ {T : TypeId} {n : Nat} {v : Value} {len : Nat} {xs : List Value}, w.ownsRow 0 T n v len xs -> T ≠ 4 -> v.ownBlock ≠ some b := fun hr hT e => Zo hr h.lo hT b e rfl
 refine ⟨?_, ZM hF _⟩
 exact { h with
  at_ := (ho g (fun e => Zu h.lo h.at_ (by decide) (by rw [e]; rfl))).trans h.at_
  pl := hap h.pl (hne h.pl (by decide))
  lo := by
   have := ZT h.lo i (.bool x)
   simp only [bls, List.length_set, List.map_set] at this ⊢
   exact this
  ch := hap h.ch (hne h.ch (by decide))
  se := hap h.se (hne h.se (by decide))
  ta := hap h.ta (hne h.ta (by decide))
  ato := hap h.ato (hne h.ato (by decide))
  q := hq
  fb := fun k hk => by rw [Zi]; exact h.fb k hk
  rb := fun k hk => by rw [Zi]; exact h.rb k hk
  small := by simpa using h.small }
theorem Rv.setA {b n c : Nat} (h : Rv w F R B g s vP vL vC vS vT (.slice (some ⟨b, 0, none⟩) n c) ss tk) (hn : n = s.A.length) (i : Nat) (hi : i < n) (x : Int) :
 Rv (w.setCell ⟨b, i, none⟩ (I_ x)) F R B g { s with A := s.A.set i x } vP vL vC vS vT (.slice (some ⟨b, 0, none⟩) n c) ss tk /\ Ch F F w (w.setCell ⟨b, i, none⟩ (I_ x)) := by
 subst hn
 have hF := h.fA b rfl
 have ho : ∀ k, k ≠ b -> (w.setCell ⟨b, i, none⟩ (I_ x)).heap[k]? = w.heap[k]? := fun k hk => Below.heap_setCell _ _ _ _ hk
 obtain ⟨hap, hq⟩ := h.other hF ho
 have hne : ∀ {T : TypeId} {n : Nat} {v : Value} {len : Nat} {xs : List Value}, w.ownsRow 0 T n v len xs -> T ≠ 3 -> v.ownBlock ≠ some b := fun hr hT e => Zo hr h.ato hT b e rfl
 refine ⟨?_, ZM hF _⟩
 exact { h with
  at_ := (ho g (fun e => Zu h.ato h.at_ (by decide) (by rw [e]; rfl))).trans h.at_
  pl := hap h.pl (hne h.pl (by decide))
  lo := hap h.lo (hne h.lo (by decide))
  ch := hap h.ch (hne h.ch (by decide))
  se := hap h.se (hne h.se (by decide))
  ne := fun k h1 h2 => by simpa using h.ne k h1 h2
  ta := by
   by_cases e : vT.ownBlock = some b
   · have hA : 0 < s.A.length := by omega
     have h0 : s.C.length = 0 := (h.ne b e rfl).resolve_right (by omega)
     exact own_empty h.ta h0 e
   · exact hap h.ta e
  ato := by
   have := ZT h.ato i (I_ x)
   simp only [nts, List.length_set, List.map_set] at this ⊢
   exact this
  q := hq
  fb := fun k hk => by rw [Zi]; exact h.fb k hk
  rb := fun k hk => by rw [Zi]; exact h.rb k hk
  small := by simpa using h.small }
theorem Rv.setT {b n c : Nat} (h : Rv w F R B g s vP vL vC vS (.slice (some ⟨b, 0, none⟩) n c) vA ss tk) (hn : n = s.C.length) (i : Nat) (q : Qu) (v : V3) (l : List V3) (t : Int) (hq : s.C[i]? = some q) (hl : q.l = v :: l) (ht : tk[i]? = some t) :
 Rv (w.setCell ⟨b, i, none⟩ (I_ (t + 1))) F R B g { s with C := s.C.set i { q with l := l } } vP vL vC vS (.slice (some ⟨b, 0, none⟩) n c) vA ss (tk.set i (t + 1)) /\ Ch F F w (w.setCell ⟨b, i, none⟩ (I_ (t + 1))) := by
 subst hn
 have hF := h.fT b rfl
 have hi : i < s.C.length := (G_ hq)
 have htl := h.tl
 have ho : ∀ k, k ≠ b -> (w.setCell ⟨b, i, none⟩ (I_ (t + 1))).heap[k]? = w.heap[k]? := fun k hk => Below.heap_setCell _ _ _ _ hk
 obtain ⟨hap, hqq⟩ := h.other hF ho
 have hne : ∀ {T : TypeId} {n : Nat} {v : Value} {len : Nat} {xs : List Value}, w.ownsRow 0 T n v len xs -> T ≠ 3 -> v.ownBlock ≠ some b := fun hr hT e => Zo hr h.ta hT b e rfl
 refine ⟨?_, ZM hF _⟩
 exact { h with
  at_ := (ho g (fun e => Zu h.ta h.at_ (by decide) (by rw [e]; rfl))).trans h.at_
  pl := hap h.pl (hne h.pl (by decide))
  lo := hap h.lo (hne h.lo (by decide))
  ch := by
   rw [ccs_set s.C i q { q with l := l } hq rfl rfl]
   simpa using hap h.ch (hne h.ch (by decide))
  se := by simpa using hap h.se (hne h.se (by decide))
  ta := by
   have := ZT h.ta i (I_ (t + 1))
   simp only [nts, List.length_set, List.map_set] at this ⊢
   exact this
  ato := by
   by_cases e : vA.ownBlock = some b
   · exact own_empty h.ato ((h.ne b rfl e).resolve_left (by omega)) e
   · exact hap h.ato e
  ne := fun k h1 h2 => by simpa using h.ne k h1 h2
  q := fun j q' v' t' hq' hv' ht' => by
   by_cases e : i = j
   · subst e
     rw [List.getElem?_set_self hi] at hq'
     rw [List.getElem?_set_self (by omega)] at ht'
     cases hq'
     cases ht'
     obtain ⟨f, n, h1, h2, h3, h4, h5, h6⟩ := hqq i q v' t hq hv' ht
     have hd : f.drop n = v :: l := h3.trans hl
     have hnl : n < f.length := by
      rcases Nat.lt_or_ge n f.length with h | h
      · exact h
      · rw [List.drop_eq_nil_of_le h] at hd
        cases hd
     refine ⟨f, n + 1, by rw [h1]; rfl, hnl, ?_, h4, h5, h6⟩
     have : f.drop (n + 1) = (f.drop n).tail := by simp
     rw [this, hd]
     rfl
   · rw [List.getElem?_set_ne e] at hq' ht'
     exact hqq j q' v' t' hq' hv' ht'
  fb := fun k hk => by rw [Zi]; exact h.fb k hk
  rb := fun k hk => by rw [Zi]; exact h.rb k hk
  small := by simpa using h.small
  rooms := fun q' hq' => by
   rcases List.mem_or_eq_of_mem_set hq' with h1 | h1
   · exact h.rooms q' h1
   · subst h1
     have := h.rooms q (List.mem_of_getElem? hq)
     rw [hl] at this
     simp at this
     exact ⟨this.1, this.2.1, by simp; omega⟩ }
theorem Rv.setS {b n c : Nat} (h : Rv w F R B g s vP vL vC (.slice (some ⟨b, 0, none⟩) n c) vT vA ss tk) (hn : n = s.C.length) (i : Nat) (q : Qu) (x : V3) (v' : Value) (t : Int) (hq : s.C[i]? = some q) (ht : tk[i]? = some t) (hr : (q.l.length : Int) < q.room)
 {f0 : List V3} {n0 : Nat} (g1 : t = n0) (g2 : n0 <= f0.length) (g3 : f0.drop n0 = q.l) (g4 : f0.length <= B) (hN : w.ownsRow 0 64 3 v' (f0.length + 1) (vcs (f0 ++ [x]))) (hfr : ∀ k, v'.ownBlock = some k -> ¬ F k) :
 Rv (w.setCell ⟨b, i, none⟩ v') F (fun k => R k ∨ v'.ownBlock = some k) (B + 1) g { s with C := s.C.set i { q with l := q.l ++ [x] } } vP vL vC (.slice (some ⟨b, 0, none⟩) n c) vT vA (ss.set i v') tk /\ Ch F F w (w.setCell ⟨b, i, none⟩ v') := by
 subst hn
 have hF := h.fS b rfl
 have hi : i < s.C.length := (G_ hq)
 have hsl := h.sl
 have ho : ∀ k, k ≠ b -> (w.setCell ⟨b, i, none⟩ v').heap[k]? = w.heap[k]? := fun k hk => Below.heap_setCell _ _ _ _ hk
 obtain ⟨hap, hqq⟩ := h.other hF ho
 have hne : ∀ {T : TypeId} {n : Nat} {v : Value} {len : Nat} {xs : List Value}, w.ownsRow 0 T n v len xs -> T ≠ 65 -> v.ownBlock ≠ some b := fun hr hT e => Zo hr h.se hT b e rfl
 refine ⟨?_, ZM hF _⟩
 exact { h with
  at_ := (ho g (fun e => Zu h.se h.at_ (by decide) (by rw [e]; rfl))).trans h.at_
  pl := hap h.pl (hne h.pl (by decide))
  lo := hap h.lo (hne h.lo (by decide))
  ch := by
   rw [ccs_set s.C i q { q with l := q.l ++ [x] } hq rfl rfl]
   simpa using hap h.ch (hne h.ch (by decide))
  se := by simpa using ZT h.se i v'
  ta := by simpa using hap h.ta (hne h.ta (by decide))
  ato := hap h.ato (hne h.ato (by decide))
  ne := fun k h1 h2 => by simpa using h.ne k h1 h2
  q := fun j q' v2 t' hq' hv' ht' => by
   by_cases e : i = j
   · subst e
     rw [List.getElem?_set_self hi] at hq'
     rw [List.getElem?_set_self (by omega)] at hv'
     cases hq'
     cases hv'
     rw [ht] at ht'
     cases ht'
     refine ⟨f0 ++ [x], n0, g1, by simp; omega, ?_, by simp; omega, by simpa using hap hN (hne hN (by decide)), fun k hk => .inr hk⟩
     rw [List.drop_append_of_le_length g2, g3]
   · rw [List.getElem?_set_ne e] at hq' hv'
     obtain ⟨f, n, h1, h2, h3, h4, h5, h6⟩ := hqq j q' v2 t' hq' hv' ht'
     exact ⟨f, n, h1, h2, h3, by omega, h5, fun k hk => .inl (h6 k hk)⟩
  fb := fun k hk => by rw [Zi]; exact h.fb k hk
  rb := fun k hk => by
   rw [Zi]
   rcases hk with hk | hk
   · exact h.rb k hk
   · exact (Zf hN hk).2.1
  fr := fun k hk => by
   rcases hk with hk | hk
   · exact h.fr k hk
   · exact hfr k hk
  small := by simpa using h.small
  rooms := fun q' hq' => by
   rcases List.mem_or_eq_of_mem_set hq' with h1 | h1
   · exact h.rooms q' h1
   · subst h1
     have := h.rooms q (List.mem_of_getElem? hq)
     exact ⟨this.1, this.2.1, by simp; omega⟩ }
end
theorem form_any (t n b : Int) (w : World) : Calls Tryz.prog 35 #[.agg #[I_ t, I_ n, .int .u64 b]] w (Vb w (.bool (Yk t n b))) := by
 have HB := Za (Zd w (.cells #[I_ t, I_ n, .int .u64 b] 64))
 obtain ⟨g, hg⟩ : ∃ g, Yk t n b = g := ⟨_, rfl⟩
 rw [hg]
 have HG := Za hg
 clear hg
 by_cases h1 : t = 1
 · subst h1
   by_cases h2 : b = 0
   · subst h2
     go_enter Tryz.func35, Tryz.ntmps35
     go_wp2_with fail
     go_ret
     exact Vb.mk (congrArg Value.bool (by rw [← HG.out]; simp [Yk])) HB.out
   go_enter Tryz.func35, Tryz.ntmps35
   go_wp2_with fail
   go_ret
   exact Vb.mk (congrArg Value.bool (by rw [← HG.out]; simp [Yk] <;> omega)) HB.out
 by_cases h2 : t = 2
 · subst h2
   by_cases h3 : n = 0
   · subst h3
     go_enter Tryz.func35, Tryz.ntmps35
     go_wp2_with fail
     go_ret
     exact Vb.mk (congrArg Value.bool (by rw [← HG.out]; simp [Yk])) HB.out
   go_enter Tryz.func35, Tryz.ntmps35
   go_wp2_with fail
   go_ret
   exact Vb.mk (congrArg Value.bool (by rw [← HG.out]; simp [Yk] <;> omega)) HB.out
 by_cases h3 : t = 3
 · subst h3
   by_cases h4 : b = 0
   · subst h4
     by_cases h5 : n < 0
     · go_enter Tryz.func35, Tryz.ntmps35
       go_wp2_with fail
       go_ret
       exact Vb.mk (congrArg Value.bool (by rw [← HG.out]; simp [Yk]; omega)) HB.out
     by_cases h6 : 1 < n
     · have d6 : decide (n <= 1) = false := decide_eq_false (by omega)
       have d7 : Yk 3 n 0 = false := by simp [Yk]; omega
       rw [d7] at HG
       go_enter Tryz.func35, Tryz.ntmps35
       go_wp2_with fail
       go_ret
       exact Vb.mk (congrArg Value.bool (by rw [← HG.out])) HB.out
     have h7 : n = 0 ∨ n = 1 := by omega
     rcases h7 with rfl | rfl
     all_goals
      go_enter Tryz.func35, Tryz.ntmps35
      go_wp2_with fail
      go_ret
      exact Vb.mk (congrArg Value.bool (by rw [← HG.out]; simp [Yk])) HB.out
   go_enter Tryz.func35, Tryz.ntmps35
   go_wp2_with fail
   go_ret
   exact Vb.mk (congrArg Value.bool (by rw [← HG.out]; simp [Yk, h4])) HB.out
 go_enter Tryz.func35, Tryz.ntmps35
 go_wp2_with fail
 all_goals
  go_ret
  exact Vb.mk (congrArg Value.bool (by rw [← HG.out]; simp [Yk, h1, h2, h3])) HB.out
theorem in_yes (i n : Nat) (w : World) (hi : i < n) : Calls Tryz.prog 34 #[I_ (i : Nat), I_ (n : Nat)] w fun e w' => e = .returned (.bool true) /\ w = w' := by
 go_enter Tryz.func34, Tryz.ntmps34
 go_wp2_with fail
 go_ret
 exact ⟨by simp, rfl⟩
theorem in_no (i : Int) (n : Nat) (w : World) (hi : i < 0 ∨ (n : Int) <= i) : Calls Tryz.prog 34 #[I_ i, I_ (n : Nat)] w fun e w' => e = .returned (.bool false) /\ w = w' := by
 by_cases h0 : i < 0
 · clear hi
   go_enter Tryz.func34, Tryz.ntmps34
   go_wp2_with fail
   go_ret
   exact ⟨by simp, rfl⟩
 · have h1 : (n : Int) <= i := by omega
   have h2 : 0 <= i := by omega
   have h3 : decide (i < (n : Int)) = false := decide_eq_false (by omega)
   clear hi h0
   go_enter Tryz.func34, Tryz.ntmps34
   go_wp2_with fail
   go_ret
   exact ⟨by simp, rfl⟩
def Rp (w : World) (F R : Nat -> Prop) (B g : Nat) (s' : St) (v : Value) (e : Ending) (w' : World) : Prop := e = .returned v /\ ∃ F' R', Rt w' F' R' B g s' /\ Ch F F' w w' /\ (∀ k, R k -> R' k) /\ ∀ k, R' k -> R k ∨ w.heap.size <= k
theorem Rp.mk {w w' : World} {F F' R : Nat -> Prop} {B g : Nat} {s' : St} {v v' : Value} (hv : v = v') (h : Rt w' F' R B g s') (hc : Ch F F' w w') : Rp w F R B g s' v' (.returned v) w' := ⟨by rw [hv], F', R, h, hc, fun _ h => h, fun _ h => .inl h⟩
theorem rHeld_q {w : World} {F R : Nat -> Prop} {B g : Nat} {s : St} (h : Rt w F R B g s) (hB : B <= 1000000) (i : Nat) (q : Qu) (hx : s.C[i]? = some q) : Calls Tryz.prog 37 #[P_ g, I_ (i : Nat)] w fun e w' => e = .returned (I_ (q.l.length : Nat)) /\ ∃ k, w' = w.drewN k := by
 obtain ⟨vP, vL, vC, vS, vT, vA, ss, tk, h⟩ := h
 have hi : i < s.C.length := (G_ hx)
 obtain ⟨b, c, e, hc, hm⟩ := Zq h.ch (by omega)
 have hsm := h.small
 obtain ⟨n, hn⟩ : ∃ n, n = s.C.length := ⟨_, rfl⟩
 rw [← hn] at e hi hc
 have hn128 : n <= 128 := by omega
 subst e
 have HN := Za hn
 have c1 := h.cells.2.2.1
 have hgl := h.fb g h.fg
 have hbl : b < w.heap.size := (Zf h.ch (k := b) rfl).2.1
 have hsl := h.sl
 have htl := h.tl
 obtain ⟨vq, hv⟩ : ∃ v, ss[i]? = some v := ⟨_, List.getElem?_eq_getElem (by omega)⟩
 obtain ⟨t0, ht⟩ : ∃ t, tk[i]? = some t := ⟨_, List.getElem?_eq_getElem (by omega)⟩
 obtain ⟨f, tn, e1, hle, hdr, hfB, oq, rq⟩ := h.q i q vq t0 hx hv ht
 subst e1
 obtain ⟨aq, cq, eq, hcq, hmq⟩ := Zl oq
 subst eq
 obtain ⟨bS, cS, eS, _⟩ := Zq h.se (by omega)
 obtain ⟨bT, cT, eT, _⟩ := Zq h.ta (by omega)
 rw [← hn] at eS eT
 subst eS eT
 have hfl : f.length - tn = q.l.length := by rw [← hdr, List.length_drop]
 have c3 := h.cells.2.2.2.1
 have c4 := h.cells.2.2.2.2.1
 have dS := (Zk h.se i _ hv).1
 have dT := (Zk h.ta i _ (nts_at ht)).1
 obtain ⟨fl, hfl1⟩ : ∃ fl, fl = f.length := ⟨_, rfl⟩
 rw [← hfl1] at dS
 have hb1 : fl <= 1000000 := by omega
 have hb2 : tn <= fl := by omega
 have E : Hid ((fl : Int) - (tn : Int) = (q.l.length : Nat)) := Za (by omega)
 clear h hsm hc hm hn hv ht oq rq hfl hdr hle hfB hcq hmq hsl htl hfl1 hB
 go_enter Tryz.func37, Tryz.ntmps37
 go_wp2_with fail
 refine (in_yes i n _ hi).mono ?_
 rintro e w1 ⟨rfl, rfl⟩
 go_wp2_with fail
 go_quiet (fail)
 go_wp2_with fail
 go_ret
 exact ⟨by rw [← E.out]; rfl, _, rfl⟩
def Sw (w : World) (gb : Nat) (t m z : Int) (g fld b off : Nat) (v : Value) (x0 : Int) : Prop := Val w gb t m z /\ w.cell? ⟨g, fld, none⟩ = some v /\ g < w.heap.size /\ w.cell? ⟨b, off, none⟩ = some (I_ x0) /\ b < w.heap.size
theorem Sw.al {w w' : World} {gb : Nat} {t m z : Int} {g fld b off : Nat} {v : Value} {x0 : Int} (h : Sw w gb t m z g fld b off v x0) (hb : Below w.heap.size w w') : Sw w' gb t m z g fld b off v x0 :=
 ⟨h.1.al hb, (hb.cell (p := ⟨g, fld, none⟩) h.2.2.1).trans h.2.1, Nat.lt_of_lt_of_le h.2.2.1 hb.size, (hb.cell (p := ⟨b, off, none⟩) h.2.2.2.2).trans h.2.2.2.1, Nat.lt_of_lt_of_le h.2.2.2.2 hb.size⟩
def cnt : List Bool -> Nat
 | [] => 0
 | true :: l => cnt l
 | false :: l => cnt l + 1
theorem cnt_set : ∀ (l : List Bool) (i : Nat), l[i]? = some false -> cnt (l.set i true) + 1 = cnt l
 | [], i, h => by simp at h
 | b :: l, 0, h => by
  simp at h
  subst h
  rfl
 | b :: l, i + 1, h => by
  have := cnt_set l i (by simpa using h)
  cases b <;> simp only [List.set_cons_succ, cnt] <;> omega
theorem cnt_zero : ∀ (l : List Bool), cnt l = 0 -> ∀ (i : Nat) (b : Bool), l[i]? = some b -> b = true
 | [], _, i, b, h => by simp at h
 | true :: l, hc, 0, b, h => by
  simp at h
  exact h
 | true :: l, hc, i + 1, b, h => cnt_zero l hc i b (by simpa using h)
 | false :: l, hc, i, b, h => by simp [cnt] at hc
theorem cnt_first : ∀ (l : List Bool), cnt l ≠ 0 -> ∃ j : Nat, l[j]? = some false /\ ∀ k, k < j -> l[k]? = some true
 | [], h => absurd rfl h
 | false :: l, _ => ⟨0, rfl, fun k hk => absurd hk (Nat.not_lt_zero _)⟩
 | true :: l, h => by
  obtain ⟨j, h1, h2⟩ := cnt_first l h
  refine ⟨j + 1, h1, fun k hk => ?_⟩
  cases k with
  | zero => rfl
  | succ k => exact h2 k (by omega)
theorem cnt_rep : ∀ n, cnt (List.replicate n false) = n
 | 0 => rfl
 | n + 1 => by rw [List.replicate_succ, cnt, cnt_rep n]
def upd (u : Nat -> Value) (i : Nat) (v : Value) : Nat -> Value := fun j => if j = i then v else u j
theorem ZF (u : Nat -> Value) (i : Nat) (v : Value) : upd u i v i = v := by simp [upd]
theorem Zs (u : Nat -> Value) {i j : Nat} (v : Value) (h : j ≠ i) : upd u i v j = u j := by simp [upd, h]
section
variable {P : Program} {md : Region.Mode} {ops : Array Oper} {Q : Exit → Act → World → Prop} {A : (Nat → Value) → Act} {Fa Ga : Nat → (Nat → Value) → World → Prop} {Rel : Nat → (Nat → Value) → World → World → Prop}
structure Inv (md : Region.Mode) (ops : Array Oper) (Fa Ga : Nat -> (Nat -> Value) -> World -> Prop) (listed : Array Bool) (u : Nat -> Value) (w : World) : Prop where
 size : listed.size = ops.size
 fa : ∀ j, listed.getD j false = true -> Fa j u w
 ga : ∀ j, listed.getD j true = false -> Ga j u w
 cl : ∀ j o, ops[j]? = some o -> listed.getD j false = true -> ∀ e ∈ o.after, Region.binds md e = true -> listed.getD e.on false = true
theorem getD_of {l : Array Bool} {j : Nat} {b d : Bool} (h : l.toList[j]? = some b) : l.getD j d = b := by
 have : l[j]? = some b := by rw [← Array.getElem?_toList]; exact h
 simp [this]
theorem of_getD {l : Array Bool} {j : Nat} (h : l.getD j true = false) : l.toList[j]? = some false := by
 rw [Array.getElem?_toList]
 simp only [Array.getD_eq_getD_getElem?] at h
 cases hj : l[j]? with
 | none => rw [hj] at h; cases h
 | some b => rw [hj] at h; simp at h; rw [h]
theorem wpAny_local (hord : ∀ j o, ops[j]? = some o -> ∀ e ∈ o.after, Region.binds md e = true -> e.on < j)
    (hfa : ∀ i j u v w w', i ≠ j -> (∀ o, ops[j]? = some o -> ∀ e ∈ o.after, Region.binds md e = true -> e.on ≠ i) -> j < ops.size -> Rel i u w w' -> Fa j u w -> Fa j (upd u i v) w') (hga : ∀ i j u v w w', i ≠ j -> Rel i u w w' -> Ga j u w -> Ga j (upd u i v) w')
    (hop : ∀ i o u w, ops[i]? = some o -> (∀ e ∈ o.after, Region.binds md e = true -> Fa e.on u w) -> (∀ j o', ops[j]? = some o' -> (∃ e ∈ o'.after, Region.binds md e = true /\ e.on = i) -> Ga j u w) -> Ga i u w →
      wpOp P ops Q i (fun a' w' => ∃ v, a' = A (upd u i v) /\ Rel i u w w' /\ Fa i (upd u i v) w') (A u) w)
    (hQ : ∀ u w, (∀ j, j < ops.size -> Fa j u w) -> Q .normal (A u) w) :
    ∀ (fuel : Nat) (listed : Array Bool) (u : Nat -> Value) (w : World), cnt listed.toList = fuel -> Inv md ops Fa Ga listed u w -> wpAny P md ops Q fuel listed (A u) w := by
  intro fuel
  induction fuel with
  | zero =>
    intro listed u w hc hI
    refine ⟨?_, hQ u w fun j hj => hI.fa j ?_⟩
    · rw [List.eq_nil_iff_forall_not_mem]
      intro j hj
      have h := of_getD (mem_ready.1 hj).1
      exact absurd (cnt_zero _ hc j false h) (by decide)
    · have hlt : j < listed.toList.length := by rw [Array.length_toList, hI.size]; exact hj
      have hb := cnt_zero _ hc j _ (List.getElem?_eq_getElem hlt)
      exact getD_of ((List.getElem?_eq_getElem hlt).trans (congrArg some hb))
  | succ fuel ih =>
    intro listed u w hc hI
    refine ⟨fun h0 => ?_, fun i hi => ?_⟩
    · obtain ⟨j, h1, h2⟩ := cnt_first listed.toList (by omega)
      have hlt : j < ops.size := by
        have := (G_ h1)
        rw [Array.length_toList, hI.size] at this
        exact this
      have : j ∈ Region.ready md ops listed := mem_ready.2 ⟨getD_of h1, _, Array.getElem?_eq_getElem hlt, fun e he hb => getD_of (h2 e.on (hord j _ (Array.getElem?_eq_getElem hlt) e he hb))⟩
      rw [h0] at this
      cases this
    · obtain ⟨h0, o, ho, hall⟩ := mem_ready.1 hi
      have hif : listed.toList[i]? = some false := of_getD h0
      refine wpOp_mono (fun a' w' h' => ?_) (hop i o u w ho (fun e he hb => hI.fa _ (hall e he hb)) (fun j o' ho' ⟨e, he, hb, hei⟩ => hI.ga j ?_) (hI.ga i h0))
      · obtain ⟨v, rfl, hr, hf⟩ := h'
        refine ih _ _ _ ?_ ⟨by simpa using hI.size, fun j hj => ?_, fun j hj => ?_, fun j o' ho' hj e he hb => ?_⟩
        · have h3 := cnt_set _ _ hif
          rw [Array.toList_setIfInBounds]
          omega
        · by_cases e : i = j
          · subst e
            exact hf
          · rw [getD_set_ne false e] at hj
            refine hfa i j u v w w' e (fun o' ho' e' he' hb' heq => ?_) ?_ hr (hI.fa j hj)
            · have h3 := hI.cl j o' ho' hj e' he' hb'
              rw [heq] at h3
              have h4 := getD_of (d := false) hif
              rw [h3] at h4
              cases h4
            · rw [← hI.size]
              rcases Nat.lt_or_ge j listed.size with h' | h'
              · exact h'
              · simp [Array.getElem?_eq_none h'] at hj
        · by_cases e : i = j
          · subst e
            have hlt : i < listed.size := (G_ hif)
            simp [hlt] at hj
          · rw [getD_set_ne true e] at hj
            exact hga i j u v w w' e hr (hI.ga j hj)
        · by_cases e1 : i = j
          · subst e1
            rw [ho] at ho'
            cases ho'
            exact getD_set_true (hall e he hb)
          · rw [getD_set_ne false e1] at hj
            exact getD_set_true (hI.cl j o' ho' hj e he hb)
      · have hlt : j < listed.size := by rw [hI.size]; exact (Array.getElem?_eq_some_iff.1 ho').1
        cases hb2 : listed[j] with
        | false => simp [hlt, hb2]
        | true =>
          have h3 := hI.cl j o' ho' (by simp [hlt, hb2]) e he hb
          rw [hei] at h3
          have h4 := getD_of (d := false) hif
          rw [h3] at h4
          cases h4
def depB (ops : Array Oper) (i d : Nat) : Bool := match ops[i]? with
 | some o => o.after.toList.any fun e => Region.binds .any e && e.on == d
 | none => false
def ordB (ops : Array Oper) : Bool := (List.range ops.size).all fun j => match ops[j]? with
 | some o => o.after.all fun e => !Region.binds .any e || decide (e.on < j)
 | none => true
theorem ordB_spec (h : ordB ops = true) : ∀ j o, ops[j]? = some o -> ∀ e ∈ o.after, Region.binds .any e = true -> e.on < j := fun j o ho e he hb => by
 unfold ordB at h
 rw [List.all_eq_true] at h
 have h1 := h j (List.mem_range.2 (Array.getElem?_eq_some_iff.1 ho).1)
 rw [ho] at h1
 simp only [Array.all_eq_true_iff_forall_mem] at h1
 have h2 := h1 e he
 rw [hb] at h2
 simpa using h2
theorem depB_spec {i d : Nat} (h : depB ops i d = true) : ∃ o, ops[i]? = some o /\ ∃ e ∈ o.after, Region.binds .any e = true /\ e.on = d := by
 unfold depB at h
 cases ho : ops[i]? with
 | none => rw [ho] at h; cases h
 | some o =>
  rw [ho] at h
  have h' : (o.after.toList.any fun e => Region.binds .any e && e.on == d) = true := h
  rw [List.any_eq_true] at h'
  obtain ⟨e, he, h2⟩ := h'
  exact ⟨o, rfl, e, by simpa using he, by simpa using h2⟩
theorem wp_region_local {id : Nat} {u : Nat -> Value} {w : World} (hm : P.follows .mixedOrders = true) (hord : ordB ops = true)
    (hfa : ∀ i j u v w w', i ≠ j -> depB ops j i = false -> j < ops.size -> Rel i u w w' -> Fa j u w -> Fa j (upd u i v) w') (hga : ∀ i j u v w w', i ≠ j -> Rel i u w w' -> Ga j u w -> Ga j (upd u i v) w')
    (hop : ∀ i, i < ops.size -> ∀ u w, (∀ d, depB ops i d = true -> Fa d u w) -> (∀ j, depB ops j i = true -> Ga j u w) -> Ga i u w →
      wpOp P ops Q i (fun a' w' => ∃ v, a' = A (upd u i v) /\ Rel i u w w' /\ Fa i (upd u i v) w') (A u) w)
    (hQ : ∀ u w, (∀ j, j < ops.size -> Fa j u w) -> Q .normal (A u) w) (hg : ∀ j, Ga j u w.drew) : (Code.region id ops true).wp P Q (A u) w := by
  refine wp_region_any hm ?_
  change wpAny _ _ _ _ _ _ _ (World.drew _)
  refine wpAny_local (ordB_spec hord) (fun i j u v w w' hij hd hj hr hf => hfa i j u v w w' hij ?_ hj hr hf) hga (fun i o u w ho hd hl hg' => hop i (Array.getElem?_eq_some_iff.1 ho).1 u w (fun d hdd => ?_) (fun j hj => ?_) hg') hQ _ _ u _ (by rw [Array.toList_replicate, cnt_rep]) ⟨by simp, fun j hj => ?_, fun j _ => hg j, fun j o _ hj => ?_⟩
  · cases hb : depB ops j i with
    | false => rfl
    | true =>
      obtain ⟨o, ho, e, he, hb2, hei⟩ := depB_spec hb
      exact absurd hei (hd o ho e he hb2)
  · obtain ⟨o', ho', e, he, hb2, hei⟩ := depB_spec hdd
    rw [ho] at ho'
    cases ho'
    rw [← hei]
    exact hd e he hb2
  · obtain ⟨o', ho', e, he, hb2, hei⟩ := depB_spec hj
    exact hl j o' ho' ⟨e, he, hb2, hei⟩
  · simp only [Array.getD_eq_getD_getElem?, Array.getElem?_replicate] at hj
    split at hj <;> cases hj
  · simp only [Array.getD_eq_getD_getElem?, Array.getElem?_replicate] at hj
    split at hj <;> cases hj
end
def fillL (sl : Nat -> Option Nat) (u : Nat -> Value) : Nat -> List Value -> List Value
 | _, [] => []
 | k, x :: l => (match sl k with | some j => u j | none => x) :: fillL sl u (k + 1) l
def ZK (sl : Nat -> Option Nat) (a : Act) (u : Nat -> Value) : Act := { a with tmps := (fillL sl u 0 a.tmps.toList).toArray }
theorem fillL_at (sl : Nat -> Option Nat) (u : Nat -> Value) : ∀ (l : List Value) (k m : Nat), (fillL sl u k l)[m]? = (l[m]?).map fun x => (match sl (k + m) with | some j => u j | none => x)
 | [], k, m => by simp [fillL]
 | x :: l, k, 0 => by simp [fillL]
 | x :: l, k, m + 1 => by
  have := fillL_at sl u l (k + 1) m
  rw [show k + 1 + m = k + (m + 1) by omega] at this
  simpa [fillL] using this
theorem fillL_set (sl : Nat -> Option Nat) (u : Nat -> Value) (i d : Nat) (v : Value) (h1 : sl d = some i) (h2 : ∀ k, sl k = some i -> k = d) (l : List Value) : (fillL sl u 0 l).set d v = fillL sl (upd u i v) 0 l := by
 apply List.ext_getElem?
 intro m
 rw [fillL_at, Nat.zero_add]
 by_cases e : d = m
 · subst e
   cases hl : l[d]? with
   | none =>
    have : (fillL sl u 0 l)[d]? = none := by rw [fillL_at, hl]; rfl
    rw [List.getElem?_set_self']
    simp [this]
   | some x =>
    have : (fillL sl u 0 l)[d]? = some (u i) := by rw [fillL_at, hl, Nat.zero_add, h1]; rfl
    rw [List.getElem?_set_self']
    simp [this, h1, upd]
 · rw [List.getElem?_set_ne e, fillL_at, Nat.zero_add]
   congr 1
   funext x
   cases hs : sl m with
   | none => rfl
   | some j =>
    have hj : j ≠ i := fun e2 => e (h2 m (by rw [hs, e2])).symm
    simp [upd, hj]
theorem ZG {sl : Nat -> Option Nat} {a : Act} {u : Nat -> Value} {i d : Nat} {v : Value} (h1 : sl d = some i) (h2 : ∀ k, sl k = some i -> k = d) : (ZK sl a u).put (some d) v = ZK sl a (upd u i v) := by
 unfold ZK Act.put
 simp only [List.setIfInBounds_toArray, fillL_set sl u i d v h1 h2]
theorem fillL_none (sl : Nat -> Option Nat) (u : Nat -> Value) (i : Nat) (v : Value) (h : ∀ k, sl k ≠ some i) : ∀ (l : List Value) (k : Nat), fillL sl (upd u i v) k l = fillL sl u k l
 | [], _ => rfl
 | x :: l, k => by
  simp only [fillL, fillL_none sl u i v h l (k + 1)]
  congr 1
  cases hs : sl k with
  | none => rfl
  | some j =>
   have hj : j ≠ i := fun e => h k (by rw [hs, e])
   simp [upd, hj]
theorem fill_none {sl : Nat -> Option Nat} {a : Act} {u : Nat -> Value} {i : Nat} {v x : Value} (h : ∀ k, sl k ≠ some i) : (ZK sl a u).put none x = ZK sl a (upd u i v) := by
 unfold ZK Act.put
 simp only [fillL_none sl u i v h]
theorem ZQ {sl : Nat -> Option Nat} {a : Act} {u : Nat -> Value} {k j : Nat} (hk : k < a.tmps.size) (h : sl k = some j) : (ZK sl a u).eval (.tmp k) = u j := by
 have h1 : (fillL sl u 0 a.tmps.toList)[k]? = some (u j) := by
  rw [fillL_at, List.getElem?_eq_getElem (by simpa using hk), Nat.zero_add, h]
  rfl
 simp [ZK, Act.eval, h1]
theorem fill_out {sl : Nat -> Option Nat} {a : Act} {u : Nat -> Value} {k : Nat} (h : sl k = none) : (ZK sl a u).eval (.tmp k) = a.eval (.tmp k) := by
 have h1 : (fillL sl u 0 a.tmps.toList)[k]? = a.tmps[k]? := by
  rw [fillL_at, Nat.zero_add, h, Array.getElem?_toList]
  simp
 simp [ZK, Act.eval, h1]
theorem fill_self {sl : Nat -> Option Nat} {d : Nat -> Nat} (hd : ∀ k j, sl k = some j -> d j = k) (a : Act) : ZK sl a (fun j => a.tmps.getD (d j) undef) = a := by
 have h : fillL sl (fun j => a.tmps.getD (d j) undef) 0 a.tmps.toList = a.tmps.toList := by
  apply List.ext_getElem?
  intro m
  rw [fillL_at, Nat.zero_add]
  cases hl : a.tmps.toList[m]? with
  | none => rfl
  | some x =>
   cases hs : sl m with
   | none => rfl
   | some j =>
    have e := hd m j hs
    have hl2 : a.tmps[m]? = some x := by rw [← Array.getElem?_toList]; exact hl
    simp [e, hl2]
 unfold ZK
 rw [h]
theorem wp_fill {P : Program} {c : Code} {Q : Exit -> Act -> World -> Prop} {a : Act} {w : World} (sl : Nat -> Option Nat) (d : Nat -> Nat) (hd : ∀ k j, sl k = some j -> d j = k) (h : ∀ a0 u0, a0 = a -> c.wp P Q (ZK sl a0 u0) w) : c.wp P Q a w := by
 have h1 := h a (fun j => a.tmps.getD (d j) undef) rfl
 rw [fill_self hd a] at h1
 exact h1
theorem ZE {P : Program} {ops : Array Oper} {Q : Exit -> Act -> World -> Prop} {i : Nat} {o : Oper} {K : Act -> World -> Prop} {a : Act} {w : World} (ho : ops[i]? = some o) (hgd : o.guard = none) (v : Value) (w1 : World)
 (hrun : (execOp a.eval o).run P w = .ok (.value v) w1) (h : K (a.put o.dst v) w1) : wpOp P ops Q i K a w := by
 refine wpOp_step ho fun K' hK => ?_
 rw [if_pos (by simp [Region.wanted, hgd])]
 unfold Oper.wp
 rw [hrun]
 exact hK _ _ h
theorem wpOp_skip {P : Program} {ops : Array Oper} {Q : Exit -> Act -> World -> Prop} {i : Nat} {o : Oper} {K : Act -> World -> Prop} {a : Act} {w : World} (ho : ops[i]? = some o) (hgd : o.guard = none) (w1 : World)
 (hrun : (execOp a.eval o).run P w = .ok .skip w1) (h : K (a.put o.dst undef) w1) : wpOp P ops Q i K a w := by
 refine wpOp_step ho fun K' hK => ?_
 rw [if_pos (by simp [Region.wanted, hgd])]
 unfold Oper.wp
 rw [hrun]
 exact hK _ _ h
end Go.Proofs.YtfojninaginnoaaGreatDoor.Ck
