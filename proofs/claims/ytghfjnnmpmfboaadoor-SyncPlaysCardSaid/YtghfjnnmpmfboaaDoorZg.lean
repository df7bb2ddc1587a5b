/- The document's New. (Written by mk_y.py.) -/
import Derived.Test.YtghfjnnmpmfboaaDoorZf
import Derived.Deep.CutBlock
namespace Go.Proofs.YtghfjnnmpmfboaaDoor.Ck
open Go.RowKit

theorem wpList_appW {TS : TypeId} {w : World} {ops : Array Oper} {rest : List Oper} {o : Oper} {a : Act} {Q : Exit → Act → World → Prop} (hgd : o.guard = none) (s x : Operand)
    (ho : o.op = .call { callee := .builtin .append, args := #[s, x], argTypes := #[TS, TS] }) (v vx : Value) (hs : a.eval s = v) (hx : a.eval x = vx) (R : Value → World → Prop)
    (hrun : ∃ v' w', (Builtin.append_ #[TS, TS] o.type #[v, vx]).run Tryd.prog w = .ok v' w' ∧ R v' w')
    (h : ∀ v' w', R v' w' → wpList Tryd.prog ops Q rest (a.put o.dst v') w') : wpList Tryd.prog ops Q (o :: rest) a w :=
  wpList_plain hgd fun _ hK => by
    obtain ⟨v', w', hr, hR⟩ := hrun
    unfold Oper.wp execOp
    simp only [ho, resolve, invoke, builtin, Sem.run_bind, Sem.run_pure, Result.andThen_ok, List.map_toArray, List.map_cons, List.map_nil, hs, hx, hr]
    exact hK _ _ (h v' w' hR)
set_option maxRecDepth 20000 in
set_option maxHeartbeats 2000000 in
theorem rnew_any (vPl vCh : Value) (ps : List Int) (cs : List (Int × Int)) (m a : Int) {w : World} (hP : Sl w vPl ps) (hC : SlC w vCh cs) : Calls Tryd.prog 9 #[vPl, .int .i64 m, vCh, .int .i64 a] w (RNewP w (okN ps m cs a) (newS ps m cs a)) := by
  obtain ⟨aP, lP, cP, rfl, hlP⟩ := hP.slice
  obtain ⟨aC, cC, eC, hcC, _, hcc⟩ := id hC
  obtain ⟨lC, hlC⟩ : ∃ n, n = cs.length := ⟨_, rfl⟩
  rw [← hlC] at eC hcC hcc
  subst eC
  have HP := hide (fun i hi => hP.at i hi)
  have HC := hide hcc
  clear hP hC hcc
  by_cases k0 : 128 < lP
  · have HOK : Hid (okN ps m cs a = false) := hide (by unfold okN fitB; simp; omega)
    have k0' : (128 : Int) < (lP : Int) := by omega
    clear hlP hlC hcC
    go_enter Tryd.func9, Tryd.ntmps9
    go_wp2_with fail
    go_ret2
    exact .inl ⟨HOK.out, rfl, Below.refl _ _⟩
  have k0' : (lP : Int) ≤ 128 := by omega
  by_cases k1 : m < 0
  · have HOK : Hid (okN ps m cs a = false) := hide (by unfold okN fitB; simp; omega)
    skip
    clear hlP hlC hcC
    go_enter Tryd.func9, Tryd.ntmps9
    go_wp2_with fail
    go_ret2
    exact .inl ⟨HOK.out, rfl, Below.refl _ _⟩
  have k1' : 0 ≤ m := by omega
  by_cases k2 : 32 < m
  · have HOK : Hid (okN ps m cs a = false) := hide (by unfold okN fitB; simp; omega)
    skip
    clear hlP hlC hcC
    go_enter Tryd.func9, Tryd.ntmps9
    go_wp2_with fail
    go_ret2
    exact .inl ⟨HOK.out, rfl, Below.refl _ _⟩
  have k2' : m ≤ 32 := by omega
  by_cases k3 : a < 0
  · have HOK : Hid (okN ps m cs a = false) := hide (by unfold okN fitB; simp; omega)
    skip
    clear hlP hlC hcC
    go_enter Tryd.func9, Tryd.ntmps9
    go_wp2_with fail
    go_ret2
    exact .inl ⟨HOK.out, rfl, Below.refl _ _⟩
  have k3' : 0 ≤ a := by omega
  by_cases k4 : 32 < a
  · have HOK : Hid (okN ps m cs a = false) := hide (by unfold okN fitB; simp; omega)
    skip
    clear hlP hlC hcC
    go_enter Tryd.func9, Tryd.ntmps9
    go_wp2_with fail
    go_ret2
    exact .inl ⟨HOK.out, rfl, Below.refl _ _⟩
  have k4' : a ≤ 32 := by omega
  by_cases k5 : 32 < lC
  · have HOK : Hid (okN ps m cs a = false) := hide (by unfold okN fitB; simp; omega)
    have k5' : (32 : Int) < (lC : Int) := by omega
    clear hlP hlC hcC
    go_enter Tryd.func9, Tryd.ntmps9
    go_wp2_with fail
    go_ret2
    exact .inl ⟨HOK.out, rfl, Below.refl _ _⟩
  have k5' : (lC : Int) ≤ 32 := by omega
  obtain ⟨mn, rfl⟩ := Int.eq_ofNat_of_zero_le k1'
  obtain ⟨an, rfl⟩ := Int.eq_ofNat_of_zero_le k3'
  have hmn : mn ≤ 32 := by omega
  have han : an ≤ 32 := by omega
  have hlC32 : lC ≤ 32 := by omega
  have HLP := hide hlP
  have HLC := hide hlC
  have HSZ : Hid (ps.any badT = false → cs.any badC = false → okN ps (mn : Nat) cs (an : Nat) = true) := hide (fun h1 h2 => by unfold okN fitB; simp [h1, h2]; omega)
  have HB1 : Hid (ps.any badT = true → okN ps (mn : Nat) cs (an : Nat) = false) := hide (fun h1 => by unfold okN; simp [h1])
  have HB2 : Hid (cs.any badC = true → okN ps (mn : Nat) cs (an : Nat) = false) := hide (fun h1 => by unfold okN; simp [h1])
  clear k0 k1 k2 k3 k4 k5 k1' k3' hlP hlC
  go_enter Tryd.func9, Tryd.ntmps9
  go_wp2_with fail
  go_cut [10] from 39 to 44 (fun x wc => ∃ g, x = .pointer (some ⟨g, 0, none⟩) ∧ Hid (RMk w wc g ⟨[], List.replicate mn false, [], List.replicate an 0⟩))
  case first =>
    have B0 := hide (bel_drawn (Below.refl w.heap.size w))
    refine wp_region_any mixed ?_
    change wpAny _ _ _ _ _ _ _ (World.drew _)
    generalize World.drew _ = W0 at *
    refine wpAny_take (i := 0) (v := ?_) rfl (by kernel_rfl) (by kernel_rfl) (by kernel_rfl) (fun _ _ _ h => h) (Or.inl ⟨by rfl, fun w => ?_⟩) ?_
    rotate_left 1
    · (go_simp <;> with_reducible rfl)
    simp only [Act.put, List.getElem_toArray, List.getElem_cons_zero, List.setIfInBounds_toArray, List.set_cons_zero, List.set_cons_succ]
    refine wpAny_take (i := 2) (v := ?_) rfl (by kernel_rfl) (by kernel_rfl) (by kernel_rfl) (fun _ _ _ h => h) (Or.inl ⟨by rfl, fun w => ?_⟩) ?_
    rotate_left 1
    · (go_simp <;> with_reducible rfl)
    simp only [Act.put, List.getElem_toArray, List.getElem_cons_zero, List.getElem_cons_succ, List.setIfInBounds_toArray, List.set_cons_zero, List.set_cons_succ]
    refine wpAny_ready (rs := [1, 3]) (by kernel_rfl) (by decide) ?_
    refine AllReady.cons rfl (fun K1 hK1 => ?_) (AllReady.cons rfl (fun K1 hK1 => ?_) AllReady.nil)
    · have q := run_mkB mn hmn
      go_simp
      refine hK1 _ _ ?_
      clear hK1 K1 q
      refine wpAny_ready (rs := [3]) (by kernel_rfl) (by decide) ?_
      refine AllReady.cons rfl (fun K1 hK1 => ?_) AllReady.nil
      have q := run_mkI an han
      go_simp
      refine hK1 _ _ ?_
      clear hK1 K1 q
      refine wpAny_take (i := 4) (v := ?_) rfl (by kernel_rfl) (by kernel_rfl) (by kernel_rfl) (fun _ _ _ h => h) (Or.inl ⟨by rfl, fun w => ?_⟩) ?_
      rotate_left 1
      · (go_simp <;> with_reducible rfl)
      simp only [Act.put, List.getElem_toArray, List.getElem_cons_zero, List.getElem_cons_succ, List.setIfInBounds_toArray, List.set_cons_zero, List.set_cons_succ]
      refine wpAny_ready (rs := [5]) (by kernel_rfl) (by decide) ?_
      refine AllReady.cons rfl (fun K1 hK1 => ?_) AllReady.nil
      go_simp
      refine hK1 _ _ ?_
      clear hK1 K1
      refine wpAny_take (i := 6) (v := ?_) rfl (by kernel_rfl) (by kernel_rfl) (by kernel_rfl) (fun _ _ _ h => h) (Or.inl ⟨by rfl, fun w => ?_⟩) ?_
      rotate_left 1
      · (go_simp <;> with_reducible rfl)
      simp only [Act.put, List.getElem_toArray, List.getElem_cons_zero, List.getElem_cons_succ, List.setIfInBounds_toArray, List.set_cons_zero, List.set_cons_succ]
      refine wpAny_done (by kernel_rfl) ?_ _
      have h1 := own_made W0 (.bool false) mn 4 hmn
      have h2 := own_made (W0.alloc (.cells (madeCells #[.bool false] mn) 4)) (.int .i64 0) an 3 han
      have hs1 : (W0.alloc (.cells (madeCells #[.bool false] mn) 4)).heap.size = W0.heap.size + 1 := by simp
      have hs2 : ((W0.alloc (.cells (madeCells #[.bool false] mn) 4)).alloc (.cells (madeCells #[.int .i64 0] an) 3)).heap.size = W0.heap.size + 1 + 1 := by simp
      rw [hs1] at h2
      have hz := B0.out.size
      have h3 := own_keep h1 (fun k hk => (bel_new _ (.cells (madeCells #[.int .i64 0] an) 3)).block k (own_type h1 hk).2.1)
      have h4 := own_keep h3 (fun k hk => (bel_new _ (.cells #[.slice none 0 0, .slice (some ⟨W0.heap.size, 0, none⟩) mn mn, .slice none 0 0, .slice none 0 0, .slice none 0 0, .slice (some ⟨W0.heap.size + 1, 0, none⟩) an an] 50)).block k (own_type h3 hk).2.1)
      have h5 := own_keep h2 (fun k hk => (bel_new _ (.cells #[.slice none 0 0, .slice (some ⟨W0.heap.size, 0, none⟩) mn mn, .slice none 0 0, .slice none 0 0, .slice none 0 0, .slice (some ⟨W0.heap.size + 1, 0, none⟩) an an] 50)).block k (own_type h2 hk).2.1)
      have M0 := hide (rmk_new (w := w) hmn han rfl rfl h4 h5 (hs2 ▸ Go.Deep.blk_alloc_new ((W0.alloc (.cells (madeCells #[.bool false] mn) 4)).alloc (.cells (madeCells #[.int .i64 0] an) 3)) (.cells #[.slice none 0 0, .slice (some ⟨W0.heap.size, 0, none⟩) mn mn, .slice none 0 0, .slice none 0 0, .slice none 0 0, .slice (some ⟨W0.heap.size + 1, 0, none⟩) an an] 50)) ⟨by omega, by omega, by omega⟩ (bel_al (bel_al (bel_al B0.out _) _) _))
      clear h1 h2 h3 h4 h5 hs1 hs2
      go_wp2_with fail
      go_meet
      case rel => exact ⟨_, rfl, M0⟩
    · have q := run_mkI an han
      go_simp
      refine hK1 _ _ ?_
      clear hK1 K1 q
      refine wpAny_ready (rs := [1]) (by kernel_rfl) (by decide) ?_
      refine AllReady.cons rfl (fun K1 hK1 => ?_) AllReady.nil
      have q := run_mkB mn hmn
      go_simp
      refine hK1 _ _ ?_
      clear hK1 K1 q
      refine wpAny_take (i := 4) (v := ?_) rfl (by kernel_rfl) (by kernel_rfl) (by kernel_rfl) (fun _ _ _ h => h) (Or.inl ⟨by rfl, fun w => ?_⟩) ?_
      rotate_left 1
      · (go_simp <;> with_reducible rfl)
      simp only [Act.put, List.getElem_toArray, List.getElem_cons_zero, List.getElem_cons_succ, List.setIfInBounds_toArray, List.set_cons_zero, List.set_cons_succ]
      refine wpAny_ready (rs := [5]) (by kernel_rfl) (by decide) ?_
      refine AllReady.cons rfl (fun K1 hK1 => ?_) AllReady.nil
      go_simp
      refine hK1 _ _ ?_
      clear hK1 K1
      refine wpAny_take (i := 6) (v := ?_) rfl (by kernel_rfl) (by kernel_rfl) (by kernel_rfl) (fun _ _ _ h => h) (Or.inl ⟨by rfl, fun w => ?_⟩) ?_
      rotate_left 1
      · (go_simp <;> with_reducible rfl)
      simp only [Act.put, List.getElem_toArray, List.getElem_cons_zero, List.getElem_cons_succ, List.setIfInBounds_toArray, List.set_cons_zero, List.set_cons_succ]
      refine wpAny_done (by kernel_rfl) ?_ _
      have h1 := own_made W0 (.int .i64 0) an 3 han
      have h2 := own_made (W0.alloc (.cells (madeCells #[.int .i64 0] an) 3)) (.bool false) mn 4 hmn
      have hs1 : (W0.alloc (.cells (madeCells #[.int .i64 0] an) 3)).heap.size = W0.heap.size + 1 := by simp
      have hs2 : ((W0.alloc (.cells (madeCells #[.int .i64 0] an) 3)).alloc (.cells (madeCells #[.bool false] mn) 4)).heap.size = W0.heap.size + 1 + 1 := by simp
      rw [hs1] at h2
      have hz := B0.out.size
      have h3 := own_keep h1 (fun k hk => (bel_new _ (.cells (madeCells #[.bool false] mn) 4)).block k (own_type h1 hk).2.1)
      have h4 := own_keep h3 (fun k hk => (bel_new _ (.cells #[.slice none 0 0, .slice (some ⟨W0.heap.size + 1, 0, none⟩) mn mn, .slice none 0 0, .slice none 0 0, .slice none 0 0, .slice (some ⟨W0.heap.size, 0, none⟩) an an] 50)).block k (own_type h3 hk).2.1)
      have h5 := own_keep h2 (fun k hk => (bel_new _ (.cells #[.slice none 0 0, .slice (some ⟨W0.heap.size + 1, 0, none⟩) mn mn, .slice none 0 0, .slice none 0 0, .slice none 0 0, .slice (some ⟨W0.heap.size, 0, none⟩) an an] 50)).block k (own_type h2 hk).2.1)
      have M0 := hide (rmk_new (w := w) hmn han rfl rfl h5 h4 (hs2 ▸ Go.Deep.blk_alloc_new ((W0.alloc (.cells (madeCells #[.int .i64 0] an) 3)).alloc (.cells (madeCells #[.bool false] mn) 4)) (.cells #[.slice none 0 0, .slice (some ⟨W0.heap.size + 1, 0, none⟩) mn mn, .slice none 0 0, .slice none 0 0, .slice none 0 0, .slice (some ⟨W0.heap.size, 0, none⟩) an an] 50)) ⟨by omega, by omega, by omega⟩ (bel_al (bel_al (bel_al B0.out _) _) _))
      clear h1 h2 h3 h4 h5 hs1 hs2
      go_wp2_with fail
      go_meet
      case rel => exact ⟨_, rfl, M0⟩
  case rest =>
    obtain ⟨g, rfl, M0⟩ := hcut
    go_wp2_with fail
    go_loopw [12, 47] (fun x i wr => ∃ k : Nat, k ≤ lP ∧ i = .int .i64 k ∧ Hid (RMk w wr g ⟨zz (ps.take k), List.replicate mn false, [], List.replicate an 0⟩) ∧ Hid (∀ j, j < k → badT (ps.getD j 0) = false)) (fun x i _ => lP - (intOf i).toNat)
    case atStart => exact ⟨0, Nat.zero_le _, rfl, M0, fun j hj => absurd hj (Nat.not_lt_zero _)⟩
    case round =>
     obtain ⟨k, hk, rfl, M1, GA⟩ := hrel
     clear M0
     by_cases hlt : k < lP
     · have hlt' : (k : Int) < (lP : Int) := by omega
       obtain ⟨b1, o1, rfl, hb1, hc1⟩ := HP.out k hlt
       obtain ⟨F, vP, vL, vC, vS, vT, vA, ss, tk, S, hF, hB, hst⟩ := M1.out
       have hcr := (hB.cell (p := ⟨b1, o1 + k, none⟩) hb1).trans hc1
       have HYB : Hid (badT (ps.getD k 0) = true → okN ps (mn : Nat) cs (an : Nat) = false) := hide (fun h => HB1.out (any_yes ps _ 0 k (by have := HLP.out; omega) h))
       have HGA : Hid (badT (ps.getD k 0) = false → ∀ j, j < k + 1 → badT (ps.getD j 0) = false) := hide (fun h j hj => by
         by_cases e : j = k
         · rw [e]; exact h
         · exact GA.out j (by omega))
       have HSN : Hid (zz (ps.take (k + 1)) = zz (ps.take k) ++ [(ps.getD k 0, 0, 0)]) := hide (by rw [take_snoc ps k 0 (by have := HLP.out; omega)]; simp [zz])
       have HLS : Hid ((zz (ps.take k)).length < 128) := hide (by simp [zz]; have := HLP.out; omega)
       generalize ps.getD k 0 = y at *
       have HBL := hide hB
       by_cases y1 : y < 1
       · have HN := hide (HYB.out (by unfold badT zeroT; rw [if_neg (by omega)]; rfl))
         clear S hF hB hst M1 hc1 HYB HGA GA
         go_wp2_with fail
         go_ret2
         exact .inl ⟨HN.out, rfl, HBL.out⟩
       by_cases y3 : 3 < y
       · have HN := hide (HYB.out (by unfold badT zeroT; rw [if_neg (by omega)]; rfl))
         have y1' : 1 ≤ y := by omega
         clear S hF hB hst M1 hc1 HYB HGA GA y1
         go_wp2_with fail
         go_ret2
         exact .inl ⟨HN.out, rfl, HBL.out⟩
       have y1' : 1 ≤ y := by omega
       have y3' : y ≤ 3 := by omega
       have GA2 := hide (HGA.out (by unfold badT zeroT; rw [if_pos (by omega)]; simp; omega))
       obtain ⟨aQ, cQ, eQ, _⟩ := own_slice S.pl
       obtain ⟨nQ, hnQ⟩ : ∃ n, n = (zz (ps.take k)).length := ⟨_, rfl⟩
       rw [show ({ P := zz (ps.take k), M := List.replicate mn false, C := [], A := List.replicate an 0 } : St).P.length = nQ from hnQ.symm] at eQ
       subst eQ
       have PU := hide (fun ty => S.pushP (y, 0, 0) HLS.out ty)
       have s0 := S.cells.1
       have hgl := S.fb g S.fg
       have HF := hide (And.intro hF hst)
       clear S hB hF hst M1 hc1 hnQ HYB HGA GA y1 y3
       go_wp2_with (first | (at_builtin; refine wpList_appW (TS := 46) rfl (.tmp 61) (.tmp 64) rfl _ _ rfl rfl _ (PU.out _) ?_; rintro v9 w9 ⟨⟨a9, l9, c9, rfl⟩, z1, z2, r9⟩; have R9 := hide r9; clear r9))
       go_roundw
       case rel =>
         refine ⟨k + 1, by omega, by go_num, ?_, GA2⟩
         rw [HSN.out]
         exact ⟨_, _, _, _, _, _, _, _, _, R9.out.1, R9.out.2.low HF.out.1 HBL.out.size, HBL.out.trans (R9.out.2.bel HF.out.1 HBL.out.size), HF.out.2⟩
       case measure => simp [intOf]; omega
     · obtain rfl : k = lP := by omega
       have M2 : Hid (RMk w wr g ⟨zz ps, List.replicate mn false, cz (cs.take 0), List.replicate an 0⟩) := hide (by
         have := M1.out
         rw [List.take_of_length_le (by have := HLP.out; omega)] at this
         exact this)
       have GP : Hid (ps.any badT = false) := hide (any_not ps _ 0 (fun j hj => GA.out j (by have := HLP.out; omega)))
       clear M1 GA
       go_wp2_with fail
       go_loopw [14, 71] (fun x i wr => ∃ k : Nat, k ≤ lC ∧ i = .int .i64 k ∧ Hid (RMk w wr g ⟨zz ps, List.replicate mn false, cz (cs.take k), List.replicate an 0⟩) ∧ Hid (∀ j, j < k → badC (cs.getD j (0, 0)) = false)) (fun x i _ => lC - (intOf i).toNat)
       case atStart => exact ⟨0, Nat.zero_le _, rfl, M2, fun j hj => absurd hj (Nat.not_lt_zero _)⟩
       case round =>
        obtain ⟨k, hk, rfl, M1, GA⟩ := hrel
        clear M2
        by_cases hlt : k < lC
        · have hlt' : (k : Int) < (lC : Int) := by omega
          obtain ⟨b1, o1, rfl, hb1, hc1, hc2⟩ := HC.out k hlt
          obtain ⟨F, vP, vL, vC, vS, vT, vA, ss, tk, S, hF, hB, hst⟩ := M1.out
          have hcr := (hB.cell (p := ⟨b1, o1 + k * 2, none⟩) hb1).trans hc1
          have hcs := (hB.cell (p := ⟨b1, o1 + k * 2 + 1, none⟩) hb1).trans hc2
          have HYB : Hid (badC (cs.getD k (0, 0)) = true → okN ps (mn : Nat) cs (an : Nat) = false) := hide (fun h => HB2.out (any_yes cs _ (0, 0) k (by have := HLC.out; omega) h))
          have HGA : Hid (badC (cs.getD k (0, 0)) = false → ∀ j, j < k + 1 → badC (cs.getD j (0, 0)) = false) := hide (fun h j hj => by
            by_cases e : j = k
            · rw [e]; exact h
            · exact GA.out j (by omega))
          have HSN : Hid (cz (cs.take (k + 1)) = cz (cs.take k) ++ [⟨(cs.getD k (0, 0)).1, (cs.getD k (0, 0)).2, []⟩]) := hide (by rw [take_snoc cs k (0, 0) (by have := HLC.out; omega)]; simp [cz])
          have hbcd : badC (cs.getD k (0, 0)) = chanB (cs.getD k (0, 0)).1 (cs.getD k (0, 0)).2 := rfl
          rw [hbcd] at HYB HGA
          clear hbcd
          generalize (cs.getD k (0, 0)).1 = y1 at *
          generalize (cs.getD k (0, 0)).2 = y2 at *
          have HBL := hide (bel_al hB (.cells #[.int .i64 y1, .int .i64 y2] 52))
          by_cases t1 : y1 < 1
          · have HN := hide (HYB.out (by unfold chanB zeroT; rw [if_neg (by omega)]; rfl))
            clear S hF hB hst M1 hc1 hc2 HYB HGA GA
            go_wp2_with fail
            go_ret2
            exact .inl ⟨HN.out, rfl, HBL.out⟩
          have t1' : 1 ≤ y1 := by omega
          clear t1
          by_cases t3 : 3 < y1
          · have HN := hide (HYB.out (by unfold chanB zeroT; rw [if_neg (by omega)]; rfl))
            clear S hF hB hst M1 hc1 hc2 HYB HGA GA
            go_wp2_with fail
            go_ret2
            exact .inl ⟨HN.out, rfl, HBL.out⟩
          have t3' : y1 ≤ 3 := by omega
          clear t3
          by_cases r0 : y2 < 0
          · have HN := hide (HYB.out (by unfold chanB zeroT; simp; omega))
            clear S hF hB hst M1 hc1 hc2 HYB HGA GA
            go_wp2_with fail
            go_ret2
            exact .inl ⟨HN.out, rfl, HBL.out⟩
          have r0' : 0 ≤ y2 := by omega
          clear r0
          by_cases r8 : 8 < y2
          · have HN := hide (HYB.out (by unfold chanB zeroT; simp; omega))
            clear S hF hB hst M1 hc1 hc2 HYB HGA GA
            go_wp2_with fail
            go_ret2
            exact .inl ⟨HN.out, rfl, HBL.out⟩
          have r8' : y2 ≤ 8 := by omega
          clear r8
          have GA2 := hide (HGA.out (by unfold chanB zeroT; rw [if_pos (by omega)]; simp; omega))
          have X0 : Hid ((wr.alloc (.cells #[.int .i64 y1, .int .i64 y2] 52)).drew.heap[wr.heap.size]? = some (.cells #[.int .i64 y1, .int .i64 y2] 52 (0, 0))) := hide (Go.Deep.blk_alloc_new wr _)
          have S0 := hide (S.bel (bel_drawn (bel_new wr (.cells #[.int .i64 y1, .int .i64 y2] 52))))
          have HF := hide (And.intro hF hst)
          have HBD := hide (bel_drawn HBL.out)
          have HLT := hide (S.fb)
          have hkn : (cz (cs.take k)).length = k := by simp [cz]; have := HLC.out; omega
          have HK := hide hkn
          clear S hB hF hst M1 hc1 hc2 HYB HGA GA HBL hkn
          go_wp2_with fail
          refine wp_fill sl16 (fun j => if j < 24 then 93 + j else if j = 25 then 117 else if j = 26 then 118 else if j = 28 then 119 else 120) (fun k j hk => by rcases sl16_inj hk with ⟨h1, h2⟩ | ⟨h1, h2⟩ | ⟨h1, h2⟩ | ⟨h1, h2⟩ | ⟨h1, h2⟩ <;> simp [h1, h2]) (fun a0 u0 ha0 => ?_)
          have hsz : 120 < a0.tmps.size := by rw [ha0]; simp
          have h10 : a0.eval (.tmp 10) = .pointer (some ⟨g, 0, none⟩) := by rw [ha0]; rfl
          have h14 : a0.eval (.tmp 14) = .pointer (some ⟨wr.heap.size, 0, none⟩) := by rw [ha0]; rfl
          have S1 := S0.out
          obtain ⟨gb, hgb⟩ : ∃ gb, gb = wr.heap.size := ⟨_, rfl⟩
          have hgb1 : gb ≠ g := fun e => by have := HLT.out g S1.fg; omega
          have c16 : NC (wr.alloc (.cells #[.int .i64 y1, .int .i64 y2] 52)).drew g gb k y1 y2 vP vL vC vS vT vA (ccs (cz (cs.take k))) ss (nts tk) := ⟨S1.at_, by have := S1.ch; rw [show (St.C ⟨zz ps, List.replicate mn false, cz (cs.take k), List.replicate an 0⟩).length = k from HK.out] at this; exact this, by have := S1.se; rw [show (St.C ⟨zz ps, List.replicate mn false, cz (cs.take k), List.replicate an 0⟩).length = k from HK.out] at this; exact this, by have := S1.ta; rw [show (St.C ⟨zz ps, List.replicate mn false, cz (cs.take k), List.replicate an 0⟩).length = k from HK.out] at this; exact this, by rw [hgb]; exact X0.out, fun e => by have := HLT.out gb (S1.fC gb e); omega, by omega⟩
          have hgb2 : vS.ownBlock ≠ some gb := fun e => by have := HLT.out gb (S1.fS gb e); omega
          have hgb3 : vT.ownBlock ≠ some gb := fun e => by have := HLT.out gb (S1.fT gb e); omega
          rw [← hgb] at h14
          generalize hW0 : (wr.alloc (.cells #[.int .i64 y1, .int .i64 y2] 52)).drew = W0 at *
          refine wp_region_local (A := fill sl16 a0) (Fa := NF W0 g gb k y1 y2 vP vL vC vS vT vA (ccs (cz (cs.take k))) ss (nts tk)) (Ga := NG W0 g gb k y1 y2 vP vL vC vS vT vA (ccs (cz (cs.take k))) ss (nts tk)) (Rel := NRel g vC vS vT) mixed (by kernel_rfl) (fun i j u v w w' hij hd hj hr hf => nf_keep c16 i j u v w w' hij ⟨?_, ?_, ?_⟩ hj hr hf) (fun i j u v w w' hij hr hf => ng_keep c16 i j u v w w' hij hr hf) ?_ ?_ ?_
          · intro e1 e2
            subst e1 e2
            exact absurd (hd.symm.trans (show _ = true by kernel_rfl)) (by decide)
          · intro e1 e2
            subst e1 e2
            exact absurd (hd.symm.trans (show _ = true by kernel_rfl)) (by decide)
          · intro e1 e2
            subst e1 e2
            exact absurd (hd.symm.trans (show _ = true by kernel_rfl)) (by decide)
          · intro i hi u wx hd hl hg
            obtain rfl | rfl | rfl | rfl | rfl | rfl | rfl | rfl | rfl | rfl | rfl | rfl | rfl | rfl | rfl | rfl | rfl | rfl | rfl | rfl | rfl | rfl | rfl | rfl | rfl | rfl | rfl | rfl | rfl | rfl | rfl : i = 0 ∨ i = 1 ∨ i = 2 ∨ i = 3 ∨ i = 4 ∨ i = 5 ∨ i = 6 ∨ i = 7 ∨ i = 8 ∨ i = 9 ∨ i = 10 ∨ i = 11 ∨ i = 12 ∨ i = 13 ∨ i = 14 ∨ i = 15 ∨ i = 16 ∨ i = 17 ∨ i = 18 ∨ i = 19 ∨ i = 20 ∨ i = 21 ∨ i = 22 ∨ i = 23 ∨ i = 24 ∨ i = 25 ∨ i = 26 ∨ i = 27 ∨ i = 28 ∨ i = 29 ∨ i = 30 := by have : i < 31 := hi; omega
            · have e10 : (fill sl16 a0 u).eval (.tmp 10) = .pointer (some ⟨g, 0, none⟩) := (fill_out rfl).trans h10
              refine wpOp_val rfl rfl (.pointer (some ⟨g, 0, none⟩)) wx (by generalize (fill sl16 a0 u).eval = ev at *; simp [execOp, e10]) ⟨_, fill_put (d := 93) rfl (fun k hk => by have := sl16_inj hk; omega), .inl (World.grownBy.refl _ _), hg.1, upd_self _ _ _⟩
            · have e10 : (fill sl16 a0 u).eval (.tmp 10) = .pointer (some ⟨g, 0, none⟩) := (fill_out rfl).trans h10
              refine wpOp_val rfl rfl (.pointer (some ⟨g, 0, none⟩)) wx (by generalize (fill sl16 a0 u).eval = ev at *; simp [execOp, e10]) ⟨_, fill_put (d := 94) rfl (fun k hk => by have := sl16_inj hk; omega), .inl (World.grownBy.refl _ _), hg.1, upd_self _ _ _⟩
            · have e10 : (fill sl16 a0 u).eval (.tmp 10) = .pointer (some ⟨g, 0, none⟩) := (fill_out rfl).trans h10
              refine wpOp_val rfl rfl (.pointer (some ⟨g, 0, none⟩)) wx (by generalize (fill sl16 a0 u).eval = ev at *; simp [execOp, e10]) ⟨_, fill_put (d := 95) rfl (fun k hk => by have := sl16_inj hk; omega), .inl (World.grownBy.refl _ _), hg.1, upd_self _ _ _⟩
            · have e10 : (fill sl16 a0 u).eval (.tmp 10) = .pointer (some ⟨g, 0, none⟩) := (fill_out rfl).trans h10
              refine wpOp_val rfl rfl (.pointer (some ⟨g, 0, none⟩)) wx (by generalize (fill sl16 a0 u).eval = ev at *; simp [execOp, e10]) ⟨_, fill_put (d := 96) rfl (fun k hk => by have := sl16_inj hk; omega), .inl (World.grownBy.refl _ _), hg.1, upd_self _ _ _⟩
            · have e96 : (fill sl16 a0 u).eval (.tmp 96) = u 3 := fill_in (by omega) rfl
              have f3 : u 3 = .pointer (some ⟨g, 0, none⟩) := (hd 3 (by kernel_rfl)).2
              rw [f3] at e96
              refine wpOp_val rfl rfl (.pointer (some ⟨g, 0, none⟩)) wx (by generalize (fill sl16 a0 u).eval = ev at *; simp [execOp, e96, go_sem]) ⟨_, fill_put (d := 97) rfl (fun k hk => by have := sl16_inj hk; omega), .inl (World.grownBy.refl _ _), hg.1, upd_self _ _ _⟩
            · have e97 : (fill sl16 a0 u).eval (.tmp 97) = u 4 := fill_in (by omega) rfl
              have f4 : u 4 = .pointer (some ⟨g, 0, none⟩) := (hd 4 (by kernel_rfl)).2
              rw [f4] at e97
              refine wpOp_val rfl rfl (.pointer (some ⟨g, 2, none⟩)) wx (by generalize (fill sl16 a0 u).eval = ev at *; simp [execOp, e97, go_sem]) ⟨_, fill_put (d := 98) rfl (fun k hk => by have := sl16_inj hk; omega), .inl (World.grownBy.refl _ _), hg.1, upd_self _ _ _⟩
            · have e98 : (fill sl16 a0 u).eval (.tmp 98) = u 5 := fill_in (by omega) rfl
              have f5 : u 5 = .pointer (some ⟨g, 2, none⟩) := (hd 5 (by kernel_rfl)).2
              rw [f5] at e98
              have hc : wx.cell? ⟨g, 2, none⟩ = some vC := (hl 24 (by kernel_rfl)).2
              refine wpOp_val rfl rfl vC wx (by generalize (fill sl16 a0 u).eval = ev at *; simp [execOp, e98, go_sem, hc]) ⟨_, fill_put (d := 99) rfl (fun k hk => by have := sl16_inj hk; omega), .inl (World.grownBy.refl _ _), hg.1, upd_self _ _ _⟩
            · have e14 : (fill sl16 a0 u).eval (.tmp 14) = .pointer (some ⟨gb, 0, none⟩) := (fill_out rfl).trans h14
              have hbx := hg.1.2.2 gb (lt_of_blk c16.box) hgb1 c16.boxC hgb2 hgb3
              have b0 := blk_cell (hbx.trans c16.box) 0 _ rfl
              have b1 := blk_cell (hbx.trans c16.box) 1 _ rfl
              refine wpOp_val rfl rfl (.agg #[.int .i64 y1, .int .i64 y2]) wx (by generalize (fill sl16 a0 u).eval = ev at *; simp [execOp, e14, go_sem, b0, b1]) ⟨_, fill_put (d := 100) rfl (fun k hk => by have := sl16_inj hk; omega), .inl (World.grownBy.refl _ _), hg.1, upd_self _ _ _⟩
            · have e100 : (fill sl16 a0 u).eval (.tmp 100) = u 7 := fill_in (by omega) rfl
              have f7 : u 7 = .agg #[.int .i64 y1, .int .i64 y2] := (hd 7 (by kernel_rfl)).2
              rw [f7] at e100
              refine wpOp_val rfl rfl (.slice (some ⟨wx.heap.size, 0, none⟩) 1 1) (wx.alloc (.cells #[.int .i64 y1, .int .i64 y2] 52)) (by generalize (fill sl16 a0 u).eval = ev at *; simp [execOp, go_sem, e100]) ⟨_, fill_put (d := 101) rfl (fun k hk => by have := sl16_inj hk; omega), .inl (gb_none (bel_new _ _)), (hg.1.grown c16 (.inl rfl) (gb_none (bel_new _ _))).1, wx.heap.size, upd_self _ _ _, hg.1.2.1.2.2.2, Go.Deep.blk_alloc_new _ _⟩
            · have e99 : (fill sl16 a0 u).eval (.tmp 99) = u 6 := fill_in (by omega) rfl
              have f6 : u 6 = vC := (hd 6 (by kernel_rfl)).2
              rw [f6] at e99
              have e101 : (fill sl16 a0 u).eval (.tmp 101) = u 8 := fill_in (by omega) rfl
              obtain ⟨kx, fx1, fx2, fx3⟩ : ∃ k, u 8 = .slice (some ⟨k, 0, none⟩) 1 1 ∧ W0.heap.size ≤ k ∧ wx.heap[k]? = some (.cells #[.int .i64 y1, .int .i64 y2] 52 (0, 0)) := (hd 8 (by kernel_rfl)).2
              rw [fx1] at e101
              obtain ⟨v9, w9, hrun, o9, g9, f9⟩ := push_any (ys := [.int .i64 y1, .int .i64 y2]) Tryd.underlying23 info_chan rfl (by decide) (by decide) hg.2 c16.nl rfl (fun j u hu => blk_cell fx3 j u (by simpa using hu)) (by intro u hu; simp at hu; first | (subst hu; rfl) | (rcases hu with rfl | rfl <;> rfl)) 23
              obtain ⟨a9, c9, e9, _⟩ := own_slice o9
              refine wpOp_val rfl rfl v9 w9 (by generalize (fill sl16 a0 u).eval = ev at *; simp only [List.getElem_toArray, List.getElem_cons_zero, List.getElem_cons_succ, execOp, resolve, invoke, builtin, Sem.run_bind, Sem.run_pure, Result.andThen_ok, List.map_toArray, List.map_cons, List.map_nil, e99, e101, hrun]) ⟨_, fill_put (d := 102) rfl (fun k hk => by have := sl16_inj hk; omega), .inr (.inl ⟨rfl, g9⟩), (hg.1.grown c16 (.inr (.inl rfl)) g9).1, ?_⟩
              show NRow W0 w9 52 2 (upd u 9 v9 9) (k + 1) (ccs (cz (cs.take k)) ++ [.int .i64 y1, .int .i64 y2]) vC
              rw [upd_self]
              exact ⟨⟨_, _, e9⟩, o9, fun k hk => (f9 k hk).imp id (fun h => Nat.le_trans hg.1.2.1.2.2.2 h)⟩
            · have e10 : (fill sl16 a0 u).eval (.tmp 10) = .pointer (some ⟨g, 0, none⟩) := (fill_out rfl).trans h10
              refine wpOp_val rfl rfl (.pointer (some ⟨g, 0, none⟩)) wx (by generalize (fill sl16 a0 u).eval = ev at *; simp [execOp, e10]) ⟨_, fill_put (d := 103) rfl (fun k hk => by have := sl16_inj hk; omega), .inl (World.grownBy.refl _ _), hg.1, upd_self _ _ _⟩
            · have e103 : (fill sl16 a0 u).eval (.tmp 103) = u 10 := fill_in (by omega) rfl
              have f10 : u 10 = .pointer (some ⟨g, 0, none⟩) := (hd 10 (by kernel_rfl)).2
              rw [f10] at e103
              refine wpOp_val rfl rfl (.pointer (some ⟨g, 0, none⟩)) wx (by generalize (fill sl16 a0 u).eval = ev at *; simp [execOp, e103, go_sem]) ⟨_, fill_put (d := 104) rfl (fun k hk => by have := sl16_inj hk; omega), .inl (World.grownBy.refl _ _), hg.1, upd_self _ _ _⟩
            · have e104 : (fill sl16 a0 u).eval (.tmp 104) = u 11 := fill_in (by omega) rfl
              have f11 : u 11 = .pointer (some ⟨g, 0, none⟩) := (hd 11 (by kernel_rfl)).2
              rw [f11] at e104
              refine wpOp_val rfl rfl (.pointer (some ⟨g, 3, none⟩)) wx (by generalize (fill sl16 a0 u).eval = ev at *; simp [execOp, e104, go_sem]) ⟨_, fill_put (d := 105) rfl (fun k hk => by have := sl16_inj hk; omega), .inl (World.grownBy.refl _ _), hg.1, upd_self _ _ _⟩
            · have e105 : (fill sl16 a0 u).eval (.tmp 105) = u 12 := fill_in (by omega) rfl
              have f12 : u 12 = .pointer (some ⟨g, 3, none⟩) := (hd 12 (by kernel_rfl)).2
              rw [f12] at e105
              have hc : wx.cell? ⟨g, 3, none⟩ = some vS := (hl 27 (by kernel_rfl)).2
              refine wpOp_val rfl rfl vS wx (by generalize (fill sl16 a0 u).eval = ev at *; simp [execOp, e105, go_sem, hc]) ⟨_, fill_put (d := 106) rfl (fun k hk => by have := sl16_inj hk; omega), .inl (World.grownBy.refl _ _), hg.1, upd_self _ _ _⟩
            · have e100 : (fill sl16 a0 u).eval (.const (.slice none 0 0)) = .slice none 0 0 := rfl
              refine wpOp_val rfl rfl (.slice (some ⟨wx.heap.size, 0, none⟩) 1 1) (wx.alloc (.cells #[.slice none 0 0] 46)) (by generalize (fill sl16 a0 u).eval = ev at *; simp [execOp, go_sem, e100]) ⟨_, fill_put (d := 107) rfl (fun k hk => by have := sl16_inj hk; omega), .inl (gb_none (bel_new _ _)), (hg.1.grown c16 (.inl rfl) (gb_none (bel_new _ _))).1, wx.heap.size, upd_self _ _ _, hg.1.2.1.2.2.2, Go.Deep.blk_alloc_new _ _⟩
            · have e106 : (fill sl16 a0 u).eval (.tmp 106) = u 13 := fill_in (by omega) rfl
              have f13 : u 13 = vS := (hd 13 (by kernel_rfl)).2
              rw [f13] at e106
              have e107 : (fill sl16 a0 u).eval (.tmp 107) = u 14 := fill_in (by omega) rfl
              obtain ⟨kx, fx1, fx2, fx3⟩ : ∃ k, u 14 = .slice (some ⟨k, 0, none⟩) 1 1 ∧ W0.heap.size ≤ k ∧ wx.heap[k]? = some (.cells #[.slice none 0 0] 46 (0, 0)) := (hd 14 (by kernel_rfl)).2
              rw [fx1] at e107
              obtain ⟨v9, w9, hrun, o9, g9, f9⟩ := push_any (ys := [.slice none 0 0]) Tryd.underlying48 info_slv rfl (by decide) (by decide) hg.2 c16.nl rfl (fun j u hu => blk_cell fx3 j u (by simpa using hu)) (by intro u hu; simp at hu; first | (subst hu; rfl) | (rcases hu with rfl | rfl <;> rfl)) 48
              obtain ⟨a9, c9, e9, _⟩ := own_slice o9
              refine wpOp_val rfl rfl v9 w9 (by generalize (fill sl16 a0 u).eval = ev at *; simp only [List.getElem_toArray, List.getElem_cons_zero, List.getElem_cons_succ, execOp, resolve, invoke, builtin, Sem.run_bind, Sem.run_pure, Result.andThen_ok, List.map_toArray, List.map_cons, List.map_nil, e106, e107, hrun]) ⟨_, fill_put (d := 108) rfl (fun k hk => by have := sl16_inj hk; omega), .inr (.inr (.inl ⟨rfl, g9⟩)), (hg.1.grown c16 (.inr (.inr (.inl rfl))) g9).1, ?_⟩
              show NRow W0 w9 46 1 (upd u 15 v9 15) (k + 1) (ss ++ [.slice none 0 0]) vS
              rw [upd_self]
              exact ⟨⟨_, _, e9⟩, o9, fun k hk => (f9 k hk).imp id (fun h => Nat.le_trans hg.1.2.1.2.2.2 h)⟩
            · have e10 : (fill sl16 a0 u).eval (.tmp 10) = .pointer (some ⟨g, 0, none⟩) := (fill_out rfl).trans h10
              refine wpOp_val rfl rfl (.pointer (some ⟨g, 0, none⟩)) wx (by generalize (fill sl16 a0 u).eval = ev at *; simp [execOp, e10]) ⟨_, fill_put (d := 109) rfl (fun k hk => by have := sl16_inj hk; omega), .inl (World.grownBy.refl _ _), hg.1, upd_self _ _ _⟩
            · have e109 : (fill sl16 a0 u).eval (.tmp 109) = u 16 := fill_in (by omega) rfl
              have f16 : u 16 = .pointer (some ⟨g, 0, none⟩) := (hd 16 (by kernel_rfl)).2
              rw [f16] at e109
              refine wpOp_val rfl rfl (.pointer (some ⟨g, 0, none⟩)) wx (by generalize (fill sl16 a0 u).eval = ev at *; simp [execOp, e109, go_sem]) ⟨_, fill_put (d := 110) rfl (fun k hk => by have := sl16_inj hk; omega), .inl (World.grownBy.refl _ _), hg.1, upd_self _ _ _⟩
            · have e110 : (fill sl16 a0 u).eval (.tmp 110) = u 17 := fill_in (by omega) rfl
              have f17 : u 17 = .pointer (some ⟨g, 0, none⟩) := (hd 17 (by kernel_rfl)).2
              rw [f17] at e110
              refine wpOp_val rfl rfl (.pointer (some ⟨g, 4, none⟩)) wx (by generalize (fill sl16 a0 u).eval = ev at *; simp [execOp, e110, go_sem]) ⟨_, fill_put (d := 111) rfl (fun k hk => by have := sl16_inj hk; omega), .inl (World.grownBy.refl _ _), hg.1, upd_self _ _ _⟩
            · have e111 : (fill sl16 a0 u).eval (.tmp 111) = u 18 := fill_in (by omega) rfl
              have f18 : u 18 = .pointer (some ⟨g, 4, none⟩) := (hd 18 (by kernel_rfl)).2
              rw [f18] at e111
              have hc : wx.cell? ⟨g, 4, none⟩ = some vT := (hl 30 (by kernel_rfl)).2
              refine wpOp_val rfl rfl vT wx (by generalize (fill sl16 a0 u).eval = ev at *; simp [execOp, e111, go_sem, hc]) ⟨_, fill_put (d := 112) rfl (fun k hk => by have := sl16_inj hk; omega), .inl (World.grownBy.refl _ _), hg.1, upd_self _ _ _⟩
            · have e100 : (fill sl16 a0 u).eval (.const (.int .i64 0)) = .int .i64 0 := rfl
              refine wpOp_val rfl rfl (.slice (some ⟨wx.heap.size, 0, none⟩) 1 1) (wx.alloc (.cells #[.int .i64 0] 3)) (by generalize (fill sl16 a0 u).eval = ev at *; simp [execOp, go_sem, e100]) ⟨_, fill_put (d := 113) rfl (fun k hk => by have := sl16_inj hk; omega), .inl (gb_none (bel_new _ _)), (hg.1.grown c16 (.inl rfl) (gb_none (bel_new _ _))).1, wx.heap.size, upd_self _ _ _, hg.1.2.1.2.2.2, Go.Deep.blk_alloc_new _ _⟩
            · have e112 : (fill sl16 a0 u).eval (.tmp 112) = u 19 := fill_in (by omega) rfl
              have f19 : u 19 = vT := (hd 19 (by kernel_rfl)).2
              rw [f19] at e112
              have e113 : (fill sl16 a0 u).eval (.tmp 113) = u 20 := fill_in (by omega) rfl
              obtain ⟨kx, fx1, fx2, fx3⟩ : ∃ k, u 20 = .slice (some ⟨k, 0, none⟩) 1 1 ∧ W0.heap.size ≤ k ∧ wx.heap[k]? = some (.cells #[.int .i64 0] 3 (0, 0)) := (hd 20 (by kernel_rfl)).2
              rw [fx1] at e113
              obtain ⟨v9, w9, hrun, o9, g9, f9⟩ := push_any (ys := [.int .i64 0]) Tryd.underlying22 info3 rfl (by decide) (by decide) hg.2 c16.nl rfl (fun j u hu => blk_cell fx3 j u (by simpa using hu)) (by intro u hu; simp at hu; first | (subst hu; rfl) | (rcases hu with rfl | rfl <;> rfl)) 22
              obtain ⟨a9, c9, e9, _⟩ := own_slice o9
              refine wpOp_val rfl rfl v9 w9 (by generalize (fill sl16 a0 u).eval = ev at *; simp only [List.getElem_toArray, List.getElem_cons_zero, List.getElem_cons_succ, execOp, resolve, invoke, builtin, Sem.run_bind, Sem.run_pure, Result.andThen_ok, List.map_toArray, List.map_cons, List.map_nil, e112, e113, hrun]) ⟨_, fill_put (d := 114) rfl (fun k hk => by have := sl16_inj hk; omega), .inr (.inr (.inr (.inl ⟨rfl, g9⟩))), (hg.1.grown c16 (.inr (.inr (.inr rfl))) g9).1, ?_⟩
              show NRow W0 w9 3 1 (upd u 21 v9 21) (k + 1) ((nts tk) ++ [.int .i64 0]) vT
              rw [upd_self]
              exact ⟨⟨_, _, e9⟩, o9, fun k hk => (f9 k hk).imp id (fun h => Nat.le_trans hg.1.2.1.2.2.2 h)⟩
            · have e93 : (fill sl16 a0 u).eval (.tmp 93) = u 0 := fill_in (by omega) rfl
              have f0 : u 0 = .pointer (some ⟨g, 0, none⟩) := (hd 0 (by kernel_rfl)).2
              rw [f0] at e93
              refine wpOp_val rfl rfl (.pointer (some ⟨g, 0, none⟩)) wx (by generalize (fill sl16 a0 u).eval = ev at *; simp [execOp, e93, go_sem]) ⟨_, fill_put (d := 115) rfl (fun k hk => by have := sl16_inj hk; omega), .inl (World.grownBy.refl _ _), hg.1, upd_self _ _ _⟩
            · have e115 : (fill sl16 a0 u).eval (.tmp 115) = u 22 := fill_in (by omega) rfl
              have f22 : u 22 = .pointer (some ⟨g, 0, none⟩) := (hd 22 (by kernel_rfl)).2
              rw [f22] at e115
              refine wpOp_val rfl rfl (.pointer (some ⟨g, 2, none⟩)) wx (by generalize (fill sl16 a0 u).eval = ev at *; simp [execOp, e115, go_sem]) ⟨_, fill_put (d := 116) rfl (fun k hk => by have := sl16_inj hk; omega), .inl (World.grownBy.refl _ _), hg.1, upd_self _ _ _⟩
            · have e116 : (fill sl16 a0 u).eval (.tmp 116) = u 23 := fill_in (by omega) rfl
              have f23 : u 23 = .pointer (some ⟨g, 2, none⟩) := (hd 23 (by kernel_rfl)).2
              rw [f23] at e116
              have e102 : (fill sl16 a0 u).eval (.tmp 102) = u 9 := fill_in (by omega) rfl
              obtain ⟨⟨ax, cx, ex⟩, _⟩ : NRow W0 wx 52 2 (u 9) (k + 1) (ccs (cz (cs.take k)) ++ [.int .i64 y1, .int .i64 y2]) vC := (hd 9 (by kernel_rfl)).2
              have hc : wx.cell? ⟨g, 2, none⟩ = some vC := hg.2
              have hz : wx.frozen? ⟨g, 2, none⟩ = false := by obtain ⟨⟨_, _, _, hgg⟩, _⟩ := hg.1; exact blk_frz hgg _
              rw [ex] at e102
              refine wpOp_skip rfl rfl (wx.setCell ⟨g, 2, none⟩ (u 9)) (by rw [ex]; generalize (fill sl16 a0 u).eval = ev at *; simp [execOp, e116, e102, go_sem, hc, hz]) ⟨undef, fill_none (fun k hk => by have := sl16_inj hk; omega), .inr (.inr (.inr (.inr (.inl ⟨rfl, rfl⟩)))), (hg.1.store 2 (by omega) _).1, ?_⟩
              show World.cell? _ ⟨g, 2, none⟩ = some (upd u 24 undef 9)
              rw [upd_ne u undef (by decide)]
              exact (hg.1.store 2 (by omega) _).2.1
            · have e94 : (fill sl16 a0 u).eval (.tmp 94) = u 1 := fill_in (by omega) rfl
              have f1 : u 1 = .pointer (some ⟨g, 0, none⟩) := (hd 1 (by kernel_rfl)).2
              rw [f1] at e94
              refine wpOp_val rfl rfl (.pointer (some ⟨g, 0, none⟩)) wx (by generalize (fill sl16 a0 u).eval = ev at *; simp [execOp, e94, go_sem]) ⟨_, fill_put (d := 117) rfl (fun k hk => by have := sl16_inj hk; omega), .inl (World.grownBy.refl _ _), hg.1, upd_self _ _ _⟩
            · have e117 : (fill sl16 a0 u).eval (.tmp 117) = u 25 := fill_in (by omega) rfl
              have f25 : u 25 = .pointer (some ⟨g, 0, none⟩) := (hd 25 (by kernel_rfl)).2
              rw [f25] at e117
              refine wpOp_val rfl rfl (.pointer (some ⟨g, 3, none⟩)) wx (by generalize (fill sl16 a0 u).eval = ev at *; simp [execOp, e117, go_sem]) ⟨_, fill_put (d := 118) rfl (fun k hk => by have := sl16_inj hk; omega), .inl (World.grownBy.refl _ _), hg.1, upd_self _ _ _⟩
            · have e118 : (fill sl16 a0 u).eval (.tmp 118) = u 26 := fill_in (by omega) rfl
              have f26 : u 26 = .pointer (some ⟨g, 3, none⟩) := (hd 26 (by kernel_rfl)).2
              rw [f26] at e118
              have e108 : (fill sl16 a0 u).eval (.tmp 108) = u 15 := fill_in (by omega) rfl
              obtain ⟨⟨ax, cx, ex⟩, _⟩ : NRow W0 wx 46 1 (u 15) (k + 1) (ss ++ [.slice none 0 0]) vS := (hd 15 (by kernel_rfl)).2
              have hc : wx.cell? ⟨g, 3, none⟩ = some vS := hg.2
              have hz : wx.frozen? ⟨g, 3, none⟩ = false := by obtain ⟨⟨_, _, _, hgg⟩, _⟩ := hg.1; exact blk_frz hgg _
              rw [ex] at e108
              refine wpOp_skip rfl rfl (wx.setCell ⟨g, 3, none⟩ (u 15)) (by rw [ex]; generalize (fill sl16 a0 u).eval = ev at *; simp [execOp, e118, e108, go_sem, hc, hz]) ⟨undef, fill_none (fun k hk => by have := sl16_inj hk; omega), .inr (.inr (.inr (.inr (.inr (.inl ⟨rfl, rfl⟩))))), (hg.1.store 3 (by omega) _).1, ?_⟩
              show World.cell? _ ⟨g, 3, none⟩ = some (upd u 27 undef 15)
              rw [upd_ne u undef (by decide)]
              exact (hg.1.store 3 (by omega) _).2.1
            · have e95 : (fill sl16 a0 u).eval (.tmp 95) = u 2 := fill_in (by omega) rfl
              have f2 : u 2 = .pointer (some ⟨g, 0, none⟩) := (hd 2 (by kernel_rfl)).2
              rw [f2] at e95
              refine wpOp_val rfl rfl (.pointer (some ⟨g, 0, none⟩)) wx (by generalize (fill sl16 a0 u).eval = ev at *; simp [execOp, e95, go_sem]) ⟨_, fill_put (d := 119) rfl (fun k hk => by have := sl16_inj hk; omega), .inl (World.grownBy.refl _ _), hg.1, upd_self _ _ _⟩
            · have e119 : (fill sl16 a0 u).eval (.tmp 119) = u 28 := fill_in (by omega) rfl
              have f28 : u 28 = .pointer (some ⟨g, 0, none⟩) := (hd 28 (by kernel_rfl)).2
              rw [f28] at e119
              refine wpOp_val rfl rfl (.pointer (some ⟨g, 4, none⟩)) wx (by generalize (fill sl16 a0 u).eval = ev at *; simp [execOp, e119, go_sem]) ⟨_, fill_put (d := 120) rfl (fun k hk => by have := sl16_inj hk; omega), .inl (World.grownBy.refl _ _), hg.1, upd_self _ _ _⟩
            · have e120 : (fill sl16 a0 u).eval (.tmp 120) = u 29 := fill_in (by omega) rfl
              have f29 : u 29 = .pointer (some ⟨g, 4, none⟩) := (hd 29 (by kernel_rfl)).2
              rw [f29] at e120
              have e114 : (fill sl16 a0 u).eval (.tmp 114) = u 21 := fill_in (by omega) rfl
              obtain ⟨⟨ax, cx, ex⟩, _⟩ : NRow W0 wx 3 1 (u 21) (k + 1) ((nts tk) ++ [.int .i64 0]) vT := (hd 21 (by kernel_rfl)).2
              have hc : wx.cell? ⟨g, 4, none⟩ = some vT := hg.2
              have hz : wx.frozen? ⟨g, 4, none⟩ = false := by obtain ⟨⟨_, _, _, hgg⟩, _⟩ := hg.1; exact blk_frz hgg _
              rw [ex] at e114
              refine wpOp_skip rfl rfl (wx.setCell ⟨g, 4, none⟩ (u 21)) (by rw [ex]; generalize (fill sl16 a0 u).eval = ev at *; simp [execOp, e120, e114, go_sem, hc, hz]) ⟨undef, fill_none (fun k hk => by have := sl16_inj hk; omega), .inr (.inr (.inr (.inr (.inr (.inr ⟨rfl, rfl⟩))))), (hg.1.store 4 (by omega) _).1, ?_⟩
              show World.cell? _ ⟨g, 4, none⟩ = some (upd u 30 undef 21)
              rw [upd_ne u undef (by decide)]
              exact (hg.1.store 4 (by omega) _).2.1
          · intro u wx hall
            obtain ⟨F2, R2, C2, st2⟩ := S1.chanA (n := k) (w := wx) y1 y2 HK.out.symm (by omega) ⟨r0', r8'⟩ (hall 30 (by decide)).1 (hall 9 (by decide)).2 (hall 15 (by decide)).2 (hall 21 (by decide)).2 (hall 24 (by decide)).2 (hall 27 (by decide)).2 (hall 30 (by decide)).2 HF.out.2
            have M9 : Hid (RMk w wx g ⟨zz ps, List.replicate mn false, cz (cs.take (k + 1)), List.replicate an 0⟩) := hide (by
              rw [HSN.out]
              exact ⟨_, _, _, _, _, _, _, _, _, R2, C2.low HF.out.1 HBD.out.size, HBD.out.trans (C2.bel HF.out.1 HBD.out.size), st2⟩)
            clear R2 C2 st2 hall c16 S1 hW0 h10 h14 hsz hgb1 hgb2 hgb3 S0 X0 HF HBD HLT HK HSN
            subst ha0
            simp [fill, fillL, sl16]
            go_wp2_with fail
            go_roundw
            case rel => exact ⟨k + 1, by omega, by go_num, M9, GA2⟩
            case measure => simp [intOf]; omega
          · intro j
            rw [hW0]
            exact ng_start c16 j _
        · obtain rfl : k = lC := by omega
          have GC : Hid (cs.any badC = false) := hide (any_not cs _ (0, 0) (fun j hj => GA.out j (by have := HLC.out; omega)))
          have M3 : Hid (RMk w wr g (newS ps (mn : Nat) cs (an : Nat))) := hide (by
            have := M1.out
            rw [List.take_of_length_le (by have := HLC.out; omega)] at this
            exact this)
          clear M1 GA
          go_wp2_with fail
          go_ret2
          obtain ⟨F, vP, vL, vC, vS, vT, vA, ss, tk, h1, h2, h3, _⟩ := M3.out
          exact .inr ⟨HSZ.out GP.out GC.out, g, F, rfl, ⟨_, _, _, _, _, _, _, _, h1⟩, h2, h3⟩
end Go.Proofs.YtghfjnnmpmfboaaDoor.Ck
