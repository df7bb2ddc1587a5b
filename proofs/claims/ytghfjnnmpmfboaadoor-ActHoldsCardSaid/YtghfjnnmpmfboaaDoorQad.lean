/- Texts of this proof, packed: contracts of the program's functions, and the plain model that they are held against. -/
import Derived.Test.YtghfjnnmpmfboaaDoorQac
import Derived.Deep.AppendSrc
import Derived.StillTailTactics
set_option maxRecDepth 20000
set_option maxHeartbeats 4000000
namespace Go.Proofs.YtghfjnnmpmfboaaDoor.Ck
open Go.RowKit
theorem ZW {TS : TypeId} {w : World} {ops : Array Oper} {rest : List Oper} {o : Oper} {a : Act} {Q : Exit -> Act -> World -> Prop} (hgd : o.guard = none) (s x : Operand)
 (ho : o.op = .call { callee := .builtin .append, args := #[s, x], argTypes := #[TS, TS] }) (v vx : Value) (hs : a.eval s = v) (hx : a.eval x = vx) (R : Value -> World -> Prop)
 (hrun : ∃ v' w', (Builtin.append_ #[TS, TS] o.type #[v, vx]).run Tryd.prog w = .ok v' w' /\ R v' w')
 (h : ∀ v' w', R v' w' -> wpList Tryd.prog ops Q rest (a.put o.dst v') w') : wpList Tryd.prog ops Q (o :: rest) a w :=
 wpList_plain hgd fun _ hK => by
  obtain ⟨v', w', hr, hR⟩ := hrun
  unfold Oper.wp execOp
  simp only [ho, resolve, invoke, builtin, Sem.run_bind, Sem.run_pure, Result.andThen_ok, List.map_toArray, List.map_cons, List.map_nil, hs, hx, hr]
  exact hK _ _ (h v' w' hR)
theorem rnew_any (vPl vCh : Value) (ps : List Int) (cs : List (Int × Int)) (m a : Int) {w : World} (hP : Sl w vPl ps) (hC : SlC w vCh cs) : Calls Tryd.prog 9 #[vPl, .int .i64 m, vCh, .int .i64 a] w (RNewP w (okN ps m cs a) (newS ps m cs a)) := by
  obtain ⟨aP, lP, cP, rfl, hlP⟩ := hP.slice
  obtain ⟨aC, cC, eC, hcC, _, hcc⟩ := id hC
  obtain ⟨lC, hlC⟩ : ∃ n, n = cs.length := ⟨_, rfl⟩
  rw [← hlC] at eC hcC hcc
  subst eC
  have HP := Za (fun i hi => hP.at i hi)
  have HC := Za hcc
  clear hP hC hcc
  by_cases k0 : 128 < lP
  · have HOK : Hid (okN ps m cs a = false) := Za (by unfold okN fitB; simp; omega)
    have k0' : (128 : Int) < (lP : Int) := by omega
    clear hlP hlC hcC
    go_enter Tryd.func9, Tryd.ntmps9
    go_wp2_with fail
    go_ret2
    exact .inl ⟨HOK.out, rfl, Below.refl _ _⟩
  have k0' : (lP : Int) <= 128 := by omega
  by_cases k1 : m < 0
  · have HOK : Hid (okN ps m cs a = false) := Za (by unfold okN fitB; simp; omega)
    skip
    clear hlP hlC hcC
    go_enter Tryd.func9, Tryd.ntmps9
    go_wp2_with fail
    go_ret2
    exact .inl ⟨HOK.out, rfl, Below.refl _ _⟩
  have k1' : 0 <= m := by omega
  by_cases k2 : 32 < m
  · have HOK : Hid (okN ps m cs a = false) := Za (by unfold okN fitB; simp; omega)
    skip
    clear hlP hlC hcC
    go_enter Tryd.func9, Tryd.ntmps9
    go_wp2_with fail
    go_ret2
    exact .inl ⟨HOK.out, rfl, Below.refl _ _⟩
  have k2' : m <= 32 := by omega
  by_cases k3 : a < 0
  · have HOK : Hid (okN ps m cs a = false) := Za (by unfold okN fitB; simp; omega)
    skip
    clear hlP hlC hcC
    go_enter Tryd.func9, Tryd.ntmps9
    go_wp2_with fail
    go_ret2
    exact .inl ⟨HOK.out, rfl, Below.refl _ _⟩
  have k3' : 0 <= a := by omega
  by_cases k4 : 32 < a
  · have HOK : Hid (okN ps m cs a = false) := Za (by unfold okN fitB; simp; omega)
    skip
    clear hlP hlC hcC
    go_enter Tryd.func9, Tryd.ntmps9
    go_wp2_with fail
    go_ret2
    exact .inl ⟨HOK.out, rfl, Below.refl _ _⟩
  have k4' : a <= 32 := by omega
  by_cases k5 : 32 < lC
  · have HOK : Hid (okN ps m cs a = false) := Za (by unfold okN fitB; simp; omega)
    have k5' : (32 : Int) < (lC : Int) := by omega
    clear hlP hlC hcC
    go_enter Tryd.func9, Tryd.ntmps9
    go_wp2_with fail
    go_ret2
    exact .inl ⟨HOK.out, rfl, Below.refl _ _⟩
  have k5' : (lC : Int) <= 32 := by omega
  obtain ⟨mn, rfl⟩ := Int.eq_ofNat_of_zero_le k1'
  obtain ⟨an, rfl⟩ := Int.eq_ofNat_of_zero_le k3'
  have hmn : mn <= 32 := by omega
  have han : an <= 32 := by omega
  have hlC32 : lC <= 32 := by omega
  have HLP := Za hlP
  have HLC := Za hlC
  have HSZ : Hid (ps.any badT = false -> cs.any badC = false -> okN ps (mn : Nat) cs (an : Nat) = true) := Za (fun h1 h2 => by unfold okN fitB; simp [h1, h2]; omega)
  have HB1 : Hid (ps.any badT = true -> okN ps (mn : Nat) cs (an : Nat) = false) := Za (fun h1 => by unfold okN; simp [h1])
  have HB2 : Hid (cs.any badC = true -> okN ps (mn : Nat) cs (an : Nat) = false) := Za (fun h1 => by unfold okN; simp [h1])
  clear k0 k1 k2 k3 k4 k5 k1' k3' hlP hlC
  go_enter Tryd.func9, Tryd.ntmps9
  go_wp2_with fail
  go_cut [10] from 39 to 44 (fun x wc => ∃ g, x = .pointer (some ⟨g, 0, none⟩) /\ Hid (RMk w wc g ⟨[], List.replicate mn false, [], List.replicate an 0⟩))
  case first =>
    have B0 := Za (Zs (Below.refl w.heap.size w))
    refine wp_region_any ZU ?_
    change wpAny _ _ _ _ _ _ _ (World.drew _)
    generalize World.drew _ = W0 at *
    refine T_ 0 (v := ?_) (fun w => ?_) ?_
    rotate_left 1
    · (go_simp <;> with_reducible rfl)
    simp only [Act.put, S_]
    refine T_ 2 (v := ?_) (fun w => ?_) ?_
    rotate_left 1
    · (go_simp <;> with_reducible rfl)
    simp only [Act.put, S_]
    refine wpAny_ready (rs := [1, 3]) (by kernel_rfl) (by decide) ?_
    refine AllReady.cons rfl (fun K1 hK1 => ?_) (AllReady.cons rfl (fun K1 hK1 => ?_) AllReady.nil)
    · have q := run_mkB mn hmn
      go_simp
      refine hK1 _ _ ?_
      clear hK1 K1 q
      refine R_ 3 (fun K1 hK1 => ?_)
      have q := run_mkI an han
      go_simp
      refine hK1 _ _ ?_
      clear hK1 K1 q
      refine T_ 4 (v := ?_) (fun w => ?_) ?_
      rotate_left 1
      · (go_simp <;> with_reducible rfl)
      simp only [Act.put, S_]
      refine R_ 5 (fun K1 hK1 => ?_)
      go_simp
      refine hK1 _ _ ?_
      clear hK1 K1
      refine T_ 6 (v := ?_) (fun w => ?_) ?_
      rotate_left 1
      · (go_simp <;> with_reducible rfl)
      simp only [Act.put, S_]
      refine wpAny_done (by kernel_rfl) ?_ _
      have h1 := own_made W0 (.bool false) mn 4 hmn
      have h2 := own_made (W0.alloc (.cells (madeCells #[.bool false] mn) 4)) (.int .i64 0) an 3 han
      have hs1 : (W0.alloc (.cells (madeCells #[.bool false] mn) 4)).heap.size = W0.heap.size + 1 := by simp
      have hs2 : ((W0.alloc (.cells (madeCells #[.bool false] mn) 4)).alloc (.cells (madeCells #[.int .i64 0] an) 3)).heap.size = W0.heap.size + 1 + 1 := by simp
      rw [hs1] at h2
      have hz := B0.out.size
      have h3 := Zk h1 (fun k hk => (Zd _ (.cells (madeCells #[.int .i64 0] an) 3)).block k (Zf h1 hk).2.1)
      have h4 := Zk h3 (fun k hk => (Zd _ (.cells #[.slice none 0 0, .slice (some ⟨W0.heap.size, 0, none⟩) mn mn, .slice none 0 0, .slice none 0 0, .slice none 0 0, .slice (some ⟨W0.heap.size + 1, 0, none⟩) an an] 50)).block k (Zf h3 hk).2.1)
      have h5 := Zk h2 (fun k hk => (Zd _ (.cells #[.slice none 0 0, .slice (some ⟨W0.heap.size, 0, none⟩) mn mn, .slice none 0 0, .slice none 0 0, .slice none 0 0, .slice (some ⟨W0.heap.size + 1, 0, none⟩) an an] 50)).block k (Zf h2 hk).2.1)
      have M0 := Za (rmk_new (w := w) hmn han rfl rfl h4 h5 (hs2 ▸ B_ ((W0.alloc (.cells (madeCells #[.bool false] mn) 4)).alloc (.cells (madeCells #[.int .i64 0] an) 3)) (.cells #[.slice none 0 0, .slice (some ⟨W0.heap.size, 0, none⟩) mn mn, .slice none 0 0, .slice none 0 0, .slice none 0 0, .slice (some ⟨W0.heap.size + 1, 0, none⟩) an an] 50)) ⟨by omega, by omega, by omega⟩ (Zu (Zu (Zu B0.out _) _) _))
      clear h1 h2 h3 h4 h5 hs1 hs2
      go_wp2_with fail
      go_meet
      case rel => exact ⟨_, rfl, M0⟩
    · have q := run_mkI an han
      go_simp
      refine hK1 _ _ ?_
      clear hK1 K1 q
      refine R_ 1 (fun K1 hK1 => ?_)
      have q := run_mkB mn hmn
      go_simp
      refine hK1 _ _ ?_
      clear hK1 K1 q
      refine T_ 4 (v := ?_) (fun w => ?_) ?_
      rotate_left 1
      · (go_simp <;> with_reducible rfl)
      simp only [Act.put, S_]
      refine R_ 5 (fun K1 hK1 => ?_)
      go_simp
      refine hK1 _ _ ?_
      clear hK1 K1
      refine T_ 6 (v := ?_) (fun w => ?_) ?_
      rotate_left 1
      · (go_simp <;> with_reducible rfl)
      simp only [Act.put, S_]
      refine wpAny_done (by kernel_rfl) ?_ _
      have h1 := own_made W0 (.int .i64 0) an 3 han
      have h2 := own_made (W0.alloc (.cells (madeCells #[.int .i64 0] an) 3)) (.bool false) mn 4 hmn
      have hs1 : (W0.alloc (.cells (madeCells #[.int .i64 0] an) 3)).heap.size = W0.heap.size + 1 := by simp
      have hs2 : ((W0.alloc (.cells (madeCells #[.int .i64 0] an) 3)).alloc (.cells (madeCells #[.bool false] mn) 4)).heap.size = W0.heap.size + 1 + 1 := by simp
      rw [hs1] at h2
      have hz := B0.out.size
      have h3 := Zk h1 (fun k hk => (Zd _ (.cells (madeCells #[.bool false] mn) 4)).block k (Zf h1 hk).2.1)
      have h4 := Zk h3 (fun k hk => (Zd _ (.cells #[.slice none 0 0, .slice (some ⟨W0.heap.size + 1, 0, none⟩) mn mn, .slice none 0 0, .slice none 0 0, .slice none 0 0, .slice (some ⟨W0.heap.size, 0, none⟩) an an] 50)).block k (Zf h3 hk).2.1)
      have h5 := Zk h2 (fun k hk => (Zd _ (.cells #[.slice none 0 0, .slice (some ⟨W0.heap.size + 1, 0, none⟩) mn mn, .slice none 0 0, .slice none 0 0, .slice none 0 0, .slice (some ⟨W0.heap.size, 0, none⟩) an an] 50)).block k (Zf h2 hk).2.1)
      have M0 := Za (rmk_new (w := w) hmn han rfl rfl h5 h4 (hs2 ▸ B_ ((W0.alloc (.cells (madeCells #[.int .i64 0] an) 3)).alloc (.cells (madeCells #[.bool false] mn) 4)) (.cells #[.slice none 0 0, .slice (some ⟨W0.heap.size + 1, 0, none⟩) mn mn, .slice none 0 0, .slice none 0 0, .slice none 0 0, .slice (some ⟨W0.heap.size, 0, none⟩) an an] 50)) ⟨by omega, by omega, by omega⟩ (Zu (Zu (Zu B0.out _) _) _))
      clear h1 h2 h3 h4 h5 hs1 hs2
      go_wp2_with fail
      go_meet
      case rel => exact ⟨_, rfl, M0⟩
  case rest =>
    obtain ⟨g, rfl, M0⟩ := hcut
    go_wp2_with fail
    go_loopw [12, 47] (fun x i wr => ∃ k : Nat, k <= lP /\ i = .int .i64 k /\ Hid (RMk w wr g ⟨zz (ps.take k), List.replicate mn false, [], List.replicate an 0⟩) /\ Hid (∀ j, j < k -> badT (ps.getD j 0) = false)) (fun x i _ => lP - (intOf i).toNat)
    case atStart => exact ⟨0, Nat.zero_le _, rfl, M0, fun j hj => absurd hj (Nat.not_lt_zero _)⟩
    case round =>
     obtain ⟨k, hk, rfl, M1, GA⟩ := hrel
     clear M0
     by_cases hlt : k < lP
     · have hlt' : (k : Int) < (lP : Int) := by omega
       obtain ⟨b1, o1, rfl, hb1, hc1⟩ := HP.out k hlt
       obtain ⟨F, vP, vL, vC, vS, vT, vA, ss, tk, S, hF, hB, hst⟩ := M1.out
       have hcr := (hB.cell (p := ⟨b1, o1 + k, none⟩) hb1).trans hc1
       have HYB : Hid (badT (ps.getD k 0) = true -> okN ps (mn : Nat) cs (an : Nat) = false) := Za (fun h => HB1.out (any_yes ps _ 0 k (by have := HLP.out; omega) h))
       have HGA : Hid (badT (ps.getD k 0) = false -> ∀ j, j < k + 1 -> badT (ps.getD j 0) = false) := Za (fun h j hj => by
         by_cases e : j = k
         · rw [e]; exact h
         · exact GA.out j (by omega))
       have HSN : Hid (zz (ps.take (k + 1)) = zz (ps.take k) ++ [(ps.getD k 0, 0, 0)]) := Za (by rw [take_snoc ps k 0 (by have := HLP.out; omega)]; simp [zz])
       have HLS : Hid ((zz (ps.take k)).length < 128) := Za (by simp [zz]; have := HLP.out; omega)
       generalize ps.getD k 0 = y at *
       have HBL := Za hB
       by_cases y1 : y < 1
       · have HN := Za (HYB.out (by unfold badT Yc; rw [if_neg (by omega)]; rfl))
         clear S hF hB hst M1 hc1 HYB HGA GA
         go_wp2_with fail
         go_ret2
         exact .inl ⟨HN.out, rfl, HBL.out⟩
       by_cases y3 : 3 < y
       · have HN := Za (HYB.out (by unfold badT Yc; rw [if_neg (by omega)]; rfl))
         have y1' : 1 <= y := by omega
         clear S hF hB hst M1 hc1 HYB HGA GA y1
         go_wp2_with fail
         go_ret2
         exact .inl ⟨HN.out, rfl, HBL.out⟩
       have y1' : 1 <= y := by omega
       have y3' : y <= 3 := by omega
       have GA2 := Za (HGA.out (by unfold badT Yc; rw [if_pos (by omega)]; simp; omega))
       obtain ⟨aQ, cQ, eQ, _⟩ := Zo S.pl
       obtain ⟨nQ, hnQ⟩ : ∃ n, n = (zz (ps.take k)).length := ⟨_, rfl⟩
       rw [show ({ P := zz (ps.take k), M := List.replicate mn false, C := [], A := List.replicate an 0 } : St).P.length = nQ from hnQ.symm] at eQ
       subst eQ
       have PU := Za (fun ty => S.pushP (y, 0, 0) HLS.out ty)
       have s0 := S.cells.1
       have hgl := S.fb g S.fg
       have HF := Za (And.intro hF hst)
       clear S hB hF hst M1 hc1 hnQ HYB HGA GA y1 y3
       go_wp2_with (first | (at_builtin; refine ZW (TS := 46) rfl (.tmp 61) (.tmp 64) rfl _ _ rfl rfl _ (PU.out _) ?_; rintro v9 w9 ⟨⟨a9, l9, c9, rfl⟩, z1, z2, r9⟩; have R9 := Za r9; clear r9))
       go_roundw
       case rel =>
         refine ⟨k + 1, by omega, by go_num, ?_, GA2⟩
         rw [HSN.out]
         exact ⟨_, _, _, _, _, _, _, _, _, R9.out.1, R9.out.2.low HF.out.1 HBL.out.size, HBL.out.trans (R9.out.2.bel HF.out.1 HBL.out.size), HF.out.2⟩
       case measure => simp [intOf]; omega
     · obtain rfl : k = lP := by omega
       have M2 : Hid (RMk w wr g ⟨zz ps, List.replicate mn false, cz (cs.take 0), List.replicate an 0⟩) := Za (by
         have := M1.out
         rw [List.take_of_length_le (by have := HLP.out; omega)] at this
         exact this)
       have GP : Hid (ps.any badT = false) := Za (any_not ps _ 0 (fun j hj => GA.out j (by have := HLP.out; omega)))
       clear M1 GA
       go_wp2_with fail
       go_loopw [14, 71] (fun x i wr => ∃ k : Nat, k <= lC /\ i = .int .i64 k /\ Hid (RMk w wr g ⟨zz ps, List.replicate mn false, cz (cs.take k), List.replicate an 0⟩) /\ Hid (∀ j, j < k -> badC (cs.getD j (0, 0)) = false)) (fun x i _ => lC - (intOf i).toNat)
       case atStart => exact ⟨0, Nat.zero_le _, rfl, M2, fun j hj => absurd hj (Nat.not_lt_zero _)⟩
       case round =>
        obtain ⟨k, hk, rfl, M1, GA⟩ := hrel
        clear M2
        by_cases hlt : k < lC
        · have hlt' : (k : Int) < (lC : Int) := by omega
          obtain ⟨b1, o1, rfl, hb1, hc1, hc2⟩ := HC.out k hlt
          obtain ⟨F, vP, vL, vC, vS, vT, vA, ss, tk, S, hF, hB, hst⟩ := M1.out
          have hcr := (hB.cell (p := ⟨b1, o1 + k * 2, none⟩) hb1).trans hc1
          have hcs := (hB.cell (p := ⟨b1, o1 + k * 2 + 1, none⟩) hb1).trans hc2
          have HYB : Hid (badC (cs.getD k (0, 0)) = true -> okN ps (mn : Nat) cs (an : Nat) = false) := Za (fun h => HB2.out (any_yes cs _ (0, 0) k (by have := HLC.out; omega) h))
          have HGA : Hid (badC (cs.getD k (0, 0)) = false -> ∀ j, j < k + 1 -> badC (cs.getD j (0, 0)) = false) := Za (fun h j hj => by
            by_cases e : j = k
            · rw [e]; exact h
            · exact GA.out j (by omega))
          have HSN : Hid (cz (cs.take (k + 1)) = cz (cs.take k) ++ [⟨(cs.getD k (0, 0)).1, (cs.getD k (0, 0)).2, []⟩]) := Za (by rw [take_snoc cs k (0, 0) (by have := HLC.out; omega)]; simp [cz])
          have hbcd : badC (cs.getD k (0, 0)) = chanB (cs.getD k (0, 0)).1 (cs.getD k (0, 0)).2 := rfl
          rw [hbcd] at HYB HGA
          clear hbcd
          generalize (cs.getD k (0, 0)).1 = y1 at *
          generalize (cs.getD k (0, 0)).2 = y2 at *
          have HBL := Za (Zu hB (.cells #[.int .i64 y1, .int .i64 y2] 52))
          by_cases t1 : y1 < 1
          · have HN := Za (HYB.out (by unfold chanB Yc; rw [if_neg (by omega)]; rfl))
            clear S hF hB hst M1 hc1 hc2 HYB HGA GA
            go_wp2_with fail
            go_ret2
            exact .inl ⟨HN.out, rfl, HBL.out⟩
          have t1' : 1 <= y1 := by omega
          clear t1
          by_cases t3 : 3 < y1
          · have HN := Za (HYB.out (by unfold chanB Yc; rw [if_neg (by omega)]; rfl))
            clear S hF hB hst M1 hc1 hc2 HYB HGA GA
            go_wp2_with fail
            go_ret2
            exact .inl ⟨HN.out, rfl, HBL.out⟩
          have t3' : y1 <= 3 := by omega
          clear t3
          by_cases r0 : y2 < 0
          · have HN := Za (HYB.out (by unfold chanB Yc; simp; omega))
            clear S hF hB hst M1 hc1 hc2 HYB HGA GA
            go_wp2_with fail
            go_ret2
            exact .inl ⟨HN.out, rfl, HBL.out⟩
          have r0' : 0 <= y2 := by omega
          clear r0
          by_cases r8 : 8 < y2
          · have HN := Za (HYB.out (by unfold chanB Yc; simp; omega))
            clear S hF hB hst M1 hc1 hc2 HYB HGA GA
            go_wp2_with fail
            go_ret2
            exact .inl ⟨HN.out, rfl, HBL.out⟩
          have r8' : y2 <= 8 := by omega
          clear r8
          have GA2 := Za (HGA.out (by unfold chanB Yc; rw [if_pos (by omega)]; simp; omega))
          have X0 : Hid ((wr.alloc (.cells #[.int .i64 y1, .int .i64 y2] 52)).drew.heap[wr.heap.size]? = some (.cells #[.int .i64 y1, .int .i64 y2] 52 (0, 0))) := Za (B_ wr _)
          have S0 := Za (S.bel (Zs (Zd wr (.cells #[.int .i64 y1, .int .i64 y2] 52))))
          have HF := Za (And.intro hF hst)
          have HBD := Za (Zs HBL.out)
          have HLT := Za (S.fb)
          have hkn : (cz (cs.take k)).length = k := by simp [cz]; have := HLC.out; omega
          have HK := Za hkn
          clear S hB hF hst M1 hc1 hc2 HYB HGA GA HBL hkn
          go_wp2_with fail
          refine wp_fill ZM (fun j => if j < 24 then 93 + j else if j = 25 then 117 else if j = 26 then 118 else if j = 28 then 119 else 120) (fun k j hk => by rcases ZD hk with ⟨h1, h2⟩ | ⟨h1, h2⟩ | ⟨h1, h2⟩ | ⟨h1, h2⟩ | ⟨h1, h2⟩ <;> simp [h1, h2]) (fun a0 u0 ha0 => ?_)
          have hsz : 120 < a0.tmps.size := by rw [ha0]; simp
          have h10 : a0.eval (.tmp 10) = .pointer (some ⟨g, 0, none⟩) := by rw [ha0]; rfl
          have h14 : a0.eval (.tmp 14) = .pointer (some ⟨wr.heap.size, 0, none⟩) := by rw [ha0]; rfl
          have S1 := S0.out
          obtain ⟨gb, hgb⟩ : ∃ gb, gb = wr.heap.size := ⟨_, rfl⟩
          have hgb1 : gb ≠ g := fun e => by have := HLT.out g S1.fg; omega
          have c16 : NC (wr.alloc (.cells #[.int .i64 y1, .int .i64 y2] 52)).drew g gb k y1 y2 vP vL vC vS vT vA (ccs (cz (cs.take k))) ss (nts tk) := ⟨S1.at_, by have := S1.ch; rw [show (St.C ⟨zz ps, List.replicate mn false, cz (cs.take k), List.replicate an 0⟩).length = k from HK.out] at this; exact this, by have := S1.se; rw [show (St.C ⟨zz ps, List.replicate mn false, cz (cs.take k), List.replicate an 0⟩).length = k from HK.out] at this; exact this, by have := S1.ta; rw [show (St.C ⟨zz ps, List.replicate mn false, cz (cs.take k), List.replicate an 0⟩).length = k from HK.out] at this; exact this, by rw [hgb]; exact X0.out, fun e => by have := HLT.out gb (S1.fC gb e); omega, by omega⟩
          have hgb2 : vS.ownBlock ≠ some gb := fun e => by have := HLT.out gb (S1.fS gb e); omega
          have hgb3 : vT.ownBlock ≠ some gb := fun e => by have := HLT.out gb (S1.fT gb e); omega
          rw [← hgb] at h14
          generalize hW0 : (wr.alloc _).drew = W0 at *
          refine wp_region_local (A := ZJ ZM a0) (Fa := NF W0 g gb k y1 y2 vP vL vC vS vT vA (ccs (cz (cs.take k))) ss (nts tk)) (Ga := NG W0 g gb k y1 y2 vP vL vC vS vT vA (ccs (cz (cs.take k))) ss (nts tk)) (Rel := NRel g vC vS vT) ZU (by kernel_rfl) (fun i j u v w w' hij hd hj hr hf => nf_keep c16 i j u v w w' hij ⟨?_, ?_, ?_⟩ hj hr hf) (fun i j u v w w' hij hr hf => ng_keep c16 i j u v w w' hij hr hf) ?_ ?_ ?_
          · intro e1 e2
            subst e1 e2
            exact absurd (hd.symm.trans (show _ = true by kernel_rfl)) (by decide)
          · intro e1 e2
            subst e1 e2
            exact absurd (hd.symm.trans (show _ = true by kernel_rfl)) (by decide)
          · intro e1 e2
            subst e1 e2
            exact absurd (hd.symm.trans (show _ = true by kernel_rfl)) (by decide)
          · intro i hi u wx hd hl hg
            obtain rfl | rfl | rfl | rfl | rfl | rfl | rfl | rfl | rfl | rfl | rfl | rfl | rfl | rfl | rfl | rfl | rfl | rfl | rfl | rfl | rfl | rfl | rfl | rfl | rfl | rfl | rfl | rfl | rfl | rfl | rfl : i = 0 ∨ i = 1 ∨ i = 2 ∨ i = 3 ∨ i = 4 ∨ i = 5 ∨ i = 6 ∨ i = 7 ∨ i = 8 ∨ i = 9 ∨ i = 10 ∨ i = 11 ∨ i = 12 ∨ i = 13 ∨ i = 14 ∨ i = 15 ∨ i = 16 ∨ i = 17 ∨ i = 18 ∨ i = 19 ∨ i = 20 ∨ i = 21 ∨ i = 22 ∨ i = 23 ∨ i = 24 ∨ i = 25 ∨ i = 26 ∨ i = 27 ∨ i = 28 ∨ i = 29 ∨ i = 30 := by have : i < 31 := hi; omega
            · have e10 : (ZJ ZM a0 u).eval (.tmp 10) = .pointer (some ⟨g, 0, none⟩) := (fill_out rfl).trans h10
              refine ZE rfl rfl (.pointer (some ⟨g, 0, none⟩)) wx (by generalize (ZJ ZM a0 u).eval = ev at *; simp [execOp, e10]) ⟨_, ZH (d := 93) rfl (fun k hk => by have := ZD hk; omega), .inl (World.grownBy.refl _ _), hg.1, ZF _ _ _⟩
            · have e10 : (ZJ ZM a0 u).eval (.tmp 10) = .pointer (some ⟨g, 0, none⟩) := (fill_out rfl).trans h10
              refine ZE rfl rfl (.pointer (some ⟨g, 0, none⟩)) wx (by generalize (ZJ ZM a0 u).eval = ev at *; simp [execOp, e10]) ⟨_, ZH (d := 94) rfl (fun k hk => by have := ZD hk; omega), .inl (World.grownBy.refl _ _), hg.1, ZF _ _ _⟩
            · have e10 : (ZJ ZM a0 u).eval (.tmp 10) = .pointer (some ⟨g, 0, none⟩) := (fill_out rfl).trans h10
              refine ZE rfl rfl (.pointer (some ⟨g, 0, none⟩)) wx (by generalize (ZJ ZM a0 u).eval = ev at *; simp [execOp, e10]) ⟨_, ZH (d := 95) rfl (fun k hk => by have := ZD hk; omega), .inl (World.grownBy.refl _ _), hg.1, ZF _ _ _⟩
            · have e10 : (ZJ ZM a0 u).eval (.tmp 10) = .pointer (some ⟨g, 0, none⟩) := (fill_out rfl).trans h10
              refine ZE rfl rfl (.pointer (some ⟨g, 0, none⟩)) wx (by generalize (ZJ ZM a0 u).eval = ev at *; simp [execOp, e10]) ⟨_, ZH (d := 96) rfl (fun k hk => by have := ZD hk; omega), .inl (World.grownBy.refl _ _), hg.1, ZF _ _ _⟩
            · have e96 : (ZJ ZM a0 u).eval (.tmp 96) = u 3 := ZP (by omega) rfl
              have f3 : u 3 = .pointer (some ⟨g, 0, none⟩) := (hd 3 (by kernel_rfl)).2
              rw [f3] at e96
              refine ZE rfl rfl (.pointer (some ⟨g, 0, none⟩)) wx (by generalize (ZJ ZM a0 u).eval = ev at *; simp [execOp, e96, go_sem]) ⟨_, ZH (d := 97) rfl (fun k hk => by have := ZD hk; omega), .inl (World.grownBy.refl _ _), hg.1, ZF _ _ _⟩
            · have e97 : (ZJ ZM a0 u).eval (.tmp 97) = u 4 := ZP (by omega) rfl
              have f4 : u 4 = .pointer (some ⟨g, 0, none⟩) := (hd 4 (by kernel_rfl)).2
              rw [f4] at e97
              refine ZE rfl rfl (.pointer (some ⟨g, 2, none⟩)) wx (by generalize (ZJ ZM a0 u).eval = ev at *; simp [execOp, e97, go_sem]) ⟨_, ZH (d := 98) rfl (fun k hk => by have := ZD hk; omega), .inl (World.grownBy.refl _ _), hg.1, ZF _ _ _⟩
            · have e98 : (ZJ ZM a0 u).eval (.tmp 98) = u 5 := ZP (by omega) rfl
              have f5 : u 5 = .pointer (some ⟨g, 2, none⟩) := (hd 5 (by kernel_rfl)).2
              rw [f5] at e98
              have hc : wx.cell? ⟨g, 2, none⟩ = some vC := (hl 24 (by kernel_rfl)).2
              refine ZE rfl rfl vC wx (by generalize (ZJ ZM a0 u).eval = ev at *; simp [execOp, e98, go_sem, hc]) ⟨_, ZH (d := 99) rfl (fun k hk => by have := ZD hk; omega), .inl (World.grownBy.refl _ _), hg.1, ZF _ _ _⟩
            · have e14 : (ZJ ZM a0 u).eval (.tmp 14) = .pointer (some ⟨gb, 0, none⟩) := (fill_out rfl).trans h14
              have hbx := hg.1.2.2 gb (Ze c16.box) hgb1 c16.boxC hgb2 hgb3
              have b0 := Zb (hbx.trans c16.box) 0 _ rfl
              have b1 := Zb (hbx.trans c16.box) 1 _ rfl
              refine ZE rfl rfl (.agg #[.int .i64 y1, .int .i64 y2]) wx (by generalize (ZJ ZM a0 u).eval = ev at *; simp [execOp, e14, go_sem, b0, b1]) ⟨_, ZH (d := 100) rfl (fun k hk => by have := ZD hk; omega), .inl (World.grownBy.refl _ _), hg.1, ZF _ _ _⟩
            · have e100 : (ZJ ZM a0 u).eval (.tmp 100) = u 7 := ZP (by omega) rfl
              have f7 : u 7 = .agg #[.int .i64 y1, .int .i64 y2] := (hd 7 (by kernel_rfl)).2
              rw [f7] at e100
              refine ZE rfl rfl (.slice (some ⟨wx.heap.size, 0, none⟩) 1 1) (wx.alloc (.cells #[.int .i64 y1, .int .i64 y2] 52)) (by generalize (ZJ ZM a0 u).eval = ev at *; simp [execOp, go_sem, e100]) ⟨_, ZH (d := 101) rfl (fun k hk => by have := ZD hk; omega), .inl (gb_none (Zd _ _)), (hg.1.grown c16 (.inl rfl) (gb_none (Zd _ _))).1, wx.heap.size, ZF _ _ _, hg.1.2.1.2.2.2, B_ _ _⟩
            · have e99 : (ZJ ZM a0 u).eval (.tmp 99) = u 6 := ZP (by omega) rfl
              have f6 : u 6 = vC := (hd 6 (by kernel_rfl)).2
              rw [f6] at e99
              have e101 : (ZJ ZM a0 u).eval (.tmp 101) = u 8 := ZP (by omega) rfl
              obtain ⟨kx, fx1, fx2, fx3⟩ : ∃ k, u 8 = .slice (some ⟨k, 0, none⟩) 1 1 /\ W0.heap.size <= k /\ wx.heap[k]? = some (.cells #[.int .i64 y1, .int .i64 y2] 52 (0, 0)) := (hd 8 (by kernel_rfl)).2
              rw [fx1] at e101
              obtain ⟨v9, w9, hrun, o9, g9, f9⟩ := push_any (ys := [.int .i64 y1, .int .i64 y2]) Tryd.underlying23 info_chan rfl (by decide) (by decide) hg.2 c16.nl rfl (fun j u hu => Zb fx3 j u (by simpa using hu)) (by intro u hu; simp at hu; first | (subst hu; rfl) | (rcases hu with rfl | rfl <;> rfl)) 23
              obtain ⟨a9, c9, e9, _⟩ := Zo o9
              refine ZE rfl rfl v9 w9 (by generalize (ZJ ZM a0 u).eval = ev at *; simp only [List.getElem_toArray, List.getElem_cons_zero, List.getElem_cons_succ, execOp, resolve, invoke, builtin, Sem.run_bind, Sem.run_pure, Result.andThen_ok, List.map_toArray, List.map_cons, List.map_nil, e99, e101, hrun]) ⟨_, ZH (d := 102) rfl (fun k hk => by have := ZD hk; omega), .inr (.inl ⟨rfl, g9⟩), (hg.1.grown c16 (.inr (.inl rfl)) g9).1, ?_⟩
              show Ym W0 w9 52 2 (upd u 9 v9 9) (k + 1) (ccs (cz (cs.take k)) ++ [.int .i64 y1, .int .i64 y2]) vC
              rw [ZF]
              exact ⟨⟨_, _, e9⟩, o9, fun k hk => (f9 k hk).imp id (fun h => Nat.le_trans hg.1.2.1.2.2.2 h)⟩
            · have e10 : (ZJ ZM a0 u).eval (.tmp 10) = .pointer (some ⟨g, 0, none⟩) := (fill_out rfl).trans h10
              refine ZE rfl rfl (.pointer (some ⟨g, 0, none⟩)) wx (by generalize (ZJ ZM a0 u).eval = ev at *; simp [execOp, e10]) ⟨_, ZH (d := 103) rfl (fun k hk => by have := ZD hk; omega), .inl (World.grownBy.refl _ _), hg.1, ZF _ _ _⟩
            · have e103 : (ZJ ZM a0 u).eval (.tmp 103) = u 10 := ZP (by omega) rfl
              have f10 : u 10 = .pointer (some ⟨g, 0, none⟩) := (hd 10 (by kernel_rfl)).2
              rw [f10] at e103
              refine ZE rfl rfl (.pointer (some ⟨g, 0, none⟩)) wx (by generalize (ZJ ZM a0 u).eval = ev at *; simp [execOp, e103, go_sem]) ⟨_, ZH (d := 104) rfl (fun k hk => by have := ZD hk; omega), .inl (World.grownBy.refl _ _), hg.1, ZF _ _ _⟩
            · have e104 : (ZJ ZM a0 u).eval (.tmp 104) = u 11 := ZP (by omega) rfl
              have f11 : u 11 = .pointer (some ⟨g, 0, none⟩) := (hd 11 (by kernel_rfl)).2
              rw [f11] at e104
              refine ZE rfl rfl (.pointer (some ⟨g, 3, none⟩)) wx (by generalize (ZJ ZM a0 u).eval = ev at *; simp [execOp, e104, go_sem]) ⟨_, ZH (d := 105) rfl (fun k hk => by have := ZD hk; omega), .inl (World.grownBy.refl _ _), hg.1, ZF _ _ _⟩
            · have e105 : (ZJ ZM a0 u).eval (.tmp 105) = u 12 := ZP (by omega) rfl
              have f12 : u 12 = .pointer (some ⟨g, 3, none⟩) := (hd 12 (by kernel_rfl)).2
              rw [f12] at e105
              have hc : wx.cell? ⟨g, 3, none⟩ = some vS := (hl 27 (by kernel_rfl)).2
              refine ZE rfl rfl vS wx (by generalize (ZJ ZM a0 u).eval = ev at *; simp [execOp, e105, go_sem, hc]) ⟨_, ZH (d := 106) rfl (fun k hk => by have := ZD hk; omega), .inl (World.grownBy.refl _ _), hg.1, ZF _ _ _⟩
            · have e100 : (ZJ ZM a0 u).eval (.const (.slice none 0 0)) = .slice none 0 0 := rfl
              refine ZE rfl rfl (.slice (some ⟨wx.heap.size, 0, none⟩) 1 1) (wx.alloc (.cells #[.slice none 0 0] 46)) (by generalize (ZJ ZM a0 u).eval = ev at *; simp [execOp, go_sem, e100]) ⟨_, ZH (d := 107) rfl (fun k hk => by have := ZD hk; omega), .inl (gb_none (Zd _ _)), (hg.1.grown c16 (.inl rfl) (gb_none (Zd _ _))).1, wx.heap.size, ZF _ _ _, hg.1.2.1.2.2.2, B_ _ _⟩
            · have e106 : (ZJ ZM a0 u).eval (.tmp 106) = u 13 := ZP (by omega) rfl
              have f13 : u 13 = vS := (hd 13 (by kernel_rfl)).2
              rw [f13] at e106
              have e107 : (ZJ ZM a0 u).eval (.tmp 107) = u 14 := ZP (by omega) rfl
              obtain ⟨kx, fx1, fx2, fx3⟩ : ∃ k, u 14 = .slice (some ⟨k, 0, none⟩) 1 1 /\ W0.heap.size <= k /\ wx.heap[k]? = some (.cells #[.slice none 0 0] 46 (0, 0)) := (hd 14 (by kernel_rfl)).2
              rw [fx1] at e107
              obtain ⟨v9, w9, hrun, o9, g9, f9⟩ := push_any (ys := [.slice none 0 0]) Tryd.underlying48 info_slv rfl (by decide) (by decide) hg.2 c16.nl rfl (fun j u hu => Zb fx3 j u (by simpa using hu)) (by intro u hu; simp at hu; first | (subst hu; rfl) | (rcases hu with rfl | rfl <;> rfl)) 48
              obtain ⟨a9, c9, e9, _⟩ := Zo o9
              refine ZE rfl rfl v9 w9 (by generalize (ZJ ZM a0 u).eval = ev at *; simp only [List.getElem_toArray, List.getElem_cons_zero, List.getElem_cons_succ, execOp, resolve, invoke, builtin, Sem.run_bind, Sem.run_pure, Result.andThen_ok, List.map_toArray, List.map_cons, List.map_nil, e106, e107, hrun]) ⟨_, ZH (d := 108) rfl (fun k hk => by have := ZD hk; omega), .inr (.inr (.inl ⟨rfl, g9⟩)), (hg.1.grown c16 (.inr (.inr (.inl rfl))) g9).1, ?_⟩
              show Ym W0 w9 46 1 (upd u 15 v9 15) (k + 1) (ss ++ [.slice none 0 0]) vS
              rw [ZF]
              exact ⟨⟨_, _, e9⟩, o9, fun k hk => (f9 k hk).imp id (fun h => Nat.le_trans hg.1.2.1.2.2.2 h)⟩
            · have e10 : (ZJ ZM a0 u).eval (.tmp 10) = .pointer (some ⟨g, 0, none⟩) := (fill_out rfl).trans h10
              refine ZE rfl rfl (.pointer (some ⟨g, 0, none⟩)) wx (by generalize (ZJ ZM a0 u).eval = ev at *; simp [execOp, e10]) ⟨_, ZH (d := 109) rfl (fun k hk => by have := ZD hk; omega), .inl (World.grownBy.refl _ _), hg.1, ZF _ _ _⟩
            · have e109 : (ZJ ZM a0 u).eval (.tmp 109) = u 16 := ZP (by omega) rfl
              have f16 : u 16 = .pointer (some ⟨g, 0, none⟩) := (hd 16 (by kernel_rfl)).2
              rw [f16] at e109
              refine ZE rfl rfl (.pointer (some ⟨g, 0, none⟩)) wx (by generalize (ZJ ZM a0 u).eval = ev at *; simp [execOp, e109, go_sem]) ⟨_, ZH (d := 110) rfl (fun k hk => by have := ZD hk; omega), .inl (World.grownBy.refl _ _), hg.1, ZF _ _ _⟩
            · have e110 : (ZJ ZM a0 u).eval (.tmp 110) = u 17 := ZP (by omega) rfl
              have f17 : u 17 = .pointer (some ⟨g, 0, none⟩) := (hd 17 (by kernel_rfl)).2
              rw [f17] at e110
              refine ZE rfl rfl (.pointer (some ⟨g, 4, none⟩)) wx (by generalize (ZJ ZM a0 u).eval = ev at *; simp [execOp, e110, go_sem]) ⟨_, ZH (d := 111) rfl (fun k hk => by have := ZD hk; omega), .inl (World.grownBy.refl _ _), hg.1, ZF _ _ _⟩
            · have e111 : (ZJ ZM a0 u).eval (.tmp 111) = u 18 := ZP (by omega) rfl
              have f18 : u 18 = .pointer (some ⟨g, 4, none⟩) := (hd 18 (by kernel_rfl)).2
              rw [f18] at e111
              have hc : wx.cell? ⟨g, 4, none⟩ = some vT := (hl 30 (by kernel_rfl)).2
              refine ZE rfl rfl vT wx (by generalize (ZJ ZM a0 u).eval = ev at *; simp [execOp, e111, go_sem, hc]) ⟨_, ZH (d := 112) rfl (fun k hk => by have := ZD hk; omega), .inl (World.grownBy.refl _ _), hg.1, ZF _ _ _⟩
            · have e100 : (ZJ ZM a0 u).eval (.const (.int .i64 0)) = .int .i64 0 := rfl
              refine ZE rfl rfl (.slice (some ⟨wx.heap.size, 0, none⟩) 1 1) (wx.alloc (.cells #[.int .i64 0] 3)) (by generalize (ZJ ZM a0 u).eval = ev at *; simp [execOp, go_sem, e100]) ⟨_, ZH (d := 113) rfl (fun k hk => by have := ZD hk; omega), .inl (gb_none (Zd _ _)), (hg.1.grown c16 (.inl rfl) (gb_none (Zd _ _))).1, wx.heap.size, ZF _ _ _, hg.1.2.1.2.2.2, B_ _ _⟩
            · have e112 : (ZJ ZM a0 u).eval (.tmp 112) = u 19 := ZP (by omega) rfl
              have f19 : u 19 = vT := (hd 19 (by kernel_rfl)).2
              rw [f19] at e112
              have e113 : (ZJ ZM a0 u).eval (.tmp 113) = u 20 := ZP (by omega) rfl
              obtain ⟨kx, fx1, fx2, fx3⟩ : ∃ k, u 20 = .slice (some ⟨k, 0, none⟩) 1 1 /\ W0.heap.size <= k /\ wx.heap[k]? = some (.cells #[.int .i64 0] 3 (0, 0)) := (hd 20 (by kernel_rfl)).2
              rw [fx1] at e113
              obtain ⟨v9, w9, hrun, o9, g9, f9⟩ := push_any (ys := [.int .i64 0]) Tryd.underlying22 info3 rfl (by decide) (by decide) hg.2 c16.nl rfl (fun j u hu => Zb fx3 j u (by simpa using hu)) (by intro u hu; simp at hu; first | (subst hu; rfl) | (rcases hu with rfl | rfl <;> rfl)) 22
              obtain ⟨a9, c9, e9, _⟩ := Zo o9
              refine ZE rfl rfl v9 w9 (by generalize (ZJ ZM a0 u).eval = ev at *; simp only [List.getElem_toArray, List.getElem_cons_zero, List.getElem_cons_succ, execOp, resolve, invoke, builtin, Sem.run_bind, Sem.run_pure, Result.andThen_ok, List.map_toArray, List.map_cons, List.map_nil, e112, e113, hrun]) ⟨_, ZH (d := 114) rfl (fun k hk => by have := ZD hk; omega), .inr (.inr (.inr (.inl ⟨rfl, g9⟩))), (hg.1.grown c16 (.inr (.inr (.inr rfl))) g9).1, ?_⟩
              show Ym W0 w9 3 1 (upd u 21 v9 21) (k + 1) ((nts tk) ++ [.int .i64 0]) vT
              rw [ZF]
              exact ⟨⟨_, _, e9⟩, o9, fun k hk => (f9 k hk).imp id (fun h => Nat.le_trans hg.1.2.1.2.2.2 h)⟩
            · have e93 : (ZJ ZM a0 u).eval (.tmp 93) = u 0 := ZP (by omega) rfl
              have f0 : u 0 = .pointer (some ⟨g, 0, none⟩) := (hd 0 (by kernel_rfl)).2
              rw [f0] at e93
              refine ZE rfl rfl (.pointer (some ⟨g, 0, none⟩)) wx (by generalize (ZJ ZM a0 u).eval = ev at *; simp [execOp, e93, go_sem]) ⟨_, ZH (d := 115) rfl (fun k hk => by have := ZD hk; omega), .inl (World.grownBy.refl _ _), hg.1, ZF _ _ _⟩
            · have e115 : (ZJ ZM a0 u).eval (.tmp 115) = u 22 := ZP (by omega) rfl
              have f22 : u 22 = .pointer (some ⟨g, 0, none⟩) := (hd 22 (by kernel_rfl)).2
              rw [f22] at e115
              refine ZE rfl rfl (.pointer (some ⟨g, 2, none⟩)) wx (by generalize (ZJ ZM a0 u).eval = ev at *; simp [execOp, e115, go_sem]) ⟨_, ZH (d := 116) rfl (fun k hk => by have := ZD hk; omega), .inl (World.grownBy.refl _ _), hg.1, ZF _ _ _⟩
            · have e116 : (ZJ ZM a0 u).eval (.tmp 116) = u 23 := ZP (by omega) rfl
              have f23 : u 23 = .pointer (some ⟨g, 2, none⟩) := (hd 23 (by kernel_rfl)).2
              rw [f23] at e116
              have e102 : (ZJ ZM a0 u).eval (.tmp 102) = u 9 := ZP (by omega) rfl
              obtain ⟨⟨ax, cx, ex⟩, _⟩ : Ym W0 wx 52 2 (u 9) (k + 1) (ccs (cz (cs.take k)) ++ [.int .i64 y1, .int .i64 y2]) vC := (hd 9 (by kernel_rfl)).2
              have hc : wx.cell? ⟨g, 2, none⟩ = some vC := hg.2
              have hz : wx.frozen? ⟨g, 2, none⟩ = false := by obtain ⟨⟨_, _, _, hgg⟩, _⟩ := hg.1; exact Zc hgg _
              rw [ex] at e102
              refine wpOp_skip rfl rfl (wx.setCell ⟨g, 2, none⟩ (u 9)) (by rw [ex]; generalize (ZJ ZM a0 u).eval = ev at *; simp [execOp, e116, e102, go_sem, hc, hz]) ⟨undef, fill_none (fun k hk => by have := ZD hk; omega), .inr (.inr (.inr (.inr (.inl ⟨rfl, rfl⟩)))), (hg.1.store 2 (by omega) _).1, ?_⟩
              show World.cell? _ ⟨g, 2, none⟩ = some (upd u 24 undef 9)
              rw [Zj u undef (by decide)]
              exact (hg.1.store 2 (by omega) _).2.1
            · have e94 : (ZJ ZM a0 u).eval (.tmp 94) = u 1 := ZP (by omega) rfl
              have f1 : u 1 = .pointer (some ⟨g, 0, none⟩) := (hd 1 (by kernel_rfl)).2
              rw [f1] at e94
              refine ZE rfl rfl (.pointer (some ⟨g, 0, none⟩)) wx (by generalize (ZJ ZM a0 u).eval = ev at *; simp [execOp, e94, go_sem]) ⟨_, ZH (d := 117) rfl (fun k hk => by have := ZD hk; omega), .inl (World.grownBy.refl _ _), hg.1, ZF _ _ _⟩
            · have e117 : (ZJ ZM a0 u).eval (.tmp 117) = u 25 := ZP (by omega) rfl
              have f25 : u 25 = .pointer (some ⟨g, 0, none⟩) := (hd 25 (by kernel_rfl)).2
              rw [f25] at e117
              refine ZE rfl rfl (.pointer (some ⟨g, 3, none⟩)) wx (by generalize (ZJ ZM a0 u).eval = ev at *; simp [execOp, e117, go_sem]) ⟨_, ZH (d := 118) rfl (fun k hk => by have := ZD hk; omega), .inl (World.grownBy.refl _ _), hg.1, ZF _ _ _⟩
            · have e118 : (ZJ ZM a0 u).eval (.tmp 118) = u 26 := ZP (by omega) rfl
              have f26 : u 26 = .pointer (some ⟨g, 3, none⟩) := (hd 26 (by kernel_rfl)).2
              rw [f26] at e118
              have e108 : (ZJ ZM a0 u).eval (.tmp 108) = u 15 := ZP (by omega) rfl
              obtain ⟨⟨ax, cx, ex⟩, _⟩ : Ym W0 wx 46 1 (u 15) (k + 1) (ss ++ [.slice none 0 0]) vS := (hd 15 (by kernel_rfl)).2
              have hc : wx.cell? ⟨g, 3, none⟩ = some vS := hg.2
              have hz : wx.frozen? ⟨g, 3, none⟩ = false := by obtain ⟨⟨_, _, _, hgg⟩, _⟩ := hg.1; exact Zc hgg _
              rw [ex] at e108
              refine wpOp_skip rfl rfl (wx.setCell ⟨g, 3, none⟩ (u 15)) (by rw [ex]; generalize (ZJ ZM a0 u).eval = ev at *; simp [execOp, e118, e108, go_sem, hc, hz]) ⟨undef, fill_none (fun k hk => by have := ZD hk; omega), .inr (.inr (.inr (.inr (.inr (.inl ⟨rfl, rfl⟩))))), (hg.1.store 3 (by omega) _).1, ?_⟩
              show World.cell? _ ⟨g, 3, none⟩ = some (upd u 27 undef 15)
              rw [Zj u undef (by decide)]
              exact (hg.1.store 3 (by omega) _).2.1
            · have e95 : (ZJ ZM a0 u).eval (.tmp 95) = u 2 := ZP (by omega) rfl
              have f2 : u 2 = .pointer (some ⟨g, 0, none⟩) := (hd 2 (by kernel_rfl)).2
              rw [f2] at e95
              refine ZE rfl rfl (.pointer (some ⟨g, 0, none⟩)) wx (by generalize (ZJ ZM a0 u).eval = ev at *; simp [execOp, e95, go_sem]) ⟨_, ZH (d := 119) rfl (fun k hk => by have := ZD hk; omega), .inl (World.grownBy.refl _ _), hg.1, ZF _ _ _⟩
            · have e119 : (ZJ ZM a0 u).eval (.tmp 119) = u 28 := ZP (by omega) rfl
              have f28 : u 28 = .pointer (some ⟨g, 0, none⟩) := (hd 28 (by kernel_rfl)).2
              rw [f28] at e119
              refine ZE rfl rfl (.pointer (some ⟨g, 4, none⟩)) wx (by generalize (ZJ ZM a0 u).eval = ev at *; simp [execOp, e119, go_sem]) ⟨_, ZH (d := 120) rfl (fun k hk => by have := ZD hk; omega), .inl (World.grownBy.refl _ _), hg.1, ZF _ _ _⟩
            · have e120 : (ZJ ZM a0 u).eval (.tmp 120) = u 29 := ZP (by omega) rfl
              have f29 : u 29 = .pointer (some ⟨g, 4, none⟩) := (hd 29 (by kernel_rfl)).2
              rw [f29] at e120
              have e114 : (ZJ ZM a0 u).eval (.tmp 114) = u 21 := ZP (by omega) rfl
              obtain ⟨⟨ax, cx, ex⟩, _⟩ : Ym W0 wx 3 1 (u 21) (k + 1) ((nts tk) ++ [.int .i64 0]) vT := (hd 21 (by kernel_rfl)).2
              have hc : wx.cell? ⟨g, 4, none⟩ = some vT := hg.2
              have hz : wx.frozen? ⟨g, 4, none⟩ = false := by obtain ⟨⟨_, _, _, hgg⟩, _⟩ := hg.1; exact Zc hgg _
              rw [ex] at e114
              refine wpOp_skip rfl rfl (wx.setCell ⟨g, 4, none⟩ (u 21)) (by rw [ex]; generalize (ZJ ZM a0 u).eval = ev at *; simp [execOp, e120, e114, go_sem, hc, hz]) ⟨undef, fill_none (fun k hk => by have := ZD hk; omega), .inr (.inr (.inr (.inr (.inr (.inr ⟨rfl, rfl⟩))))), (hg.1.store 4 (by omega) _).1, ?_⟩
              show World.cell? _ ⟨g, 4, none⟩ = some (upd u 30 undef 21)
              rw [Zj u undef (by decide)]
              exact (hg.1.store 4 (by omega) _).2.1
          · intro u wx hall
            obtain ⟨F2, R2, C2, st2⟩ := S1.chanA (n := k) (w := wx) y1 y2 HK.out.symm (by omega) ⟨r0', r8'⟩ (hall 30 (by decide)).1 (hall 9 (by decide)).2 (hall 15 (by decide)).2 (hall 21 (by decide)).2 (hall 24 (by decide)).2 (hall 27 (by decide)).2 (hall 30 (by decide)).2 HF.out.2
            have M9 : Hid (RMk w wx g ⟨zz ps, List.replicate mn false, cz (cs.take (k + 1)), List.replicate an 0⟩) := Za (by
              rw [HSN.out]
              exact ⟨_, _, _, _, _, _, _, _, _, R2, C2.low HF.out.1 HBD.out.size, HBD.out.trans (C2.bel HF.out.1 HBD.out.size), st2⟩)
            clear R2 C2 st2 hall c16 S1 hW0 h10 h14 hsz hgb1 hgb2 hgb3 S0 X0 HF HBD HLT HK HSN
            subst ha0
            simp [ZJ, fillL, ZM]
            go_wp2_with fail
            go_roundw
            case rel => exact ⟨k + 1, by omega, by go_num, M9, GA2⟩
            case measure => simp [intOf]; omega
          · intro j
            rw [hW0]
            exact ng_start c16 j _
        · obtain rfl : k = lC := by omega
          have GC : Hid (cs.any badC = false) := Za (any_not cs _ (0, 0) (fun j hj => GA.out j (by have := HLC.out; omega)))
          have M3 : Hid (RMk w wr g (newS ps (mn : Nat) cs (an : Nat))) := Za (by
            have := M1.out
            rw [List.take_of_length_le (by have := HLC.out; omega)] at this
            exact this)
          clear M1 GA
          go_wp2_with fail
          go_ret2
          obtain ⟨F, vP, vL, vC, vS, vT, vA, ss, tk, h1, h2, h3, _⟩ := M3.out
          exact .inr ⟨HSZ.out GP.out GC.out, g, F, rfl, ⟨_, _, _, _, _, _, _, _, h1⟩, h2, h3⟩
theorem app_copy {w : World} {T TS : TypeId} {sz bytes : Nat} {z src : Value} {n k B : Nat} {xs : List Value} (hu : Tryd.prog.underlying TS = some (.slice T)) (hinfo : (Tryd.prog.info? T).map (fun i => (i.zero, i.size, i.bytes)) = some (some z, sz, bytes)) (hz : z.cells.size = sz) (hby : bytes <= 100)
 (hk : w.heap[k]? = some (.cells #[] T (0, 0))) (hBk : B <= k) (hs : w.ownsRow 0 T sz src n xs) (hn : n <= 10000000) (h1 : ∀ u ∈ xs, u.oneCell' = true) (hB : B <= w.heap.size) (ty : TypeId) :
 ∃ v' w', (Builtin.append_ #[TS, TS] ty #[.slice (some ⟨k, 0, none⟩) 0 0, src]).run Tryd.prog w = .ok v' w' /\ (∃ a c, v' = .slice a n c) /\ w'.ownsRow B T sz v' n xs /\ Below w.heap.size w w' /\ (∀ j, v'.ownBlock = some j -> w.heap.size <= j ∨ n = 0) := by
 obtain ⟨i, hi, hz0, hz1, hz2⟩ := info_parts hinfo
 have own0 : w.ownsRow B T sz (.slice (some ⟨k, 0, none⟩) 0 0) 0 [] := ⟨by simp, .inr ⟨k, 0, #[], rfl, hBk, hk, Nat.le_refl _, by unfold maxLen; omega, by simp, by simp⟩⟩
 have hS : Src Tryd.prog i.size TS src n xs w := by
  rcases own_form hs with ⟨rfl, rfl⟩ | ⟨b, c, rfl, _⟩
  · have e : xs = [] := by have := hs.1; simpa using this
    subst e
    exact Src.ofNil w hu 0
  · refine Src.ofSlice w hu ⟨b, 0, none⟩ n c xs (by rw [hz1]; exact hs.1) (fun j u hj => ?_) h1
    rw [show (⟨b, 0, none⟩ : Addr).add j = ⟨b, j, none⟩ by unfold Addr.add; by_cases h : j = 0 <;> simp [h]]
    exact (Zm hs j u hj).1
 by_cases hn0 : n = 0
 · subst hn0
   have e : xs = [] := by have := hs.1; simpa using this
   subst e
   have hr := run_append_room_src (P := Tryd.prog) w TS TS ty T i hu hi k 0 0 0 src 0 [] hS (Nat.le_refl _) (fun j hj => absurd hj (Nat.not_lt_zero _)) (fun j hj => absurd hj (Nat.not_lt_zero _))
   exact ⟨_, w, hr, ⟨_, _, rfl⟩, own0, Below.refl _ _, fun _ _ => .inr rfl⟩
 · have hfit : Builtin.nextslicecap (0 + n) 0 * i.bytes <= 281474976710656 := growslice_fits (by omega) (by rw [hz2]; have : (0 + n) * bytes <= 10000000 * 100 := Nat.mul_le_mul (by omega) hby; omega)
   have hr := run_append_grow_src (P := Tryd.prog) w TS TS ty T i z hu hi hz0 (some ⟨k, 0, none⟩) 0 0 [] (run_firstCells_some w.drew i.size 0 ⟨k, 0, none⟩ 0 0 [] (by simp) (fun j u hj => by simp at hj)) src n xs hS (by omega) (by omega) hfit
   have hge := grownCap_ge w (0 + n) 0 T
   have hle := grownCap_le_maxLen w (0 + n) 0 T (by unfold maxLen; omega)
   refine ⟨_, _, hr, ⟨_, _, by rw [Nat.zero_add]⟩, ⟨hs.1, .inr ⟨w.heap.size, grownCap w (0 + n) 0 T, _, by rw [Nat.zero_add], hB, B_ w.drew _, by omega, hle, ?_, ?_⟩⟩, (Zs (Below.refl _ _)).alloc (Nat.le_refl _) _, fun j hj => .inl (by have := Option.some.inj hj; simp at this; omega)⟩
   · simp [size_zeroCells, hz, hs.1]
     have h3 : n * sz + (grownCap w n 0 T - n) * sz = grownCap w n 0 T * sz := by
      rw [← Nat.add_mul]
      rw [Nat.zero_add] at hge
      rw [show n + (grownCap w n 0 T - n) = grownCap w n 0 T from Nat.add_sub_cancel' hge]
     exact h3
   · simp only [List.nil_append, Array.toList_append]
     exact List.take_left' hs.1
theorem own_zero {w : World} {B : Nat} {T : TypeId} {n : Nat} {v : Value} {len : Nat} {xs : List Value} (h : w.ownsRow B T n v len xs) : w.ownsRow 0 T n v len xs := by
 obtain ⟨hl, h0 | ⟨gb, cap, cur, e, hB, r⟩⟩ := h
 · exact ⟨hl, .inl h0⟩
 · exact ⟨hl, .inr ⟨gb, cap, cur, e, Nat.zero_le _, r⟩⟩
theorem info_bool : (Tryd.prog.info? 4).map (fun i => (i.zero, i.size, i.bytes)) = some (some (.bool false), 1, 1) := by kernel_rfl
def Qs2 (w : World) (b : Nat) (t room : Int) (v : Value) : Prop := w.heap[b]? = some (.cells #[.int .i64 t, .int .i64 room, v] 98 (0, 0)) /\ b < w.heap.size
theorem Qs2.cells {w : World} {b : Nat} {t room : Int} {v : Value} (h : Qs2 w b t room v) : w.cell? ⟨b, 0, none⟩ = some (.int .i64 t) /\ w.cell? ⟨b, 1, none⟩ = some (.int .i64 room) /\ w.cell? ⟨b, 2, none⟩ = some v := ⟨Zb h.1 0 _ rfl, Zb h.1 1 _ rfl, Zb h.1 2 _ rfl⟩
theorem Qs2.al {w w' : World} {b : Nat} {t room : Int} {v : Value} (h : Qs2 w b t room v) (hb : Below w.heap.size w w') : Qs2 w' b t room v := ⟨(hb.block b h.2).trans h.1, Nat.lt_of_lt_of_le h.2 hb.size⟩
theorem Qs2.set {w : World} {b : Nat} {t room : Int} {v : Value} (h : Qs2 w b t room v) {g : Nat} (hg : b ≠ g) (x y z : Value) : Qs2 (((w.setCell ⟨g, 0, none⟩ x).setCell ⟨g, 1, none⟩ y).setCell ⟨g, 2, none⟩ z) b t room v :=
 ⟨((Below.heap_setCell _ _ _ _ hg).trans ((Below.heap_setCell _ _ _ _ hg).trans (Below.heap_setCell _ _ _ _ hg))).trans h.1, by rw [Zg, Zg, Zg]; exact h.2⟩
theorem Qs2.mk3 {w : World} {g : Nat} {c0 c1 c2 x y z : Value} (h : w.heap[g]? = some (.cells #[c0, c1, c2] 98 (0, 0))) : (((w.setCell ⟨g, 0, none⟩ x).setCell ⟨g, 1, none⟩ y).setCell ⟨g, 2, none⟩ z).heap[g]? = some (.cells #[x, y, z] 98 (0, 0)) :=
 heap_setCell_same _ _ _ _ _ _ (heap_setCell_same _ _ _ _ _ _ (heap_setCell_same _ _ _ _ _ _ h))
theorem own_low {w : World} {B B' : Nat} {T : TypeId} {n : Nat} {v : Value} {len : Nat} {xs : List Value} (h : w.ownsRow B T n v len xs) (hB : B' <= B) : w.ownsRow B' T n v len xs := by
 obtain ⟨hl, h0 | ⟨gb, cap, cur, e, hB2, r⟩⟩ := h
 · exact ⟨hl, .inl h0⟩
 · exact ⟨hl, .inr ⟨gb, cap, cur, e, Nat.le_trans hB hB2, r⟩⟩
theorem ret_q {fn : Func} {R : Ending -> World -> Prop} {a : Act} {w : World} {p : Tmp} (g : Nat) {x y z : Value} (hf : fn.results = #[.cell p 98]) (hp : a.tmps.getD p undef = .pointer (some ⟨g, 0, none⟩))
    (h : w.heap[g]? = some (.cells #[x, y, z] 98 (0, 0))) (hdf : a.defers = []) (hR : R (.returned (.agg #[x, y, z])) w) : bodyPost Tryd.prog fn R .ret a w :=
  bodyPost_ret (by
    have hp' : a.tmps[p]?.getD undef = .pointer (some ⟨g, 0, none⟩) := by simpa using hp
    have c0 := Zb h 0 _ rfl
    have c1 := Zb h 1 _ rfl
    have c2 := Zb h 2 _ rfl
    simp [results, hf, hp', go_sem, c0, c1, c2]) hdf hR
def ClP (w : World) (T : TypeId) (sz n : Nat) (xs : List Value) (e : Ending) (w' : World) : Prop := ∃ a c, e = .returned (.slice a n c) /\ w'.ownsRow w.heap.size T sz (.slice a n c) n xs /\ Below w.heap.size w w'
theorem cloneV {w : World} {src : Value} {n : Nat} {xs : List Value} (hs : w.ownsRow 0 41 3 src n xs) (hn : n <= 1000) (h1 : ∀ u ∈ xs, u.oneCell' = true) : Calls Tryd.prog 42 #[src] w (ClP w 41 3 n xs) := by
 rcases own_form hs with ⟨rfl, rfl⟩ | ⟨b, c, rfl, _⟩
 · have e : xs = [] := by have := hs.1; simpa using this
   subst e
   clear hs
   have hE : ∀ w, (binOp .eql 46 (.slice none 0 0) (.slice none 0 0)).run Tryd.prog w = .ok (.bool true) w := fun w => by kernel_rfl
   go_enter Tryd.func42, Tryd.ntmps42
   go_wp2_with fail
   go_ret
   exact ⟨_, _, rfl, World.ownsRow_nil _ _ _ _, Below.refl _ _⟩
 · have hb := Zd w (.cells #[] 41)
   have AP := Za (fun ty => app_copy (B := w.heap.size) Tryd.underlying46 info_val rfl (by decide) (B_ w (.cells #[] 41)) (Nat.le_refl _) (Zk hs (fun k hk => hb.block k (Zf hs hk).2.1)) (by omega) h1 hb.size ty)
   have HB := Za hb
   clear hs hb h1
   have hE : ∀ w, (binOp .eql 46 (.slice (some ⟨b, 0, none⟩) n c) (.slice none 0 0)).run Tryd.prog w = .ok (.bool false) w := fun w => by kernel_rfl
   go_enter Tryd.func42, Tryd.ntmps42
   go_wp2_with (first | (at_builtin; refine ZW (TS := 46) rfl (.tmp 5) (.tmp 6) rfl _ _ rfl rfl _ (AP.out _) ?_; rintro v9 w9 ⟨⟨a9, c9, rfl⟩, o9, b9, _⟩; have R9 := Za (And.intro o9 b9); clear o9 b9))
   go_ret
   exact ⟨_, _, rfl, R9.out.1, Zi HB.out R9.out.2⟩
theorem cloneB {w : World} {src : Value} {n : Nat} {xs : List Value} (hs : w.ownsRow 0 4 1 src n xs) (hn : n <= 1000) (h1 : ∀ u ∈ xs, u.oneCell' = true) : Calls Tryd.prog 43 #[src] w (ClP w 4 1 n xs) := by
 rcases own_form hs with ⟨rfl, rfl⟩ | ⟨b, c, rfl, _⟩
 · have e : xs = [] := by have := hs.1; simpa using this
   subst e
   clear hs
   have hE : ∀ w, (binOp .eql 47 (.slice none 0 0) (.slice none 0 0)).run Tryd.prog w = .ok (.bool true) w := fun w => by kernel_rfl
   go_enter Tryd.func43, Tryd.ntmps43
   go_wp2_with fail
   go_ret
   exact ⟨_, _, rfl, World.ownsRow_nil _ _ _ _, Below.refl _ _⟩
 · have hb := Zd w (.cells #[] 4)
   have AP := Za (fun ty => app_copy (B := w.heap.size) Tryd.underlying47 info_bool rfl (by decide) (B_ w (.cells #[] 4)) (Nat.le_refl _) (Zk hs (fun k hk => hb.block k (Zf hs hk).2.1)) (by omega) h1 hb.size ty)
   have HB := Za hb
   clear hs hb h1
   have hE : ∀ w, (binOp .eql 47 (.slice (some ⟨b, 0, none⟩) n c) (.slice none 0 0)).run Tryd.prog w = .ok (.bool false) w := fun w => by kernel_rfl
   go_enter Tryd.func43, Tryd.ntmps43
   go_wp2_with (first | (at_builtin; refine ZW (TS := 47) rfl (.tmp 5) (.tmp 6) rfl _ _ rfl rfl _ (AP.out _) ?_; rintro v9 w9 ⟨⟨a9, c9, rfl⟩, o9, b9, _⟩; have R9 := Za (And.intro o9 b9); clear o9 b9))
   go_ret
   exact ⟨_, _, rfl, R9.out.1, Zi HB.out R9.out.2⟩
theorem cloneI {w : World} {src : Value} {n : Nat} {xs : List Value} (hs : w.ownsRow 0 3 1 src n xs) (hn : n <= 1000) (h1 : ∀ u ∈ xs, u.oneCell' = true) : Calls Tryd.prog 44 #[src] w (ClP w 3 1 n xs) := by
 rcases own_form hs with ⟨rfl, rfl⟩ | ⟨b, c, rfl, _⟩
 · have e : xs = [] := by have := hs.1; simpa using this
   subst e
   clear hs
   have hE : ∀ w, (binOp .eql 22 (.slice none 0 0) (.slice none 0 0)).run Tryd.prog w = .ok (.bool true) w := fun w => by kernel_rfl
   go_enter Tryd.func44, Tryd.ntmps44
   go_wp2_with fail
   go_ret
   exact ⟨_, _, rfl, World.ownsRow_nil _ _ _ _, Below.refl _ _⟩
 · have hb := Zd w (.cells #[] 3)
   have AP := Za (fun ty => app_copy (B := w.heap.size) Tryd.underlying22 info3 rfl (by decide) (B_ w (.cells #[] 3)) (Nat.le_refl _) (Zk hs (fun k hk => hb.block k (Zf hs hk).2.1)) (by omega) h1 hb.size ty)
   have HB := Za hb
   clear hs hb h1
   have hE : ∀ w, (binOp .eql 22 (.slice (some ⟨b, 0, none⟩) n c) (.slice none 0 0)).run Tryd.prog w = .ok (.bool false) w := fun w => by kernel_rfl
   go_enter Tryd.func44, Tryd.ntmps44
   go_wp2_with (first | (at_builtin; refine ZW (TS := 22) rfl (.tmp 5) (.tmp 6) rfl _ _ rfl rfl _ (AP.out _) ?_; rintro v9 w9 ⟨⟨a9, c9, rfl⟩, o9, b9, _⟩; have R9 := Za (And.intro o9 b9); clear o9 b9))
   go_ret
   exact ⟨_, _, rfl, R9.out.1, Zi HB.out R9.out.2⟩
theorem qclone {w : World} {b : Nat} {t room : Int} {a : Option Addr} {n c : Nat} {l : List V3} (hb : w.heap[b]? = some (.cells #[.int .i64 t, .int .i64 room, .slice a n c] 98 (0, 0))) (ho : w.ownsRow 0 41 3 (.slice a n c) n (vcs l)) (hn : n <= 1000) :
 Calls Tryd.prog 45 #[.pointer (some ⟨b, 0, none⟩)] w fun e w' => ∃ a' c', e = .returned (.agg #[.int .i64 t, .int .i64 room, .slice a' n c']) /\ w'.ownsRow w.heap.size 41 3 (.slice a' n c') n (vcs l) /\ Below w.heap.size w w' := by
 have hbl := Ze hb
 have HB := Za hb
 have HO := Za ho
 clear hb ho
 go_enter Tryd.func45, Tryd.ntmps45
 go_wp2_with fail
 have B1 := Za (Zd w (.cells #[.int .i64 0, .int .i64 0, .slice none 0 0] 98))
 have X1 : Hid ((w.alloc (.cells #[.int .i64 0, .int .i64 0, .slice none 0 0] 98)).heap[w.heap.size]? = some (.cells #[.int .i64 0, .int .i64 0, .slice none 0 0] 98 (0, 0))) := Za (B_ w _)
 generalize w.alloc _ = w1 at *
 refine wp_region_held_drew (S := fun w' => Qs2 w' b t room (.slice a n c)) ZU (by exact ⟨((B1.out.block b hbl).trans HB.out), Nat.lt_of_lt_of_le hbl B1.out.size⟩) (fun hH => ?_)
 have B2 := Za (Zs B1.out)
 have X2 : Hid (w1.drew.heap[w.heap.size]? = some (.cells #[.int .i64 0, .int .i64 0, .slice none 0 0] 98 (0, 0))) := X1
 clear B1 X1
 generalize w1.drew = w2 at *
 refine H_ 0 (v := ?_) ?_ hH ?_
 rotate_left 1
 · (intro w _; go_simp <;> with_reducible rfl)
 simp only [Act.put, S_]
 refine H_ 1 (v := ?_) ?_ hH ?_
 rotate_left 1
 · (intro w _; go_simp <;> with_reducible rfl)
 simp only [Act.put, S_]
 refine H_ 2 (v := ?_) ?_ hH ?_
 rotate_left 1
 · (intro w _; go_simp <;> with_reducible rfl)
 simp only [Act.put, S_]
 refine H_ 3 (v := ?_) ?_ hH ?_
 rotate_left 1
 · (intro w hSw; have q := hSw.cells; clear hSw; go_simp <;> with_reducible rfl)
 simp only [Act.put, S_]
 refine H_ 4 (v := ?_) ?_ hH ?_
 rotate_left 1
 · (intro w _; go_simp <;> with_reducible rfl)
 simp only [Act.put, S_]
 refine H_ 5 (v := ?_) ?_ hH ?_
 rotate_left 1
 · (intro w _; go_simp <;> with_reducible rfl)
 simp only [Act.put, S_]
 refine H_ 6 (v := ?_) ?_ hH ?_
 rotate_left 1
 · (intro w _; go_simp <;> with_reducible rfl)
 simp only [Act.put, S_]
 refine H_ 7 (v := ?_) ?_ hH ?_
 rotate_left 1
 · (intro w hSw; have q := hSw.cells; clear hSw; go_simp <;> with_reducible rfl)
 simp only [Act.put, S_]
 refine wpAnyH_ready (rs := [8]) (by kernel_rfl) (by decide) ?_
 refine AllReadyH.cons rfl (fun K1 hK1 => ?_) AllReadyH.nil
 go_simp
 refine (cloneV (Zk HO.out (fun k hk => B2.out.block k (Zf HO.out hk).2.1)) hn (vcs_one _)).mono ?_
 rintro e w3 ⟨a3, c3, rfl, o3, b3⟩
 have O3 := Za o3
 have B3 := Za (Zi B2.out b3)
 have X3 := Za ((b3.block _ (Ze X2.out)).trans X2.out)
 have Z3 := Za B2.out.size
 refine hK1.out _ _ (hH.al b3) (fun hH => ?_)
 clear hK1 K1 o3 b3 B2 X2
 refine H_ 9 (v := ?_) ?_ hH ?_
 rotate_left 1
 · (intro w _; go_simp <;> with_reducible rfl)
 simp only [Act.put, S_]
 refine wpAnyH_ready (rs := [10]) (by kernel_rfl) (by decide) ?_
 refine AllReadyH.cons rfl (fun K1 hK1 => ?_) AllReadyH.nil
 have q0 := Zb X3.out 0 _ rfl
 have q1 := Zb X3.out 1 _ rfl
 have q2 := Zb X3.out 2 _ rfl
 have p0 := Zc X3.out 0
 have p1 := Zc X3.out 1
 have p2 := Zc X3.out 2
 go_simp
 refine hK1.out _ _ (hH.set (by omega) _ _ _) (fun hH => ?_)
 clear hK1 K1 q0 q1 q2 p0 p1 p2
 refine wpAnyH_done (by kernel_rfl) ?_ _
 clear hH
 go_wp2_with fail
 refine ret_q w.heap.size rfl rfl (Qs2.mk3 X3.out) rfl ⟨a3, c3, rfl, ?_, ?_⟩
 · refine Zk (own_low O3.out Z3.out) (fun k hk => ?_)
   have hne : k ≠ w.heap.size := fun e => Zt O3.out X3.out (by decide) (by rw [hk, e])
   exact (Below.heap_setCell _ _ _ _ hne).trans ((Below.heap_setCell _ _ _ _ hne).trans (Below.heap_setCell _ _ _ _ hne))
 · exact Zq B3.out (Nat.le_refl _) _ _ _
def wcs (x : Wt) (va : Value) : List Value := [.int .i64 x.k, .int .i64 x.o, .int .i64 x.a, .int .i64 x.v.1, .int .i64 x.v.2.1, .int .u64 x.v.2.2, va]
def pts (l : List Nat) : List Value := l.map fun b => .pointer (some ⟨b, 0, none⟩)
def ecs : List Evt -> List Value
 | [] => []
 | e :: l => .int .i64 e.g :: .int .i64 e.k :: .int .i64 e.o :: .int .i64 e.a :: ecs l
theorem ecs_app : ∀ a b, ecs (a ++ b) = ecs a ++ ecs b
 | [], b => rfl
 | e :: a, b => by simp [ecs, ecs_app a b]
theorem pts_at {l : List Nat} {i b : Nat} (h : l[i]? = some b) : (pts l)[i]? = some (.pointer (some ⟨b, 0, none⟩)) := by simp [pts, h]
def YA (w : World) (R : Nat -> Prop) (v : Value) : Prop := ∃ (n : Nat) (xs : List Value), n <= 2000 /\ w.ownsRow 0 41 3 v n xs /\ (∀ u ∈ xs, u.oneCell' = true) /\ ∀ k, v.ownBlock = some k -> R k
def WRow (w : World) (R : Nat -> Prop) (v : Value) (l : List Wt) : Prop := ∃ (a : Option Addr) (c : Nat), v = .slice a l.length c /\ l.length <= c /\ c <= maxLen ∧
 ∀ (i : Nat) (x : Wt), l[i]? = some x -> ∃ (b o : Nat) (va : Value), a = some ⟨b, o, none⟩ /\ R b /\ (∀ (j : Nat) (u : Value), (wcs x va)[j]? = some u -> w.cell? ⟨b, o + 7 * i + j, none⟩ = some u) /\ YA w R va
def Gor (w : World) (R : Nat -> Prop) (b t : Nat) (x : Gr) : Prop := ∃ va vw,
 w.heap[b]? = some (.cells #[.iface 180 (.pointer (some ⟨t, 0, none⟩)), .int .i64 x.w.k, .int .i64 x.w.o, .int .i64 x.w.a, .int .i64 x.w.v.1, .int .i64 x.w.v.2.1, .int .u64 x.w.v.2.2, va] 155 (0, 0)) /\ YA w R va ∧
 w.heap[t]? = some (.cells #[vw] 182 (0, 0)) /\ WRow w R vw x.rest
def Beg (w : World) (R : Nat -> Prop) (vB : Value) (S : List (List Wt)) : Prop := ∃ (c : Nat) (vS : Value) (vs : List Value), vB = .func (.func 93) #[] #[.pointer (some ⟨c, 0, none⟩)] /\ R c ∧
 w.heap[c]? = some (.cells #[vS] 59 (0, 0)) /\ w.ownsRow 0 83 1 vS S.length vs /\ (∀ k, vS.ownBlock = some k -> R k) /\ S.length <= 2000 /\ ∀ (i : Nat) (l : List Wt) (v : Value), S[i]? = some l -> vs[i]? = some v -> WRow w R v l
section
variable {w w' : World} {R R' : Nat → Prop}
theorem ZS {b i : Nat} {u : Value} (hk : w'.heap[b]? = w.heap[b]?) (h : w.cell? ⟨b, i, none⟩ = some u) : w'.cell? ⟨b, i, none⟩ = some u := by
 unfold World.cell? at h ⊢
 rw [hk]
 exact h
theorem YA.keep {v : Value} (h : YA w R v) (hk : ∀ k, R k -> w'.heap[k]? = w.heap[k]?) (hR : ∀ k, R k -> R' k) : YA w' R' v := by
 obtain ⟨n, xs, h1, h2, h3, h4⟩ := h
 exact ⟨n, xs, h1, Zk h2 fun k hk' => hk k (h4 k hk'), h3, fun k hk' => hR k (h4 k hk')⟩
theorem YA.nilS : YA w R (.slice none 0 0) := ⟨0, [], by omega, Yf _ _ _, fun _ h => (by cases h), fun _ h => (by cases h)⟩
theorem YA.form {v : Value} (h : YA w R v) : ∃ a n c, v = .slice a n c := by
 obtain ⟨n, xs, h1, h2, h3, h4⟩ := h
 obtain ⟨a, c, e, _⟩ := Zo h2
 exact ⟨a, n, c, e⟩
theorem WRow.keep {v : Value} {l : List Wt} (h : WRow w R v l) (hk : ∀ k, R k -> w'.heap[k]? = w.heap[k]?) (hR : ∀ k, R k -> R' k) : WRow w' R' v l := by
 obtain ⟨a, c, h1, h2, h3, h4⟩ := h
 refine ⟨a, c, h1, h2, h3, fun i x hx => ?_⟩
 obtain ⟨b, o, va, e1, e2, e3, e4⟩ := h4 i x hx
 exact ⟨b, o, va, e1, hR b e2, fun j u hu => ZS (hk b e2) (e3 j u hu), e4.keep hk hR⟩
theorem WRow.tail {a : Option Addr} {c b o : Nat} {x : Wt} {l : List Wt} (h : WRow w R (.slice a (l.length + 1) c) (x :: l)) (ha : a = some ⟨b, o, none⟩) (a' : Option Addr) (ha' : 0 < l.length -> a' = some ⟨b, o + 7, none⟩) : WRow w R (.slice a' l.length (c - 1)) l := by
 obtain ⟨a0, c0, h1, h2, h3, h4⟩ := h
 cases h1
 simp only [List.length_cons] at h2
 refine ⟨a', c - 1, rfl, by omega, by omega, fun i y hy => ?_⟩
 have hl : 0 < l.length := by
  have := (List.getElem?_eq_some_iff.1 hy).1
  omega
 obtain ⟨b2, o2, va, e1, e2, e3, e4⟩ := h4 (i + 1) y (by simpa using hy)
 rw [ha] at e1
 cases e1
 refine ⟨b, o + 7, va, ha' hl, e2, fun j u hu => ?_, e4⟩
 rw [show o + 7 + 7 * i + j = o + 7 * (i + 1) + j by omega]
 exact e3 j u hu
theorem Gor.keep {b t : Nat} {x : Gr} (h : Gor w R b t x) (hb : w'.heap[b]? = w.heap[b]?) (ht : w'.heap[t]? = w.heap[t]?) (hk : ∀ k, R k -> w'.heap[k]? = w.heap[k]?) (hR : ∀ k, R k -> R' k) : Gor w' R' b t x := by
 obtain ⟨va, vw, h1, h2, h3, h4⟩ := h
 exact ⟨va, vw, hb.trans h1, h2.keep hk hR, ht.trans h3, h4.keep hk hR⟩
theorem Beg.keep {vB : Value} {S : List (List Wt)} (h : Beg w R vB S) (hk : ∀ k, R k -> w'.heap[k]? = w.heap[k]?) (hR : ∀ k, R k -> R' k) : Beg w' R' vB S := by
 obtain ⟨c, vS, vs, h1, h2, h3, h4, h5, h6, h7⟩ := h
 exact ⟨c, vS, vs, h1, hR c h2, (hk c h2).trans h3, Zk h4 fun k hk' => hk k (h5 k hk'), fun k hk' => hR k (h5 k hk'), h6, fun i l v hl hv => (h7 i l v hl hv).keep hk hR⟩
end
structure Ru (w : World) (Fs Fo R : Nat -> Prop) (g gs : Nat) (S : List (List Wt)) (r : Rm) (vC vB vG vE : Value) (ps ts : List Nat) : Prop where
 at_ : w.heap[g]? = some (.cells #[.pointer (some ⟨gs, 0, none⟩), vC, vB, vG, vE, .int .i64 r.e.o, .int .i64 r.e.f, .int .i64 r.e.g, .int .i64 r.e.n, .int .i64 r.e.a] 150 (0, 0))
 st : Stt w Fs gs r.s
 ch : w.ownsRow 0 3 1 vC r.s.C.length (nts (r.s.C.map Qu.t))
 bg : Beg w R vB S
 go : w.ownsRow 0 151 1 vG r.gs.length (pts ps)
 ev : w.ownsRow 0 75 4 vE r.ev.length (ecs r.ev)
 tl : ts.length = r.gs.length
 gr : ∀ (i : Nat) (x : Gr) (b t : Nat), r.gs[i]? = some x -> ps[i]? = some b -> ts[i]? = some t -> Gor w R b t x /\ Fo b /\ Fo t
 np : ps.Nodup
 nt : ts.Nodup
 fg : Fo g
 fC : ∀ k, vC.ownBlock = some k -> Fo k
 fG : ∀ k, vG.ownBlock = some k -> Fo k
 fE : ∀ k, vE.ownBlock = some k -> Fo k
 so : ∀ k, Fs k -> ¬ Fo k
 rs : ∀ k, R k -> ¬ Fs k
 ro : ∀ k, R k -> ¬ Fo k
 fb : ∀ k, Fo k -> k < w.heap.size
 rb : ∀ k, R k -> k < w.heap.size
 n8 : r.gs.length <= 8
def Rn (w : World) (G : Nat -> Prop) (g : Nat) (S : List (List Wt)) (r : Rm) : Prop := ∃ Fs Fo R gs vC vB vG vE ps ts, Ru w Fs Fo R g gs S r vC vB vG vE ps ts /\ ∀ k, G k ↔ Fs k ∨ Fo k ∨ R k
section
variable {w w' : World} {G G' Fs Fs' Fo Fo' R R' F F' : Nat → Prop} {g gs : Nat} {S : List (List Wt)} {r : Rm} {vC vB vG vE : Value} {ps ts : List Nat}
theorem Stt.keep {s : St} (h : Stt w F g s) (hb : ∀ k, F k -> w'.heap[k]? = w.heap[k]?) (hs : w.heap.size <= w'.heap.size) : Stt w' F g s := by
 obtain ⟨vP, vM, vC, vA, vs, h⟩ := h
 exact ⟨_, _, _, _, _, h.keep hb hs⟩
theorem Ru.pl (h : Ru w Fs Fo R g gs S r vC vB vG vE ps ts) : ps.length = r.gs.length := by
 have := h.go.1
 simp [pts] at this
 omega
theorem Ru.keep (h : Ru w Fs Fo R g gs S r vC vB vG vE ps ts) (hb : ∀ k, Fs k ∨ Fo k ∨ R k -> w'.heap[k]? = w.heap[k]?) (hs : w.heap.size <= w'.heap.size) : Ru w' Fs Fo R g gs S r vC vB vG vE ps ts :=
 { h with
  at_ := (hb g (.inr (.inl h.fg))).trans h.at_
  st := h.st.keep (fun k hk => hb k (.inl hk)) hs
  ch := Zk h.ch fun k hk => hb k (.inr (.inl (h.fC k hk)))
  bg := h.bg.keep (fun k hk => hb k (.inr (.inr hk))) (fun _ h => h)
  go := Zk h.go fun k hk => hb k (.inr (.inl (h.fG k hk)))
  ev := Zk h.ev fun k hk => hb k (.inr (.inl (h.fE k hk)))
  gr := fun i x b t hx hp ht => by
   obtain ⟨h1, h2, h3⟩ := h.gr i x b t hx hp ht
   exact ⟨h1.keep (hb b (.inr (.inl h2))) (hb t (.inr (.inl h3))) (fun k hk => hb k (.inr (.inr hk))) (fun _ h => h), h2, h3⟩
  fb := fun k hk => Nat.lt_of_lt_of_le (h.fb k hk) hs
  rb := fun k hk => Nat.lt_of_lt_of_le (h.rb k hk) hs }
theorem Ru.lt (h : Ru w Fs Fo R g gs S r vC vB vG vE ps ts) {k : Nat} (hk : Fs k ∨ Fo k ∨ R k) : k < w.heap.size := by
 rcases hk with hk | hk | hk
 · exact h.st.fb k hk
 · exact h.fb k hk
 · exact h.rb k hk
theorem Ru.bel (h : Ru w Fs Fo R g gs S r vC vB vG vE ps ts) (hb : Below w.heap.size w w') : Ru w' Fs Fo R g gs S r vC vB vG vE ps ts := h.keep (fun k hk => hb.block k (h.lt hk)) hb.size
theorem Rn.fb (h : Rn w G g S r) : ∀ k, G k -> k < w.heap.size := by
 obtain ⟨Fs, Fo, R, gs, vC, vB, vG, vE, ps, ts, h, hG⟩ := h
 exact fun k hk => h.lt ((hG k).1 hk)
theorem Rn.keep (h : Rn w G g S r) (hb : ∀ k, G k -> w'.heap[k]? = w.heap[k]?) (hs : w.heap.size <= w'.heap.size) : Rn w' G g S r := by
 obtain ⟨Fs, Fo, R, gs, vC, vB, vG, vE, ps, ts, h, hG⟩ := h
 exact ⟨Fs, Fo, R, gs, vC, vB, vG, vE, ps, ts, h.keep (fun k hk => hb k ((hG k).2 hk)) hs, hG⟩
theorem Rn.bel (h : Rn w G g S r) (hb : Below w.heap.size w w') : Rn w' G g S r := h.keep (fun k hk => hb.block k (h.fb k hk)) hb.size
theorem Rn.ch (h : Rn w G g S r) (hc : Ch F F' w w') (hd : ∀ k, G k -> ¬ F k) : Rn w' G g S r /\ ∀ k, G k -> ¬ F' k :=
 ⟨h.keep (fun k hk => hc.blk k (h.fb k hk) (hd k hk)) hc.size, fun k hk hF => by
  rcases hc.grow k hF with h1 | h1
  · exact hd k hk h1
  · have := h.fb k hk
    omega⟩
theorem Rn.lt (h : Rn w G g S r) : g < w.heap.size := by
 obtain ⟨Fs, Fo, R, gs, vC, vB, vG, vE, ps, ts, h, hG⟩ := h
 exact h.fb g h.fg
theorem Ru.cells (h : Ru w Fs Fo R g gs S r vC vB vG vE ps ts) : (w.cell? ⟨g, 0, none⟩ = some (.pointer (some ⟨gs, 0, none⟩)) /\ w.cell? ⟨g, 1, none⟩ = some vC /\ w.cell? ⟨g, 2, none⟩ = some vB /\ w.cell? ⟨g, 3, none⟩ = some vG /\ w.cell? ⟨g, 4, none⟩ = some vE) ∧
 w.cell? ⟨g, 5, none⟩ = some (.int .i64 r.e.o) /\ w.cell? ⟨g, 6, none⟩ = some (.int .i64 r.e.f) /\ w.cell? ⟨g, 7, none⟩ = some (.int .i64 r.e.g) /\ w.cell? ⟨g, 8, none⟩ = some (.int .i64 r.e.n) /\ w.cell? ⟨g, 9, none⟩ = some (.int .i64 r.e.a) :=
 ⟨⟨Zb h.at_ 0 _ rfl, Zb h.at_ 1 _ rfl, Zb h.at_ 2 _ rfl, Zb h.at_ 3 _ rfl, Zb h.at_ 4 _ rfl⟩, Zb h.at_ 5 _ rfl, Zb h.at_ 6 _ rfl, Zb h.at_ 7 _ rfl, Zb h.at_ 8 _ rfl, Zb h.at_ 9 _ rfl⟩
theorem Ru.see (h : Ru w Fs Fo R g gs S r vC vB vG vE ps ts) {i : Nat} {x : Gr} (hx : r.gs[i]? = some x) :
 ∃ bG c b t va, vG = .slice (some ⟨bG, 0, none⟩) r.gs.length c /\ ps[i]? = some b /\ ts[i]? = some t /\ Fo b /\ Fo t /\ Gor w R b t x /\ YA w R va ∧
  (w.cell? ⟨bG, i, none⟩ = some (.pointer (some ⟨b, 0, none⟩)) /\ bG < w.heap.size /\ b < w.heap.size) ∧
  w.heap[b]? = some (.cells #[.iface 180 (.pointer (some ⟨t, 0, none⟩)), .int .i64 x.w.k, .int .i64 x.w.o, .int .i64 x.w.a, .int .i64 x.w.v.1, .int .i64 x.w.v.2.1, .int .u64 x.w.v.2.2, va] 155 (0, 0)) := by
 have hi := (List.getElem?_eq_some_iff.1 hx).1
 obtain ⟨bG, c, e, _⟩ := Zv h.go (by omega)
 subst e
 obtain ⟨b, hb⟩ : ∃ b, ps[i]? = some b := ⟨_, List.getElem?_eq_getElem (by rw [h.pl]; exact hi)⟩
 obtain ⟨t, ht⟩ : ∃ t, ts[i]? = some t := ⟨_, List.getElem?_eq_getElem (by rw [h.tl]; exact hi)⟩
 obtain ⟨h1, h2, h3⟩ := h.gr i x b t hx hb ht
 obtain ⟨va, vw, q1, q2, q3, q4⟩ := id h1
 exact ⟨bG, c, b, t, va, rfl, hb, ht, h2, h3, h1, q2, ⟨(Zm h.go i _ (pts_at hb)).1, h.fb _ (h.fG bG rfl), h.fb b h2⟩, q1⟩
end
theorem ZI {α : Type} {l : List α} {i : Int} {x : α} (h : lk l i = some x) : ∃ k : Nat, i = k /\ l[k]? = some x := by
 unfold lk at h
 split at h
 · rename_i h0
   exact ⟨i.toNat, by omega, h⟩
 · cases h
theorem Yv {α : Type} {l : List α} {i : Int} (h : lk l i = none) : i < 0 ∨ (l.length : Int) <= i := by
 unfold lk at h
 split at h
 · rename_i h0
   have := List.getElem?_eq_none_iff.1 h
   omega
 · omega
theorem lk_nat {α : Type} {l : List α} {k : Nat} : lk l (k : Int) = l[k]? := by simp [lk]
section
variable {w : World} {F : Nat → Prop} {g : Nat} {s : St} {p : List Addr}
theorem Locked_any (h : Stt w F g s) (h17 : E2 w p) (i : Int) : Calls Tryd.prog 15 #[.pointer (some ⟨g, 0, none⟩), .int .i64 i] w (Vb w (.bool ((lk s.M i).getD false))) := by
 cases hl : lk s.M i with
 | some b =>
  obtain ⟨k, rfl, hk⟩ := ZI hl
  exact (Locked_in h k b hk).mono fun e w' ⟨he, hw⟩ => ⟨he, hw ▸ Below.refl _ _⟩
 | none => exact Locked_out h h17 i (Yv hl)
def lenC (s : St) (i : Int) : Int := match lk s.C i with
 | some q => q.l.length
 | none => 0
theorem Len_any (h : Stt w F g s) (h17 : E2 w p) (i : Int) : Calls Tryd.prog 16 #[.pointer (some ⟨g, 0, none⟩), .int .i64 i] w (Vb w (.int .i64 (lenC s i))) := by
 unfold lenC
 cases hl : lk s.C i with
 | some q =>
  obtain ⟨k, rfl, hk⟩ := ZI hl
  exact (Len_in h k q hk).mono fun e w' ⟨he, hw⟩ => ⟨he, hw ▸ Below.refl _ _⟩
 | none => exact Len_out h h17 i (Yv hl)
end
section
variable {w : World} {F : Nat → Prop} {g : Nat} {s : St} {p : List Addr}
theorem turn_same (h : Stt w F g s) (i : Nat) (x : Bool) (hx : s.M[i]? = some x) : Calls Tryd.prog 86 #[.pointer (some ⟨g, 0, none⟩), .int .i64 (i : Nat), .bool x] w fun e w' => e = .returned (.tuple #[.bool false, .nilIface]) /\ w = w' := by
 obtain ⟨vP, vM, vC, vA, vs, h⟩ := h
 have hi : i < s.M.length := (List.getElem?_eq_some_iff.1 hx).1
 obtain ⟨b, c, e, hc, hm⟩ := Zv h.mu (by omega)
 have hsm := h.small
 obtain ⟨n, hn⟩ : ∃ n, n = s.M.length := ⟨_, rfl⟩
 rw [← hn] at e hi hc
 have hn32 : n <= 32 := by omega
 subst e
 have HN := Za hn
 have c1 := h.cells.2.1
 obtain ⟨d1, d2⟩ := Zm h.mu i _ (bls_at hx)
 have hl := (h.fb b (h.fM b rfl))
 clear h hsm hc hm hn
 go_enter Tryd.func86, Tryd.ntmps86
 go_wp2_with fail
 refine (Yj b n c i _ hi).mono ?_
 rintro e w1 ⟨rfl, rfl⟩
 go_wp2_with fail
 go_ret2
 exact ⟨rfl, rfl⟩
theorem Unlock_same (h : Stt w F g s) (i : Nat) (hx : s.M[i]? = some false) : Calls Tryd.prog 51 #[.pointer (some ⟨g, 0, none⟩), .int .i64 (i : Nat)] w fun e w' => e = .returned (.tuple #[.bool false, .nilIface]) /\ w = w' := by
 have T := Za (turn_same h i false hx)
 clear h hx
 go_enter Tryd.func51, Tryd.ntmps51
 go_wp2_with fail
 refine T.out.mono ?_
 rintro e w1 ⟨rfl, rfl⟩
 go_wp2_with fail
 go_ret2
 exact ⟨rfl, rfl⟩
end
theorem aisOf_any (t n b ty : Int) (w : World) : Calls Tryd.prog 113 #[.agg #[.int .i64 t, .int .i64 n, .int .u64 b], .int .i64 ty] w (Vb w (.bool (isB t n b ty))) := by
 have HB := Za (Zd w (.cells #[.int .i64 t, .int .i64 n, .int .u64 b] 41))
 have V0 := Val.new w t n b
 obtain ⟨z, hz⟩ : ∃ z, Yh t n b = z := ⟨_, rfl⟩
 have GA : ∀ w, Calls Tryd.prog 99 #[.agg #[.int .i64 t, .int .i64 n, .int .u64 b]] w (Vb w (.bool z)) := fun w => by
  have := good_any t n b w
  rw [hz] at this
  exact this
 obtain ⟨g, hg⟩ : ∃ g, isB t n b ty = g := ⟨_, rfl⟩
 rw [hg]
 unfold isB at hg
 rw [hz] at hg
 have HG := Za hg
 clear hg hz
 cases z with
 | true =>
  go_enter Tryd.func113, Tryd.ntmps113
  go_wp2_with fail
  refine (GA _).mono ?_
  rintro e w1 ⟨rfl, hb⟩
  obtain ⟨_, c0, _, _⟩ := (V0.al hb).all
  go_wp2_with fail
  go_ret
  exact Vb.mk (congrArg Value.bool (by rw [← HG.out]; simp)) (Zi HB.out hb)
 | false =>
  go_enter Tryd.func113, Tryd.ntmps113
  go_wp2_with fail
  refine (GA _).mono ?_
  rintro e w1 ⟨rfl, hb⟩
  go_wp2_with fail
  go_ret
  exact Vb.mk (congrArg Value.bool (by rw [← HG.out]; simp)) (Zi HB.out hb)
def Wv (w : World) (b : Nat) (k o a : Int) (v : V3) (va : Value) : Prop := w.heap[b]? = some (.cells #[.int .i64 k, .int .i64 o, .int .i64 a, .int .i64 v.1, .int .i64 v.2.1, .int .u64 v.2.2, va] 135 (0, 0))
theorem Wv.new (w : World) (k o a v0 v1 v2 : Int) (va : Value) : Wv (w.alloc (.cells #[.int .i64 k, .int .i64 o, .int .i64 a, .int .i64 v0, .int .i64 v1, .int .u64 v2, va] 135)) w.heap.size k o a (v0, v1, v2) va := B_ _ _
theorem Wv.lt {w : World} {b : Nat} {k o a : Int} {v : V3} {va : Value} (h : Wv w b k o a v va) : b < w.heap.size := Ze h
theorem Wv.al {w w' : World} {b : Nat} {k o a : Int} {v : V3} {va : Value} (h : Wv w b k o a v va) (hb : Below w.heap.size w w') : Wv w' b k o a v va := (hb.block b h.lt).trans h
theorem Wv.all {w : World} {b : Nat} {k o a v0 v1 v2 : Int} {va : Value} (h : Wv w b k o a (v0, v1, v2) va) : w.cell? ⟨b, 0, none⟩ = some (.int .i64 k) /\ w.cell? ⟨b, 1, none⟩ = some (.int .i64 o) /\ w.cell? ⟨b, 2, none⟩ = some (.int .i64 a) /\ w.cell? ⟨b, 3, none⟩ = some (.int .i64 v0) /\ w.cell? ⟨b, 4, none⟩ = some (.int .i64 v1) /\ w.cell? ⟨b, 5, none⟩ = some (.int .u64 v2) /\ w.cell? ⟨b, 6, none⟩ = some va :=
 ⟨Zb h 0 _ rfl, Zb h 1 _ rfl, Zb h 2 _ rfl, Zb h 3 _ rfl, Zb h 4 _ rfl, Zb h 5 _ rfl, Zb h 6 _ rfl⟩
theorem hasMutex_any {w : World} {F : Nat -> Prop} {g : Nat} {s : St} {p : List Addr} (h : Stt w F g s) (h17 : E2 w p) (i : Int) : Calls Tryd.prog 103 #[.pointer (some ⟨g, 0, none⟩), .int .i64 i] w (Vb w (.bool (lk s.M i).isSome)) := by
 have L := Za (Locked_any h h17 i)
 have hgl := h.lt
 cases hl : lk s.M i with
 | some b =>
  cases b with
  | true =>
   rw [hl] at L
   clear h h17 hl
   go_enter Tryd.func103, Tryd.ntmps103
   go_wp2_with fail
   refine L.out.mono ?_
   rintro e w1 ⟨rfl, hb⟩
   go_wp2_with fail
   go_ret
   exact Vb.mk rfl hb
  | false =>
   rw [hl] at L
   obtain ⟨k, rfl, hk⟩ := ZI hl
   have U := Za (fun (w1 : World) (hb : Below w.heap.size w w1) => Unlock_same (h.bel hb) k hk)
   clear h h17 hl hk
   go_enter Tryd.func103, Tryd.ntmps103
   go_wp2_with fail
   refine L.out.mono ?_
   rintro e w1 ⟨rfl, hb⟩
   go_wp2_with fail
   refine (U.out w1 hb).mono ?_
   rintro e w2 ⟨rfl, rfl⟩
   go_wp2_with fail
   go_ret
   exact Vb.mk rfl hb
 | none =>
  rw [hl] at L
  have U := Za (fun (w1 : World) (hb : Below w.heap.size w w1) => Unlock_out (h.bel hb) (h17.below (Nat.le_refl _) hb) i (Yv hl))
  clear h h17 hl
  unfold errV at *
  generalize adr p 0 = ad at *
  go_enter Tryd.func103, Tryd.ntmps103
  go_wp2_with fail
  refine L.out.mono ?_
  rintro e w1 ⟨rfl, hb⟩
  go_wp2_with fail
  refine (U.out w1 hb).mono ?_
  rintro e w2 ⟨rfl, hb2⟩
  go_wp2_with fail
  go_ret
  exact Vb.mk rfl (Zi hb hb2)
theorem canAccess_any {w : World} {F : Nat -> Prop} {g : Nat} {s : St} {p : List Addr} (h : Stt w F g s) (h17 : E2 w p) (k o a v0 v1 v2 : Int) (va : Value) :
 Calls Tryd.prog 102 #[.pointer (some ⟨g, 0, none⟩), .agg #[.int .i64 k, .int .i64 o, .int .i64 a, .int .i64 v0, .int .i64 v1, .int .u64 v2, va]] w (Vb w (.bool (canA s ⟨k, o, a, (v0, v1, v2)⟩))) := by
 have B0 := Za (Zd w (.cells #[.int .i64 k, .int .i64 o, .int .i64 a, .int .i64 v0, .int .i64 v1, .int .u64 v2, va] 135))
 have V0 := Za (Wv.new w k o a v0 v1 v2 va)
 obtain ⟨z, hz⟩ : ∃ z, canA s ⟨k, o, a, (v0, v1, v2)⟩ = z := ⟨_, rfl⟩
 rw [hz]
 unfold canA at hz
 simp only at hz
 cases hl : lk s.P o with
 | none =>
  rw [hl] at hz
  subst hz
  have U := Za (Read_out (h.bel B0.out) (h17.below (Nat.le_refl _) B0.out) o (Yv hl))
  clear h h17 hl
  unfold errV at *
  generalize adr p 0 = ad at *
  go_enter Tryd.func102, Tryd.ntmps102
  go_wp2_with fail
  refine U.out.mono ?_
  rintro e w1 ⟨rfl, hb⟩
  have B1 := Za (Zu (Zi B0.out hb) (.cells #[.int .i64 0, .int .i64 0, .int .u64 0] 41))
  clear hb U
  go_wp2_with fail
  go_ret
  exact Vb.mk rfl B1.out
 | some x =>
  obtain ⟨x0, x1, x2⟩ := x
  rw [hl] at hz
  simp only at hz
  obtain ⟨n, rfl, hn⟩ := ZI hl
  have U := Za (Read_in (h.bel B0.out) n (x0, x1, x2) hn)
  have HZ := Za hz
  clear h h17 hl hn hz
  by_cases hk : k = 1
  · subst hk
    have hzt : z = true := by rw [← HZ.out]; rfl
    subst hzt
    clear HZ
    go_enter Tryd.func102, Tryd.ntmps102
    go_wp2_with fail
    refine U.out.mono ?_
    rintro e w1 ⟨rfl, hb⟩
    have B1 := Za (Zu (Zi B0.out hb) (.cells #[.int .i64 x0, .int .i64 x1, .int .u64 x2] 41))
    have V1 := V0.out.al hb
    obtain ⟨q0, q1, q2, q3, q4, q5, q6⟩ := V1.all
    have hwl := V1.lt
    clear hb U V0 V1
    go_wp2_with fail
    go_ret
    exact Vb.mk rfl B1.out
  · have hzt : z = isB v0 v1 v2 x0 := by rw [← HZ.out]; simp [hk, isV]
    have hkb : (k == 1) = false := by simp [hk]
    clear HZ
    have Iq := fun w => aisOf_any v0 v1 v2 x0 w
    rw [← hzt] at Iq
    clear hzt
    go_enter Tryd.func102, Tryd.ntmps102
    go_wp2_with fail
    refine U.out.mono ?_
    rintro e w1 ⟨rfl, hb⟩
    have B1 := Za (Zu (Zi B0.out hb) (.cells #[.int .i64 x0, .int .i64 x1, .int .u64 x2] 41))
    have V1 := V0.out.al hb
    obtain ⟨q0, q1, q2, q3, q4, q5, q6⟩ := V1.all
    have hwl := V1.lt
    clear hb U V0 V1
    go_wp2_with fail
    refine (Iq _).mono ?_
    rintro e w3 ⟨rfl, hb⟩
    have B2 := Za (Zi B1.out hb)
    clear hb
    go_wp2_with fail
    go_ret
    exact Vb.mk rfl B2.out
theorem canCount_any {w : World} {F : Nat -> Prop} {g : Nat} {s : St} {p : List Addr} (h : Stt w F g s) (h17 : E2 w p) (k o a v0 v1 v2 : Int) (va : Value) :
 Calls Tryd.prog 105 #[.pointer (some ⟨g, 0, none⟩), .agg #[.int .i64 k, .int .i64 o, .int .i64 a, .int .i64 v0, .int .i64 v1, .int .u64 v2, va]] w (Vb w (.bool (canC s ⟨k, o, a, (v0, v1, v2)⟩))) := by
 have B0 := Za (Zd w (.cells #[.int .i64 k, .int .i64 o, .int .i64 a, .int .i64 v0, .int .i64 v1, .int .u64 v2, va] 135))
 have V0 := Za (Wv.new w k o a v0 v1 v2 va)
 obtain ⟨z, hz⟩ : ∃ z, canC s ⟨k, o, a, (v0, v1, v2)⟩ = z := ⟨_, rfl⟩
 rw [hz]
 unfold canC at hz
 simp only at hz
 cases hl : lk s.A o with
 | none =>
  rw [hl] at hz
  subst hz
  have U := Za (Get_out (h.bel B0.out) (h17.below (Nat.le_refl _) B0.out) o (Yv hl))
  clear h h17 hl
  unfold errV at *
  generalize adr p 0 = ad at *
  go_enter Tryd.func105, Tryd.ntmps105
  go_wp2_with fail
  refine U.out.mono ?_
  rintro e w1 ⟨rfl, hb⟩
  have B1 := Za (Zi B0.out hb)
  clear hb U
  go_wp2_with fail
  go_ret
  exact Vb.mk rfl B1.out
 | some x =>
  rw [hl] at hz
  simp only at hz
  obtain ⟨n, rfl, hn⟩ := ZI hl
  have U := Za (Get_in (h.bel B0.out) n x hn)
  have HZ := Za hz
  clear h h17 hl hn hz
  by_cases hk : k = 7
  · subst hk
    have hzt : z = true := by rw [← HZ.out]; rfl
    subst hzt
    clear HZ
    go_enter Tryd.func105, Tryd.ntmps105
    go_wp2_with fail
    refine U.out.mono ?_
    rintro e w1 ⟨rfl, rfl⟩
    clear U
    generalize w.alloc _ = w2 at *
    obtain ⟨q0, q1, q2, q3, q4, q5, q6⟩ := V0.out.all
    go_wp2_with fail
    go_ret
    exact Vb.mk rfl B0.out
  · have hzt : z = isB v0 v1 v2 1 := by rw [← HZ.out]; simp [hk, isV]
    have hkb : (k == 7) = false := by simp [hk]
    clear HZ
    have Iq := fun w => aisOf_any v0 v1 v2 1 w
    rw [← hzt] at Iq
    clear hzt
    go_enter Tryd.func105, Tryd.ntmps105
    go_wp2_with fail
    refine U.out.mono ?_
    rintro e w1 ⟨rfl, rfl⟩
    clear U
    generalize w.alloc _ = w2 at *
    obtain ⟨q0, q1, q2, q3, q4, q5, q6⟩ := V0.out.all
    go_wp2_with fail
    refine (Iq _).mono ?_
    rintro e w3 ⟨rfl, hb⟩
    have B2 := Za (Zi B0.out hb)
    clear hb
    go_wp2_with fail
    go_ret
    exact Vb.mk rfl B2.out
theorem still_of_quiet {P : Program} {ops : Array Oper} {w : World} {Q : Act -> Prop} : ∀ (l : List Oper) (a : Act), wpQuiet P ops (fun w' => w' = w) Q l a -> wpStill P ops w Q l a
 | [], _, h => h
 | o :: rest, a, h => by
  unfold wpQuiet at h
  unfold wpStill
  split
  · rename_i hw
    rw [if_pos hw] at h
    obtain ⟨v, hv, hn⟩ := h
    have hv := hv w rfl
    have hn := still_of_quiet rest _ hn
    unfold Oper.quietAt at hv
    unfold Oper.still
    generalize (execOp a.eval o).run P w = r at *
    cases r with
    | ok n w' =>
     cases n <;> simp only [Oper.quietUpon, Oper.stillUpon] at hv ⊢
     case enter f args => exact ⟨hv.1, v, hv.2, hn⟩
     case value u => exact ⟨hv.1, by rw [hv.2]; exact hn⟩
     case skip => exact ⟨hv.1, by rw [← hv.2]; exact hn⟩
    | halt x w' => simp only [Oper.quietUpon] at hv
  · rename_i hw
    rw [if_neg hw] at h
    exact still_of_quiet rest _ h
theorem ZT {P : Program} {id : Nat} {Q : Exit -> Act -> World -> Prop} {a : Act} {w : World} {l : List Oper} (n : Nat) (hm : P.follows .mixedOrders = true) (hB : Region.lexTailB .any l.toArray n = true)
 (h : wpQuiet P l.toArray (fun w' => w' = w.drew) (fun a' => wpList P l.toArray Q (l.drop n) a' w.drew) (l.take n) a) : (Code.region id l.toArray true).wp P Q a w :=
 wp_region_still_tail n hm hB (still_of_quiet _ _ h)
theorem idx_none {α : Type} {f : α -> Bool} {d : α} : ∀ {l : List α}, (∀ j, j < l.length -> f (l.getD j d) = false) -> l.findIdx? f = none
 | [], _ => rfl
 | x :: l, h => by
  have h0 : f x = false := h 0 (by simp)
  have h1 := idx_none (f := f) (d := d) (l := l) fun j hj => by simpa using h (j + 1) (by simpa using hj)
  rw [List.findIdx?_cons, h0, h1]
  rfl
theorem idx_some {α : Type} {f : α -> Bool} {d : α} : ∀ {l : List α} {k : Nat}, k < l.length -> (∀ j, j < k -> f (l.getD j d) = false) -> f (l.getD k d) = true -> l.findIdx? f = some k
 | [], k, hk, _, _ => by simp at hk
 | x :: l, 0, _, _, hf => by
  have h0 : f x = true := hf
  rw [List.findIdx?_cons, h0]
  rfl
 | x :: l, k + 1, hk, h, hf => by
  have h0 : f x = false := h 0 (by omega)
  have h1 := idx_some (f := f) (d := d) (l := l) (k := k) (by simpa using hk) (fun j hj => by simpa using h (j + 1) (by omega)) (by simpa using hf)
  rw [List.findIdx?_cons, h0, h1]
  rfl
def recvI (gs : List Gr) (c : Int) : Int := match recvR gs c with
 | some t => t
 | none => -1
def dG : Gr := ⟨[], zW⟩
theorem recv1_any (b cb : Nat) (k o c : Int) {w : World} (hk : w.cell? ⟨b, 1, none⟩ = some (.int .i64 k)) (ho : w.cell? ⟨b, 2, none⟩ = some (.int .i64 o)) (hc : w.cell? ⟨cb, 0, none⟩ = some (.int .i64 c)) :
 Calls Tryd.prog 117 #[.pointer (some ⟨b, 0, none⟩), .pointer (some ⟨cb, 0, none⟩)] w (Vb w (.bool (k == 6 && o == c))) := by
 by_cases h6 : k = 6
 · subst h6
   obtain ⟨z, hz⟩ : ∃ z, ((6 : Int) == 6 && o == c) = z := ⟨_, rfl⟩
   rw [hz]
   have HZ := Za hz
   clear hz
   go_enter Tryd.func117, Tryd.ntmps117
   go_wp2_with fail
   go_quiet (fail)
   go_wp2_with fail
   go_ret
   exact Vb.mk (by rw [← HZ.out]; simp) (below_drewN (Below.refl _ _) _)
 · have e : (k == 6) = false := by simp [h6]
   rw [e]
   go_enter Tryd.func117, Tryd.ntmps117
   go_wp2_with fail
   go_quiet (fail)
   go_wp2_with fail
   go_ret
   exact Vb.mk rfl (below_drewN (Below.refl _ _) _)
theorem index_go (a : Option Addr) (n cG cb : Nat) (c : Int) (gs : List Gr) {w : World} (hn : n = gs.length) (hn8 : n <= 8) (hcb : w.cell? ⟨cb, 0, none⟩ = some (.int .i64 c)) (hcl : cb < w.heap.size)
 (hac : ∀ i, i < n -> ∃ bG b, a = some ⟨bG, 0, none⟩ /\ bG < w.heap.size /\ b < w.heap.size /\ w.cell? ⟨bG, i, none⟩ = some (.pointer (some ⟨b, 0, none⟩)) /\ w.cell? ⟨b, 1, none⟩ = some (.int .i64 (gs.getD i dG).w.k) /\ w.cell? ⟨b, 2, none⟩ = some (.int .i64 (gs.getD i dG).w.o)) :
 Calls Tryd.prog 116 #[.slice a n cG, .func (.func 117) #[] #[.pointer (some ⟨cb, 0, none⟩)]] w (Vb w (.int .i64 (recvI gs c))) := by
 have hs : Hid ((∀ j, j < n -> recvs c (gs.getD j dG) = false) -> recvI gs c = -1) := fun h => by
  unfold recvI recvR
  rw [idx_none (fun j hj => h j (by omega))]
 have hs2 : Hid (∀ k, k < n -> (∀ j, j < k -> recvs c (gs.getD j dG) = false) -> recvs c (gs.getD k dG) = true -> recvI gs c = k) := fun k hk h1 h2 => by
  unfold recvI recvR
  rw [idx_some (by omega) h1 h2]
 clear hn
 generalize recvI gs c = r at *
 go_enter Tryd.func116, Tryd.ntmps116
 go_wp2_with fail
 go_loopw [5, 8] (fun u i wr => ∃ k : Nat, k <= n /\ i = .int .i64 k /\ Hid (∀ j, j < k -> recvs c (gs.getD j dG) = false) /\ Hid (Below w.heap.size w wr)) (fun u i _ => n - (intOf i).toNat)
 case atStart => exact ⟨0, Nat.zero_le _, rfl, fun j hj => absurd hj (Nat.not_lt_zero _), Below.refl _ _⟩
 case round =>
  obtain ⟨k, hk, rfl, hall, hbel⟩ := hrel
  by_cases hlt : k < n
  · obtain ⟨bG, b, rfl, hbG, hb, hc1, hc2, hc3⟩ := hac k hlt
    have RC := Za (recv1_any b cb _ _ c ((hbel.out.cell (p := ⟨b, 1, none⟩) hb).trans hc2) ((hbel.out.cell (p := ⟨b, 2, none⟩) hb).trans hc3) ((hbel.out.cell (p := ⟨cb, 0, none⟩) hcl).trans hcb))
    rw [← hbel.out.cell (p := ⟨bG, k, none⟩) hbG] at hc1
    have h1 : (k : Int) < (n : Int) := by omega
    have hne := Za (hs2.out k hlt hall.out)
    have hstep : Hid (recvs c (gs.getD k dG) = false -> ∀ j, j < k + 1 -> recvs c (gs.getD j dG) = false) := fun e j hj => by
     by_cases ej : j = k
     · rw [ej]; exact e
     · exact hall.out j (by omega)
    have hrc : recvs c (gs.getD k dG) = ((gs.getD k dG).w.k == 6 && (gs.getD k dG).w.o == c) := rfl
    rw [← hrc] at RC
    have hbl := Nat.lt_of_lt_of_le hb hbel.out.size
    clear hac hs hs2 hall hc2 hc3 hrc
    generalize recvs c (gs.getD k dG) = x at *
    go_wp2_with fail
    refine RC.out.mono ?_
    rintro e w1 ⟨rfl, hb1⟩
    have hbel2 := Za (Zi hbel.out hb1)
    cases x with
    | true =>
     have hr := Za (hne.out rfl)
     clear hne hstep
     go_wp2_with fail
     go_ret
     exact Vb.mk (by rw [hr.out]; rfl) hbel2.out
    | false =>
     have hr := Za (hstep.out rfl)
     clear hne hstep
     go_wp2_with fail
     go_roundw
     case rel => exact ⟨k + 1, by omega, by go_num, hr, hbel2⟩
     case measure => simp [intOf]; omega
  · have e : k = n := by omega
    subst e
    have hs3 := Za (hs.out hall.out)
    clear hac hs hs2 hall
    go_wp2_with fail
    go_ret
    exact Vb.mk (by rw [hs3.out]; rfl) hbel.out
theorem getD_of_some {α : Type} {l : List α} {i : Nat} {x d : α} (h : l[i]? = some x) : l.getD i d = x := by rw [List.getD_eq_getElem?_getD, h]; rfl
theorem receiver_any {w : World} {G : Nat -> Prop} {g : Nat} {S : List (List Wt)} {r : Rm} (h : Rn w G g S r) (c : Int) : Calls Tryd.prog 114 #[.pointer (some ⟨g, 0, none⟩), .int .i64 c] w (Vb w (.int .i64 (recvI r.gs c))) := by
  obtain ⟨Fs, Fo, R, gs, vC, vB, vG, vE, ps, ts, h, hG⟩ := h
  have B0 := Zd w (.cells #[.int .i64 c] 3)
  have h1 := h.bel B0
  obtain ⟨a, cG, e, _⟩ := Zo h.go
  subst e
  have c3 := h.cells.1.2.2.2.1
  have hgl := h.fb g h.fg
  obtain ⟨n, hn⟩ : ∃ n, n = r.gs.length := ⟨_, rfl⟩
  have IX := Za (index_go a n cG w.heap.size c r.gs hn (by have := h.n8; omega) (Zb (B_ w (.cells #[.int .i64 c] 3)) 0 _ rfl) (by have := Ze (B_ w (.cells #[.int .i64 c] 3)); exact this) (fun i hi => by
    obtain ⟨x, hx⟩ : ∃ x, r.gs[i]? = some x := ⟨_, List.getElem?_eq_getElem (by omega)⟩
    obtain ⟨bG, c', b, t, va, e1, _, _, _, _, _, _, ⟨q1, q2, q3⟩, q4⟩ := h1.see hx
    cases e1
    rw [getD_of_some hx]
    exact ⟨bG, b, rfl, q2, q3, q1, Zb q4 1 _ rfl, Zb q4 2 _ rfl⟩))
  rw [← hn] at c3
  have HB := Za B0
  have hmf : ∀ (fn : Fn) (first cap : Array Value) (w : World), (Instr.makeFunc fn first cap).run Tryd.prog w = .ok (.func fn first cap) w := fun _ _ _ _ => rfl
  clear h h1 B0 hn hG
  go_enter Tryd.func114, Tryd.ntmps114
  go_wp2_with fail
  refine IX.out.mono ?_
  rintro e w1 ⟨rfl, hb⟩
  go_wp2_with fail
  go_ret
  exact Vb.mk rfl (Zi HB.out hb)
end Go.Proofs.YtghfjnnmpmfboaaDoor.Ck
