/- Texts of this proof, packed: contracts of the program's functions, and the plain model that they are held against. -/
import Derived.Test.YtfojninaginnoaaGreatDoorQac
import Derived.Deep.AppendSrc
set_option maxRecDepth 20000
set_option maxHeartbeats 4000000
namespace Go.Proofs.YtfojninaginnoaaGreatDoor.Ck
open Go.RowKit
theorem ZU {TS : TypeId} {w : World} {ops : Array Oper} {rest : List Oper} {o : Oper} {a : Act} {Q : Exit -> Act -> World -> Prop} (hgd : o.guard = none) (s x : Operand)
 (ho : o.op = .call { callee := .builtin .append, args := #[s, x], argTypes := #[TS, TS] }) (v vx : Value) (hs : a.eval s = v) (hx : a.eval x = vx) (R : Value -> World -> Prop)
 (hrun : ∃ v' w', (Builtin.append_ #[TS, TS] o.type #[v, vx]).run Tryz.prog w = .ok v' w' /\ R v' w')
 (h : ∀ v' w', R v' w' -> wpList Tryz.prog ops Q rest (a.put o.dst v') w') : wpList Tryz.prog ops Q (o :: rest) a w :=
 wpList_plain hgd fun _ hK => by
  obtain ⟨v', w', hr, hR⟩ := hrun
  unfold Oper.wp execOp
  simp only [ho, resolve, invoke, builtin, Sem.run_bind, Sem.run_pure, Result.andThen_ok, List.map_toArray, List.map_cons, List.map_nil, hs, hx, hr]
  exact hK _ _ (h v' w' hR)
theorem rnew_any (vPl vCh : Value) (ps : List Int) (cs : List (Int × Int)) (m a : Int) {w : World} (hP : Sl w vPl ps) (hC : SlC w vCh cs) : Calls Tryz.prog 22 #[vPl, I_ m, vCh, I_ a] w (RNewP w (okN ps m cs a) (newS ps m cs a)) := by
  obtain ⟨aP, lP, cP, rfl, hlP⟩ := hP.slice
  obtain ⟨aC, cC, eC, hcC, _, hcc⟩ := id hC
  obtain ⟨lC, hlC⟩ : ∃ n, n = cs.length := ⟨_, rfl⟩
  rw [← hlC] at eC hcC hcc
  subst eC
  have HP := Za (fun i hi => hP.at i hi)
  have HC := Za hcc
  clear hP hC hcc
  by_cases k0 : 128 < lP
  · have HOK : Hid (okN ps m cs a = false) := Za (by unfold okN fitB; simp; omega)
    have k0' : (128 : Int) < (lP : Int) := by omega
    clear hlP hlC hcC
    go_enter Tryz.func22, Tryz.ntmps22
    go_wp2_with fail
    go_ret2
    exact .inl ⟨HOK.out, rfl, Below.refl _ _⟩
  have k0' : (lP : Int) <= 128 := by omega
  by_cases k1 : m < 0
  · have HOK : Hid (okN ps m cs a = false) := Za (by unfold okN fitB; simp; omega)
    skip
    clear hlP hlC hcC
    go_enter Tryz.func22, Tryz.ntmps22
    go_wp2_with fail
    go_ret2
    exact .inl ⟨HOK.out, rfl, Below.refl _ _⟩
  have k1' : 0 <= m := by omega
  by_cases k2 : 32 < m
  · have HOK : Hid (okN ps m cs a = false) := Za (by unfold okN fitB; simp; omega)
    skip
    clear hlP hlC hcC
    go_enter Tryz.func22, Tryz.ntmps22
    go_wp2_with fail
    go_ret2
    exact .inl ⟨HOK.out, rfl, Below.refl _ _⟩
  have k2' : m <= 32 := by omega
  by_cases k3 : a < 0
  · have HOK : Hid (okN ps m cs a = false) := Za (by unfold okN fitB; simp; omega)
    skip
    clear hlP hlC hcC
    go_enter Tryz.func22, Tryz.ntmps22
    go_wp2_with fail
    go_ret2
    exact .inl ⟨HOK.out, rfl, Below.refl _ _⟩
  have k3' : 0 <= a := by omega
  by_cases k4 : 32 < a
  · have HOK : Hid (okN ps m cs a = false) := Za (by unfold okN fitB; simp; omega)
    skip
    clear hlP hlC hcC
    go_enter Tryz.func22, Tryz.ntmps22
    go_wp2_with fail
    go_ret2
    exact .inl ⟨HOK.out, rfl, Below.refl _ _⟩
  have k4' : a <= 32 := by omega
  by_cases k5 : 32 < lC
  · have HOK : Hid (okN ps m cs a = false) := Za (by unfold okN fitB; simp; omega)
    have k5' : (32 : Int) < (lC : Int) := by omega
    clear hlP hlC hcC
    go_enter Tryz.func22, Tryz.ntmps22
    go_wp2_with fail
    go_ret2
    exact .inl ⟨HOK.out, rfl, Below.refl _ _⟩
  have k5' : (lC : Int) <= 32 := by omega
  obtain ⟨mn, rfl⟩ := Int.eq_ofNat_of_zero_le k1'
  obtain ⟨an, rfl⟩ := Int.eq_ofNat_of_zero_le k3'
  have hmn : mn <= 32 := by omega
  have han : an <= 32 := by omega
  have hlC32 : lC <= 32 := by omega
  have HLP := Za hlP
  have HLC := Za hlC
  have HSZ : Hid (ps.any badT = false -> cs.any badC = false -> okN ps (mn : Nat) cs (an : Nat) = true) := Za (fun h1 h2 => by unfold okN fitB; simp [h1, h2]; omega)
  have HB1 : Hid (ps.any badT = true -> okN ps (mn : Nat) cs (an : Nat) = false) := Za (fun h1 => by unfold okN; simp [h1])
  have HB2 : Hid (cs.any badC = true -> okN ps (mn : Nat) cs (an : Nat) = false) := Za (fun h1 => by unfold okN; simp [h1])
  clear k0 k1 k2 k3 k4 k5 k1' k3' hlP hlC
  go_enter Tryz.func22, Tryz.ntmps22
  go_wp2_with fail
  go_cut [10] from 39 to 44 (fun x wc => ∃ g, x = P_ g /\ Hid (RMk w wc g ⟨[], List.replicate mn false, [], List.replicate an 0⟩))
  case first =>
    have B0 := Za (Zp (Below.refl w.heap.size w))
    refine wp_region_any ZK ?_
    change wpAny _ _ _ _ _ _ _ (World.drew _)
    generalize World.drew _ = W0 at *
    refine T2_ 0 ?_
    simp only [Act.put, S_]
    refine T2_ 2 ?_
    simp only [Act.put, S_]
    refine wpAny_ready (rs := [1, 3]) (by kernel_rfl) (by decide) ?_
    refine AllReady.cons rfl (fun K1 hK1 => ?_) (AllReady.cons rfl (fun K1 hK1 => ?_) AllReady.nil)
    · have q := run_mkB mn hmn
      go_simp
      refine hK1 _ _ ?_
      clear hK1 K1 q
      refine R_ 3 (fun K1 hK1 => ?_)
      have q := run_mkI an han
      go_simp
      refine hK1 _ _ ?_
      clear hK1 K1 q
      refine T2_ 4 ?_
      simp only [Act.put, S_]
      refine R_ 5 (fun K1 hK1 => ?_)
      go_simp
      refine hK1 _ _ ?_
      clear hK1 K1
      refine T2_ 6 ?_
      simp only [Act.put, S_]
      refine wpAny_done (by kernel_rfl) ?_ _
      have h1 := own_made W0 (.bool false) mn 4 hmn
      have h2 := own_made (W0.alloc (.cells (madeCells #[.bool false] mn) 4)) (I_ 0) an 3 han
      have hs1 : (W0.alloc (.cells (madeCells #[.bool false] mn) 4)).heap.size = W0.heap.size + 1 := by simp
      have hs2 : ((W0.alloc (.cells (madeCells #[.bool false] mn) 4)).alloc (.cells (madeCells #[I_ 0] an) 3)).heap.size = W0.heap.size + 1 + 1 := by simp
      rw [hs1] at h2
      have hz := B0.out.size
      have h3 := Zj h1 (fun k hk => (Zd _ (.cells (madeCells #[I_ 0] an) 3)).block k (Zf h1 hk).2.1)
      have h4 := Zj h3 (fun k hk => (Zd _ (.cells #[.slice none 0 0, .slice (some ⟨W0.heap.size, 0, none⟩) mn mn, .slice none 0 0, .slice none 0 0, .slice none 0 0, .slice (some ⟨W0.heap.size + 1, 0, none⟩) an an] 91)).block k (Zf h3 hk).2.1)
      have h5 := Zj h2 (fun k hk => (Zd _ (.cells #[.slice none 0 0, .slice (some ⟨W0.heap.size, 0, none⟩) mn mn, .slice none 0 0, .slice none 0 0, .slice none 0 0, .slice (some ⟨W0.heap.size + 1, 0, none⟩) an an] 91)).block k (Zf h2 hk).2.1)
      have M0 := Za (rmk_new (w := w) hmn han rfl rfl h4 h5 (hs2 ▸ B_ ((W0.alloc (.cells (madeCells #[.bool false] mn) 4)).alloc (.cells (madeCells #[I_ 0] an) 3)) (.cells #[.slice none 0 0, .slice (some ⟨W0.heap.size, 0, none⟩) mn mn, .slice none 0 0, .slice none 0 0, .slice none 0 0, .slice (some ⟨W0.heap.size + 1, 0, none⟩) an an] 91)) ⟨by omega, by omega, by omega⟩ (Zu (Zu (Zu B0.out _) _) _))
      clear h1 h2 h3 h4 h5 hs1 hs2
      go_wp2_with fail
      go_meet
      case rel => exact ⟨_, rfl, M0⟩
    · have q := run_mkI an han
      go_simp
      refine hK1 _ _ ?_
      clear hK1 K1 q
      refine R_ 1 (fun K1 hK1 => ?_)
      have q := run_mkB mn hmn
      go_simp
      refine hK1 _ _ ?_
      clear hK1 K1 q
      refine T2_ 4 ?_
      simp only [Act.put, S_]
      refine R_ 5 (fun K1 hK1 => ?_)
      go_simp
      refine hK1 _ _ ?_
      clear hK1 K1
      refine T2_ 6 ?_
      simp only [Act.put, S_]
      refine wpAny_done (by kernel_rfl) ?_ _
      have h1 := own_made W0 (I_ 0) an 3 han
      have h2 := own_made (W0.alloc (.cells (madeCells #[I_ 0] an) 3)) (.bool false) mn 4 hmn
      have hs1 : (W0.alloc (.cells (madeCells #[I_ 0] an) 3)).heap.size = W0.heap.size + 1 := by simp
      have hs2 : ((W0.alloc (.cells (madeCells #[I_ 0] an) 3)).alloc (.cells (madeCells #[.bool false] mn) 4)).heap.size = W0.heap.size + 1 + 1 := by simp
      rw [hs1] at h2
      have hz := B0.out.size
      have h3 := Zj h1 (fun k hk => (Zd _ (.cells (madeCells #[.bool false] mn) 4)).block k (Zf h1 hk).2.1)
      have h4 := Zj h3 (fun k hk => (Zd _ (.cells #[.slice none 0 0, .slice (some ⟨W0.heap.size + 1, 0, none⟩) mn mn, .slice none 0 0, .slice none 0 0, .slice none 0 0, .slice (some ⟨W0.heap.size, 0, none⟩) an an] 91)).block k (Zf h3 hk).2.1)
      have h5 := Zj h2 (fun k hk => (Zd _ (.cells #[.slice none 0 0, .slice (some ⟨W0.heap.size + 1, 0, none⟩) mn mn, .slice none 0 0, .slice none 0 0, .slice none 0 0, .slice (some ⟨W0.heap.size, 0, none⟩) an an] 91)).block k (Zf h2 hk).2.1)
      have M0 := Za (rmk_new (w := w) hmn han rfl rfl h5 h4 (hs2 ▸ B_ ((W0.alloc (.cells (madeCells #[I_ 0] an) 3)).alloc (.cells (madeCells #[.bool false] mn) 4)) (.cells #[.slice none 0 0, .slice (some ⟨W0.heap.size + 1, 0, none⟩) mn mn, .slice none 0 0, .slice none 0 0, .slice none 0 0, .slice (some ⟨W0.heap.size, 0, none⟩) an an] 91)) ⟨by omega, by omega, by omega⟩ (Zu (Zu (Zu B0.out _) _) _))
      clear h1 h2 h3 h4 h5 hs1 hs2
      go_wp2_with fail
      go_meet
      case rel => exact ⟨_, rfl, M0⟩
  case rest =>
    obtain ⟨g, rfl, M0⟩ := hcut
    go_wp2_with fail
    go_loopw [12, 47] (fun x i wr => ∃ k : Nat, k <= lP /\ i = I_ k /\ Hid (RMk w wr g ⟨zz (ps.take k), List.replicate mn false, [], List.replicate an 0⟩) /\ Hid (∀ j, j < k -> badT (ps.getD j 0) = false)) (fun x i _ => lP - (intOf i).toNat)
    case atStart => exact ⟨0, Nat.zero_le _, rfl, M0, fun j hj => absurd hj (Nat.not_lt_zero _)⟩
    case round =>
     obtain ⟨k, hk, rfl, M1, GA⟩ := hrel
     clear M0
     by_cases hlt : k < lP
     · have hlt' : (k : Int) < (lP : Int) := by omega
       obtain ⟨b1, o1, rfl, hb1, hc1⟩ := HP.out k hlt
       obtain ⟨F, vP, vL, vC, vS, vT, vA, ss, tk, S, hF, hB, hst⟩ := M1.out
       have hcr := (hB.cell (p := ⟨b1, o1 + k, none⟩) hb1).trans hc1
       have HYB : Hid (badT (ps.getD k 0) = true -> okN ps (mn : Nat) cs (an : Nat) = false) := Za (fun h => HB1.out (any_yes ps _ 0 k (by have := HLP.out; omega) h))
       have HGA : Hid (badT (ps.getD k 0) = false -> ∀ j, j < k + 1 -> badT (ps.getD j 0) = false) := Za (fun h j hj => by
         by_cases e : j = k
         · rw [e]; exact h
         · exact GA.out j (by omega))
       have HSN : Hid (zz (ps.take (k + 1)) = zz (ps.take k) ++ [(ps.getD k 0, 0, 0)]) := Za (by rw [take_snoc ps k 0 (by have := HLP.out; omega)]; simp [zz])
       have HLS : Hid ((zz (ps.take k)).length < 128) := Za (by simp [zz]; have := HLP.out; omega)
       generalize ps.getD k 0 = y at *
       have HBL := Za hB
       by_cases y1 : y < 1
       · have HN := Za (HYB.out (by unfold badT Yj; rw [if_neg (by omega)]; rfl))
         clear S hF hB hst M1 hc1 HYB HGA GA
         go_wp2_with fail
         go_ret2
         exact .inl ⟨HN.out, rfl, HBL.out⟩
       by_cases y3 : 3 < y
       · have HN := Za (HYB.out (by unfold badT Yj; rw [if_neg (by omega)]; rfl))
         have y1' : 1 <= y := by omega
         clear S hF hB hst M1 hc1 HYB HGA GA y1
         go_wp2_with fail
         go_ret2
         exact .inl ⟨HN.out, rfl, HBL.out⟩
       have y1' : 1 <= y := by omega
       have y3' : y <= 3 := by omega
       have GA2 := Za (HGA.out (by unfold badT Yj; rw [if_pos (by omega)]; simp; omega))
       obtain ⟨aQ, cQ, eQ, _⟩ := Zl S.pl
       obtain ⟨nQ, hnQ⟩ : ∃ n, n = (zz (ps.take k)).length := ⟨_, rfl⟩
       rw [show ({ P := zz (ps.take k), M := List.replicate mn false, C := [], A := List.replicate an 0 } : St).P.length = nQ from hnQ.symm] at eQ
       subst eQ
       have PU := Za (fun ty => S.pushP (y, 0, 0) HLS.out ty)
       have s0 := S.cells.1
       have hgl := S.fb g S.fg
       have HF := Za (And.intro hF hst)
       clear S hB hF hst M1 hc1 hnQ HYB HGA GA y1 y3
       go_wp2_with (first | (at_builtin; refine ZU (TS := 65) rfl (.tmp 61) (.tmp 64) rfl _ _ rfl rfl _ (PU.out _) ?_; rintro v9 w9 ⟨⟨a9, l9, c9, rfl⟩, z1, z2, r9⟩; have R9 := Za r9; clear r9))
       go_roundw
       case rel =>
         refine ⟨k + 1, by omega, by go_num, ?_, GA2⟩
         rw [HSN.out]
         exact ⟨_, _, _, _, _, _, _, _, _, R9.out.1, R9.out.2.low HF.out.1 HBL.out.size, HBL.out.trans (R9.out.2.bel HF.out.1 HBL.out.size), HF.out.2⟩
       case measure => simp [intOf]; omega
     · obtain rfl : k = lP := by omega
       have M2 : Hid (RMk w wr g ⟨zz ps, List.replicate mn false, cz (cs.take 0), List.replicate an 0⟩) := Za (by
         have := M1.out
         rw [List.take_of_length_le (by have := HLP.out; omega)] at this
         exact this)
       have GP : Hid (ps.any badT = false) := Za (any_not ps _ 0 (fun j hj => GA.out j (by have := HLP.out; omega)))
       clear M1 GA
       go_wp2_with fail
       go_loopw [14, 71] (fun x i wr => ∃ k : Nat, k <= lC /\ i = I_ k /\ Hid (RMk w wr g ⟨zz ps, List.replicate mn false, cz (cs.take k), List.replicate an 0⟩) /\ Hid (∀ j, j < k -> badC (cs.getD j (0, 0)) = false)) (fun x i _ => lC - (intOf i).toNat)
       case atStart => exact ⟨0, Nat.zero_le _, rfl, M2, fun j hj => absurd hj (Nat.not_lt_zero _)⟩
       case round =>
        obtain ⟨k, hk, rfl, M1, GA⟩ := hrel
        clear M2
        by_cases hlt : k < lC
        · have hlt' : (k : Int) < (lC : Int) := by omega
          obtain ⟨b1, o1, rfl, hb1, hc1, hc2⟩ := HC.out k hlt
          obtain ⟨F, vP, vL, vC, vS, vT, vA, ss, tk, S, hF, hB, hst⟩ := M1.out
          have hcr := (hB.cell (p := ⟨b1, o1 + k * 2, none⟩) hb1).trans hc1
          have hcs := (hB.cell (p := ⟨b1, o1 + k * 2 + 1, none⟩) hb1).trans hc2
          have HYB : Hid (badC (cs.getD k (0, 0)) = true -> okN ps (mn : Nat) cs (an : Nat) = false) := Za (fun h => HB2.out (any_yes cs _ (0, 0) k (by have := HLC.out; omega) h))
          have HGA : Hid (badC (cs.getD k (0, 0)) = false -> ∀ j, j < k + 1 -> badC (cs.getD j (0, 0)) = false) := Za (fun h j hj => by
            by_cases e : j = k
            · rw [e]; exact h
            · exact GA.out j (by omega))
          have HSN : Hid (cz (cs.take (k + 1)) = cz (cs.take k) ++ [⟨(cs.getD k (0, 0)).1, (cs.getD k (0, 0)).2, []⟩]) := Za (by rw [take_snoc cs k (0, 0) (by have := HLC.out; omega)]; simp [cz])
          have hbcd : badC (cs.getD k (0, 0)) = chanB (cs.getD k (0, 0)).1 (cs.getD k (0, 0)).2 := rfl
          rw [hbcd] at HYB HGA
          clear hbcd
          generalize (cs.getD k (0, 0)).1 = y1 at *
          generalize (cs.getD k (0, 0)).2 = y2 at *
          have HBL := Za (Zu hB (.cells #[I_ y1, I_ y2] 94))
          by_cases t1 : y1 < 1
          · have HN := Za (HYB.out (by unfold chanB Yj; rw [if_neg (by omega)]; rfl))
            clear S hF hB hst M1 hc1 hc2 HYB HGA GA
            go_wp2_with fail
            go_ret2
            exact .inl ⟨HN.out, rfl, HBL.out⟩
          have t1' : 1 <= y1 := by omega
          clear t1
          by_cases t3 : 3 < y1
          · have HN := Za (HYB.out (by unfold chanB Yj; rw [if_neg (by omega)]; rfl))
            clear S hF hB hst M1 hc1 hc2 HYB HGA GA
            go_wp2_with fail
            go_ret2
            exact .inl ⟨HN.out, rfl, HBL.out⟩
          have t3' : y1 <= 3 := by omega
          clear t3
          by_cases r0 : y2 < 0
          · have HN := Za (HYB.out (by unfold chanB Yj; simp; omega))
            clear S hF hB hst M1 hc1 hc2 HYB HGA GA
            go_wp2_with fail
            go_ret2
            exact .inl ⟨HN.out, rfl, HBL.out⟩
          have r0' : 0 <= y2 := by omega
          clear r0
          by_cases r8 : 8 < y2
          · have HN := Za (HYB.out (by unfold chanB Yj; simp; omega))
            clear S hF hB hst M1 hc1 hc2 HYB HGA GA
            go_wp2_with fail
            go_ret2
            exact .inl ⟨HN.out, rfl, HBL.out⟩
          have r8' : y2 <= 8 := by omega
          clear r8
          have GA2 := Za (HGA.out (by unfold chanB Yj; rw [if_pos (by omega)]; simp; omega))
          have X0 : Hid ((wr.alloc (.cells #[I_ y1, I_ y2] 94)).drew.heap[wr.heap.size]? = some (.cells #[I_ y1, I_ y2] 94 (0, 0))) := Za (B_ wr _)
          have S0 := Za (S.bel (Zp (Zd wr (.cells #[I_ y1, I_ y2] 94))))
          have HF := Za (And.intro hF hst)
          have HBD := Za (Zp HBL.out)
          have HLT := Za (S.fb)
          have hkn : (cz (cs.take k)).length = k := by simp [cz]; have := HLC.out; omega
          have HK := Za hkn
          clear S hB hF hst M1 hc1 hc2 HYB HGA GA HBL hkn
          go_wp2_with fail
          refine wp_fill ZO (fun j => if j < 24 then 93 + j else if j = 25 then 117 else if j = 26 then 118 else if j = 28 then 119 else 120) (fun k j hk => by rcases ZC hk with ⟨h1, h2⟩ | ⟨h1, h2⟩ | ⟨h1, h2⟩ | ⟨h1, h2⟩ | ⟨h1, h2⟩ <;> simp [h1, h2]) (fun a0 u0 ha0 => ?_)
          have hsz : 120 < a0.tmps.size := by rw [ha0]; simp
          have h10 : a0.eval (.tmp 10) = P_ g := by rw [ha0]; rfl
          have h14 : a0.eval (.tmp 14) = P_ wr.heap.size := by rw [ha0]; rfl
          have S1 := S0.out
          obtain ⟨gb, hgb⟩ : ∃ gb, gb = wr.heap.size := ⟨_, rfl⟩
          have hgb1 : gb ≠ g := fun e => by have := HLT.out g S1.fg; omega
          have c16 : NC (wr.alloc (.cells #[I_ y1, I_ y2] 94)).drew g gb k y1 y2 vP vL vC vS vT vA (ccs (cz (cs.take k))) ss (nts tk) := ⟨S1.at_, by have := S1.ch; rw [show (St.C ⟨zz ps, List.replicate mn false, cz (cs.take k), List.replicate an 0⟩).length = k from HK.out] at this; exact this, by have := S1.se; rw [show (St.C ⟨zz ps, List.replicate mn false, cz (cs.take k), List.replicate an 0⟩).length = k from HK.out] at this; exact this, by have := S1.ta; rw [show (St.C ⟨zz ps, List.replicate mn false, cz (cs.take k), List.replicate an 0⟩).length = k from HK.out] at this; exact this, by rw [hgb]; exact X0.out, fun e => by have := HLT.out gb (S1.fC gb e); omega, by omega⟩
          have hgb2 : vS.ownBlock ≠ some gb := fun e => by have := HLT.out gb (S1.fS gb e); omega
          have hgb3 : vT.ownBlock ≠ some gb := fun e => by have := HLT.out gb (S1.fT gb e); omega
          rw [← hgb] at h14
          generalize hW0 : (wr.alloc _).drew = W0 at *
          refine wp_region_local (A := ZL ZO a0) (Fa := NF W0 g gb k y1 y2 vP vL vC vS vT vA (ccs (cz (cs.take k))) ss (nts tk)) (Ga := NG W0 g gb k y1 y2 vP vL vC vS vT vA (ccs (cz (cs.take k))) ss (nts tk)) (Rel := NRel g vC vS vT) ZK (by kernel_rfl) (fun i j u v w w' hij hd hj hr hf => nf_keep c16 i j u v w w' hij ⟨?_, ?_, ?_⟩ hj hr hf) (fun i j u v w w' hij hr hf => ng_keep c16 i j u v w w' hij hr hf) ?_ ?_ ?_
          · intro e1 e2
            subst e1 e2
            exact absurd (hd.symm.trans (show _ = true by kernel_rfl)) (by decide)
          · intro e1 e2
            subst e1 e2
            exact absurd (hd.symm.trans (show _ = true by kernel_rfl)) (by decide)
          · intro e1 e2
            subst e1 e2
            exact absurd (hd.symm.trans (show _ = true by kernel_rfl)) (by decide)
          · intro i hi u wx hd hl hg
            obtain rfl | rfl | rfl | rfl | rfl | rfl | rfl | rfl | rfl | rfl | rfl | rfl | rfl | rfl | rfl | rfl | rfl | rfl | rfl | rfl | rfl | rfl | rfl | rfl | rfl | rfl | rfl | rfl | rfl | rfl | rfl : i = 0 ∨ i = 1 ∨ i = 2 ∨ i = 3 ∨ i = 4 ∨ i = 5 ∨ i = 6 ∨ i = 7 ∨ i = 8 ∨ i = 9 ∨ i = 10 ∨ i = 11 ∨ i = 12 ∨ i = 13 ∨ i = 14 ∨ i = 15 ∨ i = 16 ∨ i = 17 ∨ i = 18 ∨ i = 19 ∨ i = 20 ∨ i = 21 ∨ i = 22 ∨ i = 23 ∨ i = 24 ∨ i = 25 ∨ i = 26 ∨ i = 27 ∨ i = 28 ∨ i = 29 ∨ i = 30 := by have : i < 31 := hi; omega
            · have e10 : (ZL ZO a0 u).eval (.tmp 10) = P_ g := (fill_out rfl).trans h10
              refine ZG rfl rfl (P_ g) wx (by generalize (ZL ZO a0 u).eval = ev at *; simp [execOp, e10]) ⟨_, ZI (d := 93) rfl (fun k hk => by have := ZC hk; omega), .inl (World.grownBy.refl _ _), hg.1, ZH _ _ _⟩
            · have e10 : (ZL ZO a0 u).eval (.tmp 10) = P_ g := (fill_out rfl).trans h10
              refine ZG rfl rfl (P_ g) wx (by generalize (ZL ZO a0 u).eval = ev at *; simp [execOp, e10]) ⟨_, ZI (d := 94) rfl (fun k hk => by have := ZC hk; omega), .inl (World.grownBy.refl _ _), hg.1, ZH _ _ _⟩
            · have e10 : (ZL ZO a0 u).eval (.tmp 10) = P_ g := (fill_out rfl).trans h10
              refine ZG rfl rfl (P_ g) wx (by generalize (ZL ZO a0 u).eval = ev at *; simp [execOp, e10]) ⟨_, ZI (d := 95) rfl (fun k hk => by have := ZC hk; omega), .inl (World.grownBy.refl _ _), hg.1, ZH _ _ _⟩
            · have e10 : (ZL ZO a0 u).eval (.tmp 10) = P_ g := (fill_out rfl).trans h10
              refine ZG rfl rfl (P_ g) wx (by generalize (ZL ZO a0 u).eval = ev at *; simp [execOp, e10]) ⟨_, ZI (d := 96) rfl (fun k hk => by have := ZC hk; omega), .inl (World.grownBy.refl _ _), hg.1, ZH _ _ _⟩
            · have e96 : (ZL ZO a0 u).eval (.tmp 96) = u 3 := ZQ (by omega) rfl
              have f3 : u 3 = P_ g := (hd 3 (by kernel_rfl)).2
              rw [f3] at e96
              refine ZG rfl rfl (P_ g) wx (by generalize (ZL ZO a0 u).eval = ev at *; simp [execOp, e96, go_sem]) ⟨_, ZI (d := 97) rfl (fun k hk => by have := ZC hk; omega), .inl (World.grownBy.refl _ _), hg.1, ZH _ _ _⟩
            · have e97 : (ZL ZO a0 u).eval (.tmp 97) = u 4 := ZQ (by omega) rfl
              have f4 : u 4 = P_ g := (hd 4 (by kernel_rfl)).2
              rw [f4] at e97
              refine ZG rfl rfl (.pointer (some ⟨g, 2, none⟩)) wx (by generalize (ZL ZO a0 u).eval = ev at *; simp [execOp, e97, go_sem]) ⟨_, ZI (d := 98) rfl (fun k hk => by have := ZC hk; omega), .inl (World.grownBy.refl _ _), hg.1, ZH _ _ _⟩
            · have e98 : (ZL ZO a0 u).eval (.tmp 98) = u 5 := ZQ (by omega) rfl
              have f5 : u 5 = .pointer (some ⟨g, 2, none⟩) := (hd 5 (by kernel_rfl)).2
              rw [f5] at e98
              have hc : wx.cell? ⟨g, 2, none⟩ = some vC := (hl 24 (by kernel_rfl)).2
              refine ZG rfl rfl vC wx (by generalize (ZL ZO a0 u).eval = ev at *; simp [execOp, e98, go_sem, hc]) ⟨_, ZI (d := 99) rfl (fun k hk => by have := ZC hk; omega), .inl (World.grownBy.refl _ _), hg.1, ZH _ _ _⟩
            · have e14 : (ZL ZO a0 u).eval (.tmp 14) = P_ gb := (fill_out rfl).trans h14
              have hbx := hg.1.2.2 gb (Ze c16.box) hgb1 c16.boxC hgb2 hgb3
              have b0 := Zb (hbx.trans c16.box) 0 _ rfl
              have b1 := Zb (hbx.trans c16.box) 1 _ rfl
              refine ZG rfl rfl (.agg #[I_ y1, I_ y2]) wx (by generalize (ZL ZO a0 u).eval = ev at *; simp [execOp, e14, go_sem, b0, b1]) ⟨_, ZI (d := 100) rfl (fun k hk => by have := ZC hk; omega), .inl (World.grownBy.refl _ _), hg.1, ZH _ _ _⟩
            · have e100 : (ZL ZO a0 u).eval (.tmp 100) = u 7 := ZQ (by omega) rfl
              have f7 : u 7 = .agg #[I_ y1, I_ y2] := (hd 7 (by kernel_rfl)).2
              rw [f7] at e100
              refine ZG rfl rfl (.slice (some ⟨wx.heap.size, 0, none⟩) 1 1) (wx.alloc (.cells #[I_ y1, I_ y2] 94)) (by generalize (ZL ZO a0 u).eval = ev at *; simp [execOp, go_sem, e100]) ⟨_, ZI (d := 101) rfl (fun k hk => by have := ZC hk; omega), .inl (gb_none (Zd _ _)), (hg.1.grown c16 (.inl rfl) (gb_none (Zd _ _))).1, wx.heap.size, ZH _ _ _, hg.1.2.1.2.2.2, B_ _ _⟩
            · have e99 : (ZL ZO a0 u).eval (.tmp 99) = u 6 := ZQ (by omega) rfl
              have f6 : u 6 = vC := (hd 6 (by kernel_rfl)).2
              rw [f6] at e99
              have e101 : (ZL ZO a0 u).eval (.tmp 101) = u 8 := ZQ (by omega) rfl
              obtain ⟨kx, fx1, fx2, fx3⟩ : ∃ k, u 8 = .slice (some ⟨k, 0, none⟩) 1 1 /\ W0.heap.size <= k /\ wx.heap[k]? = some (.cells #[I_ y1, I_ y2] 94 (0, 0)) := (hd 8 (by kernel_rfl)).2
              rw [fx1] at e101
              obtain ⟨v9, w9, hrun, o9, g9, f9⟩ := push_any (ys := [I_ y1, I_ y2]) Tryz.underlying23 info_chan rfl (by decide) (by decide) hg.2 c16.nl rfl (fun j u hu => Zb fx3 j u (by simpa using hu)) (by intro u hu; simp at hu; first | (subst hu; rfl) | (rcases hu with rfl | rfl <;> rfl)) 23
              obtain ⟨a9, c9, e9, _⟩ := Zl o9
              refine ZG rfl rfl v9 w9 (by generalize (ZL ZO a0 u).eval = ev at *; simp only [List.getElem_toArray, List.getElem_cons_zero, List.getElem_cons_succ, execOp, resolve, invoke, builtin, Sem.run_bind, Sem.run_pure, Result.andThen_ok, List.map_toArray, List.map_cons, List.map_nil, e99, e101, hrun]) ⟨_, ZI (d := 102) rfl (fun k hk => by have := ZC hk; omega), .inr (.inl ⟨rfl, g9⟩), (hg.1.grown c16 (.inr (.inl rfl)) g9).1, ?_⟩
              show Yy W0 w9 94 2 (upd u 9 v9 9) (k + 1) (ccs (cz (cs.take k)) ++ [I_ y1, I_ y2]) vC
              rw [ZH]
              exact ⟨⟨_, _, e9⟩, o9, fun k hk => (f9 k hk).imp id (fun h => Nat.le_trans hg.1.2.1.2.2.2 h)⟩
            · have e10 : (ZL ZO a0 u).eval (.tmp 10) = P_ g := (fill_out rfl).trans h10
              refine ZG rfl rfl (P_ g) wx (by generalize (ZL ZO a0 u).eval = ev at *; simp [execOp, e10]) ⟨_, ZI (d := 103) rfl (fun k hk => by have := ZC hk; omega), .inl (World.grownBy.refl _ _), hg.1, ZH _ _ _⟩
            · have e103 : (ZL ZO a0 u).eval (.tmp 103) = u 10 := ZQ (by omega) rfl
              have f10 : u 10 = P_ g := (hd 10 (by kernel_rfl)).2
              rw [f10] at e103
              refine ZG rfl rfl (P_ g) wx (by generalize (ZL ZO a0 u).eval = ev at *; simp [execOp, e103, go_sem]) ⟨_, ZI (d := 104) rfl (fun k hk => by have := ZC hk; omega), .inl (World.grownBy.refl _ _), hg.1, ZH _ _ _⟩
            · have e104 : (ZL ZO a0 u).eval (.tmp 104) = u 11 := ZQ (by omega) rfl
              have f11 : u 11 = P_ g := (hd 11 (by kernel_rfl)).2
              rw [f11] at e104
              refine ZG rfl rfl (.pointer (some ⟨g, 3, none⟩)) wx (by generalize (ZL ZO a0 u).eval = ev at *; simp [execOp, e104, go_sem]) ⟨_, ZI (d := 105) rfl (fun k hk => by have := ZC hk; omega), .inl (World.grownBy.refl _ _), hg.1, ZH _ _ _⟩
            · have e105 : (ZL ZO a0 u).eval (.tmp 105) = u 12 := ZQ (by omega) rfl
              have f12 : u 12 = .pointer (some ⟨g, 3, none⟩) := (hd 12 (by kernel_rfl)).2
              rw [f12] at e105
              have hc : wx.cell? ⟨g, 3, none⟩ = some vS := (hl 27 (by kernel_rfl)).2
              refine ZG rfl rfl vS wx (by generalize (ZL ZO a0 u).eval = ev at *; simp [execOp, e105, go_sem, hc]) ⟨_, ZI (d := 106) rfl (fun k hk => by have := ZC hk; omega), .inl (World.grownBy.refl _ _), hg.1, ZH _ _ _⟩
            · have e100 : (ZL ZO a0 u).eval (.const (.slice none 0 0)) = .slice none 0 0 := rfl
              refine ZG rfl rfl (.slice (some ⟨wx.heap.size, 0, none⟩) 1 1) (wx.alloc (.cells #[.slice none 0 0] 65)) (by generalize (ZL ZO a0 u).eval = ev at *; simp [execOp, go_sem, e100]) ⟨_, ZI (d := 107) rfl (fun k hk => by have := ZC hk; omega), .inl (gb_none (Zd _ _)), (hg.1.grown c16 (.inl rfl) (gb_none (Zd _ _))).1, wx.heap.size, ZH _ _ _, hg.1.2.1.2.2.2, B_ _ _⟩
            · have e106 : (ZL ZO a0 u).eval (.tmp 106) = u 13 := ZQ (by omega) rfl
              have f13 : u 13 = vS := (hd 13 (by kernel_rfl)).2
              rw [f13] at e106
              have e107 : (ZL ZO a0 u).eval (.tmp 107) = u 14 := ZQ (by omega) rfl
              obtain ⟨kx, fx1, fx2, fx3⟩ : ∃ k, u 14 = .slice (some ⟨k, 0, none⟩) 1 1 /\ W0.heap.size <= k /\ wx.heap[k]? = some (.cells #[.slice none 0 0] 65 (0, 0)) := (hd 14 (by kernel_rfl)).2
              rw [fx1] at e107
              obtain ⟨v9, w9, hrun, o9, g9, f9⟩ := push_any (ys := [.slice none 0 0]) Tryz.underlying89 info_slv rfl (by decide) (by decide) hg.2 c16.nl rfl (fun j u hu => Zb fx3 j u (by simpa using hu)) (by intro u hu; simp at hu; first | (subst hu; rfl) | (rcases hu with rfl | rfl <;> rfl)) 89
              obtain ⟨a9, c9, e9, _⟩ := Zl o9
              refine ZG rfl rfl v9 w9 (by generalize (ZL ZO a0 u).eval = ev at *; simp only [List.getElem_toArray, List.getElem_cons_zero, List.getElem_cons_succ, execOp, resolve, invoke, builtin, Sem.run_bind, Sem.run_pure, Result.andThen_ok, List.map_toArray, List.map_cons, List.map_nil, e106, e107, hrun]) ⟨_, ZI (d := 108) rfl (fun k hk => by have := ZC hk; omega), .inr (.inr (.inl ⟨rfl, g9⟩)), (hg.1.grown c16 (.inr (.inr (.inl rfl))) g9).1, ?_⟩
              show Yy W0 w9 65 1 (upd u 15 v9 15) (k + 1) (ss ++ [.slice none 0 0]) vS
              rw [ZH]
              exact ⟨⟨_, _, e9⟩, o9, fun k hk => (f9 k hk).imp id (fun h => Nat.le_trans hg.1.2.1.2.2.2 h)⟩
            · have e10 : (ZL ZO a0 u).eval (.tmp 10) = P_ g := (fill_out rfl).trans h10
              refine ZG rfl rfl (P_ g) wx (by generalize (ZL ZO a0 u).eval = ev at *; simp [execOp, e10]) ⟨_, ZI (d := 109) rfl (fun k hk => by have := ZC hk; omega), .inl (World.grownBy.refl _ _), hg.1, ZH _ _ _⟩
            · have e109 : (ZL ZO a0 u).eval (.tmp 109) = u 16 := ZQ (by omega) rfl
              have f16 : u 16 = P_ g := (hd 16 (by kernel_rfl)).2
              rw [f16] at e109
              refine ZG rfl rfl (P_ g) wx (by generalize (ZL ZO a0 u).eval = ev at *; simp [execOp, e109, go_sem]) ⟨_, ZI (d := 110) rfl (fun k hk => by have := ZC hk; omega), .inl (World.grownBy.refl _ _), hg.1, ZH _ _ _⟩
            · have e110 : (ZL ZO a0 u).eval (.tmp 110) = u 17 := ZQ (by omega) rfl
              have f17 : u 17 = P_ g := (hd 17 (by kernel_rfl)).2
              rw [f17] at e110
              refine ZG rfl rfl (.pointer (some ⟨g, 4, none⟩)) wx (by generalize (ZL ZO a0 u).eval = ev at *; simp [execOp, e110, go_sem]) ⟨_, ZI (d := 111) rfl (fun k hk => by have := ZC hk; omega), .inl (World.grownBy.refl _ _), hg.1, ZH _ _ _⟩
            · have e111 : (ZL ZO a0 u).eval (.tmp 111) = u 18 := ZQ (by omega) rfl
              have f18 : u 18 = .pointer (some ⟨g, 4, none⟩) := (hd 18 (by kernel_rfl)).2
              rw [f18] at e111
              have hc : wx.cell? ⟨g, 4, none⟩ = some vT := (hl 30 (by kernel_rfl)).2
              refine ZG rfl rfl vT wx (by generalize (ZL ZO a0 u).eval = ev at *; simp [execOp, e111, go_sem, hc]) ⟨_, ZI (d := 112) rfl (fun k hk => by have := ZC hk; omega), .inl (World.grownBy.refl _ _), hg.1, ZH _ _ _⟩
            · have e100 : (ZL ZO a0 u).eval (.const (I_ 0)) = I_ 0 := rfl
              refine ZG rfl rfl (.slice (some ⟨wx.heap.size, 0, none⟩) 1 1) (wx.alloc (.cells #[I_ 0] 3)) (by generalize (ZL ZO a0 u).eval = ev at *; simp [execOp, go_sem, e100]) ⟨_, ZI (d := 113) rfl (fun k hk => by have := ZC hk; omega), .inl (gb_none (Zd _ _)), (hg.1.grown c16 (.inl rfl) (gb_none (Zd _ _))).1, wx.heap.size, ZH _ _ _, hg.1.2.1.2.2.2, B_ _ _⟩
            · have e112 : (ZL ZO a0 u).eval (.tmp 112) = u 19 := ZQ (by omega) rfl
              have f19 : u 19 = vT := (hd 19 (by kernel_rfl)).2
              rw [f19] at e112
              have e113 : (ZL ZO a0 u).eval (.tmp 113) = u 20 := ZQ (by omega) rfl
              obtain ⟨kx, fx1, fx2, fx3⟩ : ∃ k, u 20 = .slice (some ⟨k, 0, none⟩) 1 1 /\ W0.heap.size <= k /\ wx.heap[k]? = some (.cells #[I_ 0] 3 (0, 0)) := (hd 20 (by kernel_rfl)).2
              rw [fx1] at e113
              obtain ⟨v9, w9, hrun, o9, g9, f9⟩ := push_any (ys := [I_ 0]) Tryz.underlying22 info3 rfl (by decide) (by decide) hg.2 c16.nl rfl (fun j u hu => Zb fx3 j u (by simpa using hu)) (by intro u hu; simp at hu; first | (subst hu; rfl) | (rcases hu with rfl | rfl <;> rfl)) 22
              obtain ⟨a9, c9, e9, _⟩ := Zl o9
              refine ZG rfl rfl v9 w9 (by generalize (ZL ZO a0 u).eval = ev at *; simp only [List.getElem_toArray, List.getElem_cons_zero, List.getElem_cons_succ, execOp, resolve, invoke, builtin, Sem.run_bind, Sem.run_pure, Result.andThen_ok, List.map_toArray, List.map_cons, List.map_nil, e112, e113, hrun]) ⟨_, ZI (d := 114) rfl (fun k hk => by have := ZC hk; omega), .inr (.inr (.inr (.inl ⟨rfl, g9⟩))), (hg.1.grown c16 (.inr (.inr (.inr rfl))) g9).1, ?_⟩
              show Yy W0 w9 3 1 (upd u 21 v9 21) (k + 1) ((nts tk) ++ [I_ 0]) vT
              rw [ZH]
              exact ⟨⟨_, _, e9⟩, o9, fun k hk => (f9 k hk).imp id (fun h => Nat.le_trans hg.1.2.1.2.2.2 h)⟩
            · have e93 : (ZL ZO a0 u).eval (.tmp 93) = u 0 := ZQ (by omega) rfl
              have f0 : u 0 = P_ g := (hd 0 (by kernel_rfl)).2
              rw [f0] at e93
              refine ZG rfl rfl (P_ g) wx (by generalize (ZL ZO a0 u).eval = ev at *; simp [execOp, e93, go_sem]) ⟨_, ZI (d := 115) rfl (fun k hk => by have := ZC hk; omega), .inl (World.grownBy.refl _ _), hg.1, ZH _ _ _⟩
            · have e115 : (ZL ZO a0 u).eval (.tmp 115) = u 22 := ZQ (by omega) rfl
              have f22 : u 22 = P_ g := (hd 22 (by kernel_rfl)).2
              rw [f22] at e115
              refine ZG rfl rfl (.pointer (some ⟨g, 2, none⟩)) wx (by generalize (ZL ZO a0 u).eval = ev at *; simp [execOp, e115, go_sem]) ⟨_, ZI (d := 116) rfl (fun k hk => by have := ZC hk; omega), .inl (World.grownBy.refl _ _), hg.1, ZH _ _ _⟩
            · have e116 : (ZL ZO a0 u).eval (.tmp 116) = u 23 := ZQ (by omega) rfl
              have f23 : u 23 = .pointer (some ⟨g, 2, none⟩) := (hd 23 (by kernel_rfl)).2
              rw [f23] at e116
              have e102 : (ZL ZO a0 u).eval (.tmp 102) = u 9 := ZQ (by omega) rfl
              obtain ⟨⟨ax, cx, ex⟩, _⟩ : Yy W0 wx 94 2 (u 9) (k + 1) (ccs (cz (cs.take k)) ++ [I_ y1, I_ y2]) vC := (hd 9 (by kernel_rfl)).2
              have hc : wx.cell? ⟨g, 2, none⟩ = some vC := hg.2
              have hz : wx.frozen? ⟨g, 2, none⟩ = false := by obtain ⟨⟨_, _, _, hgg⟩, _⟩ := hg.1; exact Zc hgg _
              rw [ex] at e102
              refine wpOp_skip rfl rfl (wx.setCell ⟨g, 2, none⟩ (u 9)) (by rw [ex]; generalize (ZL ZO a0 u).eval = ev at *; simp [execOp, e116, e102, go_sem, hc, hz]) ⟨undef, fill_none (fun k hk => by have := ZC hk; omega), .inr (.inr (.inr (.inr (.inl ⟨rfl, rfl⟩)))), (hg.1.store 2 (by omega) _).1, ?_⟩
              show World.cell? _ ⟨g, 2, none⟩ = some (upd u 24 undef 9)
              rw [Zs u undef (by decide)]
              exact (hg.1.store 2 (by omega) _).2.1
            · have e94 : (ZL ZO a0 u).eval (.tmp 94) = u 1 := ZQ (by omega) rfl
              have f1 : u 1 = P_ g := (hd 1 (by kernel_rfl)).2
              rw [f1] at e94
              refine ZG rfl rfl (P_ g) wx (by generalize (ZL ZO a0 u).eval = ev at *; simp [execOp, e94, go_sem]) ⟨_, ZI (d := 117) rfl (fun k hk => by have := ZC hk; omega), .inl (World.grownBy.refl _ _), hg.1, ZH _ _ _⟩
            · have e117 : (ZL ZO a0 u).eval (.tmp 117) = u 25 := ZQ (by omega) rfl
              have f25 : u 25 = P_ g := (hd 25 (by kernel_rfl)).2
              rw [f25] at e117
              refine ZG rfl rfl (.pointer (some ⟨g, 3, none⟩)) wx (by generalize (ZL ZO a0 u).eval = ev at *; simp [execOp, e117, go_sem]) ⟨_, ZI (d := 118) rfl (fun k hk => by have := ZC hk; omega), .inl (World.grownBy.refl _ _), hg.1, ZH _ _ _⟩
            · have e118 : (ZL ZO a0 u).eval (.tmp 118) = u 26 := ZQ (by omega) rfl
              have f26 : u 26 = .pointer (some ⟨g, 3, none⟩) := (hd 26 (by kernel_rfl)).2
              rw [f26] at e118
              have e108 : (ZL ZO a0 u).eval (.tmp 108) = u 15 := ZQ (by omega) rfl
              obtain ⟨⟨ax, cx, ex⟩, _⟩ : Yy W0 wx 65 1 (u 15) (k + 1) (ss ++ [.slice none 0 0]) vS := (hd 15 (by kernel_rfl)).2
              have hc : wx.cell? ⟨g, 3, none⟩ = some vS := hg.2
              have hz : wx.frozen? ⟨g, 3, none⟩ = false := by obtain ⟨⟨_, _, _, hgg⟩, _⟩ := hg.1; exact Zc hgg _
              rw [ex] at e108
              refine wpOp_skip rfl rfl (wx.setCell ⟨g, 3, none⟩ (u 15)) (by rw [ex]; generalize (ZL ZO a0 u).eval = ev at *; simp [execOp, e118, e108, go_sem, hc, hz]) ⟨undef, fill_none (fun k hk => by have := ZC hk; omega), .inr (.inr (.inr (.inr (.inr (.inl ⟨rfl, rfl⟩))))), (hg.1.store 3 (by omega) _).1, ?_⟩
              show World.cell? _ ⟨g, 3, none⟩ = some (upd u 27 undef 15)
              rw [Zs u undef (by decide)]
              exact (hg.1.store 3 (by omega) _).2.1
            · have e95 : (ZL ZO a0 u).eval (.tmp 95) = u 2 := ZQ (by omega) rfl
              have f2 : u 2 = P_ g := (hd 2 (by kernel_rfl)).2
              rw [f2] at e95
              refine ZG rfl rfl (P_ g) wx (by generalize (ZL ZO a0 u).eval = ev at *; simp [execOp, e95, go_sem]) ⟨_, ZI (d := 119) rfl (fun k hk => by have := ZC hk; omega), .inl (World.grownBy.refl _ _), hg.1, ZH _ _ _⟩
            · have e119 : (ZL ZO a0 u).eval (.tmp 119) = u 28 := ZQ (by omega) rfl
              have f28 : u 28 = P_ g := (hd 28 (by kernel_rfl)).2
              rw [f28] at e119
              refine ZG rfl rfl (.pointer (some ⟨g, 4, none⟩)) wx (by generalize (ZL ZO a0 u).eval = ev at *; simp [execOp, e119, go_sem]) ⟨_, ZI (d := 120) rfl (fun k hk => by have := ZC hk; omega), .inl (World.grownBy.refl _ _), hg.1, ZH _ _ _⟩
            · have e120 : (ZL ZO a0 u).eval (.tmp 120) = u 29 := ZQ (by omega) rfl
              have f29 : u 29 = .pointer (some ⟨g, 4, none⟩) := (hd 29 (by kernel_rfl)).2
              rw [f29] at e120
              have e114 : (ZL ZO a0 u).eval (.tmp 114) = u 21 := ZQ (by omega) rfl
              obtain ⟨⟨ax, cx, ex⟩, _⟩ : Yy W0 wx 3 1 (u 21) (k + 1) ((nts tk) ++ [I_ 0]) vT := (hd 21 (by kernel_rfl)).2
              have hc : wx.cell? ⟨g, 4, none⟩ = some vT := hg.2
              have hz : wx.frozen? ⟨g, 4, none⟩ = false := by obtain ⟨⟨_, _, _, hgg⟩, _⟩ := hg.1; exact Zc hgg _
              rw [ex] at e114
              refine wpOp_skip rfl rfl (wx.setCell ⟨g, 4, none⟩ (u 21)) (by rw [ex]; generalize (ZL ZO a0 u).eval = ev at *; simp [execOp, e120, e114, go_sem, hc, hz]) ⟨undef, fill_none (fun k hk => by have := ZC hk; omega), .inr (.inr (.inr (.inr (.inr (.inr ⟨rfl, rfl⟩))))), (hg.1.store 4 (by omega) _).1, ?_⟩
              show World.cell? _ ⟨g, 4, none⟩ = some (upd u 30 undef 21)
              rw [Zs u undef (by decide)]
              exact (hg.1.store 4 (by omega) _).2.1
          · intro u wx hall
            obtain ⟨F2, R2, C2, st2⟩ := S1.chanA (n := k) (w := wx) y1 y2 HK.out.symm (by omega) ⟨r0', r8'⟩ (hall 30 (by decide)).1 (hall 9 (by decide)).2 (hall 15 (by decide)).2 (hall 21 (by decide)).2 (hall 24 (by decide)).2 (hall 27 (by decide)).2 (hall 30 (by decide)).2 HF.out.2
            have M9 : Hid (RMk w wx g ⟨zz ps, List.replicate mn false, cz (cs.take (k + 1)), List.replicate an 0⟩) := Za (by
              rw [HSN.out]
              exact ⟨_, _, _, _, _, _, _, _, _, R2, C2.low HF.out.1 HBD.out.size, HBD.out.trans (C2.bel HF.out.1 HBD.out.size), st2⟩)
            clear R2 C2 st2 hall c16 S1 hW0 h10 h14 hsz hgb1 hgb2 hgb3 S0 X0 HF HBD HLT HK HSN
            subst ha0
            simp [ZL, fillL, ZO]
            go_wp2_with fail
            go_roundw
            case rel => exact ⟨k + 1, by omega, by go_num, M9, GA2⟩
            case measure => simp [intOf]; omega
          · intro j
            rw [hW0]
            exact ng_start c16 j _
        · obtain rfl : k = lC := by omega
          have GC : Hid (cs.any badC = false) := Za (any_not cs _ (0, 0) (fun j hj => GA.out j (by have := HLC.out; omega)))
          have M3 : Hid (RMk w wr g (newS ps (mn : Nat) cs (an : Nat))) := Za (by
            have := M1.out
            rw [List.take_of_length_le (by have := HLC.out; omega)] at this
            exact this)
          clear M1 GA
          go_wp2_with fail
          go_ret2
          obtain ⟨F, vP, vL, vC, vS, vT, vA, ss, tk, h1, h2, h3, _⟩ := M3.out
          exact .inr ⟨HSZ.out GP.out GC.out, g, F, rfl, ⟨_, _, _, _, _, _, _, _, h1⟩, h2, h3⟩
theorem Yq {w : World} {T TS : TypeId} {sz bytes : Nat} {z src : Value} {n k B : Nat} {xs : List Value} (hu : Tryz.prog.underlying TS = some (.slice T)) (hinfo : (Tryz.prog.info? T).map (fun i => (i.zero, i.size, i.bytes)) = some (some z, sz, bytes)) (hz : z.cells.size = sz) (hby : bytes <= 100)
 (hk : w.heap[k]? = some (.cells #[] T (0, 0))) (hBk : B <= k) (hs : w.ownsRow 0 T sz src n xs) (hn : n <= 10000000) (h1 : ∀ u ∈ xs, u.oneCell' = true) (hB : B <= w.heap.size) (ty : TypeId) :
 ∃ v' w', (Builtin.append_ #[TS, TS] ty #[.slice (some ⟨k, 0, none⟩) 0 0, src]).run Tryz.prog w = .ok v' w' /\ (∃ a c, v' = .slice a n c) /\ w'.ownsRow B T sz v' n xs /\ Below w.heap.size w w' /\ (∀ j, v'.ownBlock = some j -> w.heap.size <= j ∨ n = 0) := by
 obtain ⟨i, hi, hz0, hz1, hz2⟩ := info_parts hinfo
 have own0 : w.ownsRow B T sz (.slice (some ⟨k, 0, none⟩) 0 0) 0 [] := ⟨by simp, .inr ⟨k, 0, #[], rfl, hBk, hk, Nat.le_refl _, by unfold maxLen; omega, by simp, by simp⟩⟩
 have hS : Src Tryz.prog i.size TS src n xs w := by
  rcases own_form hs with ⟨rfl, rfl⟩ | ⟨b, c, rfl, _⟩
  · have e : xs = [] := by have := hs.1; simpa using this
    subst e
    exact Src.ofNil w hu 0
  · refine Src.ofSlice w hu ⟨b, 0, none⟩ n c xs (by rw [hz1]; exact hs.1) (fun j u hj => ?_) h1
    rw [show (⟨b, 0, none⟩ : Addr).add j = ⟨b, j, none⟩ by unfold Addr.add; by_cases h : j = 0 <;> simp [h]]
    exact (Zk hs j u hj).1
 by_cases hn0 : n = 0
 · subst hn0
   have e : xs = [] := by have := hs.1; simpa using this
   subst e
   have hr := run_append_room_src (P := Tryz.prog) w TS TS ty T i hu hi k 0 0 0 src 0 [] hS (Nat.le_refl _) (fun j hj => absurd hj (Nat.not_lt_zero _)) (fun j hj => absurd hj (Nat.not_lt_zero _))
   exact ⟨_, w, hr, ⟨_, _, rfl⟩, own0, Below.refl _ _, fun _ _ => .inr rfl⟩
 · have hfit : Builtin.nextslicecap (0 + n) 0 * i.bytes <= 281474976710656 := growslice_fits (by omega) (by rw [hz2]; have : (0 + n) * bytes <= 10000000 * 100 := Nat.mul_le_mul (by omega) hby; omega)
   have hr := run_append_grow_src (P := Tryz.prog) w TS TS ty T i z hu hi hz0 (some ⟨k, 0, none⟩) 0 0 [] (run_firstCells_some w.drew i.size 0 ⟨k, 0, none⟩ 0 0 [] (by simp) (fun j u hj => by simp at hj)) src n xs hS (by omega) (by omega) hfit
   have hge := grownCap_ge w (0 + n) 0 T
   have hle := grownCap_le_maxLen w (0 + n) 0 T (by unfold maxLen; omega)
   refine ⟨_, _, hr, ⟨_, _, by rw [Nat.zero_add]⟩, ⟨hs.1, .inr ⟨w.heap.size, grownCap w (0 + n) 0 T, _, by rw [Nat.zero_add], hB, B_ w.drew _, by omega, hle, ?_, ?_⟩⟩, (Zp (Below.refl _ _)).alloc (Nat.le_refl _) _, fun j hj => .inl (by have := Option.some.inj hj; simp at this; omega)⟩
   · simp [size_zeroCells, hz, hs.1]
     have h3 : n * sz + (grownCap w n 0 T - n) * sz = grownCap w n 0 T * sz := by
      rw [← Nat.add_mul]
      rw [Nat.zero_add] at hge
      rw [show n + (grownCap w n 0 T - n) = grownCap w n 0 T from Nat.add_sub_cancel' hge]
     exact h3
   · simp only [List.nil_append, Array.toList_append]
     exact List.take_left' hs.1
def Sx (w : World) (gb : Nat) (t m z : Int) (g : Nat) (v : Value) : Prop := Val w gb t m z /\ w.cell? ⟨g, 3, none⟩ = some v /\ g < w.heap.size
theorem Sx.al {w w' : World} {gb : Nat} {t m z : Int} {g : Nat} {v : Value} (h : Sx w gb t m z g v) (hb : Below w.heap.size w w') : Sx w' gb t m z g v := ⟨h.1.al hb, (hb.cell (p := ⟨g, 3, none⟩) h.2.2).trans h.2.1, Nat.lt_of_lt_of_le h.2.2 hb.size⟩
theorem Sx.set {w : World} {gb : Nat} {t m z : Int} {g : Nat} {v : Value} (h : Sx w gb t m z g v) {b : Nat} (h1 : gb ≠ b) (h2 : g ≠ b) (i : Nat) (x : Value) : Sx (w.setCell ⟨b, i, none⟩ x) gb t m z g v :=
 ⟨h.1.keep (Below.heap_setCell _ _ _ _ h1), (World.cell?_of_block (w := w) (a := ⟨g, 3, none⟩) (Below.heap_setCell _ _ _ _ h2)).trans h.2.1, by rw [Zi]; exact h.2.2⟩
theorem push_b {w : World} {v : Value} {l : List V3} {n gx B : Nat} (ho : w.ownsRow B 64 3 v n (vcs l)) (hB : B <= w.heap.size) (hn : n <= 10000000) (t m z : Int) (hx : Val w gx t m z) (ty : TypeId) :
    ∃ v' w', (Builtin.append_ #[65, 65] ty #[v, .slice (some ⟨gx, 0, none⟩) 1 1]).run Tryz.prog w = .ok v' w' /\ (∃ a c, v' = .slice a (n + 1) c) /\ w'.ownsRow B 64 3 v' (n + 1) (vcs (l ++ [(t, m, z)])) /\ w.grownBy w' v.ownBlock := by
  obtain ⟨i, hi, hz0, hz1, hz2⟩ := info_parts Ym
  obtain ⟨v', w', hr, ho', hg, _, _⟩ := run_append_own_at (P := Tryz.prog) w B 65 ty 64 i _ 3 24 Tryz.underlying65 hi hz0 hz1 hz2 rfl (by decide) v n (vcs l) ho ⟨gx, 0, none⟩ 1 1 (vcs [(t, m, z)]) rfl (fun j u hj => by
    rw [show (⟨gx, 0, none⟩ : Addr).add j = ⟨gx, j, none⟩ by unfold Addr.add; by_cases h : j = 0 <;> simp [h]]
    exact Zb hx j u (by simpa [vcs] using hj)) (Yt _) (by unfold maxLen; omega) (by omega) hB
  obtain ⟨a, c, e, _⟩ := Zl ho'
  exact ⟨v', w', hr, ⟨a, c, e⟩, by rw [vcs_app]; exact ho', hg⟩
theorem Yf {w : World} {B : Nat} {T : TypeId} {n : Nat} {v : Value} {len : Nat} {xs : List Value} (h : w.ownsRow B T n v len xs) : w.ownsRow 0 T n v len xs := by
 obtain ⟨hl, h0 | ⟨gb, cap, cur, e, hB, r⟩⟩ := h
 · exact ⟨hl, .inl h0⟩
 · exact ⟨hl, .inr ⟨gb, cap, cur, e, Nat.zero_le _, r⟩⟩
theorem rSend_room {w : World} {F R : Nat -> Prop} {B g : Nat} {s : St} (h : Rt w F R B g s) (i : Nat) (q : Qu) (hx : s.C[i]? = some q) (t m z : Int) (hB : isB t m z q.t = true) (hB1 : B <= 1000000) (hr : (q.l.length : Int) < q.room) : Calls Tryz.prog 78 #[P_ g, I_ (i : Nat), .agg #[I_ t, I_ m, .int .u64 z]] w (Rp w F R (B + 1) g { s with C := s.C.set i { q with l := q.l ++ [(t, m, z)] } } (.tuple #[.bool true, I_ 0])) := by
 obtain ⟨vP, vL, vC, vS, vT, vA, ss, tk, h⟩ := h
 have hi : i < s.C.length := (G_ hx)
 obtain ⟨b, c, e, hc, hm⟩ := Zq h.ch (by omega)
 have hsm := h.small
 obtain ⟨n, hn⟩ : ∃ n, n = s.C.length := ⟨_, rfl⟩
 rw [← hn] at e hi hc
 have hn128 : n <= 128 := by omega
 subst e
 have HN := Za hn
 have c1 := h.cells.2.2.1
 have hgl := h.fb g h.fg
 have hbl : b < w.heap.size := (Zf h.ch (k := b) rfl).2.1
 obtain ⟨x0, hx0⟩ : ∃ x0, x0 = q.t := ⟨_, rfl⟩
 have d0 := (Zk h.ch _ _ (by have := (ccs_at _ _ _ hx).1; rw [Nat.mul_comm] at this; exact this)).1
 rw [← hx0] at d0 hB
 have W1 := Za (And.intro (h.bel (Zd w (.cells #[I_ t, I_ m, .int .u64 z] 64))) (And.intro (Zd w (.cells #[I_ t, I_ m, .int .u64 z] 64)) (show Sw (w.alloc (.cells #[I_ t, I_ m, .int .u64 z] 64)) w.heap.size t m z g 2 b (i * 2) (.slice (some ⟨b, 0, none⟩) n c) x0 from ⟨Val.new w t m z, ((Zd w _).cell (p := ⟨g, 2, none⟩) hgl).trans c1, by simp; omega, ((Zd w _).cell (p := ⟨b, i * 2, none⟩) hbl).trans d0, by simp; omega⟩)))
 have HX := Za hx
 have hsl := h.sl
 have htl := h.tl
 obtain ⟨vq, hv⟩ : ∃ v, ss[i]? = some v := ⟨_, List.getElem?_eq_getElem (by omega)⟩
 obtain ⟨t0, ht⟩ : ∃ t, tk[i]? = some t := ⟨_, List.getElem?_eq_getElem (by omega)⟩
 obtain ⟨f, tn, e1, hle, hdr, hfB, oq, rq⟩ := h.q i q vq t0 hx hv ht
 subst e1
 obtain ⟨aq, cq, eq, _⟩ := Zl oq
 subst eq
 obtain ⟨bS, cS, eS, _⟩ := Zq h.se (by omega)
 rw [← hn] at eS
 subst eS
 obtain ⟨dS, dF⟩ := Zk h.se i _ hv
 have hbS0 := (Zf h.se (k := bS) rfl).2.1
 have hfl7 : f.length <= 10000000 := by omega
 have HT := Za ht
 have HQ := Za (And.intro hle (And.intro hdr hfB))
 have HFL := Za h.fb
 have HD := Za (And.intro dS (And.intro dF (And.intro oq hbS0)))
 have hne1 : w.heap.size ≠ bS := by omega
 have hne2 : g ≠ bS := fun e => Zv h.se h.at_ (by decide) (by rw [e]; rfl)
 clear hsl htl ht hv hle hdr hfB dS dF oq rq hbS0
 clear h hsm hc hm hn hx d0 hx0
 go_enter Tryz.func78, Tryz.ntmps78
 go_wp2_with fail
 refine (in_yes i n _ hi).mono ?_
 rintro e w1 ⟨rfl, rfl⟩
 go_wp2_with fail
 generalize w.alloc _ = w1 at *
 have T := Za W1.out.2.2
 clear c1
 have hgb : Yn t m z = true /\ t = x0 := by
  unfold isB at hB
  simpa using hB
 have FA : ∀ w, Calls Tryz.prog 35 #[.agg #[I_ t, I_ m, .int .u64 z]] w (Vb w (.bool true)) := fun w => by have := form_any t m z w; rw [hgb.1] at this; exact this
 have hne : (t != x0) = false := by rw [hgb.2]; simp
 clear hgb hB
 refine wp_region_held_drew (S := fun w' => Sw w' w.heap.size t m z g 2 b (i * 2) (.slice (some ⟨b, 0, none⟩) n c) x0) ZK (T.out.al (Zp (Below.refl _ _))) (fun hH => ?_)
 have B3 := Za (Zp (Below.refl w1.heap.size w1))
 clear T
 generalize w1.drew = w3 at *
 refine H_ 0 (v := ?_) ?_ hH ?_
 rotate_left 1
 · (intro w hSw; have q := hSw.1.all.2; clear hSw; go_simp <;> with_reducible rfl)
 simp only [Act.put, S_]
 refine RH_ 1 (fun K1 hK1 => ?_)
 go_simp
 refine (FA _).mono ?_
 rintro e d4 ⟨rfl, hb⟩
 replace B3 := Za (Zg B3.out hb)
 refine hK1.out _ _ (hH.al hb) (fun hH => ?_)
 clear hK1 K1 hb
 refine H2_ 2 hH ?_
 simp only [Act.put, S_]
 refine H2_ 3 hH ?_
 simp only [Act.put, S_]
 refine H2_ 4 hH ?_
 simp only [Act.put, S_]
 refine H_ 5 (v := ?_) ?_ hH ?_
 rotate_left 1
 · (intro w hSw; have q := hSw.1.all.2; clear hSw; go_simp <;> with_reducible rfl)
 simp only [Act.put, S_]
 refine H2_ 6 hH ?_
 simp only [Act.put, S_]
 refine H2_ 7 hH ?_
 simp only [Act.put, S_]
 refine H2_ 8 hH ?_
 simp only [Act.put, S_]
 refine H_ 9 (v := ?_) ?_ hH ?_
 rotate_left 1
 · (intro w hSw; have q := hSw.2.1; clear hSw; go_simp <;> with_reducible rfl)
 simp only [Act.put, S_]
 refine H2_ 10 hH ?_
 simp only [Act.put, S_]
 refine H2_ 11 hH ?_
 simp only [Act.put, S_]
 refine H2_ 12 hH ?_
 simp only [Act.put, S_]
 refine H_ 13 (v := ?_) ?_ hH ?_
 rotate_left 1
 · (intro w hSw; have q := hSw.2.2.2.1; clear hSw; go_simp <;> with_reducible rfl)
 simp only [Act.put, S_]
 refine H2_ 14 hH ?_
 simp only [Act.put, S_]
 refine H2_ 15 hH ?_
 simp only [Act.put, S_]
 refine wpAnyH_done (by kernel_rfl) ?_ _
 clear hH
 have h3 := W1.out.1.bel B3.out
 have HB5 := Za (Zg W1.out.2.1 B3.out)
 have c2 := h3.cells.2.2.1
 have dR := (Zk h3.ch _ _ (by have := (ccs_at _ _ _ HX.out).2; rw [Nat.mul_comm] at this; exact this)).1
 have HQD := Za (fun n => rHeld_q (Rt.bel ⟨_, _, _, _, _, _, _, _, h3⟩ (below_drewN (Below.refl _ _) n)) hB1 i q HX.out)
 have R3 := Za h3
 clear h3
 go_wp2_with fail
 go_quiet ((go_at_call 37; exact Calls.quiet_of (HQD.out _)))
 go_wp2_with fail
 have RB := Za (below_drewN HB5.out nq)
 have BL := Za RB.out
 have S2 := Za (show Sx (World.drewN _ nq) w.heap.size t m z g (.slice (some ⟨bS, 0, none⟩) n cS) from ⟨(W1.out.2.2.1.al B3.out).al (below_drewN (Below.refl _ _) nq), R3.out.cells.2.2.2.1, R3.out.fb g R3.out.fg⟩)
 replace R3 := Za (R3.out.bel (below_drewN (Below.refl _ _) nq))
 refine wp_region_held_drew (S := fun w' => Sx w' w.heap.size t m z g (.slice (some ⟨bS, 0, none⟩) n cS)) ZK (S2.out.al (Zp (Below.refl _ _))) (fun hH => ?_)
 have S3 := Za hH
 replace R3 := Za (R3.out.bel (Zp (Below.refl _ _)))
 replace BL := Za (Zp BL.out)
 have DS := Za ((BL.out.cell (p := ⟨bS, i, none⟩) HD.out.2.2.2).trans HD.out.1)
 have DF := Za ((BL.out.frozen (p := ⟨bS, i, none⟩) HD.out.2.2.2).trans HD.out.2.1)
 have OQ := Za (Zj HD.out.2.2.1 (fun k hk => BL.out.block k (Zf HD.out.2.2.1 hk).2.1))
 generalize World.drew _ = W3 at *
 have BW := Za (Below.refl W3.heap.size W3)
 have hbS : bS < W3.heap.size := (Zf R3.out.se (k := bS) rfl).2.1
 refine H2_ 0 hH ?_
 simp only [Act.put, S_]
 refine H2_ 1 hH ?_
 simp only [Act.put, S_]
 refine H2_ 2 hH ?_
 simp only [Act.put, S_]
 refine H_ 3 (v := ?_) ?_ hH ?_
 rotate_left 1
 · (intro w hSw; have q := hSw.2.1; clear hSw; go_simp <;> with_reducible rfl)
 simp only [Act.put, S_]
 refine H2_ 4 hH ?_
 simp only [Act.put, S_]
 refine H2_ 6 hH ?_
 simp only [Act.put, S_]
 refine H2_ 7 hH ?_
 simp only [Act.put, S_]
 refine H2_ 8 hH ?_
 simp only [Act.put, S_]
 refine H_ 9 (v := ?_) ?_ hH ?_
 rotate_left 1
 · (intro w hSw; have q := hSw.2.1; clear hSw; go_simp <;> with_reducible rfl)
 simp only [Act.put, S_]
 refine H2_ 10 hH ?_
 simp only [Act.put, S_]
 refine H2_ 11 hH ?_
 simp only [Act.put, S_]
 refine H_ 14 (v := ?_) ?_ hH ?_
 rotate_left 1
 · (intro w hSw; have q := hSw.1.all.2; clear hSw; go_simp <;> with_reducible rfl)
 simp only [Act.put, S_]
 refine wpAnyH_ready (rs := [5, 12, 15]) (by kernel_rfl) (by decide) ?_
 refine AllReadyH.cons rfl (fun K1 hK1 => ?_) (AllReadyH.cons rfl (fun K1 hK1 => ?_) (AllReadyH.cons rfl (fun K1 hK1 => ?_) AllReadyH.nil))
 · go_simp
   have B2 := Za (Zu BW.out (.cells #[] 64))
   refine hK1.out _ _ (S3.out.al B2.out) (fun hH => ?_)
   clear hK1 K1
   have O5 := Za (And.intro (B_ W3 (.cells #[] 64)) BW.out.size)
   replace BW := B2
   clear B2
   generalize W3.alloc _ = X0 at *
   refine wpAnyH_ready (rs := [12, 15]) (by kernel_rfl) (by decide) ?_
   refine AllReadyH.cons rfl (fun K1 hK1 => ?_) (AllReadyH.cons rfl (fun K1 hK1 => ?_) AllReadyH.nil)
   · have q := (BW.out.cell (p := ⟨bS, i, none⟩) hbS).trans DS.out
     go_simp
     refine hK1.out _ _ hH (fun hH => ?_)
     clear hK1 K1 q
     refine wpAnyH_ready (rs := [13, 15]) (by kernel_rfl) (by decide) ?_
     refine AllReadyH.cons rfl (fun K1 hK1 => ?_) (AllReadyH.cons rfl (fun K1 hK1 => ?_) AllReadyH.nil)
     · have AP := Za (fun ty => Yq (xs := vcs f) Tryz.underlying65 Ym rfl (by decide) O5.out.1 O5.out.2 (Zj OQ.out (fun k hk => BW.out.block k (Zf OQ.out hk).2.1)) hfl7 (Yt _) BW.out.size ty)
       refine Zr (TS := 65) (.tmp 49) (.tmp 56) _ _ _ (fun ty => AP.out ty) rfl rfl rfl rfl ?_
       rintro v9 X2 ⟨⟨a9, c9, rfl⟩, o9, b9, _⟩
       have B2 := Za (Zg BW.out b9)
       refine hK1.out _ _ (S3.out.al B2.out) (fun hH => ?_)
       clear hK1 K1 AP
       have O13 := Za o9
       replace BW := B2
       clear B2 o9 b9 O5
       refine RH_ 15 (fun K1 hK1 => ?_)
       go_simp
       have B2 := Za (Zu BW.out (.cells #[I_ t, I_ m, .int .u64 z] 64))
       refine hK1.out _ _ (S3.out.al B2.out) (fun hH => ?_)
       clear hK1 K1
       replace O13 := Za (Zj O13.out (fun k hk => (Zd X2 (.cells #[I_ t, I_ m, .int .u64 z] 64)).block k (Zf O13.out hk).2.1))
       have V15 := Za (Val.new X2 t m z)
       replace BW := B2
       clear B2
       generalize X2.alloc _ = X3 at *
       refine RH_ 16 (fun K1 hK1 => ?_)
       have AP := Za (fun ty => push_b O13.out BW.out.size hfl7 t m z V15.out ty)
       refine Zr (TS := 65) (.tmp 57) (.tmp 59) _ _ _ (fun ty => AP.out ty) rfl rfl rfl rfl ?_
       rintro v9 X4 ⟨⟨a8, c8, rfl⟩, o9, g9⟩
       have B2 := Za (BW.out.grown g9 BW.out.size (fun k hk => (Zf O13.out hk).1))
       refine hK1.out _ _ (S3.out.al B2.out) (fun hH => ?_)
       clear hK1 K1 AP
       have O16 := Za o9
       replace BW := B2
       clear B2 o9 g9 O13 V15
       refine H2_ 17 hH ?_
       simp only [Act.put, S_]
       refine RH_ 18 (fun K1 hK1 => ?_)
       have q1 := (BW.out.cell (p := ⟨bS, i, none⟩) hbS).trans DS.out
       have q2 := (BW.out.frozen (p := ⟨bS, i, none⟩) hbS).trans DF.out
       go_simp
       refine hK1.out _ _ (hH.set hne1 hne2 _ _) (fun hH => ?_)
       clear hK1 K1 q1 q2
       refine wpAnyH_done (by kernel_rfl) ?_ _
       clear hH
       obtain ⟨SR, SC⟩ := (R3.out.bel BW.out).setS HN.out i q (t, m, z) _ _ HX.out HT.out hr rfl HQ.out.1 HQ.out.2.1 HQ.out.2.2 (Yf O16.out) (fun k hk hF => by have h1 := (Zf O16.out hk).1; have h2 := HFL.out k hF; have h3 := BL.out.size; omega)
       have SR2 := Za (And.intro SR SC)
       clear SR SC
       go_wp2_with fail
       go_ret2
       exact ⟨rfl, _, _, ⟨_, _, _, _, _, _, _, _, SR2.out.1⟩, (Ch.of_bel (Zg BL.out BW.out)).trans SR2.out.2, fun _ h => .inl h, fun k hk => hk.imp id (fun h => by have h1 := (Zf O16.out h).1; have h3 := BL.out.size; omega)⟩
     · go_simp
       have B2 := Za (Zu BW.out (.cells #[I_ t, I_ m, .int .u64 z] 64))
       refine hK1.out _ _ (S3.out.al B2.out) (fun hH => ?_)
       clear hK1 K1
       replace O5 := Za (And.intro (((Zd X0 (.cells #[I_ t, I_ m, .int .u64 z] 64)).block _ (Ze O5.out.1)).trans O5.out.1) O5.out.2)
       have V15 := Za (Val.new X0 t m z)
       replace BW := B2
       clear B2
       generalize X0.alloc _ = X2 at *
       refine RH_ 13 (fun K1 hK1 => ?_)
       have AP := Za (fun ty => Yq (xs := vcs f) Tryz.underlying65 Ym rfl (by decide) O5.out.1 O5.out.2 (Zj OQ.out (fun k hk => BW.out.block k (Zf OQ.out hk).2.1)) hfl7 (Yt _) BW.out.size ty)
       refine Zr (TS := 65) (.tmp 49) (.tmp 56) _ _ _ (fun ty => AP.out ty) rfl rfl rfl rfl ?_
       rintro v9 X3 ⟨⟨a9, c9, rfl⟩, o9, b9, _⟩
       have B2 := Za (Zg BW.out b9)
       refine hK1.out _ _ (S3.out.al B2.out) (fun hH => ?_)
       clear hK1 K1 AP
       replace V15 := Za (V15.out.al b9)
       have O13 := Za o9
       replace BW := B2
       clear B2 o9 b9 O5
       refine RH_ 16 (fun K1 hK1 => ?_)
       have AP := Za (fun ty => push_b O13.out BW.out.size hfl7 t m z V15.out ty)
       refine Zr (TS := 65) (.tmp 57) (.tmp 59) _ _ _ (fun ty => AP.out ty) rfl rfl rfl rfl ?_
       rintro v9 X4 ⟨⟨a8, c8, rfl⟩, o9, g9⟩
       have B2 := Za (BW.out.grown g9 BW.out.size (fun k hk => (Zf O13.out hk).1))
       refine hK1.out _ _ (S3.out.al B2.out) (fun hH => ?_)
       clear hK1 K1 AP
       have O16 := Za o9
       replace BW := B2
       clear B2 o9 g9 O13 V15
       refine H2_ 17 hH ?_
       simp only [Act.put, S_]
       refine RH_ 18 (fun K1 hK1 => ?_)
       have q1 := (BW.out.cell (p := ⟨bS, i, none⟩) hbS).trans DS.out
       have q2 := (BW.out.frozen (p := ⟨bS, i, none⟩) hbS).trans DF.out
       go_simp
       refine hK1.out _ _ (hH.set hne1 hne2 _ _) (fun hH => ?_)
       clear hK1 K1 q1 q2
       refine wpAnyH_done (by kernel_rfl) ?_ _
       clear hH
       obtain ⟨SR, SC⟩ := (R3.out.bel BW.out).setS HN.out i q (t, m, z) _ _ HX.out HT.out hr rfl HQ.out.1 HQ.out.2.1 HQ.out.2.2 (Yf O16.out) (fun k hk hF => by have h1 := (Zf O16.out hk).1; have h2 := HFL.out k hF; have h3 := BL.out.size; omega)
       have SR2 := Za (And.intro SR SC)
       clear SR SC
       go_wp2_with fail
       go_ret2
       exact ⟨rfl, _, _, ⟨_, _, _, _, _, _, _, _, SR2.out.1⟩, (Ch.of_bel (Zg BL.out BW.out)).trans SR2.out.2, fun _ h => .inl h, fun k hk => hk.imp id (fun h => by have h1 := (Zf O16.out h).1; have h3 := BL.out.size; omega)⟩
   · go_simp
     have B2 := Za (Zu BW.out (.cells #[I_ t, I_ m, .int .u64 z] 64))
     refine hK1.out _ _ (S3.out.al B2.out) (fun hH => ?_)
     clear hK1 K1
     replace O5 := Za (And.intro (((Zd X0 (.cells #[I_ t, I_ m, .int .u64 z] 64)).block _ (Ze O5.out.1)).trans O5.out.1) O5.out.2)
     have V15 := Za (Val.new X0 t m z)
     replace BW := B2
     clear B2
     generalize X0.alloc _ = X1 at *
     refine RH_ 12 (fun K1 hK1 => ?_)
     have q := (BW.out.cell (p := ⟨bS, i, none⟩) hbS).trans DS.out
     go_simp
     refine hK1.out _ _ hH (fun hH => ?_)
     clear hK1 K1 q
     refine RH_ 13 (fun K1 hK1 => ?_)
     have AP := Za (fun ty => Yq (xs := vcs f) Tryz.underlying65 Ym rfl (by decide) O5.out.1 O5.out.2 (Zj OQ.out (fun k hk => BW.out.block k (Zf OQ.out hk).2.1)) hfl7 (Yt _) BW.out.size ty)
     refine Zr (TS := 65) (.tmp 49) (.tmp 56) _ _ _ (fun ty => AP.out ty) rfl rfl rfl rfl ?_
     rintro v9 X3 ⟨⟨a9, c9, rfl⟩, o9, b9, _⟩
     have B2 := Za (Zg BW.out b9)
     refine hK1.out _ _ (S3.out.al B2.out) (fun hH => ?_)
     clear hK1 K1 AP
     replace V15 := Za (V15.out.al b9)
     have O13 := Za o9
     replace BW := B2
     clear B2 o9 b9 O5
     refine RH_ 16 (fun K1 hK1 => ?_)
     have AP := Za (fun ty => push_b O13.out BW.out.size hfl7 t m z V15.out ty)
     refine Zr (TS := 65) (.tmp 57) (.tmp 59) _ _ _ (fun ty => AP.out ty) rfl rfl rfl rfl ?_
     rintro v9 X4 ⟨⟨a8, c8, rfl⟩, o9, g9⟩
     have B2 := Za (BW.out.grown g9 BW.out.size (fun k hk => (Zf O13.out hk).1))
     refine hK1.out _ _ (S3.out.al B2.out) (fun hH => ?_)
     clear hK1 K1 AP
     have O16 := Za o9
     replace BW := B2
     clear B2 o9 g9 O13 V15
     refine H2_ 17 hH ?_
     simp only [Act.put, S_]
     refine RH_ 18 (fun K1 hK1 => ?_)
     have q1 := (BW.out.cell (p := ⟨bS, i, none⟩) hbS).trans DS.out
     have q2 := (BW.out.frozen (p := ⟨bS, i, none⟩) hbS).trans DF.out
     go_simp
     refine hK1.out _ _ (hH.set hne1 hne2 _ _) (fun hH => ?_)
     clear hK1 K1 q1 q2
     refine wpAnyH_done (by kernel_rfl) ?_ _
     clear hH
     obtain ⟨SR, SC⟩ := (R3.out.bel BW.out).setS HN.out i q (t, m, z) _ _ HX.out HT.out hr rfl HQ.out.1 HQ.out.2.1 HQ.out.2.2 (Yf O16.out) (fun k hk hF => by have h1 := (Zf O16.out hk).1; have h2 := HFL.out k hF; have h3 := BL.out.size; omega)
     have SR2 := Za (And.intro SR SC)
     clear SR SC
     go_wp2_with fail
     go_ret2
     exact ⟨rfl, _, _, ⟨_, _, _, _, _, _, _, _, SR2.out.1⟩, (Ch.of_bel (Zg BL.out BW.out)).trans SR2.out.2, fun _ h => .inl h, fun k hk => hk.imp id (fun h => by have h1 := (Zf O16.out h).1; have h3 := BL.out.size; omega)⟩
 · have q := (BW.out.cell (p := ⟨bS, i, none⟩) hbS).trans DS.out
   go_simp
   refine hK1.out _ _ hH (fun hH => ?_)
   clear hK1 K1 q
   refine wpAnyH_ready (rs := [5, 15]) (by kernel_rfl) (by decide) ?_
   refine AllReadyH.cons rfl (fun K1 hK1 => ?_) (AllReadyH.cons rfl (fun K1 hK1 => ?_) AllReadyH.nil)
   · go_simp
     have B2 := Za (Zu BW.out (.cells #[] 64))
     refine hK1.out _ _ (S3.out.al B2.out) (fun hH => ?_)
     clear hK1 K1
     have O5 := Za (And.intro (B_ W3 (.cells #[] 64)) BW.out.size)
     replace BW := B2
     clear B2
     generalize W3.alloc _ = X1 at *
     refine wpAnyH_ready (rs := [13, 15]) (by kernel_rfl) (by decide) ?_
     refine AllReadyH.cons rfl (fun K1 hK1 => ?_) (AllReadyH.cons rfl (fun K1 hK1 => ?_) AllReadyH.nil)
     · have AP := Za (fun ty => Yq (xs := vcs f) Tryz.underlying65 Ym rfl (by decide) O5.out.1 O5.out.2 (Zj OQ.out (fun k hk => BW.out.block k (Zf OQ.out hk).2.1)) hfl7 (Yt _) BW.out.size ty)
       refine Zr (TS := 65) (.tmp 49) (.tmp 56) _ _ _ (fun ty => AP.out ty) rfl rfl rfl rfl ?_
       rintro v9 X2 ⟨⟨a9, c9, rfl⟩, o9, b9, _⟩
       have B2 := Za (Zg BW.out b9)
       refine hK1.out _ _ (S3.out.al B2.out) (fun hH => ?_)
       clear hK1 K1 AP
       have O13 := Za o9
       replace BW := B2
       clear B2 o9 b9 O5
       refine RH_ 15 (fun K1 hK1 => ?_)
       go_simp
       have B2 := Za (Zu BW.out (.cells #[I_ t, I_ m, .int .u64 z] 64))
       refine hK1.out _ _ (S3.out.al B2.out) (fun hH => ?_)
       clear hK1 K1
       replace O13 := Za (Zj O13.out (fun k hk => (Zd X2 (.cells #[I_ t, I_ m, .int .u64 z] 64)).block k (Zf O13.out hk).2.1))
       have V15 := Za (Val.new X2 t m z)
       replace BW := B2
       clear B2
       generalize X2.alloc _ = X3 at *
       refine RH_ 16 (fun K1 hK1 => ?_)
       have AP := Za (fun ty => push_b O13.out BW.out.size hfl7 t m z V15.out ty)
       refine Zr (TS := 65) (.tmp 57) (.tmp 59) _ _ _ (fun ty => AP.out ty) rfl rfl rfl rfl ?_
       rintro v9 X4 ⟨⟨a8, c8, rfl⟩, o9, g9⟩
       have B2 := Za (BW.out.grown g9 BW.out.size (fun k hk => (Zf O13.out hk).1))
       refine hK1.out _ _ (S3.out.al B2.out) (fun hH => ?_)
       clear hK1 K1 AP
       have O16 := Za o9
       replace BW := B2
       clear B2 o9 g9 O13 V15
       refine H2_ 17 hH ?_
       simp only [Act.put, S_]
       refine RH_ 18 (fun K1 hK1 => ?_)
       have q1 := (BW.out.cell (p := ⟨bS, i, none⟩) hbS).trans DS.out
       have q2 := (BW.out.frozen (p := ⟨bS, i, none⟩) hbS).trans DF.out
       go_simp
       refine hK1.out _ _ (hH.set hne1 hne2 _ _) (fun hH => ?_)
       clear hK1 K1 q1 q2
       refine wpAnyH_done (by kernel_rfl) ?_ _
       clear hH
       obtain ⟨SR, SC⟩ := (R3.out.bel BW.out).setS HN.out i q (t, m, z) _ _ HX.out HT.out hr rfl HQ.out.1 HQ.out.2.1 HQ.out.2.2 (Yf O16.out) (fun k hk hF => by have h1 := (Zf O16.out hk).1; have h2 := HFL.out k hF; have h3 := BL.out.size; omega)
       have SR2 := Za (And.intro SR SC)
       clear SR SC
       go_wp2_with fail
       go_ret2
       exact ⟨rfl, _, _, ⟨_, _, _, _, _, _, _, _, SR2.out.1⟩, (Ch.of_bel (Zg BL.out BW.out)).trans SR2.out.2, fun _ h => .inl h, fun k hk => hk.imp id (fun h => by have h1 := (Zf O16.out h).1; have h3 := BL.out.size; omega)⟩
     · go_simp
       have B2 := Za (Zu BW.out (.cells #[I_ t, I_ m, .int .u64 z] 64))
       refine hK1.out _ _ (S3.out.al B2.out) (fun hH => ?_)
       clear hK1 K1
       replace O5 := Za (And.intro (((Zd X1 (.cells #[I_ t, I_ m, .int .u64 z] 64)).block _ (Ze O5.out.1)).trans O5.out.1) O5.out.2)
       have V15 := Za (Val.new X1 t m z)
       replace BW := B2
       clear B2
       generalize X1.alloc _ = X2 at *
       refine RH_ 13 (fun K1 hK1 => ?_)
       have AP := Za (fun ty => Yq (xs := vcs f) Tryz.underlying65 Ym rfl (by decide) O5.out.1 O5.out.2 (Zj OQ.out (fun k hk => BW.out.block k (Zf OQ.out hk).2.1)) hfl7 (Yt _) BW.out.size ty)
       refine Zr (TS := 65) (.tmp 49) (.tmp 56) _ _ _ (fun ty => AP.out ty) rfl rfl rfl rfl ?_
       rintro v9 X3 ⟨⟨a9, c9, rfl⟩, o9, b9, _⟩
       have B2 := Za (Zg BW.out b9)
       refine hK1.out _ _ (S3.out.al B2.out) (fun hH => ?_)
       clear hK1 K1 AP
       replace V15 := Za (V15.out.al b9)
       have O13 := Za o9
       replace BW := B2
       clear B2 o9 b9 O5
       refine RH_ 16 (fun K1 hK1 => ?_)
       have AP := Za (fun ty => push_b O13.out BW.out.size hfl7 t m z V15.out ty)
       refine Zr (TS := 65) (.tmp 57) (.tmp 59) _ _ _ (fun ty => AP.out ty) rfl rfl rfl rfl ?_
       rintro v9 X4 ⟨⟨a8, c8, rfl⟩, o9, g9⟩
       have B2 := Za (BW.out.grown g9 BW.out.size (fun k hk => (Zf O13.out hk).1))
       refine hK1.out _ _ (S3.out.al B2.out) (fun hH => ?_)
       clear hK1 K1 AP
       have O16 := Za o9
       replace BW := B2
       clear B2 o9 g9 O13 V15
       refine H2_ 17 hH ?_
       simp only [Act.put, S_]
       refine RH_ 18 (fun K1 hK1 => ?_)
       have q1 := (BW.out.cell (p := ⟨bS, i, none⟩) hbS).trans DS.out
       have q2 := (BW.out.frozen (p := ⟨bS, i, none⟩) hbS).trans DF.out
       go_simp
       refine hK1.out _ _ (hH.set hne1 hne2 _ _) (fun hH => ?_)
       clear hK1 K1 q1 q2
       refine wpAnyH_done (by kernel_rfl) ?_ _
       clear hH
       obtain ⟨SR, SC⟩ := (R3.out.bel BW.out).setS HN.out i q (t, m, z) _ _ HX.out HT.out hr rfl HQ.out.1 HQ.out.2.1 HQ.out.2.2 (Yf O16.out) (fun k hk hF => by have h1 := (Zf O16.out hk).1; have h2 := HFL.out k hF; have h3 := BL.out.size; omega)
       have SR2 := Za (And.intro SR SC)
       clear SR SC
       go_wp2_with fail
       go_ret2
       exact ⟨rfl, _, _, ⟨_, _, _, _, _, _, _, _, SR2.out.1⟩, (Ch.of_bel (Zg BL.out BW.out)).trans SR2.out.2, fun _ h => .inl h, fun k hk => hk.imp id (fun h => by have h1 := (Zf O16.out h).1; have h3 := BL.out.size; omega)⟩
   · go_simp
     have B2 := Za (Zu BW.out (.cells #[I_ t, I_ m, .int .u64 z] 64))
     refine hK1.out _ _ (S3.out.al B2.out) (fun hH => ?_)
     clear hK1 K1
     have V15 := Za (Val.new W3 t m z)
     replace BW := B2
     clear B2
     generalize W3.alloc _ = X1 at *
     refine RH_ 5 (fun K1 hK1 => ?_)
     go_simp
     have B2 := Za (Zu BW.out (.cells #[] 64))
     refine hK1.out _ _ (S3.out.al B2.out) (fun hH => ?_)
     clear hK1 K1
     replace V15 := Za (V15.out.al (Zd X1 (.cells #[] 64)))
     have O5 := Za (And.intro (B_ X1 (.cells #[] 64)) BW.out.size)
     replace BW := B2
     clear B2
     generalize X1.alloc _ = X2 at *
     refine RH_ 13 (fun K1 hK1 => ?_)
     have AP := Za (fun ty => Yq (xs := vcs f) Tryz.underlying65 Ym rfl (by decide) O5.out.1 O5.out.2 (Zj OQ.out (fun k hk => BW.out.block k (Zf OQ.out hk).2.1)) hfl7 (Yt _) BW.out.size ty)
     refine Zr (TS := 65) (.tmp 49) (.tmp 56) _ _ _ (fun ty => AP.out ty) rfl rfl rfl rfl ?_
     rintro v9 X3 ⟨⟨a9, c9, rfl⟩, o9, b9, _⟩
     have B2 := Za (Zg BW.out b9)
     refine hK1.out _ _ (S3.out.al B2.out) (fun hH => ?_)
     clear hK1 K1 AP
     replace V15 := Za (V15.out.al b9)
     have O13 := Za o9
     replace BW := B2
     clear B2 o9 b9 O5
     refine RH_ 16 (fun K1 hK1 => ?_)
     have AP := Za (fun ty => push_b O13.out BW.out.size hfl7 t m z V15.out ty)
     refine Zr (TS := 65) (.tmp 57) (.tmp 59) _ _ _ (fun ty => AP.out ty) rfl rfl rfl rfl ?_
     rintro v9 X4 ⟨⟨a8, c8, rfl⟩, o9, g9⟩
     have B2 := Za (BW.out.grown g9 BW.out.size (fun k hk => (Zf O13.out hk).1))
     refine hK1.out _ _ (S3.out.al B2.out) (fun hH => ?_)
     clear hK1 K1 AP
     have O16 := Za o9
     replace BW := B2
     clear B2 o9 g9 O13 V15
     refine H2_ 17 hH ?_
     simp only [Act.put, S_]
     refine RH_ 18 (fun K1 hK1 => ?_)
     have q1 := (BW.out.cell (p := ⟨bS, i, none⟩) hbS).trans DS.out
     have q2 := (BW.out.frozen (p := ⟨bS, i, none⟩) hbS).trans DF.out
     go_simp
     refine hK1.out _ _ (hH.set hne1 hne2 _ _) (fun hH => ?_)
     clear hK1 K1 q1 q2
     refine wpAnyH_done (by kernel_rfl) ?_ _
     clear hH
     obtain ⟨SR, SC⟩ := (R3.out.bel BW.out).setS HN.out i q (t, m, z) _ _ HX.out HT.out hr rfl HQ.out.1 HQ.out.2.1 HQ.out.2.2 (Yf O16.out) (fun k hk hF => by have h1 := (Zf O16.out hk).1; have h2 := HFL.out k hF; have h3 := BL.out.size; omega)
     have SR2 := Za (And.intro SR SC)
     clear SR SC
     go_wp2_with fail
     go_ret2
     exact ⟨rfl, _, _, ⟨_, _, _, _, _, _, _, _, SR2.out.1⟩, (Ch.of_bel (Zg BL.out BW.out)).trans SR2.out.2, fun _ h => .inl h, fun k hk => hk.imp id (fun h => by have h1 := (Zf O16.out h).1; have h3 := BL.out.size; omega)⟩
 · go_simp
   have B2 := Za (Zu BW.out (.cells #[I_ t, I_ m, .int .u64 z] 64))
   refine hK1.out _ _ (S3.out.al B2.out) (fun hH => ?_)
   clear hK1 K1
   have V15 := Za (Val.new W3 t m z)
   replace BW := B2
   clear B2
   generalize W3.alloc _ = X0 at *
   refine wpAnyH_ready (rs := [5, 12]) (by kernel_rfl) (by decide) ?_
   refine AllReadyH.cons rfl (fun K1 hK1 => ?_) (AllReadyH.cons rfl (fun K1 hK1 => ?_) AllReadyH.nil)
   · go_simp
     have B2 := Za (Zu BW.out (.cells #[] 64))
     refine hK1.out _ _ (S3.out.al B2.out) (fun hH => ?_)
     clear hK1 K1
     replace V15 := Za (V15.out.al (Zd X0 (.cells #[] 64)))
     have O5 := Za (And.intro (B_ X0 (.cells #[] 64)) BW.out.size)
     replace BW := B2
     clear B2
     generalize X0.alloc _ = X1 at *
     refine RH_ 12 (fun K1 hK1 => ?_)
     have q := (BW.out.cell (p := ⟨bS, i, none⟩) hbS).trans DS.out
     go_simp
     refine hK1.out _ _ hH (fun hH => ?_)
     clear hK1 K1 q
     refine RH_ 13 (fun K1 hK1 => ?_)
     have AP := Za (fun ty => Yq (xs := vcs f) Tryz.underlying65 Ym rfl (by decide) O5.out.1 O5.out.2 (Zj OQ.out (fun k hk => BW.out.block k (Zf OQ.out hk).2.1)) hfl7 (Yt _) BW.out.size ty)
     refine Zr (TS := 65) (.tmp 49) (.tmp 56) _ _ _ (fun ty => AP.out ty) rfl rfl rfl rfl ?_
     rintro v9 X3 ⟨⟨a9, c9, rfl⟩, o9, b9, _⟩
     have B2 := Za (Zg BW.out b9)
     refine hK1.out _ _ (S3.out.al B2.out) (fun hH => ?_)
     clear hK1 K1 AP
     replace V15 := Za (V15.out.al b9)
     have O13 := Za o9
     replace BW := B2
     clear B2 o9 b9 O5
     refine RH_ 16 (fun K1 hK1 => ?_)
     have AP := Za (fun ty => push_b O13.out BW.out.size hfl7 t m z V15.out ty)
     refine Zr (TS := 65) (.tmp 57) (.tmp 59) _ _ _ (fun ty => AP.out ty) rfl rfl rfl rfl ?_
     rintro v9 X4 ⟨⟨a8, c8, rfl⟩, o9, g9⟩
     have B2 := Za (BW.out.grown g9 BW.out.size (fun k hk => (Zf O13.out hk).1))
     refine hK1.out _ _ (S3.out.al B2.out) (fun hH => ?_)
     clear hK1 K1 AP
     have O16 := Za o9
     replace BW := B2
     clear B2 o9 g9 O13 V15
     refine H2_ 17 hH ?_
     simp only [Act.put, S_]
     refine RH_ 18 (fun K1 hK1 => ?_)
     have q1 := (BW.out.cell (p := ⟨bS, i, none⟩) hbS).trans DS.out
     have q2 := (BW.out.frozen (p := ⟨bS, i, none⟩) hbS).trans DF.out
     go_simp
     refine hK1.out _ _ (hH.set hne1 hne2 _ _) (fun hH => ?_)
     clear hK1 K1 q1 q2
     refine wpAnyH_done (by kernel_rfl) ?_ _
     clear hH
     obtain ⟨SR, SC⟩ := (R3.out.bel BW.out).setS HN.out i q (t, m, z) _ _ HX.out HT.out hr rfl HQ.out.1 HQ.out.2.1 HQ.out.2.2 (Yf O16.out) (fun k hk hF => by have h1 := (Zf O16.out hk).1; have h2 := HFL.out k hF; have h3 := BL.out.size; omega)
     have SR2 := Za (And.intro SR SC)
     clear SR SC
     go_wp2_with fail
     go_ret2
     exact ⟨rfl, _, _, ⟨_, _, _, _, _, _, _, _, SR2.out.1⟩, (Ch.of_bel (Zg BL.out BW.out)).trans SR2.out.2, fun _ h => .inl h, fun k hk => hk.imp id (fun h => by have h1 := (Zf O16.out h).1; have h3 := BL.out.size; omega)⟩
   · have q := (BW.out.cell (p := ⟨bS, i, none⟩) hbS).trans DS.out
     go_simp
     refine hK1.out _ _ hH (fun hH => ?_)
     clear hK1 K1 q
     refine RH_ 5 (fun K1 hK1 => ?_)
     go_simp
     have B2 := Za (Zu BW.out (.cells #[] 64))
     refine hK1.out _ _ (S3.out.al B2.out) (fun hH => ?_)
     clear hK1 K1
     replace V15 := Za (V15.out.al (Zd X0 (.cells #[] 64)))
     have O5 := Za (And.intro (B_ X0 (.cells #[] 64)) BW.out.size)
     replace BW := B2
     clear B2
     generalize X0.alloc _ = X2 at *
     refine RH_ 13 (fun K1 hK1 => ?_)
     have AP := Za (fun ty => Yq (xs := vcs f) Tryz.underlying65 Ym rfl (by decide) O5.out.1 O5.out.2 (Zj OQ.out (fun k hk => BW.out.block k (Zf OQ.out hk).2.1)) hfl7 (Yt _) BW.out.size ty)
     refine Zr (TS := 65) (.tmp 49) (.tmp 56) _ _ _ (fun ty => AP.out ty) rfl rfl rfl rfl ?_
     rintro v9 X3 ⟨⟨a9, c9, rfl⟩, o9, b9, _⟩
     have B2 := Za (Zg BW.out b9)
     refine hK1.out _ _ (S3.out.al B2.out) (fun hH => ?_)
     clear hK1 K1 AP
     replace V15 := Za (V15.out.al b9)
     have O13 := Za o9
     replace BW := B2
     clear B2 o9 b9 O5
     refine RH_ 16 (fun K1 hK1 => ?_)
     have AP := Za (fun ty => push_b O13.out BW.out.size hfl7 t m z V15.out ty)
     refine Zr (TS := 65) (.tmp 57) (.tmp 59) _ _ _ (fun ty => AP.out ty) rfl rfl rfl rfl ?_
     rintro v9 X4 ⟨⟨a8, c8, rfl⟩, o9, g9⟩
     have B2 := Za (BW.out.grown g9 BW.out.size (fun k hk => (Zf O13.out hk).1))
     refine hK1.out _ _ (S3.out.al B2.out) (fun hH => ?_)
     clear hK1 K1 AP
     have O16 := Za o9
     replace BW := B2
     clear B2 o9 g9 O13 V15
     refine H2_ 17 hH ?_
     simp only [Act.put, S_]
     refine RH_ 18 (fun K1 hK1 => ?_)
     have q1 := (BW.out.cell (p := ⟨bS, i, none⟩) hbS).trans DS.out
     have q2 := (BW.out.frozen (p := ⟨bS, i, none⟩) hbS).trans DF.out
     go_simp
     refine hK1.out _ _ (hH.set hne1 hne2 _ _) (fun hH => ?_)
     clear hK1 K1 q1 q2
     refine wpAnyH_done (by kernel_rfl) ?_ _
     clear hH
     obtain ⟨SR, SC⟩ := (R3.out.bel BW.out).setS HN.out i q (t, m, z) _ _ HX.out HT.out hr rfl HQ.out.1 HQ.out.2.1 HQ.out.2.2 (Yf O16.out) (fun k hk hF => by have h1 := (Zf O16.out hk).1; have h2 := HFL.out k hF; have h3 := BL.out.size; omega)
     have SR2 := Za (And.intro SR SC)
     clear SR SC
     go_wp2_with fail
     go_ret2
     exact ⟨rfl, _, _, ⟨_, _, _, _, _, _, _, _, SR2.out.1⟩, (Ch.of_bel (Zg BL.out BW.out)).trans SR2.out.2, fun _ h => .inl h, fun k hk => hk.imp id (fun h => by have h1 := (Zf O16.out h).1; have h3 := BL.out.size; omega)⟩
theorem Rv.var {w : World} {F R : Nat -> Prop} {B g : Nat} {s : St} {vP vL vC vS vT vA : Value} {ss : List Value} {tk : List Int} (h : Rv w F R B g s vP vL vC vS vT vA ss tk) {k : Nat} (hk : ¬ F k) (hr : ¬ R k) (x y z : Value) : Rv (((w.setCell ⟨k, 0, none⟩ x).setCell ⟨k, 1, none⟩ y).setCell ⟨k, 2, none⟩ z) F R B g s vP vL vC vS vT vA ss tk :=
  h.keep (fun j hj => by
    have hn : j ≠ k := fun e => hj.elim (fun h => hk (e ▸ h)) (fun h => hr (e ▸ h))
    exact (Below.heap_setCell _ _ _ _ hn).trans ((Below.heap_setCell _ _ _ _ hn).trans (Below.heap_setCell _ _ _ _ hn))) (by rw [Zi, Zi, Zi]; exact Nat.le_refl _)
theorem rRecv_some {w : World} {F R : Nat -> Prop} {B g : Nat} {s : St} (h : Rt w F R B g s) (hB1 : B <= 1000000) (i : Nat) (q : Qu) (hx : s.C[i]? = some q) (v : V3) (l : List V3) (hl : q.l = v :: l) : Calls Tryz.prog 79 #[P_ g, I_ (i : Nat)] w (Rp w F R B g { s with C := s.C.set i { q with l := l } } (.tuple #[.agg #[I_ v.1, I_ v.2.1, .int .u64 v.2.2], .bool true, I_ 0])) := by
 obtain ⟨vP, vL, vC, vS, vT, vA, ss, tk, h⟩ := h
 have hi : i < s.C.length := (G_ hx)
 obtain ⟨b, c, e, hc, hm⟩ := Zq h.ch (by omega)
 have hsm := h.small
 obtain ⟨n, hn⟩ : ∃ n, n = s.C.length := ⟨_, rfl⟩
 rw [← hn] at e hi hc
 have hn128 : n <= 128 := by omega
 subst e
 have HN := Za hn
 have c1 := h.cells.2.2.1
 have hgl := h.fb g h.fg
 have hbl : b < w.heap.size := (Zf h.ch (k := b) rfl).2.1
 have hsl := h.sl
 have htl := h.tl
 obtain ⟨vq, hv⟩ : ∃ v, ss[i]? = some v := ⟨_, List.getElem?_eq_getElem (by omega)⟩
 obtain ⟨t0, ht⟩ : ∃ t, tk[i]? = some t := ⟨_, List.getElem?_eq_getElem (by omega)⟩
 obtain ⟨f, tn, e1, hle, hdr, hfB, oq, rq⟩ := h.q i q vq t0 hx hv ht
 subst e1
 obtain ⟨aq, cq, eq, hcq, hmq⟩ := Zl oq
 subst eq
 obtain ⟨bS, cS, eS, _⟩ := Zq h.se (by omega)
 obtain ⟨bT, cT, eT, _⟩ := Zq h.ta (by omega)
 rw [← hn] at eS eT
 subst eS eT
 have hfl : f.length - tn = q.l.length := by rw [← hdr, List.length_drop]
 have HX := Za hx
 have W1 := Za (And.intro (h.bel (Zd w (.cells #[I_ 0, I_ 0, .int .u64 0] 64))) (And.intro (Zd w (.cells #[I_ 0, I_ 0, .int .u64 0] 64)) (Val.new w 0 0 0)))
 have HFL := Za h.fb
 have HRB := Za h.rb
 have HV := Za (And.intro hv ht)
 obtain ⟨fl, hfl1⟩ : ∃ fl, fl = f.length := ⟨_, rfl⟩
 have hb2 : tn < fl := by
  rw [hl] at hfl
  simp at hfl
  omega
 have hb1' : fl <= 1000000 := by omega
 have hql : q.l.length = l.length + 1 := by rw [hl]; rfl
 have hfat : f[tn]? = some v := by
  have h2 : (f.drop tn)[0]? = some v := by rw [hdr, hl]; rfl
  simpa using h2
 rw [← hfl1] at oq
 obtain ⟨bq, cq', eq', _⟩ := Zq oq (by omega)
 rw [hfl1] at eq'
 cases eq'
 have OQ := Za oq
 have HFA := Za hfat
 clear h hsm hc hm hn hx hv ht oq rq hle hdr hfB hcq hmq hsl htl hfl hfat
 rw [← hfl1] at *
 clear hfl1
 go_enter Tryz.func79, Tryz.ntmps79
 go_wp2_with fail
 refine (in_yes i n _ hi).mono ?_
 rintro e w1 ⟨rfl, rfl⟩
 go_wp2_with fail
 generalize w.alloc _ = w1 at *
 obtain ⟨h1, hb1, V1⟩ := W1.out
 refine (rHeld_q ⟨_, _, _, _, _, _, _, _, h1⟩ hB1 i q HX.out).mono ?_
 rintro e w2 ⟨rfl, kk, rfl⟩
 rw [hql]
 have h3 := h1.bel (below_drewN (Below.refl _ _) kk)
 have V2 := V1.al (below_drewN (Below.refl _ _) kk)
 have B2 := Za (below_drewN hb1 kk)
 clear V1 h1 hb1 W1
 generalize w1.drewN kk = w3 at *
 have c4 := h3.cells.2.2.2.2.1
 obtain ⟨dT, fT⟩ := Zk h3.ta i _ (nts_at HV.out.2)
 obtain ⟨R4, C4⟩ := h3.setT HN.out i q v l _ HX.out hl HV.out.2
 have O3 := Zj OQ.out (fun k hk => B2.out.block k (Zf OQ.out hk).2.1)
 have O4 := Zj (w' := w3.setCell ⟨bT, i, none⟩ (I_ ((tn : Int) + 1))) O3 (fun k hk => Below.heap_setCell _ _ _ _ (fun e => Zo O3 h3.ta (by decide) k hk (congrArg some e.symm)))
 have V4 := V2.keep (w' := w3.setCell ⟨bT, i, none⟩ (I_ ((tn : Int) + 1))) (C4.blk w.heap.size V2.lt (fun e => by have := HFL.out _ e; omega))
 have x3 := R4.cells.2.2.2.1
 have x4 := R4.cells.2.2.2.2.1
 have xS := (Zk R4.se i _ HV.out.1).1
 have xT := (Zk R4.ta i _ (nts_at (List.getElem?_set_self (G_ HV.out.2)))).1
 obtain ⟨q0, q1, q2⟩ := vcs_at _ _ _ HFA.out
 rw [Nat.mul_comm] at q0 q1 q2
 have z0 := (Zk O4 _ _ q0).1
 have z1 := (Zk O4 _ _ q1).1
 have z2 := (Zk O4 _ _ q2).1
 obtain ⟨⟨g0, g1, g2⟩, v0, v1, v2⟩ := V4.all
 have hl0 : ((l.length : Int) + 1 == 0) = false := by simp; omega
 have RF := Za (And.intro R4 (And.intro C4 V4))
 have hsub : (tn : Int) + 1 - 1 = (tn : Int) := by omega
 clear R4 C4 V4 V2 h3 O3 O4 q0 q1 q2 OQ HFA HV hl hql
 go_wp2_with fail
 generalize w3.setCell ⟨bT, i, none⟩ (I_ ((tn : Int) + 1)) = w4 at *
 go_region
 go_wp2_with fail
 exact ret_vbe w.heap.size rfl rfl rfl rfl (RF.out.2.2.set v.1 v.2.1 v.2.2) rfl (Rp.mk rfl ⟨_, _, _, _, _, _, _, _, (RF.out.1.var (k := w.heap.size) (fun e => by have := HFL.out _ e; omega) (fun e => by have := HRB.out _ e; omega) _ _ _).bel (Zp (Below.refl _ _))⟩ (((Ch.of_bel B2.out).trans RF.out.2.1).below (Zt (N := w.heap.size) (Below.refl _ _) (Nat.le_refl _) _ _ _)).drew)
theorem info_bool : (Tryz.prog.info? 4).map (fun i => (i.zero, i.size, i.bytes)) = some (some (.bool false), 1, 1) := by kernel_rfl
end Go.Proofs.YtfojninaginnoaaGreatDoor.Ck
