/- The walk of the statement DrawApart. -/
import Derived.Test.YtflokfbdogofmaaDoorLaidR
import Derived.Test.YtflokfbdogofmaaDoorElI
namespace Go.Proofs.YtflokfbdogofmaaDoor.Ck
open Go.RowKit

/-- how many words are taken, and what is answered, where picks below the numbers of a list are asked for, one behind the other -/
def stepT (S : List Int) (t : Nat) (n : Int) : Nat := if n < 1 then t else pickT S t n
def stepV' (S : List Int) (t : Nat) (n : Int) : Int := if n < 1 then 0 else pickV S t n
def runT (S zs : List Int) : Nat → Nat
  | 0 => 0
  | k + 1 => stepT S (runT S zs k) (zs.getD k 0)
def runX (S zs : List Int) (k : Nat) : Int := stepV' S (runT S zs k) (zs.getD k 0)
def runL (S zs : List Int) (k : Nat) : List Int := (List.range k).map (runX S zs)
theorem stepT_le (S : List Int) (t : Nat) (n : Int) : stepT S t n ≤ t + 64 := by
  unfold stepT
  split
  · omega
  · by_cases h : n = 1
    · subst h; simp [pickT]
    · exact (pickT_bounds S t n h).2
theorem runT_le (S zs : List Int) : ∀ k, runT S zs k ≤ 64 * k
  | 0 => Nat.le_refl _
  | k + 1 => by
    have h1 := runT_le S zs k
    have h2 := stepT_le S (runT S zs k) (zs.getD k 0)
    show stepT S (runT S zs k) (zs.getD k 0) ≤ _
    omega
theorem runL_len (S zs : List Int) (k : Nat) : (runL S zs k).length = k := by simp [runL]
theorem runL_at (S zs : List Int) (k i : Nat) (h : i < k) : (runL S zs k).getD i 0 = runX S zs i := by simp [runL, List.getD, h]
theorem runL_snoc (S zs : List Int) (k : Nat) : runL S zs k ++ [runX S zs k] = runL S zs (k + 1) := by simp [runL, List.range_succ]

set_option maxHeartbeats 400000 in
/-- a pick of a draw, whatever it is below -/
theorem dpick_any (g : Nat) (S : List Int) (t k : Nat) (n : Int) (ev : Value) (w : World) (hs : Dw w g S t k) (ht : t ≤ 2305843009213693952) (hn2 : n ≤ 9223372036854775807) (htab : Tab w) (hgT : g ≠ 17) (hE : w.cell? ⟨0, 0, none⟩ = some ev) :
    Calls Tryd.prog 16 #[.pointer (some ⟨g, 0, none⟩), .int .i64 n] w fun e w' => ∃ er, e = .returned (.tuple #[.int .i64 (stepV' S t n), er]) ∧ Dw w' g S (stepT S t n) k ∧ Tn g w w' := by
  by_cases h : n < 1
  · refine (dpick_bad g n ev w h hE).mono ?_
    rintro e w' ⟨rfl, hb, _⟩
    exact ⟨ev, by unfold stepV'; rw [if_pos h], by unfold stepT; rw [if_pos h]; exact hs.bel hb, Tn.of_bel hb⟩
  · obtain ⟨m, rfl⟩ : ∃ m : Nat, n = (m : Int) := ⟨n.toNat, by omega⟩
    refine (dpick_ok g S t k m w hs ht (by omega) (by omega) htab hgT).mono ?_
    rintro e w' ⟨rfl, hd, htn⟩
    exact ⟨.nilIface, by unfold stepV'; rw [if_neg h], by unfold stepT; rw [if_neg h]; exact hd, htn⟩

set_option maxRecDepth 20000 in
set_option maxHeartbeats 2000000 in
theorem apart_main (v0 v1 : Value) (seed other : List Int) (a2 : Option Addr) (len cap : Nat) (zs : List Int) (pe : Addr) (w : World) (hv : SB w v0 seed) (hu : SB w v1 other) (hz : Sl w (.slice a2 len cap) zs) (htab : Tab w) (hE : w.cell? ⟨0, 0, none⟩ = some (.iface 115 (.pointer (some pe)))) (hEl : 0 < w.heap.size) :
    Calls Tryd.prog 5 #[v0, v1, .slice a2 len cap] w fun e w' => e = .returned (.bool true) ∧ Below w.heap.size w w' := by
  obtain ⟨a0, c0, rfl, hc0, hcm⟩ := hv.form
  obtain ⟨a1, c1, rfl, hc1, hcm1⟩ := hu.form
  unfold maxLen at hcm hcm1
  obtain ⟨l, el⟩ : ∃ l, l = seed.length := ⟨_, rfl⟩
  obtain ⟨m, em⟩ : ∃ m, m = other.length := ⟨_, rfl⟩
  have EL := hide el
  have EM := hide em
  rw [← el] at hv hc0 ⊢
  rw [← em] at hu hc1 ⊢
  clear el em
  have HZ := hide hz
  have EZ := hide hz.len
  have HLn : Hid (len ≤ maxLen) := by
    obtain ⟨_, a', c', e, h1, h2, _⟩ := hz
    cases e
    show _ ≤ _
    omega
  have HZF : Hid (∀ k, k < len → -9223372036854775808 ≤ zs.getD k 0 ∧ zs.getD k 0 ≤ 9223372036854775807) := fun k hk => by
    have hkl : k < zs.length := by rw [← EZ.out]; exact hk
    exact HZ.out.1 (zs.getD k 0) (by simp [List.getD, hkl])
  clear hz
  have h0 := htab.1
  go_enter Tryd.func5, Tryd.ntmps5
  go_wp2_with fail
  refine (dalive_any w htab).mono ?_
  rintro e w1 ⟨rfl, hb1⟩
  by_cases h1 : l ≤ 3000
  · have d1 : decide ((3000 : Int) < (l : Int)) = false := decide_eq_false (by omega)
    by_cases h2 : m ≤ 3000
    · have d2 : decide ((3000 : Int) < (m : Int)) = false := decide_eq_false (by omega)
      have hz1 := hb1.size
      go_wp2_with fail
      refine (dnew_any seed _ w1 (hv.bel hb1) (by have := EL.out; omega) (htab.bel hb1)).mono ?_
      rintro e w2 ⟨ga, rfl, da, hga, hb2⟩
      have hb2w := bel_trans hb1 hb2
      go_wp2_with fail
      refine (dnew_any seed _ w2 (hv.bel hb2w) (by have := EL.out; omega) (htab.bel hb2w)).mono ?_
      rintro e w3 ⟨gb, rfl, db, hgb, hb3⟩
      have hb3w := bel_trans hb2w hb3
      go_wp2_with fail
      refine (dnew_any other _ w3 (hu.bel hb3w) (by have := EM.out; omega) (htab.bel hb3w)).mono ?_
      rintro e w4 ⟨gc, rfl, dc, hgc, hb4⟩
      have hb4w := bel_trans hb3w hb4
      have la := da.lt
      have lb := db.lt
      have lc := dc.lt
      have z2 := hb2.size
      have z3 := hb3.size
      have z4 := hb4.size
      have HG : Hid (w.heap.size ≤ ga ∧ w.heap.size ≤ gb ∧ w.heap.size ≤ gc ∧ ga ≠ gb ∧ ga ≠ gc ∧ gb ≠ gc ∧ ga ≠ 17 ∧ gb ≠ 17 ∧ gc ≠ 17 ∧ ga < w4.heap.size ∧ gb < w4.heap.size ∧ gc < w4.heap.size) := by
        refine ⟨?_, ?_, ?_, ?_, ?_, ?_, ?_, ?_, ?_, ?_, ?_, ?_⟩ <;> omega
      have da := (da.bel hb3).bel hb4
      have db := db.bel hb4
      generalize sha seed = S at *
      generalize sha other = R at *
      obtain ⟨B, eB⟩ : ∃ B, B = w4.heap.size := ⟨_, rfl⟩
      have EB : Hid (w.heap.size ≤ B ∧ B ≤ w4.heap.size) := by show _ ∧ _; omega
      rw [← eB] at HG
      have o4 := OwnI.empty w4
      rw [← eB] at o4
      have hb5w := bel_al hb4w (.cells #[] 3)
      have da := da.bel (bel_new w4 (.cells #[] 3))
      have db := db.bel (bel_new w4 (.cells #[] 3))
      have dc := dc.bel (bel_new w4 (.cells #[] 3))
      have z5 : w4.heap.size ≤ (w4.alloc (.cells #[] 3)).heap.size := (bel_new w4 (.cells #[] 3)).size
      clear hga hgb hgc la lb lc z2 z3 z4 hz1 hb2 hb3 hb4 hb1 hb2w hb3w hb4w
      go_wp2_with fail
      rw [← eB]
      generalize w4.alloc (.cells #[] 3) = w5 at *
      have EB5 : Hid (B ≤ w5.heap.size) := by show _ ≤ _; omega
      clear eB z5
      go_loopw [38, 10] (fun i fs wr => ∃ k gf cf tc : Nat, k ≤ len ∧ k ≤ 61 ∧ Hid (tc = k) ∧ i = .int .i64 k ∧ fs = .slice (some ⟨gf, 0, none⟩) k cf ∧ OwnI wr B gf cf (runL S zs k) ∧ Dw wr ga S (runT S zs k) 0 ∧ Dw wr gb S 0 0 ∧ Dw wr gc R tc 0 ∧ Below w.heap.size w wr ∧ B ≤ wr.heap.size) (fun i _ _ => 61 - (intOf i).toNat)
      case atStart => exact ⟨0, B, 0, 0, Nat.zero_le _, Nat.zero_le _, rfl, rfl, rfl, o4, da, db, dc, hb5w, EB5.out⟩
      case round =>
        obtain ⟨k, gf, cf, tc, hk, hk61, ETC, rfl, rfl, o, da, db, dc, hb, hBr⟩ := hrel
        have hlm := HLn.out
        unfold maxLen at hlm
        by_cases hlt : k < len ∧ k ≤ 60
        · obtain ⟨b, off, rfl, hbl, q0⟩ := (HZ.out.below (Nat.le_refl _) hb).at k hlt.1
          have hzf := HZF.out k hlt.1
          have d5 : decide ((k : Int) < (len : Int)) = true := decide_eq_true (by omega)
          have d6 : decide ((60 : Int) < (k : Int)) = false := decide_eq_false (by omega)
          have i5 : (0 : Int) ≤ (k : Int) ∧ (k : Int) < (len : Int) := by omega
          have hEr := (hb.cell (p := ⟨0, 0, none⟩) hEl).trans hE
          have hrt := runT_le S zs k
          have ER : Hid (runT S zs (k + 1) = stepT S (runT S zs k) (zs.getD k 0)) := rfl
          have EX : Hid (runX S zs k = stepV' S (runT S zs k) (zs.getD k 0)) := rfl
          have ESN := hide (runL_snoc S zs k)
          have ELk : Hid (k = (runL S zs k).length) := (runL_len S zs k).symm
          obtain ⟨T, eT⟩ : ∃ T, T = runT S zs k := ⟨_, rfl⟩
          have htT : T ≤ 2305843009213693952 := by omega
          rw [← eT] at da ER EX
          generalize zs.getD k 0 = z at *
          clear eT hrt
          go_wp2_with fail
          refine (dpick_any ga S T 0 z _ wr da htT hzf.2 (htab.bel hb) HG.out.2.2.2.2.2.2.1 hEr).mono ?_
          rintro e w6 ⟨er, rfl, da6, t6⟩
          have ga' : gf ≠ ga := by have := o.ge; have := HG.out; omega
          have o6 := o.tn t6 ga'
          have db6 := db.tn t6 (Ne.symm HG.out.2.2.2.1)
          have dc6 := dc.tn t6 (Ne.symm HG.out.2.2.2.2.1)
          have hb6 := bel_tn hb t6 HG.out.1
          have hB6 : B ≤ w6.heap.size := Nat.le_trans hBr t6.size
          rw [← EX.out, ]
          rw [← ER.out] at da6
          obtain ⟨X, eX⟩ : ∃ X, X = runX S zs k := ⟨_, rfl⟩
          rw [← eX] at ESN ⊢
          clear eX EX ER q0 da db dc o t6 hb
          have hk2 : k + 1 ≤ 2000000 := by omega
          go_wp2_with (first | (at_builtin; refine wpList_appI (.tmp 51) (.tmp 53) _ _ _ (fun ty => pushI (x := X) ty o6 ELk.out trivial hk2 hB6) rfl rfl rfl rfl ?_; rintro v7 w7 ⟨⟨g7, c7, rfl, o7⟩, t7⟩))
          have hgf := o6.ge
          have na : ga ≠ gf := by have := HG.out; omega
          have nb : gb ≠ gf := by have := HG.out; omega
          have nc : gc ≠ gf := by have := HG.out; omega
          have da7 := da6.tn t7 na
          have db7 := db6.tn t7 nb
          have dc7 := dc6.tn t7 nc
          have hb7 := bel_tn hb6 t7 (Nat.le_trans EB.out.1 hgf)
          have hB7 : B ≤ w7.heap.size := Nat.le_trans hB6 t7.size
          rw [ESN.out] at o7
          clear da6 db6 dc6 t7 o6 hb6 hB6
          refine (dword_any gc R tc 0 w7 dc7 (by have := ETC.out; omega) (htab.bel hb7)).mono ?_
          rintro e w8 ⟨rfl, dc8, t8⟩
          have o8 := o7.tn t8 (by have := o7.ge; have := HG.out; omega)
          have da8 := da7.tn t8 HG.out.2.2.2.2.1
          have db8 := db7.tn t8 HG.out.2.2.2.2.2.1
          have hb8 := bel_tn hb7 t8 HG.out.2.2.1
          have hB8 : B ≤ w8.heap.size := Nat.le_trans hB7 t8.size
          go_wp2_with fail
          go_roundw
          case rel => exact ⟨k + 1, g7, c7, tc + 1, by omega, by omega, by have := ETC.out; show _ = _; omega, by go_num, rfl, o8, da8, db8, dc8, hb8, hB8⟩
          case measure => simp [intOf]; omega
        · have Hk61 := hide hk61
          have ELk : Hid (k = (runL S zs k).length) := (runL_len S zs k).symm
          obtain ⟨T, eT⟩ : ∃ T, T = runT S zs k := ⟨_, rfl⟩
          have ET := hide eT
          rw [← eT] at da
          clear eT
          have HJ : Hid (∀ j, j < k → ∃ b off, a2 = some ⟨b, off, none⟩ ∧ b < w.heap.size ∧ w.cell? ⟨b, off + j, none⟩ = some (.int .i64 (zs.getD j 0))) := fun j hj => HZ.out.at j (by omega)
          by_cases hkl : k < len
          · obtain ⟨b, off, rfl, hbl, q0⟩ := (HZ.out.below (Nat.le_refl _) hb).at k hkl
            have d5 : decide ((k : Int) < (len : Int)) = true := decide_eq_true (by omega)
            have d6 : decide ((60 : Int) < (k : Int)) = true := decide_eq_true (by omega)
            have i5 : (0 : Int) ≤ (k : Int) ∧ (k : Int) < (len : Int) := by omega
            have Hkl : Hid (k ≤ len) := hk
            clear hlt hk61
            go_wp2_with fail
            clear d5
            go_loopw [60] (fun i wr' => ∃ j tc' : Nat, j ≤ k ∧ Hid (tc' ≤ 61 + 64 * j) ∧ i = .int .i64 j ∧ OwnI wr' B gf cf (runL S zs k) ∧ Dw wr' ga S T 0 ∧ Dw wr' gb S (runT S zs j) 0 ∧ Dw wr' gc R tc' 0 ∧ Below w.heap.size w wr') (fun i _ => k - (intOf i).toNat)
            case atStart => exact ⟨0, tc, Nat.zero_le _, by have := ETC.out; have := Hk61.out; show _ ≤ _; omega, rfl, o, da, db, dc, hb⟩
            case round =>
              clear o da db dc hb hBr
              obtain ⟨j, tc', hj, ETC', rfl, o, da, db, dc, hb⟩ := hrel
              have hk61 := Hk61.out
              by_cases hjk : j < k
              · obtain ⟨b', off', eb', hbl', q1⟩ := HJ.out j hjk
                have HQ : Hid (∀ wx, Below w.heap.size w wx → wx.cell? ⟨b', off' + j, none⟩ = some (.int .i64 (zs.getD j 0))) := fun wx h => (h.cell (p := ⟨b', off' + j, none⟩) hbl').trans q1
                obtain ⟨rfl, rfl⟩ : b = b' ∧ off = off' := by cases eb'; exact ⟨rfl, rfl⟩
                clear eb'
                have hzf := HZF.out j (by have := Hkl.out; omega)
                have p0 := o.cell j (by rw [← ELk.out]; exact hjk)
                rw [runL_at _ _ _ _ hjk] at p0
                have dj : decide ((j : Int) < (k : Int)) = true := decide_eq_true (by omega)
                have ij : (0 : Int) ≤ (j : Int) ∧ (j : Int) < (k : Int) := by omega
                have il : (0 : Int) ≤ (j : Int) ∧ (j : Int) < (len : Int) := by have := Hkl.out; omega
                have hrt := runT_le S zs j
                have ER : Hid (runT S zs (j + 1) = stepT S (runT S zs j) (zs.getD j 0)) := rfl
                have EX : Hid (runX S zs j = stepV' S (runT S zs j) (zs.getD j 0)) := rfl
                have HXB : 1 ≤ zs.getD j 0 → 0 ≤ runX S zs j ∧ runX S zs j < zs.getD j 0 := fun h => by
                  rw [EX.out]
                  unfold stepV'
                  rw [if_neg (by omega)]
                  exact pickV_fit S _ _ h
                obtain ⟨U, eU⟩ : ∃ U, U = runT S zs j := ⟨_, rfl⟩
                have hU : U ≤ 2305843009213693952 := by omega
                rw [← eU] at db ER EX
                obtain ⟨j1, ej1⟩ : ∃ j1 : Nat, (j : Int) + 1 = (j1 : Int) := ⟨j + 1, by omega⟩
                have hj1 : 1 ≤ j1 := by omega
                have hj2 : (j1 : Int) < 9223372036854775808 := by omega
                generalize zs.getD j 0 = z at *
                obtain ⟨X, eX⟩ : ∃ X, X = runX S zs j := ⟨_, rfl⟩
                rw [← eX] at p0 EX HXB
                clear eX eU hrt q1
                go_wp2_with fail
                refine (dpick_ok gc R tc' 0 j1 _ dc (by have := ETC'.out; omega) hj1 hj2 (htab.bel hb) HG.out.2.2.2.2.2.2.2.2.1).mono ?_
                rintro e w6 ⟨rfl, dc6, t6⟩
                have htc : Hid (pickT R tc' (j1 : Int) ≤ 61 + 64 * (j + 1)) := by
                  show _ ≤ _
                  have h1 := ETC'.out
                  by_cases h : (j1 : Int) = 1
                  · rw [h]; unfold pickT; rw [if_pos rfl]; omega
                  · have := (pickT_bounds R tc' (j1 : Int) h).2
                    omega
                obtain ⟨tc6, etc6⟩ : ∃ tc6, tc6 = pickT R tc' (j1 : Int) := ⟨_, rfl⟩
                rw [← etc6] at dc6 htc
                have o6 := o.tn t6 (by have := o.ge; have := HG.out; omega)
                have da6 := da.tn t6 HG.out.2.2.2.2.1
                have db6 := db.tn t6 HG.out.2.2.2.2.2.1
                have hb6 := bel_tn hb t6 HG.out.2.2.1
                have hEr := (hb6.cell (p := ⟨0, 0, none⟩) hEl).trans hE
                have q6 := HQ.out w6 hb6
                clear o da db dc hb t6 p0 etc6
                go_wp2_with fail
                refine (dpick_any gb S U 0 z _ w6 db6 hU hzf.2 (htab.bel hb6) HG.out.2.2.2.2.2.2.2.1 hEr).mono ?_
                rintro e w7 ⟨er, rfl, db7, t7⟩
                have o7 := o6.tn t7 (by have := o6.ge; have := HG.out; omega)
                have da7 := da6.tn t7 HG.out.2.2.2.1
                have dc7 := dc6.tn t7 (Ne.symm HG.out.2.2.2.2.2.1)
                have hb7 := bel_tn hb6 t7 HG.out.2.1
                have q7 := HQ.out w7 hb7
                rw [← EX.out]
                rw [← ER.out] at db7
                clear o6 da6 db6 dc6 hb6 t7 q6 hEr
                by_cases hz1 : 1 ≤ z
                · have dz : decide (1 ≤ z) = true := decide_eq_true hz1
                  have hx := HXB hz1
                  have dx0 : decide (X < 0) = false := decide_eq_false (by omega)
                  have dx1 : decide (z ≤ X) = false := decide_eq_false (by omega)
                  clear HXB
                  go_wp2_with fail
                  go_roundw
                  case rel => exact ⟨j + 1, tc6, by omega, htc, by go_num, o7, da7, db7, dc7, hb7⟩
                  case measure => simp [intOf]; omega
                · have dz : decide (1 ≤ z) = false := decide_eq_false hz1
                  clear HXB
                  go_wp2_with fail
                  go_roundw
                  case rel => exact ⟨j + 1, tc6, by omega, htc, by go_num, o7, da7, db7, dc7, hb7⟩
                  case measure => simp [intOf]; omega
              · have ej : j = k := by omega
                subst ej
                rw [← ET.out] at db
                have dj : decide ((j : Int) < (j : Int)) = false := decide_eq_false (by omega)
                go_wp2_with fail
                refine (dtaken_any ga S T 0 _ da).mono ?_
                rintro e w8 ⟨rfl, rfl⟩
                go_wp2_with fail
                refine (dtaken_any gb S T 0 _ db).mono ?_
                rintro e w8 ⟨rfl, rfl⟩
                go_wp2_with fail
                go_ret
                exact ⟨rfl, hb⟩
          · have d5 : decide ((k : Int) < (len : Int)) = false := decide_eq_false (by omega)
            have Hkl : Hid (k ≤ len) := hk
            clear hlt hk61
            go_wp2_with fail
            clear d5
            go_loopw [60] (fun i wr' => ∃ j tc' : Nat, j ≤ k ∧ Hid (tc' ≤ 61 + 64 * j) ∧ i = .int .i64 j ∧ OwnI wr' B gf cf (runL S zs k) ∧ Dw wr' ga S T 0 ∧ Dw wr' gb S (runT S zs j) 0 ∧ Dw wr' gc R tc' 0 ∧ Below w.heap.size w wr') (fun i _ => k - (intOf i).toNat)
            case atStart => exact ⟨0, tc, Nat.zero_le _, by have := ETC.out; have := Hk61.out; show _ ≤ _; omega, rfl, o, da, db, dc, hb⟩
            case round =>
              clear o da db dc hb hBr
              obtain ⟨j, tc', hj, ETC', rfl, o, da, db, dc, hb⟩ := hrel
              have hk61 := Hk61.out
              by_cases hjk : j < k
              · obtain ⟨b', off', eb', hbl', q1⟩ := HJ.out j hjk
                have HQ : Hid (∀ wx, Below w.heap.size w wx → wx.cell? ⟨b', off' + j, none⟩ = some (.int .i64 (zs.getD j 0))) := fun wx h => (h.cell (p := ⟨b', off' + j, none⟩) hbl').trans q1
                subst eb'
                have hzf := HZF.out j (by have := Hkl.out; omega)
                have p0 := o.cell j (by rw [← ELk.out]; exact hjk)
                rw [runL_at _ _ _ _ hjk] at p0
                have dj : decide ((j : Int) < (k : Int)) = true := decide_eq_true (by omega)
                have ij : (0 : Int) ≤ (j : Int) ∧ (j : Int) < (k : Int) := by omega
                have il : (0 : Int) ≤ (j : Int) ∧ (j : Int) < (len : Int) := by have := Hkl.out; omega
                have hrt := runT_le S zs j
                have ER : Hid (runT S zs (j + 1) = stepT S (runT S zs j) (zs.getD j 0)) := rfl
                have EX : Hid (runX S zs j = stepV' S (runT S zs j) (zs.getD j 0)) := rfl
                have HXB : 1 ≤ zs.getD j 0 → 0 ≤ runX S zs j ∧ runX S zs j < zs.getD j 0 := fun h => by
                  rw [EX.out]
                  unfold stepV'
                  rw [if_neg (by omega)]
                  exact pickV_fit S _ _ h
                obtain ⟨U, eU⟩ : ∃ U, U = runT S zs j := ⟨_, rfl⟩
                have hU : U ≤ 2305843009213693952 := by omega
                rw [← eU] at db ER EX
                obtain ⟨j1, ej1⟩ : ∃ j1 : Nat, (j : Int) + 1 = (j1 : Int) := ⟨j + 1, by omega⟩
                have hj1 : 1 ≤ j1 := by omega
                have hj2 : (j1 : Int) < 9223372036854775808 := by omega
                generalize zs.getD j 0 = z at *
                obtain ⟨X, eX⟩ : ∃ X, X = runX S zs j := ⟨_, rfl⟩
                rw [← eX] at p0 EX HXB
                clear eX eU hrt q1
                go_wp2_with fail
                refine (dpick_ok gc R tc' 0 j1 _ dc (by have := ETC'.out; omega) hj1 hj2 (htab.bel hb) HG.out.2.2.2.2.2.2.2.2.1).mono ?_
                rintro e w6 ⟨rfl, dc6, t6⟩
                have htc : Hid (pickT R tc' (j1 : Int) ≤ 61 + 64 * (j + 1)) := by
                  show _ ≤ _
                  have h1 := ETC'.out
                  by_cases h : (j1 : Int) = 1
                  · rw [h]; unfold pickT; rw [if_pos rfl]; omega
                  · have := (pickT_bounds R tc' (j1 : Int) h).2
                    omega
                obtain ⟨tc6, etc6⟩ : ∃ tc6, tc6 = pickT R tc' (j1 : Int) := ⟨_, rfl⟩
                rw [← etc6] at dc6 htc
                have o6 := o.tn t6 (by have := o.ge; have := HG.out; omega)
                have da6 := da.tn t6 HG.out.2.2.2.2.1
                have db6 := db.tn t6 HG.out.2.2.2.2.2.1
                have hb6 := bel_tn hb t6 HG.out.2.2.1
                have hEr := (hb6.cell (p := ⟨0, 0, none⟩) hEl).trans hE
                have q6 := HQ.out w6 hb6
                clear o da db dc hb t6 p0 etc6
                go_wp2_with fail
                refine (dpick_any gb S U 0 z _ w6 db6 hU hzf.2 (htab.bel hb6) HG.out.2.2.2.2.2.2.2.1 hEr).mono ?_
                rintro e w7 ⟨er, rfl, db7, t7⟩
                have o7 := o6.tn t7 (by have := o6.ge; have := HG.out; omega)
                have da7 := da6.tn t7 HG.out.2.2.2.1
                have dc7 := dc6.tn t7 (Ne.symm HG.out.2.2.2.2.2.1)
                have hb7 := bel_tn hb6 t7 HG.out.2.1
                have q7 := HQ.out w7 hb7
                rw [← EX.out]
                rw [← ER.out] at db7
                clear o6 da6 db6 dc6 hb6 t7 q6 hEr
                by_cases hz1 : 1 ≤ z
                · have dz : decide (1 ≤ z) = true := decide_eq_true hz1
                  have hx := HXB hz1
                  have dx0 : decide (X < 0) = false := decide_eq_false (by omega)
                  have dx1 : decide (z ≤ X) = false := decide_eq_false (by omega)
                  clear HXB
                  go_wp2_with fail
                  go_roundw
                  case rel => exact ⟨j + 1, tc6, by omega, htc, by go_num, o7, da7, db7, dc7, hb7⟩
                  case measure => simp [intOf]; omega
                · have dz : decide (1 ≤ z) = false := decide_eq_false hz1
                  clear HXB
                  go_wp2_with fail
                  go_roundw
                  case rel => exact ⟨j + 1, tc6, by omega, htc, by go_num, o7, da7, db7, dc7, hb7⟩
                  case measure => simp [intOf]; omega
              · have ej : j = k := by omega
                subst ej
                rw [← ET.out] at db
                have dj : decide ((j : Int) < (j : Int)) = false := decide_eq_false (by omega)
                go_wp2_with fail
                refine (dtaken_any ga S T 0 _ da).mono ?_
                rintro e w8 ⟨rfl, rfl⟩
                go_wp2_with fail
                refine (dtaken_any gb S T 0 _ db).mono ?_
                rintro e w8 ⟨rfl, rfl⟩
                go_wp2_with fail
                go_ret
                exact ⟨rfl, hb⟩
    · have d2 : decide ((3000 : Int) < (m : Int)) = true := decide_eq_true (by omega)
      go_wp2_with fail
      go_ret
      exact ⟨rfl, hb1⟩
  · have d1 : decide ((3000 : Int) < (l : Int)) = true := decide_eq_true (by omega)
    go_wp2_with fail
    go_ret
    exact ⟨rfl, hb1⟩

theorem drawApart_walk {W : World} {a0 a1 a2 : Option Addr} {len0 cap0 len1 cap1 len2 cap2 : Nat} {z0 z1 z2 : List Int} (s0 : SB W (.slice a0 len0 cap0) z0) (s1 : SB W (.slice a1 len1 cap1) z1) (s2 : Sl W (.slice a2 len2 cap2) z2) (hL : laidMetH Tryd.prog laidR W) :
    Calls Tryd.prog 5 #[.slice a0 len0 cap0, .slice a1 len1 cap1, .slice a2 len2 cap2] W fun e w' => e = .returned (.bool true) ∧ Below W.heap.size W w' := by
  obtain ⟨ht, pe, hE, hEl⟩ := of_laidR hL
  exact apart_main _ _ z0 z1 _ _ _ z2 pe W s0 s1 s2 ht hE hEl

end Go.Proofs.YtflokfbdogofmaaDoor.Ck
