/- The walk of the statement DrawPlays. -/
import Derived.Test.YtflokfbdogofmaaDoorLaidE
import Derived.Test.YtflokfbdogofmaaDoorRm
import Derived.Test.YtflokfbdogofmaaDoorOpsD
import Derived.Test.YtflokfbdogofmaaDoorMarksB
namespace Go.Proofs.YtflokfbdogofmaaDoor.Ck
open Go.RowKit

theorem own_prefix {w : World} {B g cap : Nat} {a b : List Int} (h : OwnB w B g cap (a ++ b)) (hf : Fit8 a) : SB w (.slice (some ⟨g, 0, none⟩) a.length cap) a := by
  obtain ⟨cur, _, hg, h3, h4, _⟩ := h.parts
  rw [List.length_append] at h3
  refine ⟨hf, _, _, rfl, by omega, h4, fun i hi => ⟨g, 0, rfl, h.lt, ?_⟩⟩
  rw [Nat.zero_add, h.cell i (by rw [List.length_append]; omega)]
  simp only [List.getD, List.getElem?_append_left hi]

theorem dtaken_q (g : Nat) (S : List Int) (t n : Nat) (w : World) (hs : Dw w g S t n) : Calls Tryd.prog 21 #[.pointer (some ⟨g, 0, none⟩)] w fun e w' => e = .returned (.int .i64 t) ∧ w' = w := (dtaken_any g S t n w hs).mono fun _ _ h => ⟨h.1, h.2.symm⟩
theorem dnow_q (g : Nat) (S : List Int) (t n : Nat) (w : World) (hs : Dw w g S t n) : Calls Tryd.prog 22 #[.pointer (some ⟨g, 0, none⟩)] w fun e w' => e = .returned (.int .i64 n) ∧ w' = w := (dnow_any g S t n w hs).mono fun _ _ h => ⟨h.1, h.2.symm⟩

theorem rnew_new (w : World) : Calls Tryd.prog 13 #[] w fun e w' => ∃ gS cS gT cT, e = .returned (.pointer (some ⟨w.heap.size, 0, none⟩)) ∧ Ha w' w.heap.size gS cS gT cT ∧ w.heap.size ≤ gS ∧ w.heap.size ≤ gT ∧ Below w.heap.size w w' := by
  refine (rnew_any w).mono ?_
  rintro e w' ⟨vS, vT, rfl, h⟩
  obtain ⟨gS, cS, e1, o1⟩ := h.s.own (by decide)
  obtain ⟨gT, cT, e2, o2⟩ := h.t.own (by decide)
  subst e1 e2
  have h1 := o1.ge
  have h2 := o2.ge
  exact ⟨gS, cS, gT, cT, rfl, ⟨h.blk, o1.down (Nat.zero_le _), o2.down (Nat.zero_le _)⟩, by omega, by omega, h.bel⟩

/-- the program's draw and the document's, side by side -/
structure Pl (w wr : World) (gd gm gh gS cS gT cT gr cr : Nat) (S : List Int) (t n : Nat) : Prop where
  d : Dw wr gd S t n
  m : Rd wr gm gh gS cS gT cT gr cr S t n
  bel : Below w.heap.size w wr
  ld : w.heap.size ≤ gd
  lm : w.heap.size ≤ gm
  ne : gd ≠ gm ∧ gh ≠ gd ∧ gS ≠ gd ∧ gT ≠ gd ∧ gr ≠ gd
theorem Pl.grow {w wr w' : World} {gd gm gh gS cS gT cT gr cr t n : Nat} {S : List Int} (h : Pl w wr gd gm gh gS cS gT cT gr cr S t n) (hb : Below wr.heap.size wr w') : Pl w w' gd gm gh gS cS gT cT gr cr S t n :=
  ⟨h.d.bel hb, h.m.bel hb, bel_trans h.bel hb, h.ld, h.lm, h.ne⟩
theorem Pl.drew {w wr : World} {gd gm gh gS cS gT cT gr cr t n : Nat} {S : List Int} (h : Pl w wr gd gm gh gS cS gT cT gr cr S t n) : Pl w wr.drew gd gm gh gS cS gT cT gr cr S t n :=
  ⟨h.d, ⟨h.m.blk, ⟨h.m.ha.blk, h.m.ha.s, h.m.ha.t⟩, h.m.root, h.m.len, h.m.fit, h.m.apart⟩, ⟨h.bel.os, h.bel.tape, h.bel.output, h.bel.size, h.bel.block⟩, h.ld, h.lm, h.ne⟩
/-- both take a step -/
theorem Pl.both {w wr w1 w2 : World} {gd gm gh gS cS gT cT gr cr t n t' n' : Nat} {S : List Int} (h : Pl w wr gd gm gh gS cS gT cT gr cr S t n) (d1 : Dw w1 gd S t' n') (t1 : Tn gd wr w1) (m2 : Rd w2 gm gh gS cS gT cT gr cr S t' n') (t2 : Tn gm w1 w2) : Pl w w2 gd gm gh gS cS gT cT gr cr S t' n' :=
  ⟨d1.tn t2 h.ne.1, m2, bel_tn (bel_tn h.bel t1 h.ld) t2 h.lm, h.ld, h.lm, h.ne⟩
theorem Pl.mid {w wr w1 : World} {gd gm gh gS cS gT cT gr cr t n : Nat} {S : List Int} (h : Pl w wr gd gm gh gS cS gT cT gr cr S t n) (t1 : Tn gd wr w1) : Rd w1 gm gh gS cS gT cT gr cr S t n ∧ Below w.heap.size w w1 :=
  ⟨h.m.tn t1 (Ne.symm h.ne.1) h.ne.2.1 h.ne.2.2.1 h.ne.2.2.2.1 h.ne.2.2.2.2, bel_tn h.bel t1 h.ld⟩

set_option maxRecDepth 20000 in
set_option maxHeartbeats 4000000 in
theorem plays_main (v0 : Value) (seed : List Int) (oa : Option Addr) (len oc : Nat) (f : Nat → OpV) (p : List Addr) (w : World) (hv : SB w v0 seed) (ho : OpsAt w oa len f) (htab : Tab w) (he : Errs17 w p) :
    Calls Tryd.prog 3 #[v0, .slice oa len oc] w fun e w' => e = .returned (.bool true) ∧ Below w.heap.size w w' := by
  obtain ⟨a0, c0, rfl, hc0, hcm⟩ := hv.form
  unfold maxLen at hcm
  obtain ⟨l, el⟩ : ∃ l, l = seed.length := ⟨_, rfl⟩
  have EL := hide el
  rw [← el] at hv hc0 ⊢
  clear el
  have h0 := htab.1
  have Ho := hide ho
  have hlen := ho.1
  have HN : Hid (∀ wr, Below w.heap.size w wr → Errs17 wr p) := fun wr hb => he.below (Nat.le_refl _) hb
  have HTb : Hid (∀ wr, Below w.heap.size w wr → Tab wr) := fun wr hb => htab.bel hb
  clear ho he
  go_enter Tryd.func3, Tryd.ntmps3
  go_wp2_with fail
  refine (dalive_any w htab).mono ?_
  rintro e w1 ⟨rfl, hb1⟩
  by_cases hl : l ≤ 3000
  · have d1 : decide ((3000 : Int) < (l : Int)) = false := decide_eq_false (by omega)
    have H3 : Hid (seed.length ≤ 3000) := by show _ ≤ _; have := EL.out; omega
    go_wp2_with fail
    refine (bytes_any _ seed w1 (hv.bel hb1) (by have := H3.out; omega)).mono ?_
    rintro e w2 ⟨gI, rfl, o2, hb2⟩
    have hb12 := bel_trans hb1 hb2
    rw [← EL.out] at o2 ⊢
    have sI : SB w2 (.slice (some ⟨gI, 0, none⟩) l (l + 6)) seed := by
      have := own_prefix o2 hv.fits
      rw [← EL.out] at this
      exact this
    go_wp2_with fail
    refine (dnew_any seed _ w2 sI (by have := H3.out; omega) (HTb.out _ hb12)).mono ?_
    rintro e w3 ⟨gd, rfl, d3, hgd, hb3⟩
    have hb3w := bel_trans hb12 hb3
    go_wp2_with fail
    refine (rnew_new w3).mono ?_
    rintro e w4 ⟨gS, cS, gT, cT, rfl, hh4, hgS, hgT, hb4⟩
    have hb4w := bel_trans hb3w hb4
    obtain ⟨gh, egh⟩ : ∃ gh, gh = w3.heap.size := ⟨_, rfl⟩
    rw [← egh] at hh4 ⊢
    have Egh := hide egh
    clear egh
    go_wp2_with fail
    refine (rdnew_any gh gS cS gT cT _ seed w4 hh4 (hv.bel hb4w) (by have := H3.out; omega)).mono ?_
    rintro e w5 ⟨gm, gr, cr, rfl, m5, hgm, hgr, hb5⟩
    have hb5w := bel_trans hb4w hb5
    have lI := o2.lt
    have gI0 := o2.ge
    have ld := d3.lt
    have z1 := hb1.size
    have z2 := hb2.size
    have z3 := hb3.size
    have z4 := hb4.size
    have HI : Hid (gd ≠ gI ∧ gm ≠ gI ∧ gh ≠ gI ∧ gS ≠ gI ∧ gT ≠ gI ∧ gr ≠ gI ∧ w.heap.size ≤ gI ∧ gd ≠ 17) := by
      have := Egh.out
      refine ⟨?_, ?_, ?_, ?_, ?_, ?_, ?_, ?_⟩ <;> omega
    have P5 : Pl w w5 gd gm gh gS cS gT cT gr cr (sha seed) 0 0 := ⟨(d3.bel hb4).bel hb5, m5, hb5w, by omega, by omega, by have := Egh.out; refine ⟨?_, ?_, ?_, ?_, ?_⟩ <;> omega⟩
    have HP5 := hide P5
    have o5 : OwnB w5 0 gI (l + 6) (seed ++ marks6) := (((o2.below hb3).below hb4).below hb5).down (Nat.zero_le _)
    have hl6 : Hid ((seed ++ marks6).length = l + 6) := by show _ = _; rw [List.length_append, ← EL.out]; rfl
    have hsl : Hid ((sha seed).length = 32) := sha_len seed
    generalize sha seed = S at *
    generalize seed ++ marks6 = zs at *
    clear P5 sI o2 hb2 hb12 hb3 hb3w hb4 hb4w hb5 hb5w d3 m5 hh4 hgd hgS hgT hgm hgr lI gI0 ld z1 z2 z3 z4 hb1
    go_wp2_with fail
    go_loopw [30] (fun i wr => ∃ (k : Nat) (zs : List Int), k ≤ l ∧ i = .int .i64 k ∧ Hid (zs.length = l + 6) ∧ Hid (OwnB wr 0 gI (l + 6) zs) ∧ Hid (Pl w wr gd gm gh gS cS gT cT gr cr S 0 0)) (fun i _ => l - (intOf i).toNat)
    case atStart => exact ⟨0, zs, Nat.zero_le _, rfl, hl6, o5, HP5⟩
    case round =>
      clear hl6 o5 HP5
      obtain ⟨k, zs, hk, rfl, hl6, o, P⟩ := hrel
      by_cases hkl : k < l
      · have d5 : decide ((k : Int) < (l : Int)) = true := decide_eq_true (by omega)
        have i5 : (0 : Int) ≤ (k : Int) ∧ (k : Int) < (l : Int) := by omega
        have q0 := o.out.cell k (by rw [hl6.out]; omega)
        have q1 := o.out.frozen k
        have T := hide (o.out.set k (bits .xor .u8 (zs.getD k 0) 85))
        have hx : Hid ((zs.set k (bits .xor .u8 (zs.getD k 0) 85)).length = l + 6) := by show _ = _; rw [List.length_set]; exact hl6.out
        generalize zs.getD k 0 = x at *
        go_wp2_with fail
        go_roundw
        case rel =>
          have T1 := T.out
          refine ⟨k + 1, _, by omega, by go_num, hx, T1.1, ?_⟩
          have t1 := T1.2
          exact ⟨P.out.d.tn t1 HI.out.1, P.out.m.tn t1 HI.out.2.1 HI.out.2.2.1 HI.out.2.2.2.1 HI.out.2.2.2.2.1 HI.out.2.2.2.2.2.1, bel_tn P.out.bel t1 HI.out.2.2.2.2.2.2.1, P.out.ld, P.out.lm, P.out.ne⟩
        case measure => simp [intOf]; omega
      · have ek : k = l := by omega
        subst ek
        have d5 : decide ((k : Int) < (k : Int)) = false := decide_eq_false (by omega)
        clear o hl6
        go_wp2_with fail
        go_loopw [42] (fun i wr => ∃ k T N : Nat, k ≤ len ∧ k ≤ 101 ∧ i = .int .i64 k ∧ Hid (T ≤ 64 * k) ∧ Hid (N ≤ 1099511627776) ∧ Hid (Pl w wr gd gm gh gS cS gT cT gr cr S T N)) (fun i _ => len - (intOf i).toNat)
        case atStart => exact ⟨0, 0, 0, Nat.zero_le _, Nat.zero_le _, rfl, Nat.le_refl _, Nat.zero_le _, P⟩
        case round =>
          clear P
          obtain ⟨j, T, N, hj, hj1, rfl, HT, HNN, P⟩ := hrel
          by_cases hgo : j < len ∧ j ≤ 100
          · obtain ⟨hfit, b, off, rfl, hbl, c0', c1'⟩ := (Ho.out.below P.out.bel).2 j hgo.1
            generalize f j = o at hfit c0' c1'
            obtain ⟨K, n⟩ := o
            simp only [OpV.fits] at hfit c0' c1'
            have hd1 : decide ((j : Int) < (len : Int)) = true := decide_eq_true (by omega)
            have hd2 : decide ((100 : Int) < (j : Int)) = false := decide_eq_false (by omega)
            have ij : (0 : Int) ≤ (j : Int) ∧ (j : Int) < (len : Int) := by omega
            have hTb : T ≤ 100000 := by have := HT.out; omega
            have hj100 := hgo.2
            have hjlt := hgo.1
            clear hgo
            by_cases hK1 : K = 1
            · subst hK1
              have Z0 := hide (P.out.grow (bel_new wr (.cells #[.int .i64 1, .int .i64 n] 33)))
              have hop : Hid (gd < wr.heap.size ∧ gm < wr.heap.size) := ⟨P.out.d.lt, P.out.m.blk.lt⟩
              have qo : (wr.alloc (.cells #[.int .i64 1, .int .i64 n] 33)).cell? ⟨wr.heap.size, 1, none⟩ = some (.int .i64 n) := (Blk.new wr [.int .i64 1, .int .i64 n] 33).cell 1
              have hol : wr.heap.size < (wr.alloc (.cells #[.int .i64 1, .int .i64 n] 33)).heap.size := (Blk.new wr [.int .i64 1, .int .i64 n] 33).lt
              clear P
              go_wp2_with fail
              generalize wr.alloc (.cells #[.int .i64 1, .int .i64 n] 33) = wt at Z0 qo hol ⊢
              refine (dword_any gd S T N wt Z0.out.d (by omega) (HTb.out _ Z0.out.bel)).mono ?_
              rintro e w6 ⟨rfl, d6, t6⟩
              have m6 := (Z0.out.mid t6).1
              obtain ⟨x, ex⟩ : ∃ x, wordN S T = x := ⟨_, rfl⟩
              have EX := hide ex
              rw [ex]
              clear ex
              go_wp2_with fail
              refine (rnext_any gm gh gS cS gT cT gr cr S T N w6 m6 (by omega)).mono ?_
              rintro e wz ⟨rfl, m7, t7⟩
              have Z := hide (Z0.out.both d6 t6 m7 t7)
              rw [EX.out]
              clear Z0 c0' c1' m6 d6 t6 m7 t7 qo hol
              go_wp2_with fail
              have p2 : wz.drew.cell? ⟨gm, 2, none⟩ = some (.int .i64 (T + 1)) := Z.out.m.taken
              have p3 : wz.drew.cell? ⟨gm, 3, none⟩ = some (.int .i64 N) := Z.out.m.now
              have dz : Dw wz.drew gd S (T + 1) N := Z.out.d
              refine wp_quiet_tail 19 mixed (by kernel_rfl) ?_
              simp only [List.take_succ_cons, List.take_zero, List.drop_succ_cons, List.drop_zero]
              repeat (first | go_big_quiet_skip | (go_big_quiet_want; go_big_quiet_op; first | go_big_quiet_on | (refine ⟨_, dtaken_q gd S (T + 1) N _ dz, ?_⟩; go_big_quiet_on) | (refine ⟨_, dnow_q gd S (T + 1) N _ dz, ?_⟩; go_big_quiet_on)))
              refine wpQuiet_nil ?_
              go_wp2_with fail
              go_roundw
              case rel => exact ⟨j + 1, (T + 1), N, by omega, by omega, by go_num, (by have := HT.out; show _ ≤ _; omega), (by exact HNN.out), Z.out.drew⟩
              case measure => simp [intOf]; omega
            · have hk1 : (K == 1) = false := by rw [beq_eq_false_iff_ne]; exact hK1
              by_cases hK2 : K = 2
              · subst hK2
                have Z0 := hide (P.out.grow (bel_new wr (.cells #[.int .i64 2, .int .i64 n] 33)))
                have hop : Hid (gd < wr.heap.size ∧ gm < wr.heap.size) := ⟨P.out.d.lt, P.out.m.blk.lt⟩
                have qo : (wr.alloc (.cells #[.int .i64 2, .int .i64 n] 33)).cell? ⟨wr.heap.size, 1, none⟩ = some (.int .i64 n) := (Blk.new wr [.int .i64 2, .int .i64 n] 33).cell 1
                have hol : wr.heap.size < (wr.alloc (.cells #[.int .i64 2, .int .i64 n] 33)).heap.size := (Blk.new wr [.int .i64 2, .int .i64 n] 33).lt
                clear P
                by_cases hn1 : n < 1
                · go_wp2_with fail
                  generalize wr.alloc (.cells #[.int .i64 2, .int .i64 n] 33) = wt at Z0 qo hol ⊢
                  have hq := (HN.out _ Z0.out.bel).cell 0 (by decide)
                  refine (dpick_bad gd n (errV p 0) wt hn1 hq).mono ?_
                  rintro e w6 ⟨rfl, hb6, _⟩
                  have Z6 := hide (Z0.out.grow hb6)
                  have q6 : w6.cell? ⟨wr.heap.size, 1, none⟩ = some (.int .i64 n) := (hb6.cell (p := ⟨wr.heap.size, 1, none⟩) hol).trans qo
                  clear hq Z0 qo
                  go_wp2_with fail
                  refine (rpick_bad gm n w6 hn1).mono ?_
                  rintro e w7 ⟨rfl, rfl⟩
                  go_wp2_with fail
                  refine (num_err p 0 w6 (HN.out _ Z6.out.bel) (by decide)).mono ?_
                  rintro e wz ⟨rfl, hb7⟩
                  have Z := hide (Z6.out.grow hb7)
                  clear Z6 q6 hb6 hb7 hol c0' c1'
                  go_wp2_with fail
                  have p2 : wz.drew.cell? ⟨gm, 2, none⟩ = some (.int .i64 T) := Z.out.m.taken
                  have p3 : wz.drew.cell? ⟨gm, 3, none⟩ = some (.int .i64 N) := Z.out.m.now
                  have dz : Dw wz.drew gd S T N := Z.out.d
                  refine wp_quiet_tail 19 mixed (by kernel_rfl) ?_
                  simp only [List.take_succ_cons, List.take_zero, List.drop_succ_cons, List.drop_zero]
                  repeat (first | go_big_quiet_skip | (go_big_quiet_want; go_big_quiet_op; first | go_big_quiet_on | (refine ⟨_, dtaken_q gd S T N _ dz, ?_⟩; go_big_quiet_on) | (refine ⟨_, dnow_q gd S T N _ dz, ?_⟩; go_big_quiet_on)))
                  refine wpQuiet_nil ?_
                  go_wp2_with fail
                  go_roundw
                  case rel => exact ⟨j + 1, T, N, by omega, by omega, by go_num, (by have := HT.out; show _ ≤ _; omega), (by exact HNN.out), Z.out.drew⟩
                  case measure => simp [intOf]; omega
                · obtain ⟨m, rfl⟩ : ∃ m : Nat, n = (m : Int) := ⟨n.toNat, by omega⟩
                  have hm1 : 1 ≤ m := by omega
                  have hm2 : (m : Int) < 9223372036854775808 := by have := hfit.2.2; omega
                  clear hn1
                  go_wp2_with fail
                  generalize wr.alloc (.cells #[.int .i64 2, .int .i64 m] 33) = wt at Z0 qo hol ⊢
                  refine (dpick_ok gd S T N m wt Z0.out.d (by omega) hm1 hm2 (HTb.out _ Z0.out.bel) HI.out.2.2.2.2.2.2.2).mono ?_
                  rintro e w6 ⟨rfl, d6, t6⟩
                  have m6 := (Z0.out.mid t6).1
                  have q6 : w6.cell? ⟨wr.heap.size, 1, none⟩ = some (.int .i64 m) := (t6.cell ⟨wr.heap.size, 1, none⟩ hol (by have := hop.out; show wr.heap.size ≠ gd; omega)).trans qo
                  have hTT : Hid (pickT S T (m : Int) ≤ T + 64) := by
                    show _ ≤ _
                    by_cases h : (m : Int) = 1
                    · rw [h]; unfold pickT; rw [if_pos rfl]; omega
                    · exact (pickT_bounds S T (m : Int) h).2
                  obtain ⟨x, ex⟩ : ∃ x, pickV S T (m : Int) = x := ⟨_, rfl⟩
                  have EX := hide ex
                  rw [ex]
                  clear ex qo
                  go_wp2_with fail
                  refine (rpick_ok gm gh gS cS gT cT gr cr S T N m w6 m6 (by omega) hm1 hm2).mono ?_
                  rintro e wz ⟨rfl, m7, t7⟩
                  have Z := hide (Z0.out.both d6 t6 m7 t7)
                  rw [EX.out]
                  obtain ⟨T', eT'⟩ : ∃ T', T' = pickT S T (m : Int) := ⟨_, rfl⟩
                  rw [← eT'] at Z hTT
                  clear Z0 c0' c1' m6 d6 t6 m7 t7 q6 hol eT'
                  go_wp2_with fail
                  refine (num_nil wz).mono ?_
                  rintro e w8 ⟨rfl, rfl⟩
                  go_wp2_with fail
                  have p2 : wz.drew.cell? ⟨gm, 2, none⟩ = some (.int .i64 T') := Z.out.m.taken
                  have p3 : wz.drew.cell? ⟨gm, 3, none⟩ = some (.int .i64 N) := Z.out.m.now
                  have dz : Dw wz.drew gd S T' N := Z.out.d
                  refine wp_quiet_tail 19 mixed (by kernel_rfl) ?_
                  simp only [List.take_succ_cons, List.take_zero, List.drop_succ_cons, List.drop_zero]
                  repeat (first | go_big_quiet_skip | (go_big_quiet_want; go_big_quiet_op; first | go_big_quiet_on | (refine ⟨_, dtaken_q gd S T' N _ dz, ?_⟩; go_big_quiet_on) | (refine ⟨_, dnow_q gd S T' N _ dz, ?_⟩; go_big_quiet_on)))
                  refine wpQuiet_nil ?_
                  go_wp2_with fail
                  go_roundw
                  case rel => exact ⟨j + 1, T', N, by omega, by omega, by go_num, (by have := HT.out; have := hTT.out; show _ ≤ _; omega), (by exact HNN.out), Z.out.drew⟩
                  case measure => simp [intOf]; omega
              · have hk2 : (K == 2) = false := by rw [beq_eq_false_iff_ne]; exact hK2
                by_cases hK3 : K = 3
                · subst hK3
                  have Z0 := hide (P.out.grow (bel_new wr (.cells #[.int .i64 3, .int .i64 n] 33)))
                  have hop : Hid (gd < wr.heap.size ∧ gm < wr.heap.size) := ⟨P.out.d.lt, P.out.m.blk.lt⟩
                  have qo : (wr.alloc (.cells #[.int .i64 3, .int .i64 n] 33)).cell? ⟨wr.heap.size, 1, none⟩ = some (.int .i64 n) := (Blk.new wr [.int .i64 3, .int .i64 n] 33).cell 1
                  have hol : wr.heap.size < (wr.alloc (.cells #[.int .i64 3, .int .i64 n] 33)).heap.size := (Blk.new wr [.int .i64 3, .int .i64 n] 33).lt
                  clear P
                  have hNN := HNN.out
                  by_cases hok : 0 ≤ n ∧ n ≤ 1099511627776 - (N : Int)
                  · go_wp2_with fail
                    generalize wr.alloc (.cells #[.int .i64 3, .int .i64 n] 33) = wt at Z0 qo hol ⊢
                    have Zd := hide Z0.out.drew
                    have qd : wt.drew.cell? ⟨wr.heap.size, 1, none⟩ = some (.int .i64 n) := qo
                    go_region_held3 (fun w' => w'.cell? ⟨wr.heap.size, 1, none⟩ = some (.int .i64 n)) (first | assumption)
                      (first
                        | (go_at_call 19; refine (dtick_ok gd S T N n wt.drew Zd.out.d hok.1 hok.2).mono ?_; rintro e w6 ⟨rfl, d6, t6⟩; have m6 := (Zd.out.mid t6).1; have q6 : w6.cell? ⟨wr.heap.size, 1, none⟩ = some (.int .i64 n) := (t6.cell ⟨wr.heap.size, 1, none⟩ hol (by have := hop.out; show wr.heap.size ≠ gd; omega)).trans qd)
                        | (go_at_call 18; refine (num_nil w6).mono ?_; rintro e w7 ⟨rfl, rfl⟩)
                        | (go_at_call 20; refine (rtick_ok gm gh gS cS gT cT gr cr S T N n w6 m6 hok.1 hok.2).mono ?_; rintro e wz ⟨rfl, m7, t7⟩; have q7 : wz.cell? ⟨wr.heap.size, 1, none⟩ = some (.int .i64 n) := (t7.cell ⟨wr.heap.size, 1, none⟩ (Nat.lt_of_lt_of_le hol t6.size) (by have := hop.out; show wr.heap.size ≠ gm; omega)).trans q6))
                    have Z := hide (Zd.out.both d6 t6 m7 t7)
                    obtain ⟨N', eN'⟩ : ∃ N', N' = N + n.toNat := ⟨_, rfl⟩
                    rw [← eN'] at Z
                    have hN' : Hid (N' ≤ 1099511627776) := by show _ ≤ _; omega
                    clear Z0 Zd c0' c1' m6 d6 t6 m7 t7 q6 q7 qo qd hol eN'
                    go_wp2_with fail
                    have p2 : wz.drew.cell? ⟨gm, 2, none⟩ = some (.int .i64 T) := Z.out.m.taken
                    have p3 : wz.drew.cell? ⟨gm, 3, none⟩ = some (.int .i64 N') := Z.out.m.now
                    have dz : Dw wz.drew gd S T N' := Z.out.d
                    refine wp_quiet_tail 19 mixed (by kernel_rfl) ?_
                    simp only [List.take_succ_cons, List.take_zero, List.drop_succ_cons, List.drop_zero]
                    repeat (first | go_big_quiet_skip | (go_big_quiet_want; go_big_quiet_op; first | go_big_quiet_on | (refine ⟨_, dtaken_q gd S T N' _ dz, ?_⟩; go_big_quiet_on) | (refine ⟨_, dnow_q gd S T N' _ dz, ?_⟩; go_big_quiet_on)))
                    refine wpQuiet_nil ?_
                    go_wp2_with fail
                    go_roundw
                    case rel => exact ⟨j + 1, T, N', by omega, by omega, by go_num, (by have := HT.out; show _ ≤ _; omega), (by exact hN'.out), Z.out.drew⟩
                    case measure => simp [intOf]; omega
                  · have hbad : n < 0 ∨ 1099511627776 - (N : Int) < n := by omega
                    clear hok
                    go_wp2_with fail
                    generalize wr.alloc (.cells #[.int .i64 3, .int .i64 n] 33) = wt at Z0 qo hol ⊢
                    have Zd := hide Z0.out.drew
                    have qd : wt.drew.cell? ⟨wr.heap.size, 1, none⟩ = some (.int .i64 n) := qo
                    have hq := (HN.out _ Zd.out.bel).cell 0 (by decide)
                    go_region_held3 (fun w' => w'.cell? ⟨wr.heap.size, 1, none⟩ = some (.int .i64 n)) (first | assumption)
                      (first
                        | (go_at_call 19; refine (dtick_bad gd S T N n (errV p 0) wt.drew Zd.out.d hNN hbad hq).mono ?_; rintro e w6 ⟨rfl, rfl⟩)
                        | (go_at_call 18; refine (num_err p 0 wt.drew (HN.out _ Zd.out.bel) (by decide)).mono ?_; rintro e wz ⟨rfl, hb7⟩; have Z := hide (Zd.out.grow hb7); have q7 : wz.cell? ⟨wr.heap.size, 1, none⟩ = some (.int .i64 n) := (hb7.cell (p := ⟨wr.heap.size, 1, none⟩) hol).trans qd)
                        | (go_at_call 20; refine (rtick_bad gm gh gS cS gT cT gr cr S T N n wz Z.out.m hfit.2.2 hbad).mono ?_; rintro e w8 ⟨rfl, rfl⟩))
                    clear Z0 Zd c0' c1' hb7 q7 qo qd hol hq
                    go_wp2_with fail
                    have p2 : wz.drew.cell? ⟨gm, 2, none⟩ = some (.int .i64 T) := Z.out.m.taken
                    have p3 : wz.drew.cell? ⟨gm, 3, none⟩ = some (.int .i64 N) := Z.out.m.now
                    have dz : Dw wz.drew gd S T N := Z.out.d
                    refine wp_quiet_tail 19 mixed (by kernel_rfl) ?_
                    simp only [List.take_succ_cons, List.take_zero, List.drop_succ_cons, List.drop_zero]
                    repeat (first | go_big_quiet_skip | (go_big_quiet_want; go_big_quiet_op; first | go_big_quiet_on | (refine ⟨_, dtaken_q gd S T N _ dz, ?_⟩; go_big_quiet_on) | (refine ⟨_, dnow_q gd S T N _ dz, ?_⟩; go_big_quiet_on)))
                    refine wpQuiet_nil ?_
                    go_wp2_with fail
                    go_roundw
                    case rel => exact ⟨j + 1, T, N, by omega, by omega, by go_num, (by have := HT.out; show _ ≤ _; omega), (by exact HNN.out), Z.out.drew⟩
                    case measure => simp [intOf]; omega
                · have hk3 : (K == 3) = false := by rw [beq_eq_false_iff_ne]; exact hK3
                  have Z0 := hide (P.out.grow (bel_new wr (.cells #[.int .i64 K, .int .i64 n] 33)))
                  have hop : Hid (gd < wr.heap.size ∧ gm < wr.heap.size) := ⟨P.out.d.lt, P.out.m.blk.lt⟩
                  have qo : (wr.alloc (.cells #[.int .i64 K, .int .i64 n] 33)).cell? ⟨wr.heap.size, 1, none⟩ = some (.int .i64 n) := (Blk.new wr [.int .i64 K, .int .i64 n] 33).cell 1
                  have hol : wr.heap.size < (wr.alloc (.cells #[.int .i64 K, .int .i64 n] 33)).heap.size := (Blk.new wr [.int .i64 K, .int .i64 n] 33).lt
                  clear P
                  clear qo hol
                  go_wp2_with fail
                  generalize wr.alloc (.cells #[.int .i64 K, .int .i64 n] 33) = wz at Z0 ⊢
                  have Z := Z0
                  clear Z0 c0' c1'
                  have p2 : wz.drew.cell? ⟨gm, 2, none⟩ = some (.int .i64 T) := Z.out.m.taken
                  have p3 : wz.drew.cell? ⟨gm, 3, none⟩ = some (.int .i64 N) := Z.out.m.now
                  have dz : Dw wz.drew gd S T N := Z.out.d
                  refine wp_quiet_tail 19 mixed (by kernel_rfl) ?_
                  simp only [List.take_succ_cons, List.take_zero, List.drop_succ_cons, List.drop_zero]
                  repeat (first | go_big_quiet_skip | (go_big_quiet_want; go_big_quiet_op; first | go_big_quiet_on | (refine ⟨_, dtaken_q gd S T N _ dz, ?_⟩; go_big_quiet_on) | (refine ⟨_, dnow_q gd S T N _ dz, ?_⟩; go_big_quiet_on)))
                  refine wpQuiet_nil ?_
                  go_wp2_with fail
                  go_roundw
                  case rel => exact ⟨j + 1, T, N, by omega, by omega, by go_num, (by have := HT.out; show _ ≤ _; omega), (by exact HNN.out), Z.out.drew⟩
                  case measure => simp [intOf]; omega
          · by_cases hjl : j < len
            · obtain ⟨hfit, b, off, rfl, hbl, c0', c1'⟩ := (Ho.out.below P.out.bel).2 j hjl
              generalize f j = o at c0' c1'
              obtain ⟨K, n⟩ := o
              simp only at c0' c1'
              have hd1 : decide ((j : Int) < (len : Int)) = true := decide_eq_true (by omega)
              have hd2 : decide ((100 : Int) < (j : Int)) = true := decide_eq_true (by omega)
              have ij : (0 : Int) ≤ (j : Int) ∧ (j : Int) < (len : Int) := by omega
              clear hgo
              go_wp2_with fail
              go_ret
              exact ⟨rfl, bel_al P.out.bel _⟩
            · have hd1 : decide ((j : Int) < (len : Int)) = false := decide_eq_false (by omega)
              clear hgo
              go_wp2_with fail
              go_ret
              exact ⟨rfl, P.out.bel⟩
  · have d1 : decide ((3000 : Int) < (l : Int)) = true := decide_eq_true (by omega)
    go_wp2_with fail
    go_ret
    exact ⟨rfl, hb1⟩

theorem drawPlays_walk {W : World} {a0 a1 : Option Addr} {len0 cap0 len1 cap1 : Nat} {z0 : List Int} {f : Nat → OpV} (s0 : SB W (.slice a0 len0 cap0) z0) (s1 : OpsAt W a1 len1 f) (hL : laidMetH Tryd.prog laidE W) :
    Calls Tryd.prog 3 #[.slice a0 len0 cap0, .slice a1 len1 cap1] W fun e w' => e = .returned (.bool true) ∧ Below W.heap.size W w' := by
  obtain ⟨ht, p, he⟩ := of_laidE hL
  exact plays_main _ z0 a1 len1 cap1 f p W s0 s1 ht he

end Go.Proofs.YtflokfbdogofmaaDoor.Ck
