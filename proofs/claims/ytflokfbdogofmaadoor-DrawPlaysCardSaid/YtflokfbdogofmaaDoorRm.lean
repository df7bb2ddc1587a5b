/- The contracts of the document's draw: New, Next, Pick, Tick. -/
import Derived.Test.YtflokfbdogofmaaDoorRw
namespace Go.Proofs.YtflokfbdogofmaaDoor.Ck
open Go.RowKit

/-- the document's draw in block gm: its Hasher in gh, the seed's digest S in gr, t words taken, the clock at n -/
structure Rd (w : World) (gm gh gS cS gT cT gr cr : Nat) (S : List Int) (t n : Nat) : Prop where
  blk : Blk w gm 47 [.pointer (some ⟨gh, 0, none⟩), .slice (some ⟨gr, 0, none⟩) 32 cr, .int .i64 t, .int .i64 n]
  ha : Ha w gh gS cS gT cT
  root : OwnB w 0 gr cr S
  len : S.length = 32
  fit : Fit8 S
  apart : gh ≠ gm ∧ gS ≠ gm ∧ gT ≠ gm ∧ gr ≠ gm
theorem Rd.bel {w w' : World} {gm gh gS cS gT cT gr cr t n : Nat} {S : List Int} (h : Rd w gm gh gS cS gT cT gr cr S t n) (hb : Below w.heap.size w w') : Rd w' gm gh gS cS gT cT gr cr S t n := ⟨h.blk.bel hb, h.ha.bel hb, h.root.below hb, h.len, h.fit, h.apart⟩
theorem Rd.tn {w w' : World} {gm gh gS cS gT cT gr cr t n x : Nat} {S : List Int} (h : Rd w gm gh gS cS gT cT gr cr S t n) (ht : Tn x w w') (h1 : gm ≠ x) (h2 : gh ≠ x) (h3 : gS ≠ x) (h4 : gT ≠ x) (h5 : gr ≠ x) : Rd w' gm gh gS cS gT cT gr cr S t n := ⟨h.blk.tn ht h1, h.ha.tn ht h2 h3 h4, h.root.tn ht h5, h.len, h.fit, h.apart⟩
theorem Rd.taken {w : World} {gm gh gS cS gT cT gr cr t n : Nat} {S : List Int} (h : Rd w gm gh gS cS gT cT gr cr S t n) : w.cell? ⟨gm, 2, none⟩ = some (.int .i64 t) := h.blk.cell 2
theorem Rd.now {w : World} {gm gh gS cS gT cT gr cr t n : Nat} {S : List Int} (h : Rd w gm gh gS cS gT cT gr cr S t n) : w.cell? ⟨gm, 3, none⟩ = some (.int .i64 n) := h.blk.cell 3
theorem Rd.setTaken {w : World} {gm gh gS cS gT cT gr cr t n : Nat} {S : List Int} (h : Rd w gm gh gS cS gT cT gr cr S t n) (t' : Nat) : Rd (w.setCell ⟨gm, 2, none⟩ (.int .i64 t')) gm gh gS cS gT cT gr cr S t' n ∧ Tn gm w (w.setCell ⟨gm, 2, none⟩ (.int .i64 t')) := by
  have T := h.blk.set 2 (.int .i64 t')
  exact ⟨⟨T.1, h.ha.tn T.2 h.apart.1 h.apart.2.1 h.apart.2.2.1, h.root.tn T.2 h.apart.2.2.2, h.len, h.fit, h.apart⟩, T.2⟩
theorem Rd.setNow {w : World} {gm gh gS cS gT cT gr cr t n : Nat} {S : List Int} (h : Rd w gm gh gS cS gT cT gr cr S t n) (n' : Nat) : Rd (w.setCell ⟨gm, 3, none⟩ (.int .i64 n')) gm gh gS cS gT cT gr cr S t n' ∧ Tn gm w (w.setCell ⟨gm, 3, none⟩ (.int .i64 n')) := by
  have T := h.blk.set 3 (.int .i64 n')
  exact ⟨⟨T.1, h.ha.tn T.2 h.apart.1 h.apart.2.1 h.apart.2.2.1, h.root.tn T.2 h.apart.2.2.2, h.len, h.fit, h.apart⟩, T.2⟩

theorem build_rd (a b : Option Addr) (x y : Nat) (w : World) : (Instr.build 47 #[(0, .pointer a), (1, .slice b x y)]).run Tryd.prog w = .ok (.agg #[.pointer a, .slice b x y, .int .i64 0, .int .i64 0]) w := by kernel_rfl

set_option maxHeartbeats 1000000 in
theorem rdnew_any (gh gS cS gT cT : Nat) (v : Value) (m : List Int) (w : World) (hh : Ha w gh gS cS gT cT) (hv : SB w v m) (hl : m.length ≤ 100000) :
    Calls Tryd.prog 12 #[.pointer (some ⟨gh, 0, none⟩), v] w fun e w' => ∃ gm gr cr, e = .returned (.pointer (some ⟨gm, 0, none⟩)) ∧ Rd w' gm gh gS cS gT cT gr cr (sha m) 0 0 ∧ w.heap.size ≤ gm ∧ w.heap.size ≤ gr ∧ Below w.heap.size w w' := by
  have hg := hh.blk.lt
  have hgS := hh.s.lt
  have hgT := hh.t.lt
  go_enter Tryd.func12, Tryd.ntmps12
  go_wp2_with fail
  refine (rof_any gh gS cS gT cT v m w hh hv hl).mono ?_
  rintro e w1 ⟨gr, cr, rfl, o1, hb1⟩
  have hz := hb1.size
  have hgr := o1.lt
  go_wp2_with (first | (refine wpList_build2 47 (.tmp 5) (.tmp 8) (.pointer (some ⟨gh, 0, none⟩)) (.slice (some ⟨gr, 0, none⟩) 32 cr) [.pointer (some ⟨gh, 0, none⟩), .slice (some ⟨gr, 0, none⟩) 32 cr, .int .i64 0, .int .i64 0] rfl rfl rfl rfl (build_rd _ _ _ _ _) ?_) | (refine wpList_box 47 (.tmp 9) [.pointer (some ⟨gh, 0, none⟩), .slice (some ⟨gr, 0, none⟩) 32 cr, .int .i64 0, .int .i64 0] rfl rfl rfl ?_; intro w2 g2 e2 b2 hb2 s2))
  go_ret
  have e2' := e2.out
  have hgr0 := o1.ge
  exact ⟨g2, gr, cr, rfl, ⟨b2, (hh.bel hb1).bel hb2, (o1.below hb2).down (Nat.zero_le _), sha_len m, sha_fit' m, by omega, by omega, by omega, by omega⟩, by omega, hgr0, bel_trans hb1 hb2⟩

set_option maxRecDepth 20000 in
set_option maxHeartbeats 1000000 in
theorem rnext_any (gm gh gS cS gT cT gr cr : Nat) (S : List Int) (t n : Nat) (w : World) (h : Rd w gm gh gS cS gT cT gr cr S t n) (ht : t ≤ 2305843009213693952) :
    Calls Tryd.prog 15 #[.pointer (some ⟨gm, 0, none⟩)] w fun e w' => e = .returned (.int .u64 (wordN S t)) ∧ Rd w' gm gh gS cS gT cT gr cr S (t + 1) n ∧ Tn gm w w' := by
  have q2 := h.taken
  have f2 := h.blk.frozen 2
  have T := h.setTaken (t + 1)
  obtain ⟨t1, et1⟩ : ∃ t1, t1 = t + 1 := ⟨_, rfl⟩
  rw [← et1] at T ⊢
  have ht1 : (t : Int) + 1 = (t1 : Int) := by omega
  have ht2 : (t1 : Int) - 1 = (t : Int) := by omega
  have HT := hide T
  clear T et1
  go_enter Tryd.func15, Tryd.ntmps15
  go_wp2_with fail
  have hr1 := HT.out.1
  have t1' := HT.out.2
  clear HT h q2 f2
  generalize w.setCell ⟨gm, 2, none⟩ (.int .i64 t1) = w1 at *
  have p0 : w1.drew.cell? ⟨gm, 0, none⟩ = some (.pointer (some ⟨gh, 0, none⟩)) := hr1.blk.cell 0
  have p1 : w1.drew.cell? ⟨gm, 1, none⟩ = some (.slice (some ⟨gr, 0, none⟩) 32 cr) := hr1.blk.cell 1
  have p2 : w1.drew.cell? ⟨gm, 2, none⟩ = some (.int .i64 t1) := hr1.blk.cell 2
  refine wp_quiet_tail 13 mixed (by kernel_rfl) ?_
  simp only [List.take_succ_cons, List.take_zero, List.drop_succ_cons, List.drop_zero]
  repeat (first | go_big_quiet_skip | (go_big_quiet_want; go_big_quiet_op; go_big_quiet_on))
  refine wpQuiet_nil ?_
  have sR : SB w1.drew (.slice (some ⟨gr, 0, none⟩) 32 cr) S := by
    have := hr1.root.sl hr1.fit
    rw [hr1.len] at this
    exact this
  have hrd : Rd w1.drew gm gh gS cS gT cT gr cr S t1 n := ⟨hr1.blk, ⟨hr1.ha.blk, hr1.ha.s, hr1.ha.t⟩, hr1.root, hr1.len, hr1.fit, hr1.apart⟩
  have t1d := t1'.drew
  clear hr1 t1' p0 p1 p2
  generalize w1.drew = w2 at *
  go_wp2_with fail
  refine (rword_any gh gS cS gT cT _ S t w2 hrd.ha sR hrd.len (by omega)).mono ?_
  rintro e w3 ⟨rfl, hb3⟩
  go_wp2_with fail
  go_ret
  exact ⟨rfl, hrd.bel hb3, t1d.trans (Tn.of_bel hb3)⟩

theorem fair_iff (y n : Int) (hn : 1 ≤ n) (hn2 : n ≤ 18446744073709551616) : y ≤ lastF n ↔ y - y % n + (n - 1) < 18446744073709551616 := by
  unfold lastF
  have h1 := Int.mul_ediv_add_emod y n
  have h2 := Int.mul_ediv_add_emod (18446744073709551616 - n) n
  have b1 := Int.emod_nonneg y (show n ≠ 0 by omega)
  have b2 := Int.emod_lt_of_pos y (show 0 < n by omega)
  have b3 := Int.emod_nonneg (18446744073709551616 - n) (show n ≠ 0 by omega)
  have b4 := Int.emod_lt_of_pos (18446744073709551616 - n) (show 0 < n by omega)
  by_cases h : y / n ≤ (18446744073709551616 - n) / n
  · have h3 := Int.mul_le_mul_of_nonneg_left h (show 0 ≤ n by omega)
    omega
  · have h3 := Int.mul_le_mul_of_nonneg_left (show (18446744073709551616 - n) / n + 1 ≤ y / n by omega) (show 0 ≤ n by omega)
    rw [Int.mul_add, Int.mul_one] at h3
    omega

set_option maxHeartbeats 400000 in
theorem rtick_ok (gm gh gS cS gT cT gr cr : Nat) (S : List Int) (t n : Nat) (k : Int) (w : World) (h : Rd w gm gh gS cS gT cT gr cr S t n) (hk : 0 ≤ k) (hn : k ≤ 1099511627776 - (n : Int)) :
    Calls Tryd.prog 20 #[.pointer (some ⟨gm, 0, none⟩), .int .i64 k] w fun e w' => e = .returned (.int .i64 0) ∧ Rd w' gm gh gS cS gT cT gr cr S t (n + k.toNat) ∧ Tn gm w w' := by
  obtain ⟨j, rfl⟩ : ∃ j : Nat, k = (j : Int) := ⟨k.toNat, by omega⟩
  have q0 := h.now
  have q1 := h.blk.frozen 3
  have T := hide (h.setNow (n + j))
  have e : ((n + j : Nat) : Int) = (n : Int) + (j : Int) := by omega
  rw [e] at T
  have hj : (j : Int) ≤ 1099511627776 := by omega
  have d0 : decide ((j : Int) < 0) = false := decide_eq_false (by omega)
  have d1 : decide (1099511627776 - (j : Int) < (n : Int)) = false := decide_eq_false (by omega)
  clear h e
  go_enter Tryd.func20, Tryd.ntmps20
  go_wp2_with fail
  go_ret
  exact ⟨rfl, by rw [Int.toNat_natCast]; exact T.out.1, T.out.2⟩

set_option maxHeartbeats 400000 in
theorem rtick_bad (gm gh gS cS gT cT gr cr : Nat) (S : List Int) (t n : Nat) (k : Int) (w : World) (h : Rd w gm gh gS cS gT cT gr cr S t n) (hk2 : k ≤ 9223372036854775807) (hb : k < 0 ∨ 1099511627776 - (n : Int) < k) :
    Calls Tryd.prog 20 #[.pointer (some ⟨gm, 0, none⟩), .int .i64 k] w fun e w' => e = .returned (.int .i64 1) ∧ w = w' := by
  have q0 := h.now
  clear h
  go_enter Tryd.func20, Tryd.ntmps20
  by_cases h0 : k < 0
  · have d0 : decide (k < 0) = true := decide_eq_true h0
    clear hb
    go_wp2_with fail
    go_ret
    exact ⟨rfl, rfl⟩
  · have h2 : (0 : Int) ≤ k := by omega
    have d0 : decide (k < 0) = false := decide_eq_false h0
    have d1 : decide (1099511627776 - k < (n : Int)) = true := decide_eq_true (by omega)
    clear hb h0
    go_wp2_with fail
    go_ret
    exact ⟨rfl, rfl⟩

set_option maxHeartbeats 400000 in
theorem rpick_bad (gm : Nat) (n : Int) (w : World) (hn : n < 1) :
    Calls Tryd.prog 17 #[.pointer (some ⟨gm, 0, none⟩), .int .i64 n] w fun e w' => e = .returned (.tuple #[.int .i64 0, .int .i64 1]) ∧ w = w' := by
  have d0 : decide (n < 1) = true := decide_eq_true hn
  go_enter Tryd.func17, Tryd.ntmps17
  go_wp2_with fail
  go_ret2
  exact ⟨rfl, rfl⟩

set_option maxRecDepth 20000 in
set_option maxHeartbeats 2000000 in
theorem rpick_ok (gm gh gS cS gT cT gr cr : Nat) (S : List Int) (t k n : Nat) (w : World) (h : Rd w gm gh gS cS gT cT gr cr S t k) (ht : t ≤ 1152921504606846976) (hn : 1 ≤ n) (hn2 : (n : Int) < 9223372036854775808) :
    Calls Tryd.prog 17 #[.pointer (some ⟨gm, 0, none⟩), .int .i64 n] w fun e w' => e = .returned (.tuple #[.int .i64 (pickV S t n), .int .i64 0]) ∧ Rd w' gm gh gS cS gT cT gr cr S (pickT S t n) k ∧ Tn gm w w' := by
  have d0 : decide ((n : Int) < 1) = false := decide_eq_false (by omega)
  by_cases h1 : n = 1
  · subst h1
    go_enter Tryd.func17, Tryd.ntmps17
    go_wp2_with fail
    go_ret2
    exact ⟨rfl, h, Tn.refl _ _⟩
  · have hne : ((n : Int) == 1) = false := by rw [beq_eq_false_iff_ne]; omega
    have h1I : ¬ (n : Int) = 1 := by omega
    have iN : (1 : Int) < (n : Int) := by omega
    have ET : Hid (pickT S t n = pkT S (lastF n) 63 (t + 1)) := by show _ = _; unfold pickT; rw [if_neg h1I]
    have EV : Hid (pickV S t n = wordN S (pkT S (lastF n) 63 (t + 1) - 1) % (n : Int)) := by show _ = _; unfold pickV; rw [if_neg h1I, ET.out]
    have HFI : Hid (∀ y, y ≤ lastF n ↔ y - y % (n : Int) + ((n : Int) - 1) < 18446744073709551616) := fun y => fair_iff y n (by omega) (by omega)
    obtain ⟨last, elast⟩ : ∃ last, last = lastF n := ⟨_, rfl⟩
    rw [← elast] at ET EV HFI
    clear elast
    go_enter Tryd.func17, Tryd.ntmps17
    go_wp2_with fail
    go_loopw [6, 7] (fun x i wr => ∃ (j c : Nat) (z : Int), j ≤ 64 ∧ i = .int .i64 j ∧ x = .int .u64 z ∧ Hid (c = t + j) ∧ Hid (0 ≤ z ∧ z < 18446744073709551616) ∧ Hid (j < 64 → pkT S last 63 (t + 1) = pkT S last (63 - j) (c + 1)) ∧ Hid (j = 64 → pkT S last 63 (t + 1) = c ∧ z = wordN S (c - 1)) ∧ Rd wr gm gh gS cS gT cT gr cr S c k ∧ Tn gm w wr) (fun _ i _ => 64 - (intOf i).toNat)
    case atStart => exact ⟨0, t, 0, by omega, rfl, rfl, rfl, ⟨by decide, by decide⟩, fun _ => rfl, fun h => absurd h (by decide), h, Tn.refl _ _⟩
    case round =>
      obtain ⟨j, c, z, hj, rfl, rfl, EC, EZ, EA, EB, hr, tn⟩ := hrel
      have hz := EZ.out
      by_cases hj64 : j < 64
      · have dj : decide ((j : Int) < 64) = true := decide_eq_true (by omega)
        have hc : c ≤ 2305843009213693952 := by have := EC.out; omega
        have EA' := hide (EA.out hj64)
        clear EA EB EZ
        go_wp2_with fail
        refine (rnext_any gm gh gS cS gT cT gr cr S c k wr hr hc).mono ?_
        rintro e w1 ⟨rfl, hr1, t1⟩
        have hyf := wordN_fit S c
        have hy0 := HFI.out (wordN S c)
        obtain ⟨y, ey⟩ : ∃ y, wordN S c = y := ⟨_, rfl⟩
        have EY := hide ey
        rw [ey] at hyf hy0 ⊢
        have hm0 := Int.emod_nonneg y (show (n : Int) ≠ 0 by omega)
        have hm1 := Int.emod_lt_of_pos y (show 0 < (n : Int) by omega)
        have hm2 : y % (n : Int) ≤ y := by
          have h1 := Int.mul_ediv_add_emod y (n : Int)
          have h2 := Int.mul_nonneg (show 0 ≤ (n : Int) by omega) (Int.ediv_nonneg hyf.1 (show 0 ≤ (n : Int) by omega))
          omega
        obtain ⟨r, er⟩ : ∃ r, y % (n : Int) = r := ⟨_, rfl⟩
        have ER := hide er
        rw [er] at hm0 hm1 hm2 hy0
        obtain ⟨fs, efs⟩ : ∃ fs, y - r = fs := ⟨_, rfl⟩
        rw [efs] at hy0
        have hfs : 0 ≤ fs ∧ fs < 18446744073709551616 := by omega
        obtain ⟨s, es⟩ : ∃ s, IntKind.u64.wrap (fs + ((n : Int) - 1)) = s := ⟨_, rfl⟩
        have hs0 : 0 ≤ s ∧ s < 18446744073709551616 := by rw [← es, IntKind.wrap_u64]; omega
        have hn1 : (0 : Int) ≤ (n : Int) - 1 := by omega
        clear ey
        by_cases hst : y ≤ last
        · have hsum := hy0.1 hst
          have hd : decide (fs ≤ s) = true := decide_eq_true (by rw [← es, IntKind.wrap_u64]; omega)
          have EP : Hid (pkT S last 63 (t + 1) = c + 1) := EA'.out.trans (pkT_stop S last (63 - j) (c + 1) (by rw [Nat.add_sub_cancel, EY.out]; exact hst))
          have EV2 : Hid (pickV S t n = r) := by show _ = _; rw [EV.out, EP.out, Nat.add_sub_cancel, EY.out, ER.out]
          clear hy0 hsum hst EA' EV
          go_wp2_with fail
          go_ret2
          exact ⟨by rw [EV2.out]; rfl, by rw [ET.out, EP.out]; exact hr1, tn.trans t1⟩
        · have hsum : ¬ fs + ((n : Int) - 1) < 18446744073709551616 := fun h' => hst (hy0.2 h')
          have hd : decide (fs ≤ s) = false := decide_eq_false (by rw [← es, IntKind.wrap_u64]; omega)
          have EN1 : Hid (j + 1 < 64 → pkT S last 63 (t + 1) = pkT S last (63 - (j + 1)) (c + 1 + 1)) := fun hlt => by
            rw [EA'.out, show 63 - j = (63 - (j + 1)) + 1 by omega]
            exact pkT_go S last _ _ (by rw [Nat.add_sub_cancel, EY.out]; exact hst)
          have EN2 : Hid (j + 1 = 64 → pkT S last 63 (t + 1) = c + 1 ∧ y = wordN S (c + 1 - 1)) := fun hlt => by
            refine ⟨?_, by rw [Nat.add_sub_cancel, EY.out]⟩
            rw [EA'.out, show 63 - j = 0 by omega]
            rfl
          clear hy0 hsum hst EA' EV
          go_wp2_with fail
          go_roundw
          case rel => exact ⟨j + 1, c + 1, y, by omega, by go_num, rfl, by have := EC.out; show _ = _; omega, hyf, EN1, EN2, hr1, tn.trans t1⟩
          case measure => simp [intOf]; omega
      · have ej : j = 64 := by omega
        subst ej
        obtain ⟨EP, ez⟩ := EB.out rfl
        have HP := hide EP
        have EV2 : Hid (pickV S t n = z % (n : Int)) := by show _ = _; rw [EV.out, EP, ez]
        have hm0 := Int.emod_nonneg z (show (n : Int) ≠ 0 by omega)
        have hm1 := Int.emod_lt_of_pos z (show 0 < (n : Int) by omega)
        have dj : decide (((64 : Nat) : Int) < 64) = false := by decide
        clear EA EB EV EP ez EC
        go_wp2_with fail
        go_ret2
        exact ⟨by rw [EV2.out]; rfl, by rw [ET.out, HP.out]; exact hr, tn⟩

end Go.Proofs.YtflokfbdogofmaaDoor.Ck
