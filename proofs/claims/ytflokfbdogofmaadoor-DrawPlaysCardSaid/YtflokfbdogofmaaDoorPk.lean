/- The contracts of pick, and of a draw's Pick. -/
import Derived.Test.YtflokfbdogofmaaDoorDw
namespace Go.Proofs.YtflokfbdogofmaaDoor.Ck
open Go.RowKit

theorem pkT_stop (S : List Int) (last : Int) (f u : Nat) (h : wordN S (u - 1) ≤ last) : pkT S last f u = u := by
  cases f with
  | zero => rfl
  | succ f => simp [pkT, h]
theorem pkT_go (S : List Int) (last : Int) (f u : Nat) (h : ¬ wordN S (u - 1) ≤ last) : pkT S last (f + 1) u = pkT S last f (u + 1) := by
  simp [pkT, h]

set_option maxRecDepth 20000 in
set_option maxHeartbeats 1000000 in
theorem pick_any (g : Nat) (T : TypeId) (S : List Int) (rest : List Value) (t n : Nat) (w : World) (hs : Blk w g T (bv S ++ .int .i64 t :: rest)) (hl : S.length = 32) (hf : Fit8 S) (ht : t ≤ 2305843009213693952) (hn : 1 ≤ n) (hn2 : (n : Int) < 9223372036854775808) (htab : Tab w) (hgT : g ≠ 17) :
    Calls Tryd.prog 29 #[.int .u64 n, .func (.func 28) #[.pointer (some ⟨g, 0, none⟩)] #[]] w fun e w' => e = .returned (.int .u64 (pickV S t n)) ∧ Blk w' g T (bv S ++ .int .i64 (pickT S t n) :: rest) ∧ Tn g w w' := by
  have HL := hide hl
  have HF := hide hf
  clear hl hf
  by_cases h1 : n = 1
  · subst h1
    go_enter Tryd.func29, Tryd.ntmps29
    go_wp2_with fail
    go_ret
    exact ⟨rfl, hs, Tn.refl _ _⟩
  · have hne : ((n : Int) == 1) = false := by rw [beq_eq_false_iff_ne]; omega
    have h1I : ¬ (n : Int) = 1 := by omega
    have hnI : 1 ≤ (n : Int) ∧ (n : Int) < 18446744073709551616 := by omega
    have ET : Hid (pickT S t n = pkT S (lastF n) 63 (t + 1)) := by show _ = _; unfold pickT; rw [if_neg h1I]
    have EV : Hid (pickV S t n = wordN S (pkT S (lastF n) 63 (t + 1) - 1) % (n : Int)) := by show _ = _; unfold pickV; rw [if_neg h1I, ET.out]
    have Hn2 := hide hn2
    clear hn2
    go_enter Tryd.func29, Tryd.ntmps29
    go_wp2_with fail
    refine (lastFair_any n hnI w).mono ?_
    rintro e w' ⟨rfl, rfl⟩
    obtain ⟨last, elast⟩ : ∃ last, last = lastF n := ⟨_, rfl⟩
    rw [← elast] at ET EV ⊢
    clear elast
    go_wp2_with fail
    refine (next_any g T S rest t w hs HL.out HF.out (by omega) htab).mono ?_
    rintro e w1 ⟨rfl, b1, t1⟩
    go_wp2_with fail
    go_loopw [6, 7] (fun x k wr => ∃ (j u c : Nat), 1 ≤ j ∧ j ≤ 64 ∧ k = .int .i64 j ∧ x = .int .u64 (wordN S u) ∧ Hid (u + 1 = c ∧ c = t + j) ∧ Hid (pkT S last 63 (t + 1) = pkT S last (64 - j) c) ∧ Blk wr g T (bv S ++ .int .i64 c :: rest) ∧ Tn g w wr) (fun _ k _ => 64 - (intOf k).toNat)
    case atStart => exact ⟨1, t, t + 1, by omega, by omega, rfl, rfl, ⟨rfl, rfl⟩, rfl, b1, t1⟩
    case round =>
      obtain ⟨j, u, c, hj1, hj, rfl, rfl, EC, EP, b, tn⟩ := hrel
      have hw := wordN_fit S u
      have EU : Hid (c - 1 = u) := by show _ = _; have := EC.out; omega
      by_cases hlast : wordN S u ≤ last
      · have EF := pkT_stop S last (64 - j) c (by rw [EU.out]; exact hlast)
        have EP2 : Hid (pkT S last 63 (t + 1) = c) := EP.out.trans EF
        have EV2 : Hid (pickV S t n = wordN S u % (n : Int)) := by show _ = _; rw [EV.out, EP2.out, EU.out]
        clear EF EV EP EC EU
        generalize wordN S u = x at *
        have hxn : Hid (x.tmod (n : Int) = x % (n : Int)) := Int.tmod_eq_emod_of_nonneg hw.1
        have hd : decide (last < x) = false := decide_eq_false (by omega)
        by_cases hj63 : (j : Int) < 64
        · have hd2 : decide ((j : Int) < 64) = true := decide_eq_true hj63
          go_wp2_with fail
          go_ret
          refine ⟨ret_int ?_, ?_, tn⟩
          · first | exact EV2.out.symm | exact hxn.out.trans EV2.out.symm
          · rw [ET.out, EP2.out]; exact b
        · have hd2 : decide ((j : Int) < 64) = false := decide_eq_false hj63
          go_wp2_with fail
          go_ret
          refine ⟨ret_int ?_, ?_, tn⟩
          · first | exact EV2.out.symm | exact hxn.out.trans EV2.out.symm
          · rw [ET.out, EP2.out]; exact b
      · by_cases hj63 : (j : Int) < 64
        · have EP3 : Hid (pkT S last 63 (t + 1) = pkT S last (64 - (j + 1)) (c + 1)) := by
            show _ = _
            rw [EP.out, show 64 - j = (64 - (j + 1)) + 1 by omega, pkT_go S last _ _ (by rw [EU.out]; exact hlast)]
          have hgt : last < wordN S u := by omega
          have hc : c ≤ 4611686018427387904 := by have := EC.out; omega
          clear EP EV hlast
          generalize wordN S u = x at *
          go_wp2_with fail
          refine (next_any g T S rest c _ b HL.out HF.out hc (htab.tn tn hgT)).mono ?_
          rintro e w2 ⟨rfl, b2, t2⟩
          generalize ey : wordN S c = y at *
          have EY := hide ey
          clear ey
          go_wp2_with fail
          go_roundw
          case rel => exact ⟨j + 1, c, c + 1, by omega, by omega, by go_num, by rw [EY.out], ⟨rfl, by have := EC.out; omega⟩, EP3, b2, tn.trans t2⟩
          case measure => simp [intOf]; omega
        · have ej : j = 64 := by omega
          subst ej
          have EP2 : Hid (pkT S last 63 (t + 1) = c) := EP.out
          have EV2 : Hid (pickV S t n = wordN S u % (n : Int)) := by show _ = _; rw [EV.out, EP2.out, EU.out]
          clear EV EP EC EU
          generalize wordN S u = x at *
          have hxn : Hid (x.tmod (n : Int) = x % (n : Int)) := Int.tmod_eq_emod_of_nonneg hw.1
          go_wp2_with fail
          go_ret
          refine ⟨ret_int ?_, ?_, tn⟩
          · first | exact EV2.out.symm | exact hxn.out.trans EV2.out.symm
          · rw [ET.out, EP2.out]; exact b

set_option maxRecDepth 20000 in
set_option maxHeartbeats 1000000 in
theorem dpick_ok (g : Nat) (S : List Int) (t k n : Nat) (w : World) (hs : Dw w g S t k) (ht : t ≤ 2305843009213693952) (hn : 1 ≤ n) (hn2 : (n : Int) < 9223372036854775808) (htab : Tab w) (hgT : g ≠ 17) :
    Calls Tryd.prog 16 #[.pointer (some ⟨g, 0, none⟩), .int .i64 n] w fun e w' => e = .returned (.tuple #[.int .i64 (pickV S t n), .nilIface]) ∧ Dw w' g S (pickT S t n) k ∧ Tn g w w' := by
  have hnI : 1 ≤ (n : Int) := by omega
  have hv := hide (pickV_fit S t n hnI)
  have hd : decide ((n : Int) < 1) = false := decide_eq_false (by omega)
  go_enter Tryd.func16, Tryd.ntmps16
  go_wp2_with fail
  refine (pick_any g 64 S [.int .i64 k] t n w hs.1 hs.2.1 hs.2.2 ht hn hn2 htab hgT).mono ?_
  rintro e w1 ⟨rfl, b1, t1⟩
  generalize ev : pickV S t n = x at *
  have EV := hide ev
  clear ev
  have hx : 0 ≤ x ∧ x < 9223372036854775808 := by have := hv.out; omega
  clear hv
  go_wp2_with fail
  go_ret2
  exact ⟨by rw [EV.out]; rfl, ⟨b1, hs.2⟩, t1⟩

set_option maxHeartbeats 400000 in
theorem dpick_bad (g : Nat) (n : Int) (ev : Value) (w : World) (hn : n < 1) (hE : w.cell? ⟨0, 0, none⟩ = some ev) :
    Calls Tryd.prog 16 #[.pointer (some ⟨g, 0, none⟩), .int .i64 n] w fun e w' => e = .returned (.tuple #[.int .i64 0, ev]) ∧ Below w.heap.size w w' ∧ w'.heap = w.heap := by
  go_enter Tryd.func16, Tryd.ntmps16
  go_wp2_with fail
  go_quiet (fail)
  go_wp2_with fail
  go_ret2
  exact ⟨rfl, ⟨rfl, rfl, rfl, Nat.le_refl _, fun _ _ => rfl⟩, rfl⟩

end Go.Proofs.YtflokfbdogofmaaDoor.Ck
