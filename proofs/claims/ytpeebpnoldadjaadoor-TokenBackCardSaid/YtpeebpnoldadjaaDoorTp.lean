/- The contract of the reader's token. -/
import Derived.Test.YtpeebpnoldadjaaDoorTo
namespace Go.Proofs.YtpeebpnoldadjaaDoor.Ck
open Go.RowKit

set_option maxHeartbeats 2000000 in
theorem token_any (g : Nat) (s : ByteArray) (i : Nat) (p : List Addr) (w : World) (h : Rdr w g s i) (he : Er w p) (hG : 23 ≤ g) (hs : s.size ≤ 9000) (hi : i < s.size) :
    Calls Tryd.prog 29 #[.pointer (some ⟨g, 0, none⟩)] w fun e w' => Post g s p w e w' (tokF s i) := by
  have hb0 := hide (bel_new w tokZ)
  have hz0 : Hid (Tok (w.alloc tokZ) w.heap.size (.int .i64 0) (.string ⟨#[]⟩) (.int .i64 0) (.int .u64 0) (.int .i64 0)) := Go.Deep.blk_alloc_new _ _
  have H0 := hide (h.below hb0.out)
  have E0 := hide (he.bel hb0.out)
  have g1 := H0.out.src
  have g2 := H0.out.pos
  have hne : w.heap.size ≠ g := Nat.ne_of_gt (lt_of_blk h)
  have T0 := hide (Tn.of_bel (g := g) hb0.out)
  have hbe := byte_eq s i hi
  clear h he hb0
  unfold tokZ at *
  obtain ⟨r, hr⟩ : ∃ r, tokF s i = r := ⟨_, rfl⟩
  rw [hr]
  have HR : Hid (r = if isLetter (byte s i) = true then wordF s i else if isDigit (byte s i) = true then intF s i else if byte s i = 35 then floatF s i else signF s i) := hr.symm
  clear hr
  go_enter Tryd.func29, Tryd.ntmps29
  go_wp2_with fail
  generalize w.alloc (.cells #[.int .i64 0, .string ⟨#[]⟩, .int .i64 0, .int .u64 0, .int .i64 0] 37) = w0 at *
  go_quiet (fail)
  rw [hbe] at HR
  have HB := hide hbe
  clear hbe
  generalize ((s[i]'hi).toNat : Int) = c at *
  have H1 := hide (H0.out.drewN nq)
  have E1 := hide (E0.out.drewN nq)
  have T1 := hide (T0.out.drewN nq)
  have Z1 : Hid (Tok (w0.drewN nq) w.heap.size (.int .i64 0) (.string ⟨#[]⟩) (.int .i64 0) (.int .u64 0) (.int .i64 0)) := hz0.out
  clear H0 E0 T0 hz0 g1 g2
  generalize w0.drewN nq = w1 at *
  go_wp2_with fail
  refine (letter_any c w1).mono ?_
  rintro e w' ⟨rfl, rfl⟩
  by_cases h1 : isLetter c = true
  · rw [if_pos h1] at HR
    rw [h1]
    go_wp2_with fail
    refine (word_any g s i p _ H1.out E1.out hG hs hi).mono ?_
    intro e w2 hp
    cases hq : wordF s i with
    | bad k j =>
      rw [hq] at hp
      rw [hq] at HR
      obtain ⟨rfl, t2⟩ := hp
      refine ⟨rfl, ?_⟩
      rw [HR.out]
      exact ⟨rfl, T1.out.trans t2⟩
    | ok t j =>
      rw [hq] at hp
      rw [hq] at HR
      obtain ⟨rfl, r2, t2⟩ := hp
      have Z2 := Z1.out.tn t2 hne
      obtain ⟨⟨a0, a1, a2, a3, a4⟩, b0, b1, b2, b3, b4⟩ := Z2.all
      obtain ⟨z3, t3⟩ := set5 Z2 (.int .i64 t.kind) (.string t.text) (.int .i64 t.n) (.int .u64 t.bits) (.int .i64 t.pos)
      have Z3 := hide z3
      have T3 := hide t3
      have T2 := hide (T1.out.trans t2)
      have R2 := hide r2
      clear z3 t3 t2 r2 Z2 H1 E1 T1 Z1 hq
      unfold Tk.val
      go_wp2_with fail
      refine ret_tok w.heap.size rfl rfl Z3.out rfl ?_
      rw [HR.out]
      exact ⟨rfl, R2.out.tn T3.out (Ne.symm hne), T2.out.own T3.out (Nat.le_refl _)⟩
  · rw [if_neg h1] at HR
    rw [show isLetter c = false by simpa using h1]
    go_wp2_with fail
    refine (digit_any c w1).mono ?_
    rintro e w' ⟨rfl, rfl⟩
    by_cases h2 : isDigit c = true
    · rw [if_pos h2] at HR
      rw [h2]
      have HD : Hid (isDigit (byte s i) = true) := by show _ = _; rw [HB.out]; exact h2
      go_wp2_with fail
      refine (int_any g s i p _ H1.out E1.out hG hs hi HD.out).mono ?_
      intro e w2 hp
      cases hq : intF s i with
      | bad k j =>
        rw [hq] at hp
        rw [hq] at HR
        obtain ⟨rfl, t2⟩ := hp
        refine ⟨rfl, ?_⟩
        rw [HR.out]
        exact ⟨rfl, T1.out.trans t2⟩
      | ok t j =>
        rw [hq] at hp
        rw [hq] at HR
        obtain ⟨rfl, r2, t2⟩ := hp
        have Z2 := Z1.out.tn t2 hne
        obtain ⟨⟨a0, a1, a2, a3, a4⟩, b0, b1, b2, b3, b4⟩ := Z2.all
        obtain ⟨z3, t3⟩ := set5 Z2 (.int .i64 t.kind) (.string t.text) (.int .i64 t.n) (.int .u64 t.bits) (.int .i64 t.pos)
        have Z3 := hide z3
        have T3 := hide t3
        have T2 := hide (T1.out.trans t2)
        have R2 := hide r2
        clear z3 t3 t2 r2 Z2 H1 E1 T1 Z1 hq
        unfold Tk.val
        go_wp2_with fail
        refine ret_tok w.heap.size rfl rfl Z3.out rfl ?_
        rw [HR.out]
        exact ⟨rfl, R2.out.tn T3.out (Ne.symm hne), T2.out.own T3.out (Nat.le_refl _)⟩
    · rw [if_neg h2] at HR
      rw [show isDigit c = false by simpa using h2]
      by_cases h3 : c = 35
      · rw [if_pos h3] at HR
        subst h3
        go_wp2_with fail
        refine (float_any g s i p _ H1.out E1.out hG hs hi).mono ?_
        intro e w2 hp
        cases hq : floatF s i with
        | bad k j =>
          rw [hq] at hp
          rw [hq] at HR
          obtain ⟨rfl, t2⟩ := hp
          refine ⟨rfl, ?_⟩
          rw [HR.out]
          exact ⟨rfl, T1.out.trans t2⟩
        | ok t j =>
          rw [hq] at hp
          rw [hq] at HR
          obtain ⟨rfl, r2, t2⟩ := hp
          have Z2 := Z1.out.tn t2 hne
          obtain ⟨⟨a0, a1, a2, a3, a4⟩, b0, b1, b2, b3, b4⟩ := Z2.all
          obtain ⟨z3, t3⟩ := set5 Z2 (.int .i64 t.kind) (.string t.text) (.int .i64 t.n) (.int .u64 t.bits) (.int .i64 t.pos)
          have Z3 := hide z3
          have T3 := hide t3
          have T2 := hide (T1.out.trans t2)
          have R2 := hide r2
          clear z3 t3 t2 r2 Z2 H1 E1 T1 Z1 hq
          unfold Tk.val
          go_wp2_with fail
          refine ret_tok w.heap.size rfl rfl Z3.out rfl ?_
          rw [HR.out]
          exact ⟨rfl, R2.out.tn T3.out (Ne.symm hne), T2.out.own T3.out (Nat.le_refl _)⟩
      · rw [if_neg h3] at HR
        have h3b : (c == 35) = false := by simpa using h3
        go_wp2_with fail
        refine (mark_any g s i p _ H1.out E1.out hG hs hi).mono ?_
        intro e w2 hp
        cases hq : signF s i with
        | bad k j =>
          rw [hq] at hp
          rw [hq] at HR
          obtain ⟨rfl, t2⟩ := hp
          refine ⟨rfl, ?_⟩
          rw [HR.out]
          exact ⟨rfl, T1.out.trans t2⟩
        | ok t j =>
          rw [hq] at hp
          rw [hq] at HR
          obtain ⟨rfl, r2, t2⟩ := hp
          have Z2 := Z1.out.tn t2 hne
          obtain ⟨⟨a0, a1, a2, a3, a4⟩, b0, b1, b2, b3, b4⟩ := Z2.all
          obtain ⟨z3, t3⟩ := set5 Z2 (.int .i64 t.kind) (.string t.text) (.int .i64 t.n) (.int .u64 t.bits) (.int .i64 t.pos)
          have Z3 := hide z3
          have T3 := hide t3
          have T2 := hide (T1.out.trans t2)
          have R2 := hide r2
          clear z3 t3 t2 r2 Z2 H1 E1 T1 Z1 hq
          unfold Tk.val
          go_wp2_with fail
          refine ret_tok w.heap.size rfl rfl Z3.out rfl ?_
          rw [HR.out]
          exact ⟨rfl, R2.out.tn T3.out (Ne.symm hne), T2.out.own T3.out (Nat.le_refl _)⟩

end Go.Proofs.YtpeebpnoldadjaaDoor.Ck
