/- Texts of this proof, packed: contracts of the program's functions, and the plain model that they are held against. -/
import Derived.Test.YtogeblmppagabaaGreatDoorQae
import Derived.Defers
import Derived.Recover
/- The contract of the reader's float. -/
namespace Go.Proofs.YtogeblmppagabaaGreatDoor.Ck
open Go.RowKit

theorem overH_all (s : ByteArray) (i j k : Nat) (h1 : j ≤ k) (h2 : k < overH s i j) : isHex (byte s k) = true := by
  rw [overH] at h2
  split at h2
  · split at h2
    · rename_i hp
      by_cases hk : k = j
      · rw [hk]
        simp only [Bool.and_eq_true] at hp
        exact hp.1
      · exact overH_all s i (j + 1) k (by omega) h2
    · omega
  · omega
termination_by s.size - j
theorem cut_one (s : ByteArray) (i j : Nat) : ((cut s i j).extract 1 (cut s i j).size).data.toList = (cut s (i + 1) j).data.toList := by
  rw [cut_end]
  unfold cut
  rw [cut_list, cut_list, List.drop_take, List.drop_drop]
  congr 1
theorem parse_cut (s : ByteArray) (i j : Nat) (w : World) (hj : j ≤ s.size) (h17 : j - i = 17) (hx : ∀ k, i + 1 ≤ k → k < j → isHex (byte s k) = true) :
    Calls Tryz.prog 147 #[.string ((cut s i j).extract 1 (cut s i j).size), .int .i64 16, .int .i64 64] w fun e w' => e = .returned (.tuple #[.int .u64 (hexF (cut s (i + 1) j).data.toList), .nilIface]) ∧ Below w.heap.size w w' := by
  have hz : ((cut s i j).extract 1 (cut s i j).size).size = 16 := by rw [ByteArray.size_extract, cut_size hj]; omega
  rw [← cut_one]
  refine parse_any _ w (by omega) (by omega) (fun c hc => ?_)
  rw [cut_one] at hc
  obtain ⟨k, h1, h2, _, rfl⟩ := cut_mem hc
  rw [← byte_b8]
  exact hx k h1 h2

/-- what float has laid -/
structure Fl (w : World) (g n i : Nat) : Prop where
  r : w.cell? ⟨n, 0, none⟩ = some (.pointer (some ⟨g, 0, none⟩))
  f : w.cell? ⟨n + 1 + 1, 0, none⟩ = some (.int .i64 i)
  z : Tok w (n + 1) (.int .i64 0) (.string ⟨#[]⟩) (.int .i64 0) (.int .u64 0) (.int .i64 0)
theorem Fl.tn {w w' : World} {g n i : Nat} (h : Fl w g n i) (t : Tn g w w') (hg : g < n) : Fl w' g n i := ⟨t.cell (by omega) h.r, t.cell (by omega) h.f, h.z.tn t (by omega)⟩
theorem Fl.tnm {w w' : World} {g n i m : Nat} (h : Fl w g n i) (t : Tn m w w') (hm : n + 1 + 1 < m) : Fl w' g n i := ⟨t.cell (by omega) h.r, t.cell (by omega) h.f, h.z.tn t (by omega)⟩
theorem Fl.bel {w w' : World} {g n i : Nat} (h : Fl w g n i) (hb : Below w.heap.size w w') : Fl w' g n i := by
  have ht : Tn w.heap.size w w' := Tn.of_bel hb
  exact ⟨ht.cell (Nat.ne_of_lt (World.block_lt_of_cell? w _ h.r)) h.r, ht.cell (Nat.ne_of_lt (World.block_lt_of_cell? w _ h.f)) h.f, h.z.bel hb⟩
theorem Fl.drewN {w : World} {g n i : Nat} (h : Fl w g n i) (k : Nat) : Fl (w.drewN k) g n i := ⟨h.r, h.f, h.z⟩
theorem Fl.new (w : World) (g i : Nat) : Fl (((w.alloc (.cells #[.pointer (some ⟨g, 0, none⟩)] 94)).alloc (.cells #[.int .i64 0, .string ⟨#[]⟩, .int .i64 0, .int .u64 0, .int .i64 0] 67)).alloc (.cells #[.int .i64 i] 3)) g w.heap.size i ∧
    Below w.heap.size w (((w.alloc (.cells #[.pointer (some ⟨g, 0, none⟩)] 94)).alloc (.cells #[.int .i64 0, .string ⟨#[]⟩, .int .i64 0, .int .u64 0, .int .i64 0] 67)).alloc (.cells #[.int .i64 i] 3)) := by
  have b1 := bel_new w (.cells #[.pointer (some ⟨g, 0, none⟩)] 94)
  have k1 : (w.alloc (.cells #[.pointer (some ⟨g, 0, none⟩)] 94)).heap[w.heap.size]? = some (.cells #[.pointer (some ⟨g, 0, none⟩)] 94 (0, 0)) := Go.Deep.blk_alloc_new _ _
  have s1 : (w.alloc (.cells #[.pointer (some ⟨g, 0, none⟩)] 94)).heap.size = w.heap.size + 1 := by simp
  generalize w.alloc (.cells #[.pointer (some ⟨g, 0, none⟩)] 94) = w1 at *
  have b2 := bel_new w1 (.cells #[.int .i64 0, .string ⟨#[]⟩, .int .i64 0, .int .u64 0, .int .i64 0] 67)
  have k2 := Tok.new w1 (.int .i64 0) (.string ⟨#[]⟩) (.int .i64 0) (.int .u64 0) (.int .i64 0)
  have s2 : (w1.alloc (.cells #[.int .i64 0, .string ⟨#[]⟩, .int .i64 0, .int .u64 0, .int .i64 0] 67)).heap.size = w1.heap.size + 1 := by simp
  generalize w1.alloc (.cells #[.int .i64 0, .string ⟨#[]⟩, .int .i64 0, .int .u64 0, .int .i64 0] 67) = w2 at *
  have b3 := bel_new w2 (.cells #[.int .i64 i] 3)
  have k3 : (w2.alloc (.cells #[.int .i64 i] 3)).heap[w2.heap.size]? = some (.cells #[.int .i64 i] 3 (0, 0)) := Go.Deep.blk_alloc_new _ _
  generalize w2.alloc (.cells #[.int .i64 i] 3) = w3 at *
  have k1' := (b3.block _ (by omega)).trans ((b2.block _ (by omega)).trans k1)
  rw [s2, s1] at k3
  rw [s1] at k2
  have k2' : Tok w3 (w.heap.size + 1) _ _ _ _ _ := k2.bel b3
  exact ⟨⟨blk_cell k1' 0 _ rfl, blk_cell k3 0 _ rfl, k2'⟩, bel_trans (bel_trans b1 b2) b3⟩

set_option maxHeartbeats 1000000 in
theorem float_any (g : Nat) (s : ByteArray) (i : Nat) (p : List Addr) (w : World) (h : Rdr w g s i) (he : Er w p) (hG : 23 ≤ g) (hs : s.size ≤ 9000) (hi : i < s.size) :
    Calls Tryz.prog 114 #[.pointer (some ⟨g, 0, none⟩)] w fun e w' => Post g s p w e w' (floatF s i) := by
  have hmf : ∀ (fn : Fn) (first cap : Array Value) (w : World), (Instr.makeFunc fn first cap).run Tryz.prog w = .ok (.func fn first cap) w := fun _ _ _ _ => rfl
  have g2 := h.pos
  have g3 := h.frz 1
  have hlt := lt_of_blk h
  obtain ⟨fl, hb3⟩ := Fl.new w g i
  have R3 := h.below hb3
  have E3 := he.bel hb3
  have q2 := R3.pos
  have q3 := R3.frz 1
  obtain ⟨hr, ht⟩ := R3.set (i + 1) ((i : Int) + 1) (by omega)
  have RA := hide hr
  have TA := hide ((Tn.of_bel (g := g) hb3).trans ht)
  have EA := hide (E3.tn ht hG)
  have FA := hide (fl.tn ht hlt)
  have HF : Hid (floatF s i = if overH s i (i + 1) - i = 17 then if tight s (overH s i (i + 1)) = true then .bad 1 (overH s i (i + 1)) else .ok ⟨4, cut s i (overH s i (i + 1)), 0, hexF (cut s (i + 1) (overH s i (i + 1))).data.toList, i⟩ (overH s i (i + 1)) else .bad 1 i) := rfl
  have hoe := overH_ge s i (i + 1)
  have hol := overH_le s i (i + 1) (by omega)
  have HX := hide (fun k h1 h2 => overH_all s i (i + 1) k h1 h2)
  clear h he R3 E3 fl hb3 hr ht
  go_enter Tryz.func114, Tryz.ntmps114
  go_wp2_with fail
  generalize (((w.alloc (.cells #[.pointer (some ⟨g, 0, none⟩)] 94)).alloc (.cells #[.int .i64 0, .string ⟨#[]⟩, .int .i64 0, .int .u64 0, .int .i64 0] 67)).alloc (.cells #[.int .i64 i] 3)).setCell ⟨g, 1, none⟩ (.int .i64 ((i : Int) + 1)) = wA at *
  clear g2 g3 q2 q3 hmf
  refine (over_hex g w.heap.size (w.heap.size + 1 + 1) s i (i + 1) wA RA.out FA.out.r FA.out.f (by omega) (by omega) hs (by omega) (by omega)).mono ?_
  rintro e w1 ⟨rfl, r1, t1⟩
  generalize overH s i (i + 1) = j at *
  have R1 := hide r1
  have T1 := hide (TA.out.trans t1)
  have E1 := hide (EA.out.tn t1 hG)
  have F1 := hide (FA.out.tn t1 hlt)
  have y1 := r1.pos
  have y2 := F1.out.r
  have y3 := F1.out.f
  clear RA TA EA FA r1 t1
  by_cases h17 : j - i = 17
  · rw [if_pos h17] at HF
    have h17i : (((j : Int) - (i : Int)) != 17) = false := by simp; omega
    go_wp2_with fail
    go_quiet (fail)
    by_cases htt : tight s j = true
    · rw [if_pos htt] at HF
      go_wp2_with fail
      refine (apart_yes g s j p _ (R1.out.drewN nq) (E1.out.drewN nq) htt).mono ?_
      rintro e w5 ⟨rfl, k, rfl⟩
      refine ⟨rfl, ?_⟩
      rw [HF.out]
      exact ⟨rfl, (T1.out.drewN nq).drewN k⟩
    · rw [if_neg htt] at HF
      go_wp2_with fail
      refine (apart_no g s j _ (R1.out.drewN nq) (by simpa using htt)).mono ?_
      rintro e w5 ⟨rfl, k, rfl⟩
      have R5 := hide ((R1.out.drewN nq).drewN k)
      have T5 := hide ((T1.out.drewN nq).drewN k)
      have F5 := hide ((F1.out.drewN nq).drewN k)
      clear R1 T1 E1 F1 y1 y2 y3
      generalize (w1.drewN nq).drewN k = w5 at *
      have y2 := F5.out.r
      have y3 := F5.out.f
      go_wp2_with fail
      refine (since_any g s i j 4 _ R5.out hs (by omega) (by omega)).mono ?_
      rintro e w2 ⟨rfl, hb2⟩
      have R2 := hide (R5.out.below hb2)
      have T2 := hide (T5.out.trans (Tn.of_bel hb2))
      have F2 := hide (F5.out.bel hb2)
      have hN2 : w.heap.size + 1 + 1 < w2.heap.size := World.block_lt_of_cell? w2 _ F2.out.f
      clear R5 T5 F5 hb2 y2 y3
      have hcz : 1 ≤ (cut s i j).size := by rw [cut_size hol]; omega
      go_wp2_with fail
      have hb3 := bel_new w2 (.cells #[.int .i64 4, .string (cut s i j), .int .i64 0, .int .u64 0, .int .i64 i] 67)
      have Y3 := hide (Tok.new w2 (.int .i64 4) (.string (cut s i j)) (.int .i64 0) (.int .u64 0) (.int .i64 i))
      have R3 := hide (R2.out.below hb3)
      have T3 := hide (T2.out.trans (Tn.of_bel hb3))
      have Z3 := hide (F2.out.bel hb3).z
      have hgn : g ≠ w2.heap.size := Nat.ne_of_lt (lt_of_blk R2.out)
      clear R2 T2 F2 hb3
      generalize w2.alloc (.cells #[.int .i64 4, .string (cut s i j), .int .i64 0, .int .u64 0, .int .i64 i] 67) = w3 at *
      generalize w2.heap.size = n at *
      refine (parse_cut s i j _ hol h17 HX.out).mono ?_
      rintro e w4 ⟨rfl, hb4⟩
      generalize hexF (cut s (i + 1) j).data.toList = v at *
      have T4 := hide (T3.out.trans (Tn.of_bel hb4))
      have R4 := hide (R3.out.below hb4)
      have Y4 := hide (Y3.out.bel hb4)
      have Z4 := hide (Z3.out.bel hb4)
      clear R3 T3 Z3 Y3 hb4
      have hnn : w.heap.size + 1 ≠ n := by omega
      have hne : w.heap.size + 1 ≠ g := by omega
      obtain ⟨⟨f0, f1, f2, f3, f4⟩, c0, c1, c2, c3, c4⟩ := Y4.out.all
      obtain ⟨y6, t6⟩ := set1 Y4.out 3 (.int .u64 v)
      have Y6 : Hid (Tok (w4.setCell ⟨n, 3, none⟩ (.int .u64 v)) n (.int .i64 4) (.string (cut s i j)) (.int .i64 0) (.int .u64 v) (.int .i64 i)) := y6
      have T6 := hide t6
      have z6 := Z4.out.tn t6 hnn
      obtain ⟨⟨m0, m1, m2, m3, m4⟩, k0, k1, k2, k3, k4⟩ := Y6.out.all
      obtain ⟨⟨a0, a1, a2, a3, a4⟩, b0, b1, b2, b3, b4⟩ := z6.all
      obtain ⟨z7, t7⟩ := set5 z6 (.int .i64 4) (.string (cut s i j)) (.int .i64 0) (.int .u64 v) (.int .i64 i)
      have Z7 := hide z7
      have T7 := hide t7
      clear y6 z6 z7 t6 t7
      go_wp2_with fail
      refine ret_tok (w.heap.size + 1) rfl rfl Z7.out rfl ?_
      rw [HF.out]
      exact ⟨rfl, (R4.out.tn T6.out hgn).tn T7.out (Ne.symm hne), (T4.out.own T6.out (by omega)).own T7.out (by omega)⟩
  · rw [if_neg h17] at HF
    have h17i : (((j : Int) - (i : Int)) != 17) = true := by simp; omega
    have x1 := E1.out.c1
    go_wp2_with fail
    go_quiet (fail)
    go_wp2_with fail
    refine (refuse_any _ _ i _).mono ?_
    rintro e w5 ⟨rfl, rfl⟩
    refine ⟨rfl, ?_⟩
    rw [HF.out]
    exact ⟨rfl, T1.out.drewN nq⟩

end Go.Proofs.YtogeblmppagabaaGreatDoor.Ck

/- The contract of the reader's token. -/
namespace Go.Proofs.YtogeblmppagabaaGreatDoor.Ck
open Go.RowKit

set_option maxHeartbeats 2000000 in
theorem token_any (g : Nat) (s : ByteArray) (i : Nat) (p : List Addr) (w : World) (h : Rdr w g s i) (he : Er w p) (hG : 23 ≤ g) (hs : s.size ≤ 9000) (hi : i < s.size) :
    Calls Tryz.prog 80 #[.pointer (some ⟨g, 0, none⟩)] w fun e w' => Post g s p w e w' (tokF s i) := by
  have hb0 := hide (bel_new w tokZ)
  have hz0 : Hid (Tok (w.alloc tokZ) w.heap.size (.int .i64 0) (.string ⟨#[]⟩) (.int .i64 0) (.int .u64 0) (.int .i64 0)) := Go.Deep.blk_alloc_new _ _
  have H0 := hide (h.below hb0.out)
  have E0 := hide (he.bel hb0.out)
  have g1 := H0.out.src
  have g2 := H0.out.pos
  have hne : w.heap.size ≠ g := Nat.ne_of_gt (lt_of_blk h)
  have T0 := hide (Tn.of_bel (g := g) hb0.out)
  have hbe := byte_eq s i hi
  clear h he hb0
  unfold tokZ at *
  obtain ⟨r, hr⟩ : ∃ r, tokF s i = r := ⟨_, rfl⟩
  rw [hr]
  have HR : Hid (r = if isLetter (byte s i) = true then wordF s i else if isDigit (byte s i) = true then intF s i else if byte s i = 35 then floatF s i else signF s i) := hr.symm
  clear hr
  go_enter Tryz.func80, Tryz.ntmps80
  go_wp2_with fail
  generalize w.alloc (.cells #[.int .i64 0, .string ⟨#[]⟩, .int .i64 0, .int .u64 0, .int .i64 0] 67) = w0 at *
  go_quiet (fail)
  rw [hbe] at HR
  have HB := hide hbe
  clear hbe
  generalize ((s[i]'hi).toNat : Int) = c at *
  have H1 := hide (H0.out.drewN nq)
  have E1 := hide (E0.out.drewN nq)
  have T1 := hide (T0.out.drewN nq)
  have Z1 : Hid (Tok (w0.drewN nq) w.heap.size (.int .i64 0) (.string ⟨#[]⟩) (.int .i64 0) (.int .u64 0) (.int .i64 0)) := hz0.out
  clear H0 E0 T0 hz0 g1 g2
  generalize w0.drewN nq = w1 at *
  go_wp2_with fail
  refine (letter_any c w1).mono ?_
  rintro e w' ⟨rfl, rfl⟩
  by_cases h1 : isLetter c = true
  · rw [if_pos h1] at HR
    rw [h1]
    go_wp2_with fail
    refine (word_any g s i p _ H1.out E1.out hG hs hi).mono ?_
    intro e w2 hp
    cases hq : wordF s i with
    | bad k j =>
      rw [hq] at hp
      rw [hq] at HR
      obtain ⟨rfl, t2⟩ := hp
      refine ⟨rfl, ?_⟩
      rw [HR.out]
      exact ⟨rfl, T1.out.trans t2⟩
    | ok t j =>
      rw [hq] at hp
      rw [hq] at HR
      obtain ⟨rfl, r2, t2⟩ := hp
      have Z2 := Z1.out.tn t2 hne
      obtain ⟨⟨a0, a1, a2, a3, a4⟩, b0, b1, b2, b3, b4⟩ := Z2.all
      obtain ⟨z3, t3⟩ := set5 Z2 (.int .i64 t.kind) (.string t.text) (.int .i64 t.n) (.int .u64 t.bits) (.int .i64 t.pos)
      have Z3 := hide z3
      have T3 := hide t3
      have T2 := hide (T1.out.trans t2)
      have R2 := hide r2
      clear z3 t3 t2 r2 Z2 H1 E1 T1 Z1 hq
      unfold Tk.val
      go_wp2_with fail
      refine ret_tok w.heap.size rfl rfl Z3.out rfl ?_
      rw [HR.out]
      exact ⟨rfl, R2.out.tn T3.out (Ne.symm hne), T2.out.own T3.out (Nat.le_refl _)⟩
  · rw [if_neg h1] at HR
    rw [show isLetter c = false by simpa using h1]
    go_wp2_with fail
    refine (digit_any c w1).mono ?_
    rintro e w' ⟨rfl, rfl⟩
    by_cases h2 : isDigit c = true
    · rw [if_pos h2] at HR
      rw [h2]
      have HD : Hid (isDigit (byte s i) = true) := by show _ = _; rw [HB.out]; exact h2
      go_wp2_with fail
      refine (int_any g s i p _ H1.out E1.out hG hs hi HD.out).mono ?_
      intro e w2 hp
      cases hq : intF s i with
      | bad k j =>
        rw [hq] at hp
        rw [hq] at HR
        obtain ⟨rfl, t2⟩ := hp
        refine ⟨rfl, ?_⟩
        rw [HR.out]
        exact ⟨rfl, T1.out.trans t2⟩
      | ok t j =>
        rw [hq] at hp
        rw [hq] at HR
        obtain ⟨rfl, r2, t2⟩ := hp
        have Z2 := Z1.out.tn t2 hne
        obtain ⟨⟨a0, a1, a2, a3, a4⟩, b0, b1, b2, b3, b4⟩ := Z2.all
        obtain ⟨z3, t3⟩ := set5 Z2 (.int .i64 t.kind) (.string t.text) (.int .i64 t.n) (.int .u64 t.bits) (.int .i64 t.pos)
        have Z3 := hide z3
        have T3 := hide t3
        have T2 := hide (T1.out.trans t2)
        have R2 := hide r2
        clear z3 t3 t2 r2 Z2 H1 E1 T1 Z1 hq
        unfold Tk.val
        go_wp2_with fail
        refine ret_tok w.heap.size rfl rfl Z3.out rfl ?_
        rw [HR.out]
        exact ⟨rfl, R2.out.tn T3.out (Ne.symm hne), T2.out.own T3.out (Nat.le_refl _)⟩
    · rw [if_neg h2] at HR
      rw [show isDigit c = false by simpa using h2]
      by_cases h3 : c = 35
      · rw [if_pos h3] at HR
        subst h3
        go_wp2_with fail
        refine (float_any g s i p _ H1.out E1.out hG hs hi).mono ?_
        intro e w2 hp
        cases hq : floatF s i with
        | bad k j =>
          rw [hq] at hp
          rw [hq] at HR
          obtain ⟨rfl, t2⟩ := hp
          refine ⟨rfl, ?_⟩
          rw [HR.out]
          exact ⟨rfl, T1.out.trans t2⟩
        | ok t j =>
          rw [hq] at hp
          rw [hq] at HR
          obtain ⟨rfl, r2, t2⟩ := hp
          have Z2 := Z1.out.tn t2 hne
          obtain ⟨⟨a0, a1, a2, a3, a4⟩, b0, b1, b2, b3, b4⟩ := Z2.all
          obtain ⟨z3, t3⟩ := set5 Z2 (.int .i64 t.kind) (.string t.text) (.int .i64 t.n) (.int .u64 t.bits) (.int .i64 t.pos)
          have Z3 := hide z3
          have T3 := hide t3
          have T2 := hide (T1.out.trans t2)
          have R2 := hide r2
          clear z3 t3 t2 r2 Z2 H1 E1 T1 Z1 hq
          unfold Tk.val
          go_wp2_with fail
          refine ret_tok w.heap.size rfl rfl Z3.out rfl ?_
          rw [HR.out]
          exact ⟨rfl, R2.out.tn T3.out (Ne.symm hne), T2.out.own T3.out (Nat.le_refl _)⟩
      · rw [if_neg h3] at HR
        have h3b : (c == 35) = false := by simpa using h3
        go_wp2_with fail
        refine (mark_any g s i p _ H1.out E1.out hG hs hi).mono ?_
        intro e w2 hp
        cases hq : signF s i with
        | bad k j =>
          rw [hq] at hp
          rw [hq] at HR
          obtain ⟨rfl, t2⟩ := hp
          refine ⟨rfl, ?_⟩
          rw [HR.out]
          exact ⟨rfl, T1.out.trans t2⟩
        | ok t j =>
          rw [hq] at hp
          rw [hq] at HR
          obtain ⟨rfl, r2, t2⟩ := hp
          have Z2 := Z1.out.tn t2 hne
          obtain ⟨⟨a0, a1, a2, a3, a4⟩, b0, b1, b2, b3, b4⟩ := Z2.all
          obtain ⟨z3, t3⟩ := set5 Z2 (.int .i64 t.kind) (.string t.text) (.int .i64 t.n) (.int .u64 t.bits) (.int .i64 t.pos)
          have Z3 := hide z3
          have T3 := hide t3
          have T2 := hide (T1.out.trans t2)
          have R2 := hide r2
          clear z3 t3 t2 r2 Z2 H1 E1 T1 Z1 hq
          unfold Tk.val
          go_wp2_with fail
          refine ret_tok w.heap.size rfl rfl Z3.out rfl ?_
          rw [HR.out]
          exact ⟨rfl, R2.out.tn T3.out (Ne.symm hne), T2.out.own T3.out (Nat.le_refl _)⟩

end Go.Proofs.YtogeblmppagabaaGreatDoor.Ck

/- The contracts of what read defers. -/
namespace Go.Proofs.YtogeblmppagabaaGreatDoor.Ck
open Go.RowKit

theorem assert_bad (v : Value) (w : World) : (Instr.typeAssert (.iface 31 v) 20 31 false).run Tryz.prog w = .ok v w := by
  simp [Instr.typeAssert, run_underlying Tryz.underlying31, go_sem, Result.andThen]

theorem catch_idle (a b : Addr) (w : World) :
    CallsD Tryz.prog 76 #[.pointer (some a), .pointer (some b)] .returning w fun e u' w' => e = .returned (.tuple #[]) ∧ u' = .returning ∧ w' = w := by
  refine callsD_of_wpS Tryz.func76 rfl fun c₀ cs hu => ?_
  apply wpS_seq
  apply wpS_region
  simp [wpOpsS, go_sem, recoverD, hu, Tryz.ntmps76, Exit.thenS]
  apply wpS_seq
  refine wpS_of_wp ?_
  go_wp2_with fail
  refine wpS_cond (t := false) (by simp [Act.eval, Array.replicate]) ?_
  simp only [Bool.false_eq_true, if_false]
  refine wpS_of_wp (wp_skip ?_)
  cases c₀
  simp_all [bodyPostS, results, Tryz.results76]

theorem catch_stop (bT bB : Nat) (v0 z0 z1 : Value) (te : TypeId) (pe : Value) (i : Nat) (w : World) (hT : w.heap[bT]? = some (.cells #[v0] 42 (0, 0))) (hB : w.heap[bB]? = some (.cells #[z0, z1] 31 (0, 0))) (hne : bT ≠ bB) :
    CallsD Tryz.prog 76 #[.pointer (some ⟨bT, 0, none⟩), .pointer (some ⟨bB, 0, none⟩)] (.panicking [{ v := badV (.iface te pe) i, recovered := false }]) w fun e u' w' =>
      e = .returned (.tuple #[]) ∧ u' = .panicking [{ v := badV (.iface te pe) i, recovered := true }] ∧ w'.heap[bT]? = some (.cells #[.slice none 0 0] 42 (0, 0)) ∧ w'.heap[bB]? = some (.cells #[.iface te pe, .int .i64 i] 31 (0, 0)) ∧ ∀ B, B ≤ bT → B ≤ bB → Below B w w' := by
  have f0 := blk_frz hT 0
  have f1 := blk_frz hB 0
  have f2 := blk_frz hB 1
  have c0 := blk_cell hT 0 _ rfl
  have c1 := blk_cell hB 0 _ rfl
  have c2 := blk_cell hB 1 _ rfl
  have ha := assert_bad
  unfold badV
  refine callsD_of_wpS Tryz.func76 rfl fun c₀ cs hu => ?_
  apply wpS_seq
  apply wpS_region
  simp [wpOpsS, go_sem, recoverD, hu, Tryz.ntmps76, Exit.thenS]
  apply wpS_seq
  refine wpS_of_wp ?_
  go_wp2_with fail
  refine wpS_cond (t := true) (by simp [Act.eval, Array.replicate]) ?_
  simp only [if_true]
  refine wpS_of_wp ?_
  change Code.wp _ _ _ { tmps := #[.pointer (some ⟨bT, 0, none⟩), .pointer (some ⟨bB, 0, none⟩), .iface 31 (.agg #[.iface te pe, .int .i64 i]), .iface 31 (.agg #[.iface te pe, .int .i64 i]), .iface 31 (.agg #[.iface te pe, .int .i64 i]), .bool true, undef, undef], defers := [] } _
  go_region
  obtain ⟨k1, t1⟩ := set1 hT 0 (.slice none 0 0)
  obtain ⟨k2, t2⟩ := set1 ((t1.blk bB (lt_of_blk hB) (Ne.symm hne)).trans hB) 0 (.iface te pe)
  obtain ⟨k3, t3⟩ := set1 k2 1 (.int .i64 i)
  have hlt := lt_of_blk hT
  refine ⟨rfl, _, rfl, _, results_none rfl _ _ _, rfl, rfl, ?_, ?_, fun B h1 h2 => ?_⟩
  · exact (t3.blk bT (Nat.lt_of_lt_of_le (lt_of_blk k1) t2.size) hne).trans ((t2.blk bT (lt_of_blk k1) hne).trans k1)
  · exact k3
  · have b1 := t1.bel h1 (Nat.le_trans h1 (Nat.le_of_lt hlt))
    have b2 := t2.bel h2 (Nat.le_trans h1 (Nat.le_of_lt (Nat.lt_of_lt_of_le hlt t1.size)))
    have b3 := t3.bel h2 (Nat.le_trans h1 (Nat.le_of_lt (Nat.lt_of_lt_of_le hlt (Nat.le_trans t1.size t2.size))))
    exact ((b1.trans b2).trans b3).drew

end Go.Proofs.YtogeblmppagabaaGreatDoor.Ck
