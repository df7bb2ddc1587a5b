/- The contract of the reader's float. -/
import Derived.Test.YtpeebpnoldadjaaDoorTn
namespace Go.Proofs.YtpeebpnoldadjaaDoor.Ck
open Go.RowKit

theorem overH_all (s : ByteArray) (i j k : Nat) (h1 : j ≤ k) (h2 : k < overH s i j) : isHex (byte s k) = true := by
  rw [overH] at h2
  split at h2
  · split at h2
    · rename_i hp
      by_cases hk : k = j
      · rw [hk]
        simp only [Bool.and_eq_true] at hp
        exact hp.1
      · exact overH_all s i (j + 1) k (by omega) h2
    · omega
  · omega
termination_by s.size - j
theorem cut_one (s : ByteArray) (i j : Nat) : ((cut s i j).extract 1 (cut s i j).size).data.toList = (cut s (i + 1) j).data.toList := by
  rw [cut_end]
  unfold cut
  rw [cut_list, cut_list, List.drop_take, List.drop_drop]
  congr 1
theorem parse_cut (s : ByteArray) (i j : Nat) (w : World) (hj : j ≤ s.size) (h17 : j - i = 17) (hx : ∀ k, i + 1 ≤ k → k < j → isHex (byte s k) = true) :
    Calls Tryd.prog 56 #[.string ((cut s i j).extract 1 (cut s i j).size), .int .i64 16, .int .i64 64] w fun e w' => e = .returned (.tuple #[.int .u64 (hexF (cut s (i + 1) j).data.toList), .nilIface]) ∧ Below w.heap.size w w' := by
  have hz : ((cut s i j).extract 1 (cut s i j).size).size = 16 := by rw [ByteArray.size_extract, cut_size hj]; omega
  rw [← cut_one]
  refine parse_any _ w (by omega) (by omega) (fun c hc => ?_)
  rw [cut_one] at hc
  obtain ⟨k, h1, h2, _, rfl⟩ := cut_mem hc
  rw [← byte_b8]
  exact hx k h1 h2

/-- what float has laid -/
structure Fl (w : World) (g n i : Nat) : Prop where
  r : w.cell? ⟨n, 0, none⟩ = some (.pointer (some ⟨g, 0, none⟩))
  f : w.cell? ⟨n + 1 + 1, 0, none⟩ = some (.int .i64 i)
  z : Tok w (n + 1) (.int .i64 0) (.string ⟨#[]⟩) (.int .i64 0) (.int .u64 0) (.int .i64 0)
theorem Fl.tn {w w' : World} {g n i : Nat} (h : Fl w g n i) (t : Tn g w w') (hg : g < n) : Fl w' g n i := ⟨t.cell (by omega) h.r, t.cell (by omega) h.f, h.z.tn t (by omega)⟩
theorem Fl.tnm {w w' : World} {g n i m : Nat} (h : Fl w g n i) (t : Tn m w w') (hm : n + 1 + 1 < m) : Fl w' g n i := ⟨t.cell (by omega) h.r, t.cell (by omega) h.f, h.z.tn t (by omega)⟩
theorem Fl.bel {w w' : World} {g n i : Nat} (h : Fl w g n i) (hb : Below w.heap.size w w') : Fl w' g n i := by
  have ht : Tn w.heap.size w w' := Tn.of_bel hb
  exact ⟨ht.cell (Nat.ne_of_lt (World.block_lt_of_cell? w _ h.r)) h.r, ht.cell (Nat.ne_of_lt (World.block_lt_of_cell? w _ h.f)) h.f, h.z.bel hb⟩
theorem Fl.drewN {w : World} {g n i : Nat} (h : Fl w g n i) (k : Nat) : Fl (w.drewN k) g n i := ⟨h.r, h.f, h.z⟩
theorem Fl.new (w : World) (g i : Nat) : Fl (((w.alloc (.cells #[.pointer (some ⟨g, 0, none⟩)] 54)).alloc (.cells #[.int .i64 0, .string ⟨#[]⟩, .int .i64 0, .int .u64 0, .int .i64 0] 37)).alloc (.cells #[.int .i64 i] 3)) g w.heap.size i ∧
    Below w.heap.size w (((w.alloc (.cells #[.pointer (some ⟨g, 0, none⟩)] 54)).alloc (.cells #[.int .i64 0, .string ⟨#[]⟩, .int .i64 0, .int .u64 0, .int .i64 0] 37)).alloc (.cells #[.int .i64 i] 3)) := by
  have b1 := bel_new w (.cells #[.pointer (some ⟨g, 0, none⟩)] 54)
  have k1 : (w.alloc (.cells #[.pointer (some ⟨g, 0, none⟩)] 54)).heap[w.heap.size]? = some (.cells #[.pointer (some ⟨g, 0, none⟩)] 54 (0, 0)) := Go.Deep.blk_alloc_new _ _
  have s1 : (w.alloc (.cells #[.pointer (some ⟨g, 0, none⟩)] 54)).heap.size = w.heap.size + 1 := by simp
  generalize w.alloc (.cells #[.pointer (some ⟨g, 0, none⟩)] 54) = w1 at *
  have b2 := bel_new w1 (.cells #[.int .i64 0, .string ⟨#[]⟩, .int .i64 0, .int .u64 0, .int .i64 0] 37)
  have k2 := Tok.new w1 (.int .i64 0) (.string ⟨#[]⟩) (.int .i64 0) (.int .u64 0) (.int .i64 0)
  have s2 : (w1.alloc (.cells #[.int .i64 0, .string ⟨#[]⟩, .int .i64 0, .int .u64 0, .int .i64 0] 37)).heap.size = w1.heap.size + 1 := by simp
  generalize w1.alloc (.cells #[.int .i64 0, .string ⟨#[]⟩, .int .i64 0, .int .u64 0, .int .i64 0] 37) = w2 at *
  have b3 := bel_new w2 (.cells #[.int .i64 i] 3)
  have k3 : (w2.alloc (.cells #[.int .i64 i] 3)).heap[w2.heap.size]? = some (.cells #[.int .i64 i] 3 (0, 0)) := Go.Deep.blk_alloc_new _ _
  generalize w2.alloc (.cells #[.int .i64 i] 3) = w3 at *
  have k1' := (b3.block _ (by omega)).trans ((b2.block _ (by omega)).trans k1)
  rw [s2, s1] at k3
  rw [s1] at k2
  have k2' : Tok w3 (w.heap.size + 1) _ _ _ _ _ := k2.bel b3
  exact ⟨⟨blk_cell k1' 0 _ rfl, blk_cell k3 0 _ rfl, k2'⟩, bel_trans (bel_trans b1 b2) b3⟩

set_option maxHeartbeats 1000000 in
theorem float_any (g : Nat) (s : ByteArray) (i : Nat) (p : List Addr) (w : World) (h : Rdr w g s i) (he : Er w p) (hG : 23 ≤ g) (hs : s.size ≤ 9000) (hi : i < s.size) :
    Calls Tryd.prog 46 #[.pointer (some ⟨g, 0, none⟩)] w fun e w' => Post g s p w e w' (floatF s i) := by
  have hmf : ∀ (fn : Fn) (first cap : Array Value) (w : World), (Instr.makeFunc fn first cap).run Tryd.prog w = .ok (.func fn first cap) w := fun _ _ _ _ => rfl
  have g2 := h.pos
  have g3 := h.frz 1
  have hlt := lt_of_blk h
  obtain ⟨fl, hb3⟩ := Fl.new w g i
  have R3 := h.below hb3
  have E3 := he.bel hb3
  have q2 := R3.pos
  have q3 := R3.frz 1
  obtain ⟨hr, ht⟩ := R3.set (i + 1) ((i : Int) + 1) (by omega)
  have RA := hide hr
  have TA := hide ((Tn.of_bel (g := g) hb3).trans ht)
  have EA := hide (E3.tn ht hG)
  have FA := hide (fl.tn ht hlt)
  have HF : Hid (floatF s i = if overH s i (i + 1) - i = 17 then if tight s (overH s i (i + 1)) = true then .bad 1 (overH s i (i + 1)) else .ok ⟨4, cut s i (overH s i (i + 1)), 0, hexF (cut s (i + 1) (overH s i (i + 1))).data.toList, i⟩ (overH s i (i + 1)) else .bad 1 i) := rfl
  have hoe := overH_ge s i (i + 1)
  have hol := overH_le s i (i + 1) (by omega)
  have HX := hide (fun k h1 h2 => overH_all s i (i + 1) k h1 h2)
  clear h he R3 E3 fl hb3 hr ht
  go_enter Tryd.func46, Tryd.ntmps46
  go_wp2_with fail
  generalize (((w.alloc (.cells #[.pointer (some ⟨g, 0, none⟩)] 54)).alloc (.cells #[.int .i64 0, .string ⟨#[]⟩, .int .i64 0, .int .u64 0, .int .i64 0] 37)).alloc (.cells #[.int .i64 i] 3)).setCell ⟨g, 1, none⟩ (.int .i64 ((i : Int) + 1)) = wA at *
  clear g2 g3 q2 q3 hmf
  refine (over_hex g w.heap.size (w.heap.size + 1 + 1) s i (i + 1) wA RA.out FA.out.r FA.out.f (by omega) (by omega) hs (by omega) (by omega)).mono ?_
  rintro e w1 ⟨rfl, r1, t1⟩
  generalize overH s i (i + 1) = j at *
  have R1 := hide r1
  have T1 := hide (TA.out.trans t1)
  have E1 := hide (EA.out.tn t1 hG)
  have F1 := hide (FA.out.tn t1 hlt)
  have y1 := r1.pos
  have y2 := F1.out.r
  have y3 := F1.out.f
  clear RA TA EA FA r1 t1
  by_cases h17 : j - i = 17
  · rw [if_pos h17] at HF
    have h17i : (((j : Int) - (i : Int)) != 17) = false := by simp; omega
    go_wp2_with fail
    go_quiet (fail)
    by_cases htt : tight s j = true
    · rw [if_pos htt] at HF
      go_wp2_with fail
      refine (apart_yes g s j p _ (R1.out.drewN nq) (E1.out.drewN nq) htt).mono ?_
      rintro e w5 ⟨rfl, k, rfl⟩
      refine ⟨rfl, ?_⟩
      rw [HF.out]
      exact ⟨rfl, (T1.out.drewN nq).drewN k⟩
    · rw [if_neg htt] at HF
      go_wp2_with fail
      refine (apart_no g s j _ (R1.out.drewN nq) (by simpa using htt)).mono ?_
      rintro e w5 ⟨rfl, k, rfl⟩
      have R5 := hide ((R1.out.drewN nq).drewN k)
      have T5 := hide ((T1.out.drewN nq).drewN k)
      have F5 := hide ((F1.out.drewN nq).drewN k)
      clear R1 T1 E1 F1 y1 y2 y3
      generalize (w1.drewN nq).drewN k = w5 at *
      have y2 := F5.out.r
      have y3 := F5.out.f
      go_wp2_with fail
      refine (since_any g s i j 4 _ R5.out hs (by omega) (by omega)).mono ?_
      rintro e w2 ⟨rfl, hb2⟩
      have R2 := hide (R5.out.below hb2)
      have T2 := hide (T5.out.trans (Tn.of_bel hb2))
      have F2 := hide (F5.out.bel hb2)
      have hN2 : w.heap.size + 1 + 1 < w2.heap.size := World.block_lt_of_cell? w2 _ F2.out.f
      clear R5 T5 F5 hb2 y2 y3
      have hcz : 1 ≤ (cut s i j).size := by rw [cut_size hol]; omega
      go_wp2_with fail
      have hb3 := bel_new w2 (.cells #[.int .i64 4, .string (cut s i j), .int .i64 0, .int .u64 0, .int .i64 i] 37)
      have Y3 := hide (Tok.new w2 (.int .i64 4) (.string (cut s i j)) (.int .i64 0) (.int .u64 0) (.int .i64 i))
      have R3 := hide (R2.out.below hb3)
      have T3 := hide (T2.out.trans (Tn.of_bel hb3))
      have Z3 := hide (F2.out.bel hb3).z
      have hgn : g ≠ w2.heap.size := Nat.ne_of_lt (lt_of_blk R2.out)
      clear R2 T2 F2 hb3
      generalize w2.alloc (.cells #[.int .i64 4, .string (cut s i j), .int .i64 0, .int .u64 0, .int .i64 i] 37) = w3 at *
      generalize w2.heap.size = n at *
      refine (parse_cut s i j _ hol h17 HX.out).mono ?_
      rintro e w4 ⟨rfl, hb4⟩
      generalize hexF (cut s (i + 1) j).data.toList = v at *
      have T4 := hide (T3.out.trans (Tn.of_bel hb4))
      have R4 := hide (R3.out.below hb4)
      have Y4 := hide (Y3.out.bel hb4)
      have Z4 := hide (Z3.out.bel hb4)
      clear R3 T3 Z3 Y3 hb4
      have hnn : w.heap.size + 1 ≠ n := by omega
      have hne : w.heap.size + 1 ≠ g := by omega
      obtain ⟨⟨f0, f1, f2, f3, f4⟩, c0, c1, c2, c3, c4⟩ := Y4.out.all
      obtain ⟨y6, t6⟩ := set1 Y4.out 3 (.int .u64 v)
      have Y6 : Hid (Tok (w4.setCell ⟨n, 3, none⟩ (.int .u64 v)) n (.int .i64 4) (.string (cut s i j)) (.int .i64 0) (.int .u64 v) (.int .i64 i)) := y6
      have T6 := hide t6
      have z6 := Z4.out.tn t6 hnn
      obtain ⟨⟨m0, m1, m2, m3, m4⟩, k0, k1, k2, k3, k4⟩ := Y6.out.all
      obtain ⟨⟨a0, a1, a2, a3, a4⟩, b0, b1, b2, b3, b4⟩ := z6.all
      obtain ⟨z7, t7⟩ := set5 z6 (.int .i64 4) (.string (cut s i j)) (.int .i64 0) (.int .u64 v) (.int .i64 i)
      have Z7 := hide z7
      have T7 := hide t7
      clear y6 z6 z7 t6 t7
      go_wp2_with fail
      refine ret_tok (w.heap.size + 1) rfl rfl Z7.out rfl ?_
      rw [HF.out]
      exact ⟨rfl, (R4.out.tn T6.out hgn).tn T7.out (Ne.symm hne), (T4.out.own T6.out (by omega)).own T7.out (by omega)⟩
  · rw [if_neg h17] at HF
    have h17i : (((j : Int) - (i : Int)) != 17) = true := by simp; omega
    have x1 := E1.out.c1
    go_wp2_with fail
    go_quiet (fail)
    go_wp2_with fail
    refine (refuse_any _ _ i _).mono ?_
    rintro e w5 ⟨rfl, rfl⟩
    refine ⟨rfl, ?_⟩
    rw [HF.out]
    exact ⟨rfl, T1.out.drewN nq⟩

end Go.Proofs.YtpeebpnoldadjaaDoor.Ck
