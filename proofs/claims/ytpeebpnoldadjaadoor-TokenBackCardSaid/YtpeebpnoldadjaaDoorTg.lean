/- The contract of the reader's word. -/
import Derived.Test.YtpeebpnoldadjaaDoorTf
namespace Go.Proofs.YtpeebpnoldadjaaDoor.Ck
open Go.RowKit

/-- what a walk asks of a token's variable -/
theorem Tok.all {w : World} {g : Nat} {a b c d e : Value} (h : Tok w g a b c d e) :
    (w.frozen? ⟨g, 0, none⟩ = false ∧ w.frozen? ⟨g, 1, none⟩ = false ∧ w.frozen? ⟨g, 2, none⟩ = false ∧ w.frozen? ⟨g, 3, none⟩ = false ∧ w.frozen? ⟨g, 4, none⟩ = false) ∧
    w.cell? ⟨g, 0, none⟩ = some a ∧ w.cell? ⟨g, 1, none⟩ = some b ∧ w.cell? ⟨g, 2, none⟩ = some c ∧ w.cell? ⟨g, 3, none⟩ = some d ∧ w.cell? ⟨g, 4, none⟩ = some e :=
  ⟨⟨blk_frz h 0, blk_frz h 1, blk_frz h 2, blk_frz h 3, blk_frz h 4⟩, blk_cell h 0 _ rfl, blk_cell h 1 _ rfl, blk_cell h 2 _ rfl, blk_cell h 3 _ rfl, blk_cell h 4 _ rfl⟩
theorem Tok.new (w : World) (a b c d e : Value) : Tok (w.alloc (.cells #[a, b, c, d, e] 37)) w.heap.size a b c d e := Go.Deep.blk_alloc_new _ _

set_option maxHeartbeats 1000000 in
theorem word_any (g : Nat) (s : ByteArray) (i : Nat) (p : List Addr) (w : World) (h : Rdr w g s i) (he : Er w p) (hG : 23 ≤ g) (hs : s.size ≤ 9000) (hi : i < s.size) :
    Calls Tryd.prog 43 #[.pointer (some ⟨g, 0, none⟩)] w fun e w' => Post g s p w e w' (wordF s i) := by
  have hb0 := hide (bel_new w tokZ)
  have hz0 : Hid (Tok (w.alloc tokZ) w.heap.size (.int .i64 0) (.string ⟨#[]⟩) (.int .i64 0) (.int .u64 0) (.int .i64 0)) := Go.Deep.blk_alloc_new _ _
  have H0 := hide (h.below hb0.out)
  have E0 := hide (he.bel hb0.out)
  have g2 := H0.out.pos
  have hne : w.heap.size ≠ g := Nat.ne_of_gt (lt_of_blk h)
  have hge := overF_ge isWord s i
  have hle := overF_le isWord s i (Nat.le_of_lt hi)
  have HW : Hid (wordF s i = if 24 < overF isWord s i - i then .bad 5 i else .ok ⟨if isKey (cut s i (overF isWord s i)) = true then 2 else 1, cut s i (overF isWord s i), 0, 0, i⟩ (overF isWord s i)) := rfl
  clear h he
  unfold tokZ at *
  go_enter Tryd.func43, Tryd.ntmps43
  go_wp2_with fail
  generalize w.alloc (.cells #[.int .i64 0, .string ⟨#[]⟩, .int .i64 0, .int .u64 0, .int .i64 0] 37) = w0 at *
  refine (over_word g s i w0 H0.out hs (Nat.le_of_lt hi)).mono ?_
  rintro e w1 ⟨rfl, r1, t1⟩
  have R1 := hide r1
  have T1 := hide ((Tn.of_bel hb0.out).trans t1)
  have E1 := hide (E0.out.tn t1 hG)
  have Z1 := hide (hz0.out.tn t1 hne)
  have y2 := r1.pos
  clear r1 t1 hz0 H0 E0 hb0 g2
  generalize overF isWord s i = j at *
  by_cases hl : 24 < j - i
  · rw [if_pos hl] at HW
    have x1 := E1.out.c5
    have hl2 : (24 : Int) < (j : Int) - (i : Int) := by omega
    go_wp2_with fail
    refine (refuse_any _ _ i _).mono ?_
    rintro e w2 ⟨rfl, rfl⟩
    refine ⟨rfl, ?_⟩
    rw [HW.out]
    exact ⟨rfl, T1.out⟩
  · rw [if_neg hl] at HW
    have hl2 : ¬ (24 : Int) < (j : Int) - (i : Int) := by omega
    go_wp2_with fail
    refine (since_any g s i j 1 _ R1.out hs hge hle).mono ?_
    rintro e w2 ⟨rfl, hb2⟩
    have R2 := hide (R1.out.below hb2)
    have T2 := hide (T1.out.trans (Tn.of_bel hb2))
    have Z2 := hide (Z1.out.bel hb2)
    have hN2 : w.heap.size < w2.heap.size := lt_of_blk Z2.out
    clear R1 E1 Z1 T1 y2
    go_wp2_with fail
    have hb3 := bel_new w2 (.cells #[.int .i64 1, .string (cut s i j), .int .i64 0, .int .u64 0, .int .i64 i] 37)
    have Y3 := hide (Tok.new w2 (.int .i64 1) (.string (cut s i j)) (.int .i64 0) (.int .u64 0) (.int .i64 i))
    have R3 := hide (R2.out.below hb3)
    have T3 := hide (T2.out.trans (Tn.of_bel hb3))
    have Z3 := hide (Z2.out.bel hb3)
    have hgn : g ≠ w2.heap.size := Nat.ne_of_lt (lt_of_blk R2.out)
    have hnn : w.heap.size ≠ w2.heap.size := Nat.ne_of_lt hN2
    clear R2 T2 Z2 hb3
    generalize w2.alloc (.cells #[.int .i64 1, .string (cut s i j), .int .i64 0, .int .u64 0, .int .i64 i] 37) = w3 at *
    generalize w2.heap.size = n at *
    refine (tokenKey_any _ _).mono ?_
    rintro e w4 ⟨rfl, rfl⟩
    by_cases hk : isKey (cut s i j) = true
    · rw [if_pos hk] at HW
      rw [hk]
      obtain ⟨⟨f0, f1, f2, f3, f4⟩, c0, c1, c2, c3, c4⟩ := Y3.out.all
      obtain ⟨y4, t4⟩ := set1 Y3.out 0 (.int .i64 2)
      have Y4 : Hid (Tok (w3.setCell ⟨n, 0, none⟩ (.int .i64 2)) n (.int .i64 2) (.string (cut s i j)) (.int .i64 0) (.int .u64 0) (.int .i64 i)) := y4
      have T4 := hide t4
      have z4 := Z3.out.tn t4 hnn
      obtain ⟨⟨m0, m1, m2, m3, m4⟩, k0, k1, k2, k3, k4⟩ := Y4.out.all
      obtain ⟨⟨a0, a1, a2, a3, a4⟩, b0, b1, b2, b3, b4⟩ := z4.all
      obtain ⟨z5, t5⟩ := set5 z4 (.int .i64 2) (.string (cut s i j)) (.int .i64 0) (.int .u64 0) (.int .i64 i)
      have Z5 := hide z5
      have T5 := hide t5
      clear y4 z4 z5 t4 t5
      go_wp2_with fail
      refine ret_tok w.heap.size rfl rfl Z5.out rfl ?_
      rw [HW.out]
      exact ⟨rfl, (R3.out.tn T4.out hgn).tn T5.out (Ne.symm hne), (T3.out.own T4.out (Nat.le_of_lt hN2)).own T5.out (Nat.le_refl _)⟩
    · have hk : isKey (cut s i j) = false := by simpa using hk
      rw [hk]
      rw [hk] at HW
      obtain ⟨_, c0, c1, c2, c3, c4⟩ := Y3.out.all
      obtain ⟨⟨a0, a1, a2, a3, a4⟩, b0, b1, b2, b3, b4⟩ := Z3.out.all
      obtain ⟨z5, t5⟩ := set5 Z3.out (.int .i64 1) (.string (cut s i j)) (.int .i64 0) (.int .u64 0) (.int .i64 i)
      have Z5 := hide z5
      have T5 := hide t5
      clear z5 t5
      go_wp2_with fail
      refine ret_tok w.heap.size rfl rfl Z5.out rfl ?_
      rw [HW.out]
      exact ⟨rfl, R3.out.tn T5.out (Ne.symm hne), T3.out.own T5.out (Nat.le_refl _)⟩

end Go.Proofs.YtpeebpnoldadjaaDoor.Ck
