/- TokenBack: tokens stand in the text where they say, in order, with blanks alone between; their texts with blanks between give the same tokens again. -/
import Derived.Test.YtpeebpnoldadjaaDoorKz
namespace Go.Proofs.YtpeebpnoldadjaaDoor.Ck
open Go.RowKit

theorem flat_take (ts : List Tk) (j : Nat) (hj : j < ts.length) : flat (ts.take (j + 1)) = flat (ts.take j) ++ (32 :: (ts.getD j noTk).text.data.toList) := by
  have e : ts.getD j noTk = ts[j] := by simp [List.getD, hj]
  unfold flat
  rw [e, List.take_succ_eq_append_getElem hj, List.flatMap_append]
  simp
theorem bare_at {vs ts : List Tk} (h : vs.map bare = ts.map bare) {j : Nat} (hj : j < ts.length) : bare (vs.getD j noTk) = bare (ts.getD j noTk) ∧ vs.length = ts.length := by
  have hl : vs.length = ts.length := by have := congrArg List.length h; simpa using this
  have e1 : vs.getD j noTk = vs[j]'(by omega) := by simp [List.getD, show j < vs.length by omega]
  have e2 : ts.getD j noTk = ts[j] := by simp [List.getD, hj]
  refine ⟨?_, hl⟩
  rw [e1, e2]
  have := congrArg (fun l => l[j]?) h
  simp only [List.getElem?_map, List.getElem?_eq_getElem hj, List.getElem?_eq_getElem (show j < vs.length by omega), Option.map_some] at this
  exact Option.some.inj this

theorem slice_str (s : ByteArray) (lo hi : Nat) (h1 : lo ≤ hi) (h2 : hi ≤ s.size) (w : World) : (Instr.slice 9 (.string s) (some (.int .i64 lo)) (some (.int .i64 hi)) none).run Tryd.prog w = .ok (.string (s.extract lo hi)) w := by
  have a1 : (lo : Int) ≤ (hi : Int) := by omega
  have a2 : (hi : Int) ≤ (s.size : Int) := by omega
  have a3 : (0 : Int) ≤ (lo : Int) := by omega
  have a4 : (0 : Int) ≤ (hi : Int) := by omega
  go_simp

set_option maxRecDepth 10000 in
set_option maxHeartbeats 4000000 in
theorem back_any (s : ByteArray) (p : List Addr) (w : World) (he : Ev w p) :
    Calls Tryd.prog 4 #[.string s] w fun e w' => e = .returned (.bool true) ∧ Below w.heap.size w w' := by
  by_cases hs : s.size ≤ 8192
  · go_enter Tryd.func4, Tryd.ntmps4
    go_wp2_with fail
    refine (alive_any p w he).mono ?_
    rintro e w1 ⟨rfl, hb1⟩
    have e1 := he.bel hb1
    go_wp2_with fail
    refine (tokens_any s p w1 e1.er e1.big hs).mono ?_
    intro e w2 hp
    cases hq : readF s with
    | bad kk i =>
      obtain ⟨hkk, hi⟩ := readF_at hq
      rw [hq] at hp
      obtain ⟨rfl, hb2⟩ := hp
      have hii : (i : Int) ≤ (s.size : Int) := by omega
      have hi0 : (0 : Int) ≤ (i : Int) := by omega
      go_wp2_with fail
      go_ret
      exact ⟨rfl, bel_al (bel_trans hb1 hb2) _⟩
    | ok ts =>
      obtain ⟨hch, hn2⟩ := readF_chain hq
      rw [hq] at hp
      obtain ⟨v, rfl, ho, hb2⟩ := hp
      obtain ⟨av, cv, ev⟩ := ho.len
      obtain ⟨n, en⟩ : ∃ n, n = ts.length := ⟨_, rfl⟩
      rw [← en] at ev hn2
      subst ev
      have hb3 := bel_new w2 (.cells #[.nilIface, .int .i64 0] 27)
      have k3 : (w2.alloc (.cells #[.nilIface, .int .i64 0] 27)).heap[w2.heap.size]? = some (.cells #[.nilIface, .int .i64 0] 27 (0, 0)) := Go.Deep.blk_alloc_new _ _
      have E3 := hide ((e1.bel hb2).bel hb3)
      have B3 := hide (bel_trans (bel_trans hb1 hb2) hb3)
      have K3 := hide k3
      have O3 := hide (ho.below hb3)
      have EN := hide en
      have HQ := hide hq
      have HCH := hide hch
      have c30 := blk_cell k3 0 _ rfl
      have HGN : Hid (∀ g, av = some ⟨g, 0, none⟩ → g < w2.heap.size) := fun g hg => by
        rcases ho.2 with ⟨h0, _⟩ | ⟨g', cap, cur, h0, _, hg', _⟩
        · cases h0; cases hg
        · cases h0; cases hg; exact lt_of_blk hg'
      have HN4 : Hid (w.heap.size ≤ w2.heap.size) := Nat.le_trans hb1.size hb2.size
      clear hb1 hb2 hb3 e1 k3 ho en hq hch
      go_wp2_with fail
      generalize w2.alloc (.cells #[.nilIface, .int .i64 0] 27) = w3 at *
      generalize w2.heap.size = n4 at *
      have HRW : Hid (∀ j, j < n → ∃ g, av = some ⟨g, 0, none⟩ ∧ n ≤ cv ∧ cv ≤ maxLen ∧ TkAt w3 g (j * 5) (ts.getD j noTk) (ts.getD j noTk).pos) := fun j hj => by
        obtain ⟨g, c, hv, _, _, h1, h2, hR⟩ := O3.out.row (fun h => by rw [EN.out, h] at hj; simp at hj)
        obtain ⟨rfl, _, rfl⟩ : av = some ⟨g, 0, none⟩ ∧ n = ts.length ∧ cv = c := by simpa only [Value.slice.injEq] using hv
        exact ⟨g, rfl, by rw [EN.out]; exact h1, h2, hR.tok j (by rw [← EN.out]; exact hj)⟩
      clear c30
      go_loopw [5, 6, 41] (fun va vt vi wr => ∃ (j : Nat) (T : ByteArray), j ≤ n ∧ vi = .int .i64 j ∧ va = .int .i64 (endOf ts j) ∧ vt = .string T ∧ T.size ≤ 20000000 ∧ Hid (T.size ≤ j * 8193 ∧ T.data.toList = flat (ts.take j) ∧ Below w3.heap.size w3 wr)) (fun _ _ vi _ => n - (intOf vi).toNat)
      case atStart => exact ⟨0, _, Nat.zero_le _, rfl, rfl, rfl, by decide, by decide, rfl, Below.refl _ _⟩
      case round =>
        obtain ⟨j, T, hj, rfl, rfl, rfl, hT, I⟩ := hrel
        by_cases hjn : j < n
        · have hji : (j : Int) < (n : Int) := by omega
          have hjt : j < ts.length := by rw [← EN.out]; exact hjn
          obtain ⟨e, L⟩ := HCH.out.at j hjt
          rw [show (if j = 0 then 0 else endOf ts j) = endOf ts j by split <;> (try subst_vars) <;> rfl] at L
          obtain ⟨g, rfl, hc1, hc2, TA⟩ := HRW.out j hjn
          have TA := TA.bel I.out.2.2
          have HFL := hide (flat_take ts j hjt)
          have HEN : Hid (endOf ts (j + 1) = (ts.getD j noTk).pos + (ts.getD j noTk).text.size) := rfl
          unfold maxLen at hc2
          generalize endOf ts j = a at *
          generalize ts.getD j noTk = tk at *
          obtain ⟨kind, text, nn, bits_, pos⟩ := tk
          obtain ⟨l1, l2, l3, l4, l5, l6, l7, l8⟩ := L
          obtain ⟨a0, a1, a2, a3, a4⟩ := TA
          simp only at *
          clear l4
          have L1 := hide l1
          have L5 := hide l5
          have hn1 : ¬ pos < a := by omega
          have hp1 : ¬ (pos : Int) < (a : Int) := by omega
          have hn2 : ¬ s.size < e := by omega
          have hp2 : ¬ (s.size : Int) < (e : Int) := by omega
          have hcut : s.extract pos e = text := l6.symm
          have hne : text.toList.isEmpty = false := by
            rw [ByteArray.toList_eq]
            have e1 : text.data.toList.length = text.size := rfl
            cases e2 : text.data.toList with
            | nil => rw [e2] at e1; simp at e1; omega
            | cons x l => rfl
          have hsl := fun w => slice_str s pos e (by omega) l8 w
          rw [hcut] at hsl
          have hsl2 := fun w => slice_str s a pos l2 (by omega) w
          have hse : (pos : Int) + (text.size : Int) = (e : Int) := by omega
          have hez : e ≤ 8192 := by omega
          have htz : text.size ≤ 8192 := by omega
          have hpz : pos ≤ 8192 := by omega
          have hwr : IntKind.i64.wrap (e : Int) = (e : Int) := by rw [IntKind.wrap_i64]; omega
          clear l5
          clear l1 l6
          go_wp2_with fail
          go_quiet (fail)
          go_wp2_with fail
          have k8 : ((wr.alloc (.cells #[.int .i64 kind, .string text, .int .i64 nn, .int .u64 bits_, .int .i64 pos] 37)).drewN nq).heap[wr.heap.size]? = some (.cells #[.int .i64 kind, .string text, .int .i64 nn, .int .u64 bits_, .int .i64 pos] 37 (0, 0)) := Go.Deep.blk_alloc_new _ _
          have hb4 := bel_trans (bel_new wr (.cells #[.int .i64 kind, .string text, .int .i64 nn, .int .u64 bits_, .int .i64 pos] 37)) (below_drewN (Below.refl _ _) nq)
          have B4 := hide (bel_trans I.out.2.2 hb4)
          have E4 := hide (E3.out.bel B4.out)
          have hrb := between (s := s) (a := a) (by omega)
          rw [← L1.out] at hrb
          have HRB := hide hrb
          clear hb4 hrb a0 a1 a2 a3 a4 hcut hsl hsl2 hne hp1 hp2 hn1 hn2 hwr hji
          generalize (wr.alloc (.cells #[.int .i64 kind, .string text, .int .i64 nn, .int .u64 bits_, .int .i64 pos] 37)).drewN nq = w4 at *
          refine (tokens_any (s.extract a pos) p w4 E4.out.er E4.out.big (by rw [ByteArray.size_extract]; omega)).mono ?_
          intro e' w5 hp
          rw [HRB.out] at hp
          obtain ⟨v2, rfl, ho2, hb5⟩ := hp
          obtain ⟨a2, c2, rfl⟩ := ho2.len
          have hb6 := bel_new w5 (.cells #[.nilIface, .int .i64 0] 27)
          have B56 := bel_trans hb5 hb6
          have k6 := (B56.block _ (lt_of_blk k8)).trans k8
          have c61 := blk_cell k6 1 _ rfl
          have c64 := blk_cell k6 4 _ rfl
          have B6 := hide (bel_trans B4.out B56)
          simp only [List.length_nil]
          clear hb5 hb6 B56 k6 k8 ho2 B4 E4
          go_wp2_with fail
          have hTs : (T ++ ((⟨#[32]⟩ : ByteArray) ++ text)).size = T.size + (1 + text.size) := by rw [ByteArray.size_append, ByteArray.size_append]; rfl
          have hT2 := I.out.1
          refine ⟨⟨j + 1, _, by omega, by go_num, ?_, rfl, ?_, ?_, ?_, B6.out⟩, by simp [intOf]; omega⟩
          · rw [HEN.out, ← L5.out]
          · rw [hTs]; omega
          · rw [hTs]; omega
          · rw [app_list, app_list, I.out.2.1, HFL.out]
            rfl
        · have hjn2 : j = n := by omega
          have hji : ¬ (j : Int) < (n : Int) := by omega
          have hTl : T.data.toList = flat ts := by
            rw [I.out.2.1, hjn2, EN.out, List.take_length]
          by_cases h8 : T.size ≤ 8192
          · obtain ⟨vs, hv1, hv2⟩ := read_again HQ.out hTl
            have hvl : vs.length = n := by have := congrArg List.length hv2; simpa [EN.out] using this
            have h8i : ¬ (8192 : Int) < (T.size : Int) := by omega
            have E4 := E3.out.bel I.out.2.2
            have B4 := hide I.out.2.2
            clear hTl hT
            go_wp2_with fail
            refine (tokens_any T p wr E4.er E4.big h8).mono ?_
            intro e' w5 hp
            rw [hv1] at hp
            obtain ⟨v2, rfl, ho2, hb5⟩ := hp
            obtain ⟨a2, c2, ev2⟩ := ho2.len
            rw [hvl] at ev2
            subst ev2
            have B5 := bel_trans B4.out hb5
            have k5 := (B5.block _ (lt_of_blk K3.out)).trans K3.out
            have c50 := blk_cell k5 0 _ rfl
            have c51 := blk_cell k5 1 _ rfl
            have f50 := blk_frz k5 0
            have f51 := blk_frz k5 1
            obtain ⟨k6, t6⟩ := set1 k5 0 .nilIface
            obtain ⟨k7, t7⟩ := set1 k6 1 (.int .i64 0)
            have HN := hide (Nat.lt_of_lt_of_le (lt_of_blk K3.out) B4.out.size)
            have T7 := hide (t6.trans t7)
            have B7 := hide ((bel_trans B3.out B5).trans (T7.out.bel HN4.out (bel_trans B3.out B5).size))
            have HRA : Hid (∀ j, j < n → ∃ g, av = some ⟨g, 0, none⟩ ∧ n ≤ cv ∧ cv ≤ maxLen ∧ TkAt ((w5.setCell ⟨n4, 0, none⟩ .nilIface).setCell ⟨n4, 1, none⟩ (.int .i64 0)) g (j * 5) (ts.getD j noTk) (ts.getD j noTk).pos) := fun j hj => by
              obtain ⟨g, h1, h2, h3, h4⟩ := HRW.out j hj
              exact ⟨g, h1, h2, h3, (h4.bel B5).tn T7.out (Nat.ne_of_lt (HGN.out g h1))⟩
            have HRB : Hid (∀ j, j < n → ∃ g, a2 = some ⟨g, 0, none⟩ ∧ n ≤ c2 ∧ c2 ≤ maxLen ∧ TkAt ((w5.setCell ⟨n4, 0, none⟩ .nilIface).setCell ⟨n4, 1, none⟩ (.int .i64 0)) g (j * 5) (vs.getD j noTk) (vs.getD j noTk).pos) := fun j hj => by
              obtain ⟨g, c, hv, hg, _, h1, h2, hR⟩ := ho2.row (fun h => by rw [← hvl, h] at hj; simp at hj)
              obtain ⟨rfl, _, rfl⟩ : a2 = some ⟨g, 0, none⟩ ∧ n = vs.length ∧ c2 = c := by simpa only [Value.slice.injEq] using hv
              exact ⟨g, rfl, by rw [← hvl]; exact h1, h2, (hR.tok j (by rw [hvl]; exact hj)).tn T7.out (Ne.symm (Nat.ne_of_lt (Nat.lt_of_lt_of_le HN.out hg)))⟩
            have HV := hide hv2
            clear k6 t6 k7 t7 hv1 hv2 hvl ho2 hb5 I HRW HCH HQ O3 k5 E4 B5 hj h8
            go_wp2_with fail
            generalize (w5.setCell ⟨n4, 0, none⟩ .nilIface).setCell ⟨n4, 1, none⟩ (.int .i64 0) = w6 at *
            clear c50 c51 f50 f51 hji hjn hjn2 h8i
            go_loopw [129] (fun vi wr2 => ∃ j2 : Nat, j2 ≤ n ∧ vi = .int .i64 j2 ∧ Hid (Below w6.heap.size w6 wr2)) (fun vi _ => n - (intOf vi).toNat)
            case atStart => exact ⟨0, Nat.zero_le _, rfl, Below.refl _ _⟩
            case round =>
              obtain ⟨j2, hj2, rfl, J⟩ := hrel
              by_cases hjn : j2 < n
              · have hji : (j2 : Int) < (n : Int) := by omega
                have hjt : j2 < ts.length := by rw [← EN.out]; exact hjn
                obtain ⟨g, rfl, hc1, hc2, TA⟩ := HRA.out j2 hjn
                obtain ⟨g2, rfl, hd1, hd2, TB⟩ := HRB.out j2 hjn
                have TA := TA.bel J.out
                have TB := TB.bel J.out
                have hbare := (bare_at HV.out hjt).1
                unfold maxLen at hc2 hd2
                generalize ts.getD j2 noTk = tk at *
                generalize vs.getD j2 noTk = tv at *
                obtain ⟨kind, text, nn, bits_, pos⟩ := tk
                obtain ⟨kind2, text2, nn2, bits2, pos2⟩ := tv
                simp only [bare, Prod.mk.injEq] at hbare
                obtain ⟨rfl, rfl, rfl, rfl⟩ := hbare
                have TA2 := hide TA
                obtain ⟨a0, a1, a2', a3, a4⟩ := TA
                obtain ⟨b0, b1, b2, b3, b4⟩ := TB
                simp only at *
                have z4 := (TA2.out.bel (bel_new _ (.cells #[.int .i64 kind2, .string text2, .int .i64 nn2, .int .u64 bits2, .int .i64 pos2] 37))).c4
                have HB13 := hide (fun (X : Obj) => TA2.out.bel (bel_new _ X))
                have HB14 := hide (fun (X : Obj) => bel_trans J.out (bel_new _ X))
                go_wp2_with fail
                obtain ⟨y0, y1, y2, y3, y4⟩ := HB13.out (.cells #[.int .i64 kind2, .string text2, .int .i64 nn2, .int .u64 bits2, .int .i64 pos] 37)
                have k13 := Tok.new wr (.int .i64 kind2) (.string text2) (.int .i64 nn2) (.int .u64 bits2) (.int .i64 pos)
                obtain ⟨_, x0, x1, x2, x3, x4⟩ := k13.all
                go_quiet (fail)
                go_wp2_with fail
                exact ⟨⟨j2 + 1, by omega, by go_num, bel_trans (HB14.out _) (below_drewN (Below.refl _ _) nq)⟩, by simp [intOf]; omega⟩
              · have hji : ¬ (j2 : Int) < (n : Int) := by omega
                go_wp2_with fail
                go_ret
                exact ⟨rfl, bel_trans B7.out J.out⟩
          · have h8i : (8192 : Int) < (T.size : Int) := by omega
            go_wp2_with fail
            go_ret
            exact ⟨rfl, bel_trans B3.out I.out.2.2⟩
  · go_enter Tryd.func4, Tryd.ntmps4
    go_wp2_with fail
    refine (alive_any p w he).mono ?_
    rintro e w1 ⟨rfl, hb1⟩
    have e1 := he.bel hb1
    go_wp2_with fail
    refine (tokens_long s p w1 e1.er e1.big (by omega)).mono ?_
    rintro e w2 ⟨rfl, hb2⟩
    generalize longK s = kk at *
    have hii : (0 : Int) ≤ (s.size : Int) := by omega
    go_wp2_with fail
    go_ret
    exact ⟨rfl, bel_al (bel_trans hb1 hb2) _⟩

end Go.Proofs.YtpeebpnoldadjaaDoor.Ck
