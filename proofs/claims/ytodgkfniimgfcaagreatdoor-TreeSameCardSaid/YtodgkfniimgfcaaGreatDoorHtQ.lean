/- The document's own Same, places aside. -/
import Derived.Test.YtodgkfniimgfcaaGreatDoorHsQ
namespace Go.Proofs.YtodgkfniimgfcaaGreatDoor.Ck
open Go.RowKit

set_option maxRecDepth 20000 in
set_option maxHeartbeats 20000000 in
theorem rsame_all : ∀ (m : Nat) (n n' : Nd), szN n < m → ∀ (w : World) (v v' : Value), NodeR w n v → NodeR w n' v' → Calls Tryz.prog 13 #[v, v', .bool false] w fun e w' => e = .returned (.bool (sameN n n')) ∧ Below w.heap.size w w' := by
  intro m
  induction m with
  | zero => intro n n' h; omega
  | succ m ih =>
    intro n n' hm w v v' hv hv'
    have IH := hide ih
    clear ih
    obtain ⟨kd, ps, nm, t, nz, z, ob, bi, ks⟩ := n
    obtain ⟨kd', ps', nm', t', nz', z', ob', bi', ks'⟩ := n'
    unfold NodeR at hv hv'
    obtain ⟨s, rfl, hk⟩ := hv
    obtain ⟨s', rfl, hk'⟩ := hv'
    obtain ⟨oa, cap, rfl, hkk⟩ := hk.kid
    obtain ⟨oa', cap', rfl, hkk'⟩ := hk'.kid
    have hlen : ks.length ≤ 9223372036854775807 := by
      rcases hkk with rfl | ⟨a, _, h1, h2, _⟩
      · simp
      · unfold maxLen at h2
        omega
    have hlen' : ks'.length ≤ 9223372036854775807 := by
      rcases hkk' with rfl | ⟨a, _, h1, h2, _⟩
      · simp
      · unfold maxLen at h2
        omega
    have HK := hide hkk
    have HK' := hide hkk'
    obtain ⟨len, hln⟩ : ∃ len, len = ks.length := ⟨_, rfl⟩
    obtain ⟨len', hln'⟩ : ∃ len', len' = ks'.length := ⟨_, rfl⟩
    rw [← hln] at hlen ⊢
    rw [← hln'] at hlen' ⊢
    have hb1 := bel_new w (.cells #[.int .i64 kd, .int .i64 ps, .string nm, .int .i64 t, .int .i64 nz, .int .i64 z, .int .i64 ob, .int .u64 bi, .slice oa len cap] 26)
    have hb2 := bel_new (w.alloc (.cells #[.int .i64 kd, .int .i64 ps, .string nm, .int .i64 t, .int .i64 nz, .int .i64 z, .int .i64 ob, .int .u64 bi, .slice oa len cap] 26)) (.cells #[.int .i64 kd', .int .i64 ps', .string nm', .int .i64 t', .int .i64 nz', .int .i64 z', .int .i64 ob', .int .u64 bi', .slice oa' len' cap'] 26)
    have B2 := hide (bel_trans hb1 hb2)
    have hs1 : (w.alloc (.cells #[.int .i64 kd, .int .i64 ps, .string nm, .int .i64 t, .int .i64 nz, .int .i64 z, .int .i64 ob, .int .u64 bi, .slice oa len cap] 26)).heap.size = w.heap.size + 1 := by simp
    have k1 : Nod (w.alloc (.cells #[.int .i64 kd, .int .i64 ps, .string nm, .int .i64 t, .int .i64 nz, .int .i64 z, .int .i64 ob, .int .u64 bi, .slice oa len cap] 26)) w.heap.size (.int .i64 kd) (.int .i64 ps) (.string nm) (.int .i64 t) (.int .i64 nz) (.int .i64 z) (.int .i64 ob) (.int .u64 bi) (.slice oa len cap) := Go.Deep.blk_alloc_new _ _
    have k2 : Nod ((w.alloc (.cells #[.int .i64 kd, .int .i64 ps, .string nm, .int .i64 t, .int .i64 nz, .int .i64 z, .int .i64 ob, .int .u64 bi, .slice oa len cap] 26)).alloc (.cells #[.int .i64 kd', .int .i64 ps', .string nm', .int .i64 t', .int .i64 nz', .int .i64 z', .int .i64 ob', .int .u64 bi', .slice oa' len' cap'] 26)) (w.alloc (.cells #[.int .i64 kd, .int .i64 ps, .string nm, .int .i64 t, .int .i64 nz, .int .i64 z, .int .i64 ob, .int .u64 bi, .slice oa len cap] 26)).heap.size (.int .i64 kd') (.int .i64 ps') (.string nm') (.int .i64 t') (.int .i64 nz') (.int .i64 z') (.int .i64 ob') (.int .u64 bi') (.slice oa' len' cap') := Go.Deep.blk_alloc_new _ _
    rw [hs1] at k2
    have N1 := hide (k1.bel hb2)
    have N2 := hide k2
    obtain ⟨_, c0, c1, c2, c3, c4, c5, c6, c7, c8⟩ := N1.out.all
    obtain ⟨_, d0, d1, d2, d3, d4, d5, d6, d7, d8⟩ := N2.out.all
    have HSZ : Hid (szK ks < m) := by show _ < _; simp only [szN] at hm; omega
    have HLN := hide hln
    have HLN' := hide hln'
    clear hm hk hk' hkk hkk' hln hln' hb1 hb2 k1 k2 hs1
    by_cases hkd : kd = kd'
    rotate_left 1
    · have hne : (kd != kd') = true := by simpa using hkd
      have HN := hide hkd
      clear hkd
      go_enter Tryz.func13, Tryz.ntmps13
      go_wp2_with fail
      all_goals (first | (rename_i hu _; cases hu; done) | (go_ret; refine ⟨?_, B2.out⟩; simp [sameN, HN.out]; done))
    subst hkd
    by_cases hnm : nm = nm'
    rotate_left 1
    · have hne : (nm.toList == nm'.toList) = false := str_ne hnm
      have HN := hide hnm
      clear hnm
      go_enter Tryz.func13, Tryz.ntmps13
      go_wp2_with fail
      all_goals (first | (rename_i hu _; cases hu; done) | (go_ret; refine ⟨?_, B2.out⟩; simp [sameN, HN.out]; done))
    subst hnm
    by_cases ht : t = t'
    rotate_left 1
    · have hne : (t != t') = true := by simpa using ht
      have HN := hide ht
      clear ht
      go_enter Tryz.func13, Tryz.ntmps13
      go_wp2_with fail
      all_goals (first | (rename_i hu _; cases hu; done) | (go_ret; refine ⟨?_, B2.out⟩; simp [sameN, HN.out]; done))
    subst ht
    by_cases hnz : nz = nz'
    rotate_left 1
    · have hne : (nz != nz') = true := by simpa using hnz
      have HN := hide hnz
      clear hnz
      go_enter Tryz.func13, Tryz.ntmps13
      go_wp2_with fail
      all_goals (first | (rename_i hu _; cases hu; done) | (go_ret; refine ⟨?_, B2.out⟩; simp [sameN, HN.out]; done))
    subst hnz
    by_cases hz : z = z'
    rotate_left 1
    · have hne : (z != z') = true := by simpa using hz
      have HN := hide hz
      clear hz
      go_enter Tryz.func13, Tryz.ntmps13
      go_wp2_with fail
      all_goals (first | (rename_i hu _; cases hu; done) | (go_ret; refine ⟨?_, B2.out⟩; simp [sameN, HN.out]; done))
    subst hz
    by_cases hob : ob = ob'
    rotate_left 1
    · have hne : (ob != ob') = true := by simpa using hob
      have HN := hide hob
      clear hob
      go_enter Tryz.func13, Tryz.ntmps13
      go_wp2_with fail
      all_goals (first | (rename_i hu _; cases hu; done) | (go_ret; refine ⟨?_, B2.out⟩; simp [sameN, HN.out]; done))
    subst hob
    by_cases hbi : bi = bi'
    rotate_left 1
    · have hne : (bi != bi') = true := by simpa using hbi
      have HN := hide hbi
      clear hbi
      go_enter Tryz.func13, Tryz.ntmps13
      go_wp2_with fail
      all_goals (first | (rename_i hu _; cases hu; done) | (go_ret; refine ⟨?_, B2.out⟩; simp [sameN, HN.out]; done))
    subst hbi
    by_cases hll : len = len'
    rotate_left 1
    · have hne : ((len : Int) != (len' : Int)) = true := by simpa using (fun h : (len : Int) = (len' : Int) => hll (by omega))
      have HN := hide hll
      clear hll
      have hf : sameK ks ks' = false := by
        cases hs : sameK ks ks' with
        | false => rfl
        | true => exact absurd (HLN.out.trans ((sameK_len hs).trans HLN'.out.symm)) HN.out
      have HF := hide hf
      clear hf
      go_enter Tryz.func13, Tryz.ntmps13
      go_wp2_with fail
      all_goals (first | (rename_i hu _; cases hu; done) | (go_ret; refine ⟨?_, B2.out⟩; simp [sameN, HF.out]; done))
    subst hll
    go_enter Tryz.func13, Tryz.ntmps13
    go_wp2_with fail
    clear c0 c1 c2 c3 c4 c5 c6 c7 c8 d0 d1 d2 d3 d4 d5 d6 d7 d8
    generalize (w.alloc (.cells #[.int .i64 kd, .int .i64 ps, .string nm, .int .i64 t, .int .i64 nz, .int .i64 z, .int .i64 ob, .int .u64 bi, .slice oa len cap] 26)).alloc (.cells #[.int .i64 kd, .int .i64 ps', .string nm, .int .i64 t, .int .i64 nz, .int .i64 z, .int .i64 ob, .int .u64 bi, .slice oa' len cap'] 26) = w2 at *
    go_loopw [77] (fun vi wr => ∃ (j : Nat), j ≤ len ∧ vi = .int .i64 j ∧ Hid (sameK (ks.take j) (ks'.take j) = true ∧ Below w2.heap.size w2 wr)) (fun vi _ => len - (intOf vi).toNat)
    case atStart => exact ⟨0, Nat.zero_le _, rfl, by simp [sameK], Below.refl _ _⟩
    case round =>
      obtain ⟨j, hj, rfl, I⟩ := hrel
      have BB := hide (bel_trans B2.out I.out.2)
      by_cases hjl : j < len
      · have hj2 : (j : Int) < (len : Int) := by omega
        obtain ⟨a, rfl, hc1, hc2, hkid⟩ : ∃ a, oa = some a ∧ ks.length ≤ cap ∧ cap ≤ maxLen ∧ ∀ j n, ks[j]? = some n → NodeA w a (9 * j) n := by
          rcases HK.out with h | h
          · exfalso
            have := HLN.out
            rw [h] at this
            simp at this
            omega
          · exact h
        obtain ⟨a', rfl, hc1', hc2', hkid'⟩ : ∃ a, oa' = some a ∧ ks'.length ≤ cap' ∧ cap' ≤ maxLen ∧ ∀ j n, ks'[j]? = some n → NodeA w a (9 * j) n := by
          rcases HK'.out with h | h
          · exfalso
            have := HLN'.out
            rw [h] at this
            simp at this
            omega
          · exact h
        obtain ⟨n, hn⟩ : ∃ n, ks[j]? = some n := ⟨_, List.getElem?_eq_getElem (by have := HLN.out; omega)⟩
        obtain ⟨n', hn'⟩ : ∃ n, ks'[j]? = some n := ⟨_, List.getElem?_eq_getElem (by have := HLN'.out; omega)⟩
        have hsz : szN n < m := by
          have h1 := szK_at hn
          have h2 := HSZ.out
          omega
        obtain ⟨kx, px, nx, tx', zx, sx, ox, bx, cx⟩ := n
        obtain ⟨ky, py, ny, ty, zy, sy, oy, by', cy⟩ := n'
        have hA := NodeA.bel BB.out a (9 * j) _ (hkid j _ hn)
        have hA' := NodeA.bel BB.out a' (9 * j) _ (hkid' j _ hn')
        obtain ⟨ax, px1, c0, c1, c2, c3, c4, c5, c6, c7, c8, hkx⟩ := hA.cells
        obtain ⟨lx, hlx⟩ : ∃ lx, lx = cx.length := ⟨_, rfl⟩
        rw [← hlx] at c8 hkx
        obtain ⟨ay, py1, d0, d1, d2, d3, d4, d5, d6, d7, d8, hky⟩ := hA'.cells
        obtain ⟨ly, hly⟩ : ∃ ly, ly = cy.length := ⟨_, rfl⟩
        rw [← hly] at d8 hky
        have hR : NodeR wr (.mk kx px nx tx' zx sx ox bx cx) (.agg #[.int .i64 kx, .int .i64 px, .string nx, .int .i64 tx', .int .i64 zx, .int .i64 sx, .int .i64 ox, .int .u64 bx, .slice ax lx px1]) := by
          unfold NodeR
          exact ⟨_, rfl, hkx⟩
        have hR' : NodeR wr (.mk ky py ny ty zy sy oy by' cy) (.agg #[.int .i64 ky, .int .i64 py, .string ny, .int .i64 ty, .int .i64 zy, .int .i64 sy, .int .i64 oy, .int .u64 by', .slice ay ly py1]) := by
          unfold NodeR
          exact ⟨_, rfl, hky⟩
        obtain ⟨_, _, _, _, _, _, _, _, _, g8⟩ := (N1.out.bel I.out.2).all
        obtain ⟨_, _, _, _, _, _, _, _, _, e8⟩ := (N2.out.bel I.out.2).all
        have hbd := bel_drawn (Below.refl wr.heap.size wr)
        have RR := hide (IH.out _ _ hsz _ _ _ (hR.bel hbd) (hR'.bel hbd))
        have HN := hide hn
        have HN' := hide hn'
        have C0 := hide I.out.1
        have BD := hide (bel_drawn I.out.2)
        unfold maxLen at hc2 hc2'
        obtain ⟨q, hq⟩ : ∃ q, sameN (.mk kx px nx tx' zx sx ox bx cx) (.mk ky py ny ty zy sy oy by' cy) = q := ⟨_, rfl⟩
        rw [hq] at RR
        have HQ := hide hq
        clear hkid hkx hlx hn hsz hc1 hR hA hkid' hky hly hn' hc1' hR' hA' hq I BB hbd
        go_wp2_with fail
        refine wp_quiet_tail 11 mixed (by kernel_rfl) ?_
        simp only [List.take_succ_cons, List.take_zero, List.drop_succ_cons, List.drop_zero]
        repeat (first | go_big_quiet_skip | (go_big_quiet_want; go_big_quiet_op; go_big_quiet_on))
        refine wpQuiet_nil ?_
        go_wp2_with fail
        refine RR.out.mono ?_
        rintro e w3 ⟨rfl, hb3⟩
        have B3 := hide (bel_trans BD.out hb3)
        clear RR hb3 c0 c1 c2 c3 c4 c5 c6 c7 c8 d0 d1 d2 d3 d4 d5 d6 d7 d8 g8 e8 BD
        cases q with
        | true =>
          go_wp2_with fail
          go_roundw
          case rel =>
            refine ⟨j + 1, by omega, by go_num, ?_, B3.out⟩
            rw [take_snoc HN.out, take_snoc HN'.out]
            exact sameK_snoc C0.out HQ.out
          case measure =>
            simp [intOf]
            omega
        | false =>
          go_wp2_with fail
          go_ret
          refine ⟨?_, bel_trans B2.out B3.out⟩
          have hf : sameK ks ks' = false := by
            cases hs : sameK ks ks' with
            | false => rfl
            | true =>
              have := sameK_at hs HN.out HN'.out
              rw [HQ.out] at this
              cases this
          simp [sameN, hf]
      · have hj2 : ¬ (j : Int) < (len : Int) := by omega
        go_wp2_with fail
        go_ret
        refine ⟨?_, BB.out⟩
        have h1 := I.out.1
        rw [List.take_of_length_le (by have := HLN.out; omega), List.take_of_length_le (by have := HLN'.out; omega)] at h1
        simp [sameN, h1]
theorem rsame_any {w : World} {n n' : Nd} {v v' : Value} (h : NodeR w n v) (h' : NodeR w n' v') : Calls Tryz.prog 13 #[v, v', .bool false] w fun e w' => e = .returned (.bool (sameN n n')) ∧ Below w.heap.size w w' :=
  rsame_all (szN n + 1) n n' (by omega) w v v' h h'

end Go.Proofs.YtodgkfniimgfcaaGreatDoor.Ck
