/- TreeBrackets: brackets around an expression leave the same tree, one byte further on. -/
import Derived.Test.YtodgkfniimgfcaaGreatDoorHqQ
import Derived.Deep.RegionHeld
namespace Go.Proofs.YtodgkfniimgfcaaGreatDoor.Ck
open Go.RowKit

theorem two_vars (w : World) (v0 v1 v2 v3 v4 v5 v6 v7 v8 E I : Value) :
    Nod ((w.alloc (.cells #[v0, v1, v2, v3, v4, v5, v6, v7, v8] 26)).alloc (.cells #[E, I] 30)) w.heap.size v0 v1 v2 v3 v4 v5 v6 v7 v8 ∧
    ((w.alloc (.cells #[v0, v1, v2, v3, v4, v5, v6, v7, v8] 26)).alloc (.cells #[E, I] 30)).heap[w.heap.size + 1]? = some (.cells #[E, I] 30 (0, 0)) ∧
    Below w.heap.size w ((w.alloc (.cells #[v0, v1, v2, v3, v4, v5, v6, v7, v8] 26)).alloc (.cells #[E, I] 30)) := by
  have hb1 := bel_new w (.cells #[v0, v1, v2, v3, v4, v5, v6, v7, v8] 26)
  have k1 : Nod (w.alloc (.cells #[v0, v1, v2, v3, v4, v5, v6, v7, v8] 26)) w.heap.size v0 v1 v2 v3 v4 v5 v6 v7 v8 := Go.Deep.blk_alloc_new _ _
  have s1 : (w.alloc (.cells #[v0, v1, v2, v3, v4, v5, v6, v7, v8] 26)).heap.size = w.heap.size + 1 := by simp
  generalize w.alloc (.cells #[v0, v1, v2, v3, v4, v5, v6, v7, v8] 26) = w1 at *
  have hb2 := bel_new w1 (.cells #[E, I] 30)
  have k2 : (w1.alloc (.cells #[E, I] 30)).heap[w1.heap.size]? = some (.cells #[E, I] 30 (0, 0)) := Go.Deep.blk_alloc_new _ _
  rw [s1] at k2
  exact ⟨k1.bel hb2, k2, bel_trans hb1 hb2⟩
/-- what a reading hands back, both ways -/
theorem Xp.all {w : World} {p : List Addr} {e : Ending} {w' : World} {r : Read} (h : Xp w p e w' r) :
    (∃ k i, r = .bad k i ∧ e = .returned (.tuple #[.agg #[.int .i64 0, .int .i64 0, .string ⟨#[]⟩, .int .i64 0, .int .i64 0, .int .i64 0, .int .i64 0, .int .u64 0, .slice none 0 0], .agg #[errV p k, .int .i64 i]]) ∧ Below w.heap.size w w') ∨
    (∃ kd ps nm t nz z ob bi ks oa len ck, r = .ok (.mk kd ps nm t nz z ob bi ks) ∧ e = .returned (.tuple #[.agg #[.int .i64 kd, .int .i64 ps, .string nm, .int .i64 t, .int .i64 nz, .int .i64 z, .int .i64 ob, .int .u64 bi, .slice oa len ck], .agg #[.nilIface, .int .i64 0]]) ∧ KidsR w' ks (.slice oa len ck) ∧ Below w.heap.size w w') := by
  cases r with
  | bad k i => exact .inl ⟨k, i, rfl, h⟩
  | ok n =>
    obtain ⟨v, rfl, hv, hb⟩ := h
    obtain ⟨kd, ps, nm, t, nz, z, ob, bi, ks⟩ := n
    have hr := hv.rd
    unfold NodeR at hr
    obtain ⟨s, rfl, hk⟩ := hr
    obtain ⟨oa, ck, rfl, _⟩ := hk.kid
    exact .inr ⟨kd, ps, nm, t, nz, z, ob, bi, ks, oa, _, ck, rfl, rfl, hk, hb⟩

set_option maxRecDepth 20000 in
set_option maxHeartbeats 4000000 in
theorem brackets_any (s : ByteArray) (p : List Addr) (w : World) (he : Ev w p) :
    Calls Tryz.prog 7 #[.string s] w fun e w' => e = .returned (.bool true) ∧ Below w.heap.size w w' := by
  go_enter Tryz.func7, Tryz.ntmps7
  go_wp2_with fail
  refine (alive_any p w he).mono ?_
  rintro e w1 ⟨rfl, hb1⟩
  by_cases hs : 8190 < s.size
  · have hs2 : (8190 : Int) < (s.size : Int) := by omega
    go_wp2_with fail
    go_ret
    exact ⟨rfl, hb1⟩
  have hs2 : ¬ (8190 : Int) < (s.size : Int) := by omega
  have hs3 : s.size ≤ 8190 := by omega
  have E1 := hide (he.bel hb1)
  have B1 := hide hb1
  clear hb1 he hs
  go_wp2_with fail
  refine (expr_ev s p w1 E1.out).mono ?_
  intro e w2 hp
  rcases hp.all with ⟨k, i, hr, rfl, hb⟩ | ⟨kd, ps, nm, t, nz, z, ob, bi, ks, oa, len, ck, hr, rfl, hk, hb⟩
  · obtain ⟨n2, m2, b2⟩ := two_vars w2 (.int .i64 0) (.int .i64 0) (.string ⟨#[]⟩) (.int .i64 0) (.int .i64 0) (.int .i64 0) (.int .i64 0) (.int .u64 0) (.slice none 0 0) (errV p k) (.int .i64 (i : Int))
    have N3 := hide n2
    have M3 := hide m2
    have B3 := hide (bel_trans B1.out (bel_trans hb b2))
    have E3 := hide ((E1.out.bel hb).bel b2)
    have HR := hide hr
    clear n2 m2 b2 hb hr B1 E1
    go_wp2_with fail
    generalize (w2.alloc (.cells #[.int .i64 0, .int .i64 0, .string ⟨#[]⟩, .int .i64 0, .int .i64 0, .int .i64 0, .int .i64 0, .int .u64 0, .slice none 0 0] 26)).alloc (.cells #[errV p k, .int .i64 (i : Int)] 30) = w3 at *
    generalize w2.heap.size = na at *
    refine (expr_ev _ p w3 E3.out).mono ?_
    intro e w4 hp
    rcases hp.all with ⟨k', i', hr', rfl, hb⟩ | ⟨kd', ps', nm', t', nz', z', ob', bi', ks', oa', len', ck', hr', rfl, hk', hb⟩
    · obtain ⟨n4, m4, b4⟩ := two_vars w4 (.int .i64 0) (.int .i64 0) (.string ⟨#[]⟩) (.int .i64 0) (.int .i64 0) (.int .i64 0) (.int .i64 0) (.int .u64 0) (.slice none 0 0) (errV p k') (.int .i64 (i' : Int))
      have hb5 := bel_trans hb b4
      have N5 := hide (N3.out.bel hb5)
      have M5 := hide ((hb5.block _ (lt_of_blk M3.out)).trans M3.out)
      have B5 := hide (bel_trans B3.out hb5)
      have P5 := hide n4
      have Q5 := hide m4
      have HR' := hide hr'
      clear n4 m4 b4 hb hb5 hr' N3 M3 B3 E3
      have c0 := blk_cell M5.out 0 _ rfl
      have d0 := blk_cell Q5.out 0 _ rfl
      obtain ⟨_, k0, _⟩ := P5.out.all
      go_wp2_with fail
      go_ret
      exact ⟨rfl, B5.out⟩
    · obtain ⟨n4, m4, b4⟩ := two_vars w4 (.int .i64 kd') (.int .i64 ps') (.string nm') (.int .i64 t') (.int .i64 nz') (.int .i64 z') (.int .i64 ob') (.int .u64 bi') (.slice oa' len' ck') (.nilIface) (.int .i64 0)
      have hb5 := bel_trans hb b4
      have N5 := hide (N3.out.bel hb5)
      have M5 := hide ((hb5.block _ (lt_of_blk M3.out)).trans M3.out)
      have B5 := hide (bel_trans B3.out hb5)
      have P5 := hide n4
      have Q5 := hide m4
      have HR' := hide hr'
      clear n4 m4 b4 hb hb5 hr' N3 M3 B3 E3 hk'
      have c0 := blk_cell M5.out 0 _ rfl
      have d0 := blk_cell Q5.out 0 _ rfl
      obtain ⟨_, k0, _⟩ := P5.out.all
      go_wp2_with fail
      go_ret
      exact ⟨rfl, B5.out⟩
  · obtain ⟨n2, m2, b2⟩ := two_vars w2 (.int .i64 kd) (.int .i64 ps) (.string nm) (.int .i64 t) (.int .i64 nz) (.int .i64 z) (.int .i64 ob) (.int .u64 bi) (.slice oa len ck) (.nilIface) (.int .i64 0)
    have N3 := hide n2
    have M3 := hide m2
    have B3 := hide (bel_trans B1.out (bel_trans hb b2))
    have E3 := hide ((E1.out.bel hb).bel b2)
    have HR := hide hr
    have K3 := hide (KidsR.bel b2 _ _ hk)
    clear hk
    clear n2 m2 b2 hb hr B1 E1
    go_wp2_with fail
    generalize (w2.alloc (.cells #[.int .i64 kd, .int .i64 ps, .string nm, .int .i64 t, .int .i64 nz, .int .i64 z, .int .i64 ob, .int .u64 bi, .slice oa len ck] 26)).alloc (.cells #[.nilIface, .int .i64 0] 30) = w3 at *
    generalize w2.heap.size = na at *
    refine (expr_ev _ p w3 E3.out).mono ?_
    intro e w4 hp
    rcases hp.all with ⟨k', i', hr', rfl, hb⟩ | ⟨kd', ps', nm', t', nz', z', ob', bi', ks', oa', len', ck', hr', rfl, hk', hb⟩
    · obtain ⟨n4, m4, b4⟩ := two_vars w4 (.int .i64 0) (.int .i64 0) (.string ⟨#[]⟩) (.int .i64 0) (.int .i64 0) (.int .i64 0) (.int .i64 0) (.int .u64 0) (.slice none 0 0) (errV p k') (.int .i64 (i' : Int))
      have hb5 := bel_trans hb b4
      have N5 := hide (N3.out.bel hb5)
      have M5 := hide ((hb5.block _ (lt_of_blk M3.out)).trans M3.out)
      have B5 := hide (bel_trans B3.out hb5)
      have P5 := hide n4
      have Q5 := hide m4
      have HR' := hide hr'
      clear n4 m4 b4 hb hb5 hr' N3 M3 B3 E3 K3
      have c0 := blk_cell M5.out 0 _ rfl
      have d0 := blk_cell Q5.out 0 _ rfl
      obtain ⟨_, k0, _⟩ := P5.out.all
      go_wp2_with fail
      go_ret
      exact ⟨rfl, B5.out⟩
    · obtain ⟨n4, m4, b4⟩ := two_vars w4 (.int .i64 kd') (.int .i64 ps') (.string nm') (.int .i64 t') (.int .i64 nz') (.int .i64 z') (.int .i64 ob') (.int .u64 bi') (.slice oa' len' ck') (.nilIface) (.int .i64 0)
      have hb5 := bel_trans hb b4
      have N5 := hide (N3.out.bel hb5)
      have M5 := hide ((hb5.block _ (lt_of_blk M3.out)).trans M3.out)
      have B5 := hide (bel_trans B3.out hb5)
      have P5 := hide n4
      have Q5 := hide m4
      have HR' := hide hr'
      have K5 := hide (KidsR.bel hb5 _ _ K3.out)
      have J5 := hide (KidsR.bel b4 _ _ hk')
      clear n4 m4 b4 hb hb5 hr' N3 M3 B3 E3 hk' K3
      have hmv : (kd = kd' ∧ ps + 1 = ps' ∧ nm = nm' ∧ t = t' ∧ nz = nz' ∧ z = z' ∧ ob = ob' ∧ bi = bi' ∧ mvK ks = ks') := by
        rcases brackets_model hs3 HR.out with ⟨k, i, e⟩ | e
        · have h1 := HR'.out
          rw [e] at h1
          cases h1
        · have h1 := HR'.out
          rw [e] at h1
          simp only [mvN] at h1
          injection h1 with h1
          injection h1 with h1 h2 h3 h4 h5 h6 h7 h8 h9
          exact ⟨h1, h2, h3, h4, h5, h6, h7, h8, h9⟩
      obtain ⟨rfl, rfl, rfl, rfl, rfl, rfl, rfl, rfl, rfl⟩ := hmv
      have c0 := blk_cell M5.out 0 _ rfl
      have d0 := blk_cell Q5.out 0 _ rfl
      obtain ⟨_, k0, _⟩ := P5.out.all
      obtain ⟨hp0, hp1⟩ := exprF_pos HR.out
      simp only [Nd.pos] at hp0 hp1
      have hwr : wrap64 (ps + 1) = ps + 1 := by unfold wrap64; omega
      have hwr2 : IntKind.i64.wrap (ps + 1) = ps + 1 := by rw [IntKind.wrap_i64]; omega
      go_wp2_with fail
      clear c0 d0 k0
      generalize (w4.alloc (.cells #[.int .i64 kd, .int .i64 (ps + 1), .string nm, .int .i64 t, .int .i64 nz, .int .i64 z, .int .i64 ob, .int .u64 bi, .slice oa' len' ck'] 26)).alloc (.cells #[.nilIface, .int .i64 0] 30) = w5 at *
      generalize w4.heap.size = nb at *
      refine wp_region_held_drew (S := fun w' => Nod w' na (.int .i64 kd) (.int .i64 ps) (.string nm) (.int .i64 t) (.int .i64 nz) (.int .i64 z) (.int .i64 ob) (.int .u64 bi) (.slice oa len ck) ∧ Nod w' nb (.int .i64 kd) (.int .i64 (ps + 1)) (.string nm) (.int .i64 t) (.int .i64 nz) (.int .i64 z) (.int .i64 ob) (.int .u64 bi) (.slice oa' len' ck')) mixed ⟨N5.out.drew, P5.out.drew⟩ (fun hH => ?_)
      have BW0 : Hid (Below w5.heap.size w5 w5.drew) := bel_drawn (Below.refl _ _)
      generalize World.drew w5 = W0 at *
      refine wpAnyH_take (i := 0) (v := ?_) rfl (by kernel_rfl) (by kernel_rfl) (by kernel_rfl) (fun _ _ _ h => h) (Or.inl ⟨by rfl, ?_⟩) hH ?_
      rotate_left 1
      · (intro w hSw; obtain ⟨_, e0, e1, e2, e3, e4, e5, e6, e7, e8⟩ := hSw.1.all; obtain ⟨_, g0, g1, g2, g3, g4, g5, g6, g7, g8⟩ := hSw.2.all; clear hSw; go_simp <;> with_reducible rfl)
      simp only [Act.put, List.getElem_toArray, List.getElem_cons_zero, List.setIfInBounds_toArray, List.set_cons_zero, List.set_cons_succ]
      refine wpAnyH_take (i := 1) (v := ?_) rfl (by kernel_rfl) (by kernel_rfl) (by kernel_rfl) (fun _ _ _ h => h) (Or.inl ⟨by rfl, ?_⟩) hH ?_
      rotate_left 1
      · (intro w hSw; obtain ⟨_, e0, e1, e2, e3, e4, e5, e6, e7, e8⟩ := hSw.1.all; obtain ⟨_, g0, g1, g2, g3, g4, g5, g6, g7, g8⟩ := hSw.2.all; clear hSw; go_simp <;> with_reducible rfl)
      simp only [Act.put, List.getElem_toArray, List.getElem_cons_zero, List.getElem_cons_succ, List.setIfInBounds_toArray, List.set_cons_zero, List.set_cons_succ]
      refine wpAnyH_ready (rs := [2]) (by kernel_rfl) (by decide) ?_
      refine AllReadyH.cons rfl (fun K1 hK1 => ?_) AllReadyH.nil
      go_simp
      refine (same_any (show NodeR W0 (.mk kd ps nm t nz z ob bi ks) (.agg #[.int .i64 kd, .int .i64 ps, .string nm, .int .i64 t, .int .i64 nz, .int .i64 z, .int .i64 ob, .int .u64 bi, .slice oa len ck]) by unfold NodeR; exact ⟨_, rfl, KidsR.bel BW0.out _ _ K5.out⟩) (show NodeR W0 (mvN (.mk kd ps nm t nz z ob bi ks)) (.agg #[.int .i64 kd, .int .i64 (ps + 1), .string nm, .int .i64 t, .int .i64 nz, .int .i64 z, .int .i64 ob, .int .u64 bi, .slice oa' len' ck']) by simp only [mvN]; unfold NodeR; exact ⟨_, rfl, KidsR.bel BW0.out _ _ J5.out⟩)).mono ?_
      rw [same_mv]
      rintro e W1 ⟨rfl, hb⟩
      have BW1 := hide (bel_trans BW0.out hb)
      refine hK1.out _ _ ⟨hH.1.bel hb, hH.2.bel hb⟩ (fun hH => ?_)
      clear hK1 K1 hb
      refine wpAnyH_take (i := 3) (v := ?_) rfl (by kernel_rfl) (by kernel_rfl) (by kernel_rfl) (fun _ _ _ h => h) (Or.inl ⟨by rfl, ?_⟩) hH ?_
      rotate_left 1
      · (intro w hSw; obtain ⟨_, e0, e1, e2, e3, e4, e5, e6, e7, e8⟩ := hSw.1.all; obtain ⟨_, g0, g1, g2, g3, g4, g5, g6, g7, g8⟩ := hSw.2.all; clear hSw; go_simp <;> with_reducible rfl)
      simp only [Act.put, List.getElem_toArray, List.getElem_cons_zero, List.getElem_cons_succ, List.setIfInBounds_toArray, List.set_cons_zero, List.set_cons_succ]
      refine wpAnyH_take (i := 4) (v := ?_) rfl (by kernel_rfl) (by kernel_rfl) (by kernel_rfl) (fun _ _ _ h => h) (Or.inl ⟨by rfl, ?_⟩) hH ?_
      rotate_left 1
      · (intro w hSw; obtain ⟨_, e0, e1, e2, e3, e4, e5, e6, e7, e8⟩ := hSw.1.all; obtain ⟨_, g0, g1, g2, g3, g4, g5, g6, g7, g8⟩ := hSw.2.all; clear hSw; go_simp <;> with_reducible rfl)
      simp only [Act.put, List.getElem_toArray, List.getElem_cons_zero, List.getElem_cons_succ, List.setIfInBounds_toArray, List.set_cons_zero, List.set_cons_succ]
      refine wpAnyH_take (i := 5) (v := ?_) rfl (by kernel_rfl) (by kernel_rfl) (by kernel_rfl) (fun _ _ _ h => h) (Or.inl ⟨by rfl, ?_⟩) hH ?_
      rotate_left 1
      · (intro w hSw; obtain ⟨_, e0, e1, e2, e3, e4, e5, e6, e7, e8⟩ := hSw.1.all; obtain ⟨_, g0, g1, g2, g3, g4, g5, g6, g7, g8⟩ := hSw.2.all; clear hSw; go_simp <;> with_reducible rfl)
      simp only [Act.put, List.getElem_toArray, List.getElem_cons_zero, List.getElem_cons_succ, List.setIfInBounds_toArray, List.set_cons_zero, List.set_cons_succ]
      refine wpAnyH_take (i := 6) (v := ?_) rfl (by kernel_rfl) (by kernel_rfl) (by kernel_rfl) (fun _ _ _ h => h) (Or.inl ⟨by rfl, ?_⟩) hH ?_
      rotate_left 1
      · (intro w hSw; obtain ⟨_, e0, e1, e2, e3, e4, e5, e6, e7, e8⟩ := hSw.1.all; obtain ⟨_, g0, g1, g2, g3, g4, g5, g6, g7, g8⟩ := hSw.2.all; clear hSw; go_simp <;> with_reducible rfl)
      simp only [Act.put, List.getElem_toArray, List.getElem_cons_zero, List.getElem_cons_succ, List.setIfInBounds_toArray, List.set_cons_zero, List.set_cons_succ]
      refine wpAnyH_take (i := 7) (v := ?_) rfl (by kernel_rfl) (by kernel_rfl) (by kernel_rfl) (fun _ _ _ h => h) (Or.inl ⟨by rfl, ?_⟩) hH ?_
      rotate_left 1
      · (intro w hSw; obtain ⟨_, e0, e1, e2, e3, e4, e5, e6, e7, e8⟩ := hSw.1.all; obtain ⟨_, g0, g1, g2, g3, g4, g5, g6, g7, g8⟩ := hSw.2.all; clear hSw; go_simp <;> with_reducible rfl)
      simp only [Act.put, List.getElem_toArray, List.getElem_cons_zero, List.getElem_cons_succ, List.setIfInBounds_toArray, List.set_cons_zero, List.set_cons_succ]
      refine wpAnyH_take (i := 8) (v := ?_) rfl (by kernel_rfl) (by kernel_rfl) (by kernel_rfl) (fun _ _ _ h => h) (Or.inl ⟨by rfl, ?_⟩) hH ?_
      rotate_left 1
      · (intro w hSw; obtain ⟨_, e0, e1, e2, e3, e4, e5, e6, e7, e8⟩ := hSw.1.all; obtain ⟨_, g0, g1, g2, g3, g4, g5, g6, g7, g8⟩ := hSw.2.all; clear hSw; go_simp <;> with_reducible rfl)
      simp only [Act.put, List.getElem_toArray, List.getElem_cons_zero, List.getElem_cons_succ, List.setIfInBounds_toArray, List.set_cons_zero, List.set_cons_succ]
      refine wpAnyH_take (i := 9) (v := ?_) rfl (by kernel_rfl) (by kernel_rfl) (by kernel_rfl) (fun _ _ _ h => h) (Or.inl ⟨by rfl, ?_⟩) hH ?_
      rotate_left 1
      · (intro w hSw; obtain ⟨_, e0, e1, e2, e3, e4, e5, e6, e7, e8⟩ := hSw.1.all; obtain ⟨_, g0, g1, g2, g3, g4, g5, g6, g7, g8⟩ := hSw.2.all; clear hSw; go_simp <;> with_reducible rfl)
      simp only [Act.put, List.getElem_toArray, List.getElem_cons_zero, List.getElem_cons_succ, List.setIfInBounds_toArray, List.set_cons_zero, List.set_cons_succ]
      refine wpAnyH_take (i := 10) (v := ?_) rfl (by kernel_rfl) (by kernel_rfl) (by kernel_rfl) (fun _ _ _ h => h) (Or.inl ⟨by rfl, ?_⟩) hH ?_
      rotate_left 1
      · (intro w hSw; obtain ⟨_, e0, e1, e2, e3, e4, e5, e6, e7, e8⟩ := hSw.1.all; obtain ⟨_, g0, g1, g2, g3, g4, g5, g6, g7, g8⟩ := hSw.2.all; clear hSw; go_simp <;> with_reducible rfl)
      simp only [Act.put, List.getElem_toArray, List.getElem_cons_zero, List.getElem_cons_succ, List.setIfInBounds_toArray, List.set_cons_zero, List.set_cons_succ]
      refine wpAnyH_take (i := 11) (v := ?_) rfl (by kernel_rfl) (by kernel_rfl) (by kernel_rfl) (fun _ _ _ h => h) (Or.inl ⟨by rfl, ?_⟩) hH ?_
      rotate_left 1
      · (intro w hSw; obtain ⟨_, e0, e1, e2, e3, e4, e5, e6, e7, e8⟩ := hSw.1.all; obtain ⟨_, g0, g1, g2, g3, g4, g5, g6, g7, g8⟩ := hSw.2.all; clear hSw; go_simp <;> with_reducible rfl)
      simp only [Act.put, List.getElem_toArray, List.getElem_cons_zero, List.getElem_cons_succ, List.setIfInBounds_toArray, List.set_cons_zero, List.set_cons_succ]
      refine wpAnyH_take (i := 12) (v := ?_) rfl (by kernel_rfl) (by kernel_rfl) (by kernel_rfl) (fun _ _ _ h => h) (Or.inl ⟨by rfl, ?_⟩) hH ?_
      rotate_left 1
      · (intro w hSw; obtain ⟨_, e0, e1, e2, e3, e4, e5, e6, e7, e8⟩ := hSw.1.all; obtain ⟨_, g0, g1, g2, g3, g4, g5, g6, g7, g8⟩ := hSw.2.all; clear hSw; go_simp <;> with_reducible rfl)
      simp only [Act.put, List.getElem_toArray, List.getElem_cons_zero, List.getElem_cons_succ, List.setIfInBounds_toArray, List.set_cons_zero, List.set_cons_succ]
      refine wpAnyH_take (i := 14) (v := ?_) rfl (by kernel_rfl) (by kernel_rfl) (by kernel_rfl) (fun _ _ _ h => h) (Or.inl ⟨by rfl, ?_⟩) hH ?_
      rotate_left 1
      · (intro w hSw; obtain ⟨_, e0, e1, e2, e3, e4, e5, e6, e7, e8⟩ := hSw.1.all; obtain ⟨_, g0, g1, g2, g3, g4, g5, g6, g7, g8⟩ := hSw.2.all; clear hSw; go_simp <;> with_reducible rfl)
      simp only [Act.put, List.getElem_toArray, List.getElem_cons_zero, List.getElem_cons_succ, List.setIfInBounds_toArray, List.set_cons_zero, List.set_cons_succ]
      refine wpAnyH_ready (rs := [13]) (by kernel_rfl) (by decide) ?_
      refine AllReadyH.cons rfl (fun K1 hK1 => ?_) AllReadyH.nil
      go_simp
      refine (count_any (show NodeR W1 (.mk kd ps nm t nz z ob bi ks) (.agg #[.int .i64 kd, .int .i64 ps, .string nm, .int .i64 t, .int .i64 nz, .int .i64 z, .int .i64 ob, .int .u64 bi, .slice oa len ck]) by unfold NodeR; exact ⟨_, rfl, KidsR.bel BW1.out _ _ K5.out⟩)).mono ?_
      rintro e W2 ⟨rfl, hb⟩
      have BW2 := hide (bel_trans BW1.out hb)
      refine hK1.out _ _ ⟨hH.1.bel hb, hH.2.bel hb⟩ (fun hH => ?_)
      clear hK1 K1 hb
      refine wpAnyH_ready (rs := [15]) (by kernel_rfl) (by decide) ?_
      refine AllReadyH.cons rfl (fun K1 hK1 => ?_) AllReadyH.nil
      go_simp
      refine (count_any (show NodeR W2 (mvN (.mk kd ps nm t nz z ob bi ks)) (.agg #[.int .i64 kd, .int .i64 (ps + 1), .string nm, .int .i64 t, .int .i64 nz, .int .i64 z, .int .i64 ob, .int .u64 bi, .slice oa' len' ck']) by simp only [mvN]; unfold NodeR; exact ⟨_, rfl, KidsR.bel BW2.out _ _ J5.out⟩)).mono ?_
      rw [cnt_mv]
      rintro e W3 ⟨rfl, hb⟩
      have BW3 := hide (bel_trans BW2.out hb)
      refine hK1.out _ _ ⟨hH.1.bel hb, hH.2.bel hb⟩ (fun hH => ?_)
      clear hK1 K1 hb
      refine wpAnyH_take (i := 16) (v := ?_) rfl (by kernel_rfl) (by kernel_rfl) (by kernel_rfl) (fun _ _ _ h => h) (Or.inl ⟨by rfl, ?_⟩) hH ?_
      rotate_left 1
      · (intro w hSw; obtain ⟨_, e0, e1, e2, e3, e4, e5, e6, e7, e8⟩ := hSw.1.all; obtain ⟨_, g0, g1, g2, g3, g4, g5, g6, g7, g8⟩ := hSw.2.all; clear hSw; go_simp <;> with_reducible rfl)
      simp only [Act.put, List.getElem_toArray, List.getElem_cons_zero, List.getElem_cons_succ, List.setIfInBounds_toArray, List.set_cons_zero, List.set_cons_succ]
      refine wpAnyH_take (i := 17) (v := ?_) rfl (by kernel_rfl) (by kernel_rfl) (by kernel_rfl) (fun _ _ _ h => h) (Or.inl ⟨by rfl, ?_⟩) hH ?_
      rotate_left 1
      · (intro w hSw; obtain ⟨_, e0, e1, e2, e3, e4, e5, e6, e7, e8⟩ := hSw.1.all; obtain ⟨_, g0, g1, g2, g3, g4, g5, g6, g7, g8⟩ := hSw.2.all; clear hSw; go_simp <;> with_reducible rfl)
      simp only [Act.put, List.getElem_toArray, List.getElem_cons_zero, List.getElem_cons_succ, List.setIfInBounds_toArray, List.set_cons_zero, List.set_cons_succ]
      refine wpAnyH_take (i := 18) (v := ?_) rfl (by kernel_rfl) (by kernel_rfl) (by kernel_rfl) (fun _ _ _ h => h) (Or.inl ⟨by rfl, ?_⟩) hH ?_
      rotate_left 1
      · (intro w hSw; obtain ⟨_, e0, e1, e2, e3, e4, e5, e6, e7, e8⟩ := hSw.1.all; obtain ⟨_, g0, g1, g2, g3, g4, g5, g6, g7, g8⟩ := hSw.2.all; clear hSw; go_simp <;> with_reducible rfl)
      simp only [Act.put, List.getElem_toArray, List.getElem_cons_zero, List.getElem_cons_succ, List.setIfInBounds_toArray, List.set_cons_zero, List.set_cons_succ]
      refine wpAnyH_take (i := 19) (v := ?_) rfl (by kernel_rfl) (by kernel_rfl) (by kernel_rfl) (fun _ _ _ h => h) (Or.inl ⟨by rfl, ?_⟩) hH ?_
      rotate_left 1
      · (intro w hSw; obtain ⟨_, e0, e1, e2, e3, e4, e5, e6, e7, e8⟩ := hSw.1.all; obtain ⟨_, g0, g1, g2, g3, g4, g5, g6, g7, g8⟩ := hSw.2.all; clear hSw; go_simp <;> with_reducible rfl)
      simp only [Act.put, List.getElem_toArray, List.getElem_cons_zero, List.getElem_cons_succ, List.setIfInBounds_toArray, List.set_cons_zero, List.set_cons_succ]
      refine wpAnyH_take (i := 21) (v := ?_) rfl (by kernel_rfl) (by kernel_rfl) (by kernel_rfl) (fun _ _ _ h => h) (Or.inl ⟨by rfl, ?_⟩) hH ?_
      rotate_left 1
      · (intro w hSw; obtain ⟨_, e0, e1, e2, e3, e4, e5, e6, e7, e8⟩ := hSw.1.all; obtain ⟨_, g0, g1, g2, g3, g4, g5, g6, g7, g8⟩ := hSw.2.all; clear hSw; go_simp <;> with_reducible rfl)
      simp only [Act.put, List.getElem_toArray, List.getElem_cons_zero, List.getElem_cons_succ, List.setIfInBounds_toArray, List.set_cons_zero, List.set_cons_succ]
      refine wpAnyH_ready (rs := [20]) (by kernel_rfl) (by decide) ?_
      refine AllReadyH.cons rfl (fun K1 hK1 => ?_) AllReadyH.nil
      go_simp
      refine (depth_any (show NodeR W3 (.mk kd ps nm t nz z ob bi ks) (.agg #[.int .i64 kd, .int .i64 ps, .string nm, .int .i64 t, .int .i64 nz, .int .i64 z, .int .i64 ob, .int .u64 bi, .slice oa len ck]) by unfold NodeR; exact ⟨_, rfl, KidsR.bel BW3.out _ _ K5.out⟩)).mono ?_
      rintro e W4 ⟨rfl, hb⟩
      have BW4 := hide (bel_trans BW3.out hb)
      refine hK1.out _ _ ⟨hH.1.bel hb, hH.2.bel hb⟩ (fun hH => ?_)
      clear hK1 K1 hb
      refine wpAnyH_ready (rs := [22]) (by kernel_rfl) (by decide) ?_
      refine AllReadyH.cons rfl (fun K1 hK1 => ?_) AllReadyH.nil
      go_simp
      refine (depth_any (show NodeR W4 (mvN (.mk kd ps nm t nz z ob bi ks)) (.agg #[.int .i64 kd, .int .i64 (ps + 1), .string nm, .int .i64 t, .int .i64 nz, .int .i64 z, .int .i64 ob, .int .u64 bi, .slice oa' len' ck']) by simp only [mvN]; unfold NodeR; exact ⟨_, rfl, KidsR.bel BW4.out _ _ J5.out⟩)).mono ?_
      rw [dep_mv]
      rintro e W5 ⟨rfl, hb⟩
      have BW5 := hide (bel_trans BW4.out hb)
      refine hK1.out _ _ ⟨hH.1.bel hb, hH.2.bel hb⟩ (fun hH => ?_)
      clear hK1 K1 hb
      refine wpAnyH_take (i := 23) (v := ?_) rfl (by kernel_rfl) (by kernel_rfl) (by kernel_rfl) (fun _ _ _ h => h) (Or.inl ⟨by rfl, ?_⟩) hH ?_
      rotate_left 1
      · (intro w hSw; obtain ⟨_, e0, e1, e2, e3, e4, e5, e6, e7, e8⟩ := hSw.1.all; obtain ⟨_, g0, g1, g2, g3, g4, g5, g6, g7, g8⟩ := hSw.2.all; clear hSw; go_simp <;> with_reducible rfl)
      simp only [Act.put, List.getElem_toArray, List.getElem_cons_zero, List.getElem_cons_succ, List.setIfInBounds_toArray, List.set_cons_zero, List.set_cons_succ]
      refine wpAnyH_take (i := 24) (v := ?_) rfl (by kernel_rfl) (by kernel_rfl) (by kernel_rfl) (fun _ _ _ h => h) (Or.inl ⟨by rfl, ?_⟩) hH ?_
      rotate_left 1
      · (intro w hSw; obtain ⟨_, e0, e1, e2, e3, e4, e5, e6, e7, e8⟩ := hSw.1.all; obtain ⟨_, g0, g1, g2, g3, g4, g5, g6, g7, g8⟩ := hSw.2.all; clear hSw; go_simp <;> with_reducible rfl)
      simp only [Act.put, List.getElem_toArray, List.getElem_cons_zero, List.getElem_cons_succ, List.setIfInBounds_toArray, List.set_cons_zero, List.set_cons_succ]
      refine wpAnyH_take (i := 25) (v := ?_) rfl (by kernel_rfl) (by kernel_rfl) (by kernel_rfl) (fun _ _ _ h => h) (Or.inl ⟨by rfl, ?_⟩) hH ?_
      rotate_left 1
      · (intro w hSw; obtain ⟨_, e0, e1, e2, e3, e4, e5, e6, e7, e8⟩ := hSw.1.all; obtain ⟨_, g0, g1, g2, g3, g4, g5, g6, g7, g8⟩ := hSw.2.all; clear hSw; go_simp <;> with_reducible rfl)
      simp only [Act.put, List.getElem_toArray, List.getElem_cons_zero, List.getElem_cons_succ, List.setIfInBounds_toArray, List.set_cons_zero, List.set_cons_succ]
      refine wpAnyH_done (by kernel_rfl) ?_ _
      go_wp2_with fail
      go_ret
      exact ⟨rfl, bel_trans B5.out BW5.out⟩

end Go.Proofs.YtodgkfniimgfcaaGreatDoor.Ck
