/- Texts of this proof, packed: contracts of the program's functions, and the plain model that they are held against. -/
import Derived.Test.YtogeblmppagabaaGreatDoorQba
import Derived.Test.YtogeblmppagabaaGreatDoorQbd
/- Statements of a name and a target. -/
namespace Go.Proofs.YtogeblmppagabaaGreatDoor.Ck
open Go.RowKit

set_option maxRecDepth 20000 in
set_option maxHeartbeats 1000000 in
theorem named1_target {w : World} {p : List Addr} {g gT : Nat} {L : List Tk} {i l : Nat} (h : Ps w p g gT L i l) (hE : Ends L) (hi : i + 1 < L.length) (kd : Int) (b c : Nat) (hbg : b ≠ g) (hc : w.cell? ⟨b, 0, none⟩ = some (.func (.func 202) #[.pointer (some ⟨g, 0, none⟩)] #[])) (r : Out) (hr : Rule 202 p g gT L l (i + 1 + 1 + 1) r) :
    Calls Tryz.prog 103 #[.pointer (some ⟨g, 0, none⟩), .int .i64 kd, .slice (some ⟨b, 0, none⟩) 1 c] w fun e w' => PostN p g gT L l w e w' (named1O L kd i r) := by
  have HP := hide h
  have HE := hide hE
  have HI := hide hi
  have HC := hide hc
  have HR := hide hr
  have hb0 := hide (bel_new w nodZ)
  have hz0 := hide (nod_new w)
  have H0 := hide (h.below hb0.out)
  obtain ⟨out, ho⟩ : ∃ out, named1O L kd i r = out := ⟨_, rfl⟩
  rw [ho]
  have HW := hide ho
  clear h hE ho hi hc hr
  unfold nodZ at *
  go_enter Tryz.func103, Tryz.ntmps103
  go_wp2_with fail
  generalize w.alloc (.cells #[.int .i64 0, .int .i64 0, .string ⟨#[]⟩, .int .i64 0, .int .i64 0, .int .i64 0, .int .i64 0, .int .u64 0, .slice none 0 0] 27) = w0 at *
  refine (open_any H0.out (kd) HI.out).mono ?_
  rintro e w1 ⟨rfl, r1, r2⟩
  have S2 := hide (Sn.start HP.out hb0.out hz0.out r1 r2 (kd) (tkAt L i).pos ⟨#[]⟩ 0 0)
  clear r1 r2 hb0 hz0 H0
  go_wp2_with fail
  generalize w1.alloc (.cells #[.int .i64 (kd), .int .i64 (tkAt L i).pos, .string ⟨#[]⟩, .int .i64 0, .int .i64 0, .int .i64 0, .int .i64 0, .int .u64 0, .slice none 0 0] 27) = w2 at *
  generalize w1.heap.size = n at *
  refine (word_both S2.out.pr HE.out ).mono ?_
  rintro e w3 (⟨c3, rfl, r2⟩ | ⟨c3, rfl, r1, r2⟩)
  · have hw := HW.out
    simp only [named1O, if_neg c3] at hw
    subst hw
    exact ⟨rfl, rfl, S2.out.tn.trans r2⟩
  have C3 := hide c3
  have S3 := hide (S2.out.call r1 r2)
  clear c3 r1 r2 S2
  obtain ⟨⟨fr0, fr1, fr2, fr3, fr4, fr5, fr6, fr7, fr8⟩, ce0, ce1, ce2, ce3, ce4, ce5, ce6, ce7, ce8⟩ := S3.out.vr.all
  have S4 := hide (S3.out.setName (tx L (i + 1)))
  clear S3
  go_wp2_with fail
  clear fr0 fr1 fr2 fr3 fr4 fr5 fr6 fr7 fr8 ce0 ce1 ce2 ce3 ce4 ce5 ce6 ce7 ce8
  generalize w3.setCell ⟨n, 2, none⟩ (.string (tx L (i + 1))) = w4 at *
  have cr := S4.out.tn.cell hbg HC.out
  refine wp_loop_rounds 2 ?_
  rw [rounds_succ]
  go_wp2_with fail
  clear cr
  refine (take_both S4.out.pr HE.out bComma (by decide)).mono ?_
  rintro e w5 (⟨c5, rfl, r2⟩ | ⟨c5, rfl, r1, r2⟩)
  · have hw := HW.out
    simp only [named1O, if_pos C3.out, if_neg c5] at hw
    subst hw
    exact ⟨rfl, rfl, S4.out.tn.trans r2⟩
  have C5 := hide c5
  have S5 := hide (S4.out.call r1 r2)
  clear c5 r1 r2 S4
  go_wp2_with fail
  have RY : Hid (Row w5 (n + 1) [] (.slice none 0 0)) := Row.nil _ _
  refine wp_region_any mixed ?_
  change wpAny _ _ _ _ _ _ _ (World.drew _)
  have SW0 := hide S5.out.drew
  have RW0 := hide (RY.out.bel (bel_drawn (Below.refl _ _)))
  have hgn : g < n + 1 := by have := SW0.out.ng; have := SW0.out.nn; omega
  have hzn : w.heap.size < n := by have := SW0.out.ne; have := SW0.out.nn; omega
  clear S5 RY
  generalize World.drew w5 = W0 at *
  refine wpAny_take (i := 0) (v := ?_) rfl (by kernel_rfl) (by kernel_rfl) (by kernel_rfl) (fun _ _ _ h => h) (Or.inl ⟨by rfl, fun w => ?_⟩) ?_
  rotate_left 1
  · (go_simp <;> with_reducible rfl)
  simp only [Act.put, List.getElem_toArray, List.getElem_cons_zero, List.setIfInBounds_toArray, List.set_cons_zero, List.set_cons_succ]
  refine wpAny_take (i := 2) (v := ?_) rfl (by kernel_rfl) (by kernel_rfl) (by kernel_rfl) (fun _ _ _ h => h) (Or.inl ⟨by rfl, fun w => ?_⟩) ?_
  rotate_left 1
  · (go_simp <;> with_reducible rfl)
  simp only [Act.put, List.getElem_toArray, List.getElem_cons_zero, List.getElem_cons_succ, List.setIfInBounds_toArray, List.set_cons_zero, List.set_cons_succ]
  refine wpAny_ready (rs := [1, 3]) (by kernel_rfl) (by decide) ?_
  refine AllReady.cons rfl (fun K1 hK1 => ?_) (AllReady.cons rfl (fun K1 hK1 => ?_) AllReady.nil)
  · obtain ⟨_, _, _, _, _, _, _, _, _, yq⟩ := SW0.out.vr.all
    go_simp
    refine hK1 _ _ ?_
    clear hK1 K1 yq
    refine wpAny_ready (rs := [3]) (by kernel_rfl) (by decide) ?_
    refine AllReady.cons rfl (fun K1 hK1 => ?_) AllReady.nil
    go_simp
    refine (HR.out _ SW0.out.pr).mono ?_
    intro e W1 hp
    rcases hp.both with ⟨kb, jb, cq, rfl, r2⟩ | ⟨kd', ps', nm', t', nz', z', ob', bi', ks', a', len', ck', jq, cq, rfl, hk, r1, r2⟩
    · have hw := HW.out
      simp only [named1O, if_pos C3.out, if_pos C5.out, cq] at hw
      subst hw
      exact ⟨rfl, rfl, SW0.out.tn.trans r2⟩
    have CQ := hide cq
    have SW1 := hide (SW0.out.call r1 r2)
    have RW1 := hide (RW0.out.tn r2 hgn)
    have JW1 := hide hk
    have HC : Hid (∀ k, Value.ownBlock (.slice none 0 0) = some k → k < W0.heap.size) := fun k hk => (RW0.out.own k hk).2
    have HWs := hide r2.size
    have HN1 := hide (show n + 1 ≤ W0.heap.size from SW0.out.lt)
    clear cq hk r1 r2
    refine hK1 _ _ ?_
    clear hK1 K1
    refine wpAny_ready (rs := [4]) (by kernel_rfl) (by decide) ?_
    refine AllReady.cons rfl (fun K1 hK1 => ?_) AllReady.nil
    go_simp
    have hb := bel_new W1 (.cells #[.int .i64 kd', .int .i64 ps', .string nm', .int .i64 t', .int .i64 nz', .int .i64 z', .int .i64 ob', .int .u64 bi', .slice a' len' ck'] 27)
    have SW2 := hide (SW1.out.bel hb)
    have RW2 := hide (RW1.out.bel hb)
    have PU := hide (fun ty => Row.push (c := 1) RW2.out HN1.out HC.out (Nat.le_trans HWs.out hb.size) (by simp) (JW1.out.bel hb) (Go.Deep.blk_alloc_new W1 _) ty)
    clear hb JW1
    generalize W1.alloc (.cells #[.int .i64 kd', .int .i64 ps', .string nm', .int .i64 t', .int .i64 nz', .int .i64 z', .int .i64 ob', .int .u64 bi', .slice a' len' ck'] 27) = W2 at *
    generalize W1.heap.size = bx at *
    refine hK1 _ _ ?_
    clear hK1 K1
    refine wpAny_ready (rs := [5]) (by kernel_rfl) (by decide) ?_
    refine AllReady.cons rfl (fun K1 hK1 => ?_) AllReady.nil
    refine step_appN (.tmp 26) (.tmp 29) _ _ _ PU.out rfl rfl rfl rfl ?_
    rintro v7 w7 ⟨o7, t7⟩
    obtain ⟨a7, c7, e7⟩ := o7.len
    obtain ⟨m7, hm7⟩ : ∃ m7, m7 = ([] ++ [Nd.mk kd' ps' nm' t' nz' z' ob' bi' ks']).length := ⟨_, rfl⟩
    rw [← hm7] at e7
    subst e7
    obtain ⟨x8, f8, s8, r8⟩ := SW2.out.grown t7 hzn o7
    have S8 := hide s8
    have R8 := hide r8
    have M8 := hide hm7
    clear s8 r8 hm7 o7 t7 PU SW2 RW2
    refine hK1 _ _ ?_
    clear hK1 K1
    refine wpAny_take (i := 6) (v := ?_) rfl (by kernel_rfl) (by kernel_rfl) (by kernel_rfl) (fun _ _ _ h => h) (Or.inl ⟨by rfl, fun w => ?_⟩) ?_
    rotate_left 1
    · (go_simp <;> with_reducible rfl)
    simp only [Act.put, List.getElem_toArray, List.getElem_cons_zero, List.getElem_cons_succ, List.setIfInBounds_toArray, List.set_cons_zero, List.set_cons_succ]
    refine wpAny_ready (rs := [7]) (by kernel_rfl) (by decide) ?_
    refine AllReady.cons rfl (fun K1 hK1 => ?_) AllReady.nil
    go_simp
    refine hK1 _ _ ?_
    clear hK1 K1
    refine wpAny_done (by kernel_rfl) ?_ _
    clear x8 f8
    generalize w7.setCell ⟨n, 8, none⟩ (.slice a7 m7 c7) = w8 at *
    clear R8 M8
    go_wp2_with fail
    rw [rounds_succ]
    go_wp2_with fail
    refine (take_both S8.out.pr HE.out bSemi (by decide)).mono ?_
    rintro e w21 (⟨c21, rfl, r2⟩ | ⟨c21, rfl, r1, r2⟩)
    · have hw := HW.out
      simp only [named1O, if_pos C3.out, if_pos C5.out, CQ.out, endO, if_neg c21] at hw
      subst hw
      exact ⟨rfl, rfl, S8.out.tn.trans r2⟩
    have C21 := hide c21
    have S21 := hide (S8.out.call r1 r2)
    clear c21 r1 r2 S8
    obtain ⟨⟨fz0, fz1, fz2, fz3, fz4, fz5, fz6, fz7, fz8⟩, bz0, bz1, bz2, bz3, bz4, bz5, bz6, bz7, bz8⟩ := S21.out.zr.all
    obtain ⟨_, cg0, cg1, cg2, cg3, cg4, cg5, cg6, cg7, cg8⟩ := S21.out.vr.all
    obtain ⟨_, rfl, z9, v9, p9, t9⟩ := S21.out.done
    have Z9 := hide z9
    have D9 := hide (And.intro v9 (And.intro p9 t9))
    clear z9 v9 p9 t9 S21
    go_wp2_with fail
    refine ret_nod (w.heap.size) rfl rfl Z9.out rfl ?_
    have hw := HW.out
    simp only [named1O, if_pos C3.out, if_pos C5.out, CQ.out, endO, if_pos C21.out] at hw
    subst hw
    exact ⟨_, rfl, D9.out⟩
  · go_simp
    refine (HR.out _ SW0.out.pr).mono ?_
    intro e W1 hp
    rcases hp.both with ⟨kb, jb, cq, rfl, r2⟩ | ⟨kd', ps', nm', t', nz', z', ob', bi', ks', a', len', ck', jq, cq, rfl, hk, r1, r2⟩
    · have hw := HW.out
      simp only [named1O, if_pos C3.out, if_pos C5.out, cq] at hw
      subst hw
      exact ⟨rfl, rfl, SW0.out.tn.trans r2⟩
    have CQ := hide cq
    have SW1 := hide (SW0.out.call r1 r2)
    have RW1 := hide (RW0.out.tn r2 hgn)
    have JW1 := hide hk
    have HC : Hid (∀ k, Value.ownBlock (.slice none 0 0) = some k → k < W0.heap.size) := fun k hk => (RW0.out.own k hk).2
    have HWs := hide r2.size
    have HN1 := hide (show n + 1 ≤ W0.heap.size from SW0.out.lt)
    clear cq hk r1 r2
    refine hK1 _ _ ?_
    clear hK1 K1
    refine wpAny_ready (rs := [1, 4]) (by kernel_rfl) (by decide) ?_
    refine AllReady.cons rfl (fun K1 hK1 => ?_) (AllReady.cons rfl (fun K1 hK1 => ?_) AllReady.nil)
    · obtain ⟨_, _, _, _, _, _, _, _, _, yq⟩ := SW1.out.vr.all
      go_simp
      refine hK1 _ _ ?_
      clear hK1 K1 yq
      refine wpAny_ready (rs := [4]) (by kernel_rfl) (by decide) ?_
      refine AllReady.cons rfl (fun K1 hK1 => ?_) AllReady.nil
      go_simp
      have hb := bel_new W1 (.cells #[.int .i64 kd', .int .i64 ps', .string nm', .int .i64 t', .int .i64 nz', .int .i64 z', .int .i64 ob', .int .u64 bi', .slice a' len' ck'] 27)
      have SW2 := hide (SW1.out.bel hb)
      have RW2 := hide (RW1.out.bel hb)
      have PU := hide (fun ty => Row.push (c := 1) RW2.out HN1.out HC.out (Nat.le_trans HWs.out hb.size) (by simp) (JW1.out.bel hb) (Go.Deep.blk_alloc_new W1 _) ty)
      clear hb JW1
      generalize W1.alloc (.cells #[.int .i64 kd', .int .i64 ps', .string nm', .int .i64 t', .int .i64 nz', .int .i64 z', .int .i64 ob', .int .u64 bi', .slice a' len' ck'] 27) = W2 at *
      generalize W1.heap.size = bx at *
      refine hK1 _ _ ?_
      clear hK1 K1
      refine wpAny_ready (rs := [5]) (by kernel_rfl) (by decide) ?_
      refine AllReady.cons rfl (fun K1 hK1 => ?_) AllReady.nil
      refine step_appN (.tmp 26) (.tmp 29) _ _ _ PU.out rfl rfl rfl rfl ?_
      rintro v7 w7 ⟨o7, t7⟩
      obtain ⟨a7, c7, e7⟩ := o7.len
      obtain ⟨m7, hm7⟩ : ∃ m7, m7 = ([] ++ [Nd.mk kd' ps' nm' t' nz' z' ob' bi' ks']).length := ⟨_, rfl⟩
      rw [← hm7] at e7
      subst e7
      obtain ⟨x8, f8, s8, r8⟩ := SW2.out.grown t7 hzn o7
      have S8 := hide s8
      have R8 := hide r8
      have M8 := hide hm7
      clear s8 r8 hm7 o7 t7 PU SW2 RW2
      refine hK1 _ _ ?_
      clear hK1 K1
      refine wpAny_take (i := 6) (v := ?_) rfl (by kernel_rfl) (by kernel_rfl) (by kernel_rfl) (fun _ _ _ h => h) (Or.inl ⟨by rfl, fun w => ?_⟩) ?_
      rotate_left 1
      · (go_simp <;> with_reducible rfl)
      simp only [Act.put, List.getElem_toArray, List.getElem_cons_zero, List.getElem_cons_succ, List.setIfInBounds_toArray, List.set_cons_zero, List.set_cons_succ]
      refine wpAny_ready (rs := [7]) (by kernel_rfl) (by decide) ?_
      refine AllReady.cons rfl (fun K1 hK1 => ?_) AllReady.nil
      go_simp
      refine hK1 _ _ ?_
      clear hK1 K1
      refine wpAny_done (by kernel_rfl) ?_ _
      clear x8 f8
      generalize w7.setCell ⟨n, 8, none⟩ (.slice a7 m7 c7) = w8 at *
      clear R8 M8
      go_wp2_with fail
      rw [rounds_succ]
      go_wp2_with fail
      refine (take_both S8.out.pr HE.out bSemi (by decide)).mono ?_
      rintro e w21 (⟨c21, rfl, r2⟩ | ⟨c21, rfl, r1, r2⟩)
      · have hw := HW.out
        simp only [named1O, if_pos C3.out, if_pos C5.out, CQ.out, endO, if_neg c21] at hw
        subst hw
        exact ⟨rfl, rfl, S8.out.tn.trans r2⟩
      have C21 := hide c21
      have S21 := hide (S8.out.call r1 r2)
      clear c21 r1 r2 S8
      obtain ⟨⟨fz0, fz1, fz2, fz3, fz4, fz5, fz6, fz7, fz8⟩, bz0, bz1, bz2, bz3, bz4, bz5, bz6, bz7, bz8⟩ := S21.out.zr.all
      obtain ⟨_, cg0, cg1, cg2, cg3, cg4, cg5, cg6, cg7, cg8⟩ := S21.out.vr.all
      obtain ⟨_, rfl, z9, v9, p9, t9⟩ := S21.out.done
      have Z9 := hide z9
      have D9 := hide (And.intro v9 (And.intro p9 t9))
      clear z9 v9 p9 t9 S21
      go_wp2_with fail
      refine ret_nod (w.heap.size) rfl rfl Z9.out rfl ?_
      have hw := HW.out
      simp only [named1O, if_pos C3.out, if_pos C5.out, CQ.out, endO, if_pos C21.out] at hw
      subst hw
      exact ⟨_, rfl, D9.out⟩
    · go_simp
      have hb := bel_new W1 (.cells #[.int .i64 kd', .int .i64 ps', .string nm', .int .i64 t', .int .i64 nz', .int .i64 z', .int .i64 ob', .int .u64 bi', .slice a' len' ck'] 27)
      have SW2 := hide (SW1.out.bel hb)
      have RW2 := hide (RW1.out.bel hb)
      have PU := hide (fun ty => Row.push (c := 1) RW2.out HN1.out HC.out (Nat.le_trans HWs.out hb.size) (by simp) (JW1.out.bel hb) (Go.Deep.blk_alloc_new W1 _) ty)
      clear hb JW1
      generalize W1.alloc (.cells #[.int .i64 kd', .int .i64 ps', .string nm', .int .i64 t', .int .i64 nz', .int .i64 z', .int .i64 ob', .int .u64 bi', .slice a' len' ck'] 27) = W2 at *
      generalize W1.heap.size = bx at *
      refine hK1 _ _ ?_
      clear hK1 K1
      refine wpAny_ready (rs := [1]) (by kernel_rfl) (by decide) ?_
      refine AllReady.cons rfl (fun K1 hK1 => ?_) AllReady.nil
      obtain ⟨_, _, _, _, _, _, _, _, _, yq⟩ := SW2.out.vr.all
      go_simp
      refine hK1 _ _ ?_
      clear hK1 K1 yq
      refine wpAny_ready (rs := [5]) (by kernel_rfl) (by decide) ?_
      refine AllReady.cons rfl (fun K1 hK1 => ?_) AllReady.nil
      refine step_appN (.tmp 26) (.tmp 29) _ _ _ PU.out rfl rfl rfl rfl ?_
      rintro v7 w7 ⟨o7, t7⟩
      obtain ⟨a7, c7, e7⟩ := o7.len
      obtain ⟨m7, hm7⟩ : ∃ m7, m7 = ([] ++ [Nd.mk kd' ps' nm' t' nz' z' ob' bi' ks']).length := ⟨_, rfl⟩
      rw [← hm7] at e7
      subst e7
      obtain ⟨x8, f8, s8, r8⟩ := SW2.out.grown t7 hzn o7
      have S8 := hide s8
      have R8 := hide r8
      have M8 := hide hm7
      clear s8 r8 hm7 o7 t7 PU SW2 RW2
      refine hK1 _ _ ?_
      clear hK1 K1
      refine wpAny_take (i := 6) (v := ?_) rfl (by kernel_rfl) (by kernel_rfl) (by kernel_rfl) (fun _ _ _ h => h) (Or.inl ⟨by rfl, fun w => ?_⟩) ?_
      rotate_left 1
      · (go_simp <;> with_reducible rfl)
      simp only [Act.put, List.getElem_toArray, List.getElem_cons_zero, List.getElem_cons_succ, List.setIfInBounds_toArray, List.set_cons_zero, List.set_cons_succ]
      refine wpAny_ready (rs := [7]) (by kernel_rfl) (by decide) ?_
      refine AllReady.cons rfl (fun K1 hK1 => ?_) AllReady.nil
      go_simp
      refine hK1 _ _ ?_
      clear hK1 K1
      refine wpAny_done (by kernel_rfl) ?_ _
      clear x8 f8
      generalize w7.setCell ⟨n, 8, none⟩ (.slice a7 m7 c7) = w8 at *
      clear R8 M8
      go_wp2_with fail
      rw [rounds_succ]
      go_wp2_with fail
      refine (take_both S8.out.pr HE.out bSemi (by decide)).mono ?_
      rintro e w21 (⟨c21, rfl, r2⟩ | ⟨c21, rfl, r1, r2⟩)
      · have hw := HW.out
        simp only [named1O, if_pos C3.out, if_pos C5.out, CQ.out, endO, if_neg c21] at hw
        subst hw
        exact ⟨rfl, rfl, S8.out.tn.trans r2⟩
      have C21 := hide c21
      have S21 := hide (S8.out.call r1 r2)
      clear c21 r1 r2 S8
      obtain ⟨⟨fz0, fz1, fz2, fz3, fz4, fz5, fz6, fz7, fz8⟩, bz0, bz1, bz2, bz3, bz4, bz5, bz6, bz7, bz8⟩ := S21.out.zr.all
      obtain ⟨_, cg0, cg1, cg2, cg3, cg4, cg5, cg6, cg7, cg8⟩ := S21.out.vr.all
      obtain ⟨_, rfl, z9, v9, p9, t9⟩ := S21.out.done
      have Z9 := hide z9
      have D9 := hide (And.intro v9 (And.intro p9 t9))
      clear z9 v9 p9 t9 S21
      go_wp2_with fail
      refine ret_nod (w.heap.size) rfl rfl Z9.out rfl ?_
      have hw := HW.out
      simp only [named1O, if_pos C3.out, if_pos C5.out, CQ.out, endO, if_pos C21.out] at hw
      subst hw
      exact ⟨_, rfl, D9.out⟩

end Go.Proofs.YtogeblmppagabaaGreatDoor.Ck

/- Return and fail. -/
namespace Go.Proofs.YtogeblmppagabaaGreatDoor.Ck
open Go.RowKit

set_option maxRecDepth 20000 in
set_option maxHeartbeats 1000000 in
theorem leaves0_any {w : World} {p : List Addr} {g gT : Nat} {L : List Tk} {i l : Nat} (h : Ps w p g gT L i l) (hE : Ends L) (hi : i + 1 < L.length) :
    Calls Tryz.prog 205 #[.pointer (some ⟨g, 0, none⟩), .int .i64 23, .slice none 0 0] w fun e w' => PostN p g gT L l w e w' (leave0O L i) := by
  have HP := hide h
  have HE := hide hE
  have HI := hide hi
  have hb0 := hide (bel_new w nodZ)
  have hz0 := hide (nod_new w)
  have H0 := hide (h.below hb0.out)
  obtain ⟨out, ho⟩ : ∃ out, leave0O L i = out := ⟨_, rfl⟩
  rw [ho]
  have HW := hide ho
  clear h hE ho hi
  unfold nodZ at *
  go_enter Tryz.func205, Tryz.ntmps205
  go_wp2_with fail
  generalize w.alloc (.cells #[.int .i64 0, .int .i64 0, .string ⟨#[]⟩, .int .i64 0, .int .i64 0, .int .i64 0, .int .i64 0, .int .u64 0, .slice none 0 0] 27) = w0 at *
  refine (open_any H0.out (23) HI.out).mono ?_
  rintro e w1 ⟨rfl, r1, r2⟩
  have S2 := hide (Sn.start HP.out hb0.out hz0.out r1 r2 (23) (tkAt L i).pos ⟨#[]⟩ 0 0)
  clear r1 r2 hb0 hz0 H0
  go_wp2_with fail
  generalize w1.alloc (.cells #[.int .i64 (23), .int .i64 (tkAt L i).pos, .string ⟨#[]⟩, .int .i64 0, .int .i64 0, .int .i64 0, .int .i64 0, .int .u64 0, .slice none 0 0] 27) = w2 at *
  generalize w1.heap.size = n at *
  have hz := S2.out.ltz
  have hn := S2.out.lt
  refine (all0_any _ _).mono ?_
  rintro e w3 ⟨rfl, rfl⟩
  obtain ⟨⟨fr0, fr1, fr2, fr3, fr4, fr5, fr6, fr7, fr8⟩, ce0, ce1, ce2, ce3, ce4, ce5, ce6, ce7, ce8⟩ := S2.out.vr.all
  have S4 := hide (S2.out.setKids hz hn (C := w3.heap.size) (ks' := []) (by unfold KidsV; rfl))
  clear S2
  go_wp2_with fail
  clear fr0 fr1 fr2 fr3 fr4 fr5 fr6 fr7 fr8 ce0 ce1 ce2 ce3 ce4 ce5 ce6 ce7 ce8
  have e4 : (w3.setCell ⟨n, 8, none⟩ (.slice none 0 0)).heap.size = w3.heap.size := by simp
  generalize w3.setCell ⟨n, 8, none⟩ (.slice none 0 0) = w4 at *
  rw [← e4]
  clear e4
  refine (take_both S4.out.pr HE.out bSemi (by decide)).mono ?_
  rintro e w5 (⟨c5, rfl, r2⟩ | ⟨c5, rfl, r1, r2⟩)
  · have hw := HW.out
    simp only [leave0O, endO, if_neg c5] at hw
    subst hw
    exact ⟨rfl, rfl, S4.out.tn.trans r2⟩
  have C5 := hide c5
  have S5 := hide (S4.out.call r1 r2)
  clear c5 r1 r2 S4
  obtain ⟨⟨fz0, fz1, fz2, fz3, fz4, fz5, fz6, fz7, fz8⟩, bz0, bz1, bz2, bz3, bz4, bz5, bz6, bz7, bz8⟩ := S5.out.zr.all
  obtain ⟨_, cg0, cg1, cg2, cg3, cg4, cg5, cg6, cg7, cg8⟩ := S5.out.vr.all
  obtain ⟨_, rfl, z9, v9, p9, t9⟩ := S5.out.done
  have Z9 := hide z9
  have D9 := hide (And.intro v9 (And.intro p9 t9))
  clear z9 v9 p9 t9 S5
  go_wp2_with fail
  refine ret_nod (w.heap.size) rfl rfl Z9.out rfl ?_
  have hw := HW.out
  simp only [leave0O, endO, if_pos C5.out] at hw
  subst hw
  exact ⟨_, rfl, D9.out⟩

set_option maxRecDepth 20000 in
set_option maxHeartbeats 1000000 in
theorem leaves1_any {w : World} {p : List Addr} {g gT : Nat} {L : List Tk} {i l : Nat} (h : Ps w p g gT L i l) (hE : Ends L) (hi : i + 1 < L.length) (b c : Nat) (hbg : b ≠ g) (hc : w.cell? ⟨b, 0, none⟩ = some (.func (.func 27) #[.pointer (some ⟨g, 0, none⟩)] #[])) (r : Out) (hr : Rule 27 p g gT L l (i + 1) r) :
    Calls Tryz.prog 205 #[.pointer (some ⟨g, 0, none⟩), .int .i64 24, .slice (some ⟨b, 0, none⟩) 1 c] w fun e w' => PostN p g gT L l w e w' (leave1O L i r) := by
  have HP := hide h
  have HE := hide hE
  have HI := hide hi
  have HC := hide hc
  have HR := hide hr
  have hb0 := hide (bel_new w nodZ)
  have hz0 := hide (nod_new w)
  have H0 := hide (h.below hb0.out)
  obtain ⟨out, ho⟩ : ∃ out, leave1O L i r = out := ⟨_, rfl⟩
  rw [ho]
  have HW := hide ho
  clear h hE ho hi hc hr
  unfold nodZ at *
  go_enter Tryz.func205, Tryz.ntmps205
  go_wp2_with fail
  generalize w.alloc (.cells #[.int .i64 0, .int .i64 0, .string ⟨#[]⟩, .int .i64 0, .int .i64 0, .int .i64 0, .int .i64 0, .int .u64 0, .slice none 0 0] 27) = w0 at *
  refine (open_any H0.out (24) HI.out).mono ?_
  rintro e w1 ⟨rfl, r1, r2⟩
  have S2 := hide (Sn.start HP.out hb0.out hz0.out r1 r2 (24) (tkAt L i).pos ⟨#[]⟩ 0 0)
  clear r1 r2 hb0 hz0 H0
  go_wp2_with fail
  generalize w1.alloc (.cells #[.int .i64 (24), .int .i64 (tkAt L i).pos, .string ⟨#[]⟩, .int .i64 0, .int .i64 0, .int .i64 0, .int .i64 0, .int .u64 0, .slice none 0 0] 27) = w2 at *
  generalize w1.heap.size = n at *
  have hz := S2.out.ltz
  have hn := S2.out.lt
  refine (all_treeparserexpr S2.out.pr b c r HR.out (S2.out.tn.cell hbg HC.out)).mono ?_
  intro e w3 hp
  rcases hp.both with ⟨kb, jb, c3, rfl, r2⟩ | ⟨nd1, gk, ck, j3, c3, rfl, hk, r1, r2⟩
  · have hw := HW.out
    simp only [leave1O, c3] at hw
    subst hw
    exact ⟨rfl, rfl, S2.out.tn.trans r2⟩
  have K3 := hide hk
  have C3 := hide c3
  have S3 := hide (S2.out.call r1 r2)
  clear c3 r1 r2 hk S2
  have hc3 := C3.out
  subst hc3
  obtain ⟨⟨fr0, fr1, fr2, fr3, fr4, fr5, fr6, fr7, fr8⟩, ce0, ce1, ce2, ce3, ce4, ce5, ce6, ce7, ce8⟩ := S3.out.vr.all
  have S4 := hide (S3.out.setKids hz hn K3.out)
  clear S3
  go_wp2_with fail
  clear fr0 fr1 fr2 fr3 fr4 fr5 fr6 fr7 fr8 ce0 ce1 ce2 ce3 ce4 ce5 ce6 ce7 ce8
  have e4 : (w3.setCell ⟨n, 8, none⟩ (.slice (some ⟨gk, 0, none⟩) 1 ck)).heap.size = w3.heap.size := by simp
  generalize w3.setCell ⟨n, 8, none⟩ (.slice (some ⟨gk, 0, none⟩) 1 ck) = w4 at *
  rw [← e4]
  clear e4
  refine (take_both S4.out.pr HE.out bSemi (by decide)).mono ?_
  rintro e w5 (⟨c5, rfl, r2⟩ | ⟨c5, rfl, r1, r2⟩)
  · have hw := HW.out
    simp only [leave1O, endO, if_neg c5] at hw
    subst hw
    exact ⟨rfl, rfl, S4.out.tn.trans r2⟩
  have C5 := hide c5
  have S5 := hide (S4.out.call r1 r2)
  clear c5 r1 r2 S4
  obtain ⟨⟨fz0, fz1, fz2, fz3, fz4, fz5, fz6, fz7, fz8⟩, bz0, bz1, bz2, bz3, bz4, bz5, bz6, bz7, bz8⟩ := S5.out.zr.all
  obtain ⟨_, cg0, cg1, cg2, cg3, cg4, cg5, cg6, cg7, cg8⟩ := S5.out.vr.all
  obtain ⟨_, rfl, z9, v9, p9, t9⟩ := S5.out.done
  have Z9 := hide z9
  have D9 := hide (And.intro v9 (And.intro p9 t9))
  clear z9 v9 p9 t9 S5
  go_wp2_with fail
  refine ret_nod (w.heap.size) rfl rfl Z9.out rfl ?_
  have hw := HW.out
  simp only [leave1O, endO, if_pos C5.out] at hw
  subst hw
  exact ⟨_, rfl, D9.out⟩

end Go.Proofs.YtogeblmppagabaaGreatDoor.Ck
