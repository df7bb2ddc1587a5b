/- Texts of this proof, packed: contracts of the program's functions, and the plain model that they are held against. -/
import Derived.Test.YtogeblmppagabaaGreatDoorQbb
/- Functions. -/
namespace Go.Proofs.YtogeblmppagabaaGreatDoor.Ck
open Go.RowKit

theorem typedO_gt {L : List Tk} {i : Nat} {t : Int} {j : Nat} (h : typedO L i = .ok t j) : i < j := by
  unfold typedO at h
  split at h
  · cases h; omega
  split at h
  · cases h; omega
  split at h
  · cases h; omega
  · cases h
theorem paramO_gt {L : List Tk} {i : Nat} {n : Nd} {j : Nat} (h : paramO L i = .ok n j) : i < j := by
  unfold paramO at h
  split at h
  · cases hq : typedO L (i + 1) with
    | bad k a => rw [hq] at h; cases h
    | ok t a =>
      rw [hq] at h
      have := typedO_gt hq
      cases h
      omega
  · cases h
theorem listF_ge {rule : Nat → Out} {L : List Tk} (hgt : ∀ j m j', rule j = .ok m j' → j < j') : ∀ (f j : Nat) (ns ms : List Nd) (j' : Nat), listF rule L f j ns = .ok ms j' → ns.length ≤ j → j ≤ j' ∧ ms.length ≤ j'
  | 0, _, _, _, _, h, _ => by unfold listF at h; cases h
  | f + 1, j, ns, ms, j', h, hl => by
    unfold listF at h
    split at h
    · cases hq : rule (j + 1) with
      | bad k a => rw [hq] at h; cases h
      | ok m a =>
        rw [hq] at h
        have h1 := hgt _ _ _ hq
        have h2 := listF_ge hgt f a _ ms j' h (by rw [List.length_append, List.length_singleton]; omega)
        omega
    · cases h
      exact ⟨Nat.le_refl _, hl⟩
theorem listO_ge {rule : Nat → Out} {L : List Tk} {i : Nat} {ns : List Nd} {j : Nat} (hgt : ∀ j m j', rule j = .ok m j' → j < j') (h : listO rule L i = .ok ns j) : i ≤ j ∧ ns.length ≤ j := by
  unfold listO at h
  cases hq : rule i with
  | bad k a => rw [hq] at h; cases h
  | ok m a =>
    rw [hq] at h
    have h1 := hgt _ _ _ hq
    have h2 := listF_ge hgt _ _ _ _ _ h (by rw [List.length_singleton]; omega)
    omega

set_option maxRecDepth 20000 in
set_option maxHeartbeats 1000000 in
theorem function_any {w : World} {p : List Addr} {g gT : Nat} {L : List Tk} {i l : Nat} (h : Ps w p g gT L i l) (hE : Ends L) (bl : Nat → Out) (hbl : ∀ j, i ≤ j → Rule 138 p g gT L l j (bl j)) :
    Calls Tryz.prog 105 #[.pointer (some ⟨g, 0, none⟩)] w fun e w' => PostN p g gT L l w e w' (functionO L i bl) := by
  have HP := hide h
  have HE := hide hE
  have HB := hide hbl
  have hb0 := hide (bel_new w nodZ)
  have hz0 := hide (nod_new w)
  have H0 := hide (h.below hb0.out)
  obtain ⟨tk, htk⟩ : ∃ tk, tkAt L i = tk := ⟨_, rfl⟩
  have HK := hide htk
  clear htk
  obtain ⟨kind, text, nn, bits_, pos⟩ := tk
  have hf4 := tf4 (.int .i64 kind) (.string text) (.int .i64 nn) (.int .u64 bits_) (.int .i64 pos)
  have hL := h.len
  obtain ⟨out, ho⟩ : ∃ out, functionO L i bl = out := ⟨_, rfl⟩
  rw [ho]
  have HW := hide ho
  clear h hE ho hbl
  unfold nodZ at *
  go_enter Tryz.func105, Tryz.ntmps105
  go_wp2_with fail
  generalize w.alloc (.cells #[.int .i64 0, .int .i64 0, .string ⟨#[]⟩, .int .i64 0, .int .i64 0, .int .i64 0, .int .i64 0, .int .u64 0, .slice none 0 0] 27) = w0 at *
  refine (here_any H0.out).mono ?_
  rintro e w1 ⟨he, hb1⟩
  rw [HK.out] at he
  dsimp only [Tk.val] at he
  subst he
  have S2 := hide (Sn.start HP.out hb0.out hz0.out (H0.out.below hb1) (Tn.of_bel hb1) 7 pos ⟨#[]⟩ 0 0)
  clear hb1 hb0 hz0 H0
  go_wp2_with fail
  have e2 : (w1.alloc (.cells #[.int .i64 7, .int .i64 pos, .string ⟨#[]⟩, .int .i64 0, .int .i64 0, .int .i64 0, .int .i64 0, .int .u64 0, .slice none 0 0] 27)).heap.size = w1.heap.size + 1 := by simp
  generalize w1.alloc (.cells #[.int .i64 7, .int .i64 pos, .string ⟨#[]⟩, .int .i64 0, .int .i64 0, .int .i64 0, .int .i64 0, .int .u64 0, .slice none 0 0] 27) = w2 at *
  generalize w1.heap.size = n at *
  rw [← e2]
  clear e2
  clear hf4
  refine (take_both S2.out.pr HE.out bFunc (by decide)).mono ?_
  rintro e w3 (⟨c3, rfl, r2⟩ | ⟨c3, rfl, r1, r2⟩)
  · have hw := HW.out
    simp only [functionO, if_neg c3] at hw
    subst hw
    exact ⟨rfl, rfl, S2.out.tn.trans r2⟩
  have C3 := hide c3
  have S3 := hide (S2.out.call r1 r2)
  clear c3 r1 r2 S2
  go_wp2_with fail
  refine (word_both S3.out.pr HE.out ).mono ?_
  rintro e w4 (⟨c4, rfl, r2⟩ | ⟨c4, rfl, r1, r2⟩)
  · have hw := HW.out
    simp only [functionO, if_pos C3.out, if_neg c4] at hw
    subst hw
    exact ⟨rfl, rfl, S3.out.tn.trans r2⟩
  have C4 := hide c4
  have S4 := hide (S3.out.call r1 r2)
  clear c4 r1 r2 S3
  obtain ⟨⟨fr0, fr1, fr2, fr3, fr4, fr5, fr6, fr7, fr8⟩, ce0, ce1, ce2, ce3, ce4, ce5, ce6, ce7, ce8⟩ := S4.out.vr.all
  have S5 := hide (S4.out.setName (tx L (i + 1)))
  clear S4
  go_wp2_with fail
  clear fr0 fr1 fr2 fr3 fr4 fr5 fr6 fr7 fr8 ce0 ce1 ce2 ce3 ce4 ce5 ce6 ce7 ce8
  have e5 : (w4.setCell ⟨n, 2, none⟩ (.string (tx L (i + 1)))).heap.size = w4.heap.size := by simp
  generalize w4.setCell ⟨n, 2, none⟩ (.string (tx L (i + 1))) = w5 at *
  rw [← e5]
  clear e5
  refine (take_both S5.out.pr HE.out bOpen (by decide)).mono ?_
  rintro e w6 (⟨c6, rfl, r2⟩ | ⟨c6, rfl, r1, r2⟩)
  · have hw := HW.out
    simp only [functionO, if_pos C3.out, if_pos C4.out, if_neg c6] at hw
    subst hw
    exact ⟨rfl, rfl, S5.out.tn.trans r2⟩
  have C6 := hide c6
  have S6 := hide (S5.out.call r1 r2)
  clear c6 r1 r2 S5
  go_wp2_with fail
  refine (sees_both S6.out.pr bShut).mono ?_
  rintro e w7 (⟨c7, rfl, hb⟩ | ⟨c7, rfl, hb⟩)
  · have C7 := hide c7
    have S7 := hide (S6.out.bel hb)
    clear c7 hb S6
    go_wp2_with fail
    refine (take_both S7.out.pr HE.out bShut (by decide)).mono ?_
    rintro e w8 (⟨c8, rfl, r2⟩ | ⟨c8, rfl, r1, r2⟩)
    · exact absurd C7.out c8
    have C8 := hide c8
    have S8 := hide (S7.out.call r1 r2)
    clear c8 r1 r2 S7
    clear C8
    obtain ⟨⟨fr0, fr1, fr2, fr3, fr4, fr5, fr6, fr7, fr8⟩, ce0, ce1, ce2, ce3, ce4, ce5, ce6, ce7, ce8⟩ := S8.out.vr.all
    have S9 := hide (S8.out.setN (0))
    clear S8
    go_wp2_with fail
    clear fr0 fr1 fr2 fr3 fr4 fr5 fr6 fr7 fr8 ce0 ce1 ce2 ce3 ce4 ce5 ce6 ce7 ce8
    generalize w8.setCell ⟨n, 4, none⟩ (.int .i64 (0)) = w9 at *
    have RY : Hid (Row w9 (n + 1) [] (.slice none 0 0)) := Row.nil _ _
    refine wp_region_any mixed ?_
    change wpAny _ _ _ _ _ _ _ (World.drew _)
    have SW0 := hide S9.out.drew
    have RW0 := hide (RY.out.bel (bel_drawn (Below.refl _ _)))
    have hgn : g < n + 1 := by have := SW0.out.ng; have := SW0.out.nn; omega
    have hzn : w.heap.size < n := by have := SW0.out.ne; have := SW0.out.nn; omega
    clear S9 RY
    generalize World.drew w9 = W0 at *
    refine wpAny_take (i := 0) (v := ?_) rfl (by kernel_rfl) (by kernel_rfl) (by kernel_rfl) (fun _ _ _ h => h) (Or.inl ⟨by rfl, fun w => ?_⟩) ?_
    rotate_left 1
    · (go_simp <;> with_reducible rfl)
    simp only [Act.put, List.getElem_toArray, List.getElem_cons_zero, List.setIfInBounds_toArray, List.set_cons_zero, List.set_cons_succ]
    refine wpAny_take (i := 2) (v := ?_) rfl (by kernel_rfl) (by kernel_rfl) (by kernel_rfl) (fun _ _ _ h => h) (Or.inl ⟨by rfl, fun w => ?_⟩) ?_
    rotate_left 1
    · (go_simp <;> with_reducible rfl)
    simp only [Act.put, List.getElem_toArray, List.getElem_cons_zero, List.getElem_cons_succ, List.setIfInBounds_toArray, List.set_cons_zero, List.set_cons_succ]
    refine wpAny_ready (rs := [1, 3]) (by kernel_rfl) (by decide) ?_
    refine AllReady.cons rfl (fun K1 hK1 => ?_) (AllReady.cons rfl (fun K1 hK1 => ?_) AllReady.nil)
    · obtain ⟨_, _, _, _, _, _, _, _, _, yq⟩ := SW0.out.vr.all
      go_simp
      refine hK1 _ _ ?_
      clear hK1 K1 yq
      refine wpAny_ready (rs := [3]) (by kernel_rfl) (by decide) ?_
      refine AllReady.cons rfl (fun K1 hK1 => ?_) AllReady.nil
      go_simp
      refine (HB.out (i + 1 + 1 + 1 + 1) (by omega) _ SW0.out.pr).mono ?_
      intro e W1 hp
      rcases hp.both with ⟨kb, jb, cq, rfl, r2⟩ | ⟨kd', ps', nm', t', nz', z', ob', bi', ks', a', len', ck', jq, cq, rfl, hk, r1, r2⟩
      · have hw := HW.out
        simp only [functionO, if_pos C3.out, if_pos C4.out, if_pos C6.out, if_pos C7.out, cq] at hw
        subst hw
        exact ⟨rfl, rfl, SW0.out.tn.trans r2⟩
      have CQ := hide cq
      have SW1 := hide (SW0.out.call r1 r2)
      have RW1 := hide (RW0.out.tn r2 hgn)
      have JW1 := hide hk
      have HC : Hid (∀ k, Value.ownBlock (.slice none 0 0) = some k → k < W0.heap.size) := fun k hk => (RW0.out.own k hk).2
      have HWs := hide r2.size
      have HN1 := hide (show n + 1 ≤ W0.heap.size from SW0.out.lt)
      clear cq hk r1 r2
      refine hK1 _ _ ?_
      clear hK1 K1
      refine wpAny_ready (rs := [4]) (by kernel_rfl) (by decide) ?_
      refine AllReady.cons rfl (fun K1 hK1 => ?_) AllReady.nil
      go_simp
      have hb := bel_new W1 (.cells #[.int .i64 kd', .int .i64 ps', .string nm', .int .i64 t', .int .i64 nz', .int .i64 z', .int .i64 ob', .int .u64 bi', .slice a' len' ck'] 27)
      have SW2 := hide (SW1.out.bel hb)
      have RW2 := hide (RW1.out.bel hb)
      have PU := hide (fun ty => Row.push (c := 1) RW2.out HN1.out HC.out (Nat.le_trans HWs.out hb.size) (by simp) (JW1.out.bel hb) (Go.Deep.blk_alloc_new W1 _) ty)
      clear hb JW1
      generalize W1.alloc (.cells #[.int .i64 kd', .int .i64 ps', .string nm', .int .i64 t', .int .i64 nz', .int .i64 z', .int .i64 ob', .int .u64 bi', .slice a' len' ck'] 27) = W2 at *
      generalize W1.heap.size = bx at *
      refine hK1 _ _ ?_
      clear hK1 K1
      refine wpAny_ready (rs := [5]) (by kernel_rfl) (by decide) ?_
      refine AllReady.cons rfl (fun K1 hK1 => ?_) AllReady.nil
      refine step_appN (.tmp 34) (.tmp 37) _ _ _ PU.out rfl rfl rfl rfl ?_
      rintro v7 w7 ⟨o7, t7⟩
      obtain ⟨a7, c7, e7⟩ := o7.len
      obtain ⟨m7, hm7⟩ : ∃ m7, m7 = ([] ++ [Nd.mk kd' ps' nm' t' nz' z' ob' bi' ks']).length := ⟨_, rfl⟩
      rw [← hm7] at e7
      subst e7
      obtain ⟨x8, f8, s8, r8⟩ := SW2.out.grown t7 hzn o7
      have S8 := hide s8
      have R8 := hide r8
      have M8 := hide hm7
      clear s8 r8 hm7 o7 t7 PU SW2 RW2
      refine hK1 _ _ ?_
      clear hK1 K1
      refine wpAny_take (i := 6) (v := ?_) rfl (by kernel_rfl) (by kernel_rfl) (by kernel_rfl) (fun _ _ _ h => h) (Or.inl ⟨by rfl, fun w => ?_⟩) ?_
      rotate_left 1
      · (go_simp <;> with_reducible rfl)
      simp only [Act.put, List.getElem_toArray, List.getElem_cons_zero, List.getElem_cons_succ, List.setIfInBounds_toArray, List.set_cons_zero, List.set_cons_succ]
      refine wpAny_ready (rs := [7]) (by kernel_rfl) (by decide) ?_
      refine AllReady.cons rfl (fun K1 hK1 => ?_) AllReady.nil
      go_simp
      refine hK1 _ _ ?_
      clear hK1 K1
      refine wpAny_done (by kernel_rfl) ?_ _
      clear x8 f8
      generalize w7.setCell ⟨n, 8, none⟩ (.slice a7 m7 c7) = w8 at *
      clear R8 M8
      obtain ⟨⟨fz0, fz1, fz2, fz3, fz4, fz5, fz6, fz7, fz8⟩, bz0, bz1, bz2, bz3, bz4, bz5, bz6, bz7, bz8⟩ := S8.out.zr.all
      obtain ⟨_, cg0, cg1, cg2, cg3, cg4, cg5, cg6, cg7, cg8⟩ := S8.out.vr.all
      obtain ⟨_, rfl, z9, v9, p9, t9⟩ := S8.out.done
      have Z9 := hide z9
      have D9 := hide (And.intro v9 (And.intro p9 t9))
      clear z9 v9 p9 t9 S8
      go_wp2_with fail
      refine ret_nod (w.heap.size) rfl rfl Z9.out rfl ?_
      have hw := HW.out
      simp only [functionO, if_pos C3.out, if_pos C4.out, if_pos C6.out, if_pos C7.out, CQ.out] at hw
      subst hw
      rw [HK.out]
      exact ⟨_, rfl, D9.out⟩
    · go_simp
      refine (HB.out (i + 1 + 1 + 1 + 1) (by omega) _ SW0.out.pr).mono ?_
      intro e W1 hp
      rcases hp.both with ⟨kb, jb, cq, rfl, r2⟩ | ⟨kd', ps', nm', t', nz', z', ob', bi', ks', a', len', ck', jq, cq, rfl, hk, r1, r2⟩
      · have hw := HW.out
        simp only [functionO, if_pos C3.out, if_pos C4.out, if_pos C6.out, if_pos C7.out, cq] at hw
        subst hw
        exact ⟨rfl, rfl, SW0.out.tn.trans r2⟩
      have CQ := hide cq
      have SW1 := hide (SW0.out.call r1 r2)
      have RW1 := hide (RW0.out.tn r2 hgn)
      have JW1 := hide hk
      have HC : Hid (∀ k, Value.ownBlock (.slice none 0 0) = some k → k < W0.heap.size) := fun k hk => (RW0.out.own k hk).2
      have HWs := hide r2.size
      have HN1 := hide (show n + 1 ≤ W0.heap.size from SW0.out.lt)
      clear cq hk r1 r2
      refine hK1 _ _ ?_
      clear hK1 K1
      refine wpAny_ready (rs := [1, 4]) (by kernel_rfl) (by decide) ?_
      refine AllReady.cons rfl (fun K1 hK1 => ?_) (AllReady.cons rfl (fun K1 hK1 => ?_) AllReady.nil)
      · obtain ⟨_, _, _, _, _, _, _, _, _, yq⟩ := SW1.out.vr.all
        go_simp
        refine hK1 _ _ ?_
        clear hK1 K1 yq
        refine wpAny_ready (rs := [4]) (by kernel_rfl) (by decide) ?_
        refine AllReady.cons rfl (fun K1 hK1 => ?_) AllReady.nil
        go_simp
        have hb := bel_new W1 (.cells #[.int .i64 kd', .int .i64 ps', .string nm', .int .i64 t', .int .i64 nz', .int .i64 z', .int .i64 ob', .int .u64 bi', .slice a' len' ck'] 27)
        have SW2 := hide (SW1.out.bel hb)
        have RW2 := hide (RW1.out.bel hb)
        have PU := hide (fun ty => Row.push (c := 1) RW2.out HN1.out HC.out (Nat.le_trans HWs.out hb.size) (by simp) (JW1.out.bel hb) (Go.Deep.blk_alloc_new W1 _) ty)
        clear hb JW1
        generalize W1.alloc (.cells #[.int .i64 kd', .int .i64 ps', .string nm', .int .i64 t', .int .i64 nz', .int .i64 z', .int .i64 ob', .int .u64 bi', .slice a' len' ck'] 27) = W2 at *
        generalize W1.heap.size = bx at *
        refine hK1 _ _ ?_
        clear hK1 K1
        refine wpAny_ready (rs := [5]) (by kernel_rfl) (by decide) ?_
        refine AllReady.cons rfl (fun K1 hK1 => ?_) AllReady.nil
        refine step_appN (.tmp 34) (.tmp 37) _ _ _ PU.out rfl rfl rfl rfl ?_
        rintro v7 w7 ⟨o7, t7⟩
        obtain ⟨a7, c7, e7⟩ := o7.len
        obtain ⟨m7, hm7⟩ : ∃ m7, m7 = ([] ++ [Nd.mk kd' ps' nm' t' nz' z' ob' bi' ks']).length := ⟨_, rfl⟩
        rw [← hm7] at e7
        subst e7
        obtain ⟨x8, f8, s8, r8⟩ := SW2.out.grown t7 hzn o7
        have S8 := hide s8
        have R8 := hide r8
        have M8 := hide hm7
        clear s8 r8 hm7 o7 t7 PU SW2 RW2
        refine hK1 _ _ ?_
        clear hK1 K1
        refine wpAny_take (i := 6) (v := ?_) rfl (by kernel_rfl) (by kernel_rfl) (by kernel_rfl) (fun _ _ _ h => h) (Or.inl ⟨by rfl, fun w => ?_⟩) ?_
        rotate_left 1
        · (go_simp <;> with_reducible rfl)
        simp only [Act.put, List.getElem_toArray, List.getElem_cons_zero, List.getElem_cons_succ, List.setIfInBounds_toArray, List.set_cons_zero, List.set_cons_succ]
        refine wpAny_ready (rs := [7]) (by kernel_rfl) (by decide) ?_
        refine AllReady.cons rfl (fun K1 hK1 => ?_) AllReady.nil
        go_simp
        refine hK1 _ _ ?_
        clear hK1 K1
        refine wpAny_done (by kernel_rfl) ?_ _
        clear x8 f8
        generalize w7.setCell ⟨n, 8, none⟩ (.slice a7 m7 c7) = w8 at *
        clear R8 M8
        obtain ⟨⟨fz0, fz1, fz2, fz3, fz4, fz5, fz6, fz7, fz8⟩, bz0, bz1, bz2, bz3, bz4, bz5, bz6, bz7, bz8⟩ := S8.out.zr.all
        obtain ⟨_, cg0, cg1, cg2, cg3, cg4, cg5, cg6, cg7, cg8⟩ := S8.out.vr.all
        obtain ⟨_, rfl, z9, v9, p9, t9⟩ := S8.out.done
        have Z9 := hide z9
        have D9 := hide (And.intro v9 (And.intro p9 t9))
        clear z9 v9 p9 t9 S8
        go_wp2_with fail
        refine ret_nod (w.heap.size) rfl rfl Z9.out rfl ?_
        have hw := HW.out
        simp only [functionO, if_pos C3.out, if_pos C4.out, if_pos C6.out, if_pos C7.out, CQ.out] at hw
        subst hw
        rw [HK.out]
        exact ⟨_, rfl, D9.out⟩
      · go_simp
        have hb := bel_new W1 (.cells #[.int .i64 kd', .int .i64 ps', .string nm', .int .i64 t', .int .i64 nz', .int .i64 z', .int .i64 ob', .int .u64 bi', .slice a' len' ck'] 27)
        have SW2 := hide (SW1.out.bel hb)
        have RW2 := hide (RW1.out.bel hb)
        have PU := hide (fun ty => Row.push (c := 1) RW2.out HN1.out HC.out (Nat.le_trans HWs.out hb.size) (by simp) (JW1.out.bel hb) (Go.Deep.blk_alloc_new W1 _) ty)
        clear hb JW1
        generalize W1.alloc (.cells #[.int .i64 kd', .int .i64 ps', .string nm', .int .i64 t', .int .i64 nz', .int .i64 z', .int .i64 ob', .int .u64 bi', .slice a' len' ck'] 27) = W2 at *
        generalize W1.heap.size = bx at *
        refine hK1 _ _ ?_
        clear hK1 K1
        refine wpAny_ready (rs := [1]) (by kernel_rfl) (by decide) ?_
        refine AllReady.cons rfl (fun K1 hK1 => ?_) AllReady.nil
        obtain ⟨_, _, _, _, _, _, _, _, _, yq⟩ := SW2.out.vr.all
        go_simp
        refine hK1 _ _ ?_
        clear hK1 K1 yq
        refine wpAny_ready (rs := [5]) (by kernel_rfl) (by decide) ?_
        refine AllReady.cons rfl (fun K1 hK1 => ?_) AllReady.nil
        refine step_appN (.tmp 34) (.tmp 37) _ _ _ PU.out rfl rfl rfl rfl ?_
        rintro v7 w7 ⟨o7, t7⟩
        obtain ⟨a7, c7, e7⟩ := o7.len
        obtain ⟨m7, hm7⟩ : ∃ m7, m7 = ([] ++ [Nd.mk kd' ps' nm' t' nz' z' ob' bi' ks']).length := ⟨_, rfl⟩
        rw [← hm7] at e7
        subst e7
        obtain ⟨x8, f8, s8, r8⟩ := SW2.out.grown t7 hzn o7
        have S8 := hide s8
        have R8 := hide r8
        have M8 := hide hm7
        clear s8 r8 hm7 o7 t7 PU SW2 RW2
        refine hK1 _ _ ?_
        clear hK1 K1
        refine wpAny_take (i := 6) (v := ?_) rfl (by kernel_rfl) (by kernel_rfl) (by kernel_rfl) (fun _ _ _ h => h) (Or.inl ⟨by rfl, fun w => ?_⟩) ?_
        rotate_left 1
        · (go_simp <;> with_reducible rfl)
        simp only [Act.put, List.getElem_toArray, List.getElem_cons_zero, List.getElem_cons_succ, List.setIfInBounds_toArray, List.set_cons_zero, List.set_cons_succ]
        refine wpAny_ready (rs := [7]) (by kernel_rfl) (by decide) ?_
        refine AllReady.cons rfl (fun K1 hK1 => ?_) AllReady.nil
        go_simp
        refine hK1 _ _ ?_
        clear hK1 K1
        refine wpAny_done (by kernel_rfl) ?_ _
        clear x8 f8
        generalize w7.setCell ⟨n, 8, none⟩ (.slice a7 m7 c7) = w8 at *
        clear R8 M8
        obtain ⟨⟨fz0, fz1, fz2, fz3, fz4, fz5, fz6, fz7, fz8⟩, bz0, bz1, bz2, bz3, bz4, bz5, bz6, bz7, bz8⟩ := S8.out.zr.all
        obtain ⟨_, cg0, cg1, cg2, cg3, cg4, cg5, cg6, cg7, cg8⟩ := S8.out.vr.all
        obtain ⟨_, rfl, z9, v9, p9, t9⟩ := S8.out.done
        have Z9 := hide z9
        have D9 := hide (And.intro v9 (And.intro p9 t9))
        clear z9 v9 p9 t9 S8
        go_wp2_with fail
        refine ret_nod (w.heap.size) rfl rfl Z9.out rfl ?_
        have hw := HW.out
        simp only [functionO, if_pos C3.out, if_pos C4.out, if_pos C6.out, if_pos C7.out, CQ.out] at hw
        subst hw
        rw [HK.out]
        exact ⟨_, rfl, D9.out⟩
  · have C7 := hide c7
    have S7 := hide (S6.out.bel hb)
    clear c7 hb S6
    go_wp2_with fail
    have hz8 := S7.out.ltz
    have hn8 := S7.out.lt
    refine (list_param S7.out.pr HE.out (paramO L) (fun j m j' hh => Nat.le_of_lt (paramO_gt hh)) (fun j _ w' hw' => param_any hw' HE.out)).mono ?_
    intro e w8 hp
    rcases hp.both with ⟨kb, jb, c8, rfl, r2⟩ | ⟨ns, a, m, ck, j8, hm, c8, rfl, hrow, r1, r2⟩
    · have hw := HW.out
      simp only [functionO, if_pos C3.out, if_pos C4.out, if_pos C6.out, if_neg C7.out, c8] at hw
      subst hw
      exact ⟨rfl, rfl, S7.out.tn.trans r2⟩
    have HJ : Hid (i ≤ j8 ∧ ns.length ≤ 5000) := ⟨by have := (listO_ge (fun j m j' hh => paramO_gt hh) c8).1; omega, by have := (listO_ge (fun j m j' hh => paramO_gt hh) c8).2; have := r1.lt; omega⟩
    have R8 := hide hrow
    have M8 := hide hm
    have C8 := hide c8
    have S8 := hide (S7.out.call r1 r2)
    clear c8 r1 r2 hrow hm S7
    have hgn : g < n + 1 := by have := S8.out.ng; have := S8.out.nn; omega
    have RR := hide ((R8.out.base (show n + 1 ≤ w7.heap.size from hn8)).tn (set1 S8.out.vr 8 (.slice a m ck)).2 (Nat.lt_succ_self n))
    obtain ⟨⟨fr0, fr1, fr2, fr3, fr4, fr5, fr6, fr7, fr8⟩, ce0, ce1, ce2, ce3, ce4, ce5, ce6, ce7, ce8⟩ := S8.out.vr.all
    have S9 := hide (S8.out.setKids hz8 hn8 R8.out.kids)
    clear S8
    go_wp2_with fail
    clear fr0 fr1 fr2 fr3 fr4 fr5 fr6 fr7 fr8 ce0 ce1 ce2 ce3 ce4 ce5 ce6 ce7 ce8
    have e9 : (w8.setCell ⟨n, 8, none⟩ (.slice a m ck)).heap.size = w8.heap.size := by simp
    generalize w8.setCell ⟨n, 8, none⟩ (.slice a m ck) = w9 at *
    rw [← e9]
    clear e9
    refine (take_both S9.out.pr HE.out bShut (by decide)).mono ?_
    rintro e w10 (⟨c10, rfl, r2⟩ | ⟨c10, rfl, r1, r2⟩)
    · have hw := HW.out
      simp only [functionO, if_pos C3.out, if_pos C4.out, if_pos C6.out, if_neg C7.out, C8.out, if_neg c10] at hw
      subst hw
      exact ⟨rfl, rfl, S9.out.tn.trans r2⟩
    have RR := hide (RR.out.tn r2 hgn)
    have C10 := hide c10
    have S10 := hide (S9.out.call r1 r2)
    clear c10 r1 r2 S9
    have RR := hide (RR.out.tn (set1 S10.out.vr 4 (.int .i64 (m : Int))).2 (Nat.lt_succ_self n))
    obtain ⟨⟨fr0, fr1, fr2, fr3, fr4, fr5, fr6, fr7, fr8⟩, ce0, ce1, ce2, ce3, ce4, ce5, ce6, ce7, ce8⟩ := S10.out.vr.all
    have S11 := hide (S10.out.setN ((m : Int)))
    clear S10
    go_wp2_with fail
    clear fr0 fr1 fr2 fr3 fr4 fr5 fr6 fr7 fr8 ce0 ce1 ce2 ce3 ce4 ce5 ce6 ce7 ce8
    generalize w10.setCell ⟨n, 4, none⟩ (.int .i64 ((m : Int))) = w11 at *
    refine wp_region_any mixed ?_
    change wpAny _ _ _ _ _ _ _ (World.drew _)
    have SW0 := hide S11.out.drew
    have RW0 := hide (RR.out.bel (bel_drawn (Below.refl _ _)))
    have hgn : g < n + 1 := by have := SW0.out.ng; have := SW0.out.nn; omega
    have hzn : w.heap.size < n := by have := SW0.out.ne; have := SW0.out.nn; omega
    clear S11 RR
    generalize World.drew w11 = W0 at *
    refine wpAny_take (i := 0) (v := ?_) rfl (by kernel_rfl) (by kernel_rfl) (by kernel_rfl) (fun _ _ _ h => h) (Or.inl ⟨by rfl, fun w => ?_⟩) ?_
    rotate_left 1
    · (go_simp <;> with_reducible rfl)
    simp only [Act.put, List.getElem_toArray, List.getElem_cons_zero, List.setIfInBounds_toArray, List.set_cons_zero, List.set_cons_succ]
    refine wpAny_take (i := 2) (v := ?_) rfl (by kernel_rfl) (by kernel_rfl) (by kernel_rfl) (fun _ _ _ h => h) (Or.inl ⟨by rfl, fun w => ?_⟩) ?_
    rotate_left 1
    · (go_simp <;> with_reducible rfl)
    simp only [Act.put, List.getElem_toArray, List.getElem_cons_zero, List.getElem_cons_succ, List.setIfInBounds_toArray, List.set_cons_zero, List.set_cons_succ]
    refine wpAny_ready (rs := [1, 3]) (by kernel_rfl) (by decide) ?_
    refine AllReady.cons rfl (fun K1 hK1 => ?_) (AllReady.cons rfl (fun K1 hK1 => ?_) AllReady.nil)
    · obtain ⟨_, _, _, _, _, _, _, _, _, yq⟩ := SW0.out.vr.all
      go_simp
      refine hK1 _ _ ?_
      clear hK1 K1 yq
      refine wpAny_ready (rs := [3]) (by kernel_rfl) (by decide) ?_
      refine AllReady.cons rfl (fun K1 hK1 => ?_) AllReady.nil
      go_simp
      refine (HB.out (j8 + 1) (by have := HJ.out.1; omega) _ SW0.out.pr).mono ?_
      intro e W1 hp
      rcases hp.both with ⟨kb, jb, cq, rfl, r2⟩ | ⟨kd', ps', nm', t', nz', z', ob', bi', ks', a', len', ck', jq, cq, rfl, hk, r1, r2⟩
      · have hw := HW.out
        simp only [functionO, if_pos C3.out, if_pos C4.out, if_pos C6.out, if_neg C7.out, C8.out, if_pos C10.out, cq] at hw
        subst hw
        exact ⟨rfl, rfl, SW0.out.tn.trans r2⟩
      have CQ := hide cq
      have SW1 := hide (SW0.out.call r1 r2)
      have RW1 := hide (RW0.out.tn r2 hgn)
      have JW1 := hide hk
      have HC : Hid (∀ k, Value.ownBlock (.slice a m ck) = some k → k < W0.heap.size) := fun k hk => (RW0.out.own k hk).2
      have HWs := hide r2.size
      have HN1 := hide (show n + 1 ≤ W0.heap.size from SW0.out.lt)
      clear cq hk r1 r2
      refine hK1 _ _ ?_
      clear hK1 K1
      refine wpAny_ready (rs := [4]) (by kernel_rfl) (by decide) ?_
      refine AllReady.cons rfl (fun K1 hK1 => ?_) AllReady.nil
      go_simp
      have hb := bel_new W1 (.cells #[.int .i64 kd', .int .i64 ps', .string nm', .int .i64 t', .int .i64 nz', .int .i64 z', .int .i64 ob', .int .u64 bi', .slice a' len' ck'] 27)
      have SW2 := hide (SW1.out.bel hb)
      have RW2 := hide (RW1.out.bel hb)
      have PU := hide (fun ty => Row.push (c := 1) RW2.out HN1.out HC.out (Nat.le_trans HWs.out hb.size) HJ.out.2 (JW1.out.bel hb) (Go.Deep.blk_alloc_new W1 _) ty)
      clear hb JW1
      generalize W1.alloc (.cells #[.int .i64 kd', .int .i64 ps', .string nm', .int .i64 t', .int .i64 nz', .int .i64 z', .int .i64 ob', .int .u64 bi', .slice a' len' ck'] 27) = W2 at *
      generalize W1.heap.size = bx at *
      refine hK1 _ _ ?_
      clear hK1 K1
      refine wpAny_ready (rs := [5]) (by kernel_rfl) (by decide) ?_
      refine AllReady.cons rfl (fun K1 hK1 => ?_) AllReady.nil
      refine step_appN (.tmp 34) (.tmp 37) _ _ _ PU.out rfl rfl rfl rfl ?_
      rintro v7 w7 ⟨o7, t7⟩
      obtain ⟨a7, c7, e7⟩ := o7.len
      obtain ⟨m7, hm7⟩ : ∃ m7, m7 = (ns ++ [Nd.mk kd' ps' nm' t' nz' z' ob' bi' ks']).length := ⟨_, rfl⟩
      rw [← hm7] at e7
      subst e7
      obtain ⟨x8, f8, s8, r8⟩ := SW2.out.grown t7 hzn o7
      have S8 := hide s8
      have R8 := hide r8
      have M8 := hide hm7
      clear s8 r8 hm7 o7 t7 PU SW2 RW2
      refine hK1 _ _ ?_
      clear hK1 K1
      refine wpAny_take (i := 6) (v := ?_) rfl (by kernel_rfl) (by kernel_rfl) (by kernel_rfl) (fun _ _ _ h => h) (Or.inl ⟨by rfl, fun w => ?_⟩) ?_
      rotate_left 1
      · (go_simp <;> with_reducible rfl)
      simp only [Act.put, List.getElem_toArray, List.getElem_cons_zero, List.getElem_cons_succ, List.setIfInBounds_toArray, List.set_cons_zero, List.set_cons_succ]
      refine wpAny_ready (rs := [7]) (by kernel_rfl) (by decide) ?_
      refine AllReady.cons rfl (fun K1 hK1 => ?_) AllReady.nil
      go_simp
      refine hK1 _ _ ?_
      clear hK1 K1
      refine wpAny_done (by kernel_rfl) ?_ _
      clear x8 f8
      generalize w7.setCell ⟨n, 8, none⟩ (.slice a7 m7 c7) = w8 at *
      clear R8 M8
      obtain ⟨⟨fz0, fz1, fz2, fz3, fz4, fz5, fz6, fz7, fz8⟩, bz0, bz1, bz2, bz3, bz4, bz5, bz6, bz7, bz8⟩ := S8.out.zr.all
      obtain ⟨_, cg0, cg1, cg2, cg3, cg4, cg5, cg6, cg7, cg8⟩ := S8.out.vr.all
      obtain ⟨_, rfl, z9, v9, p9, t9⟩ := S8.out.done
      have Z9 := hide z9
      have D9 := hide (And.intro v9 (And.intro p9 t9))
      clear z9 v9 p9 t9 S8
      go_wp2_with fail
      refine ret_nod (w.heap.size) rfl rfl Z9.out rfl ?_
      have hw := HW.out
      simp only [functionO, if_pos C3.out, if_pos C4.out, if_pos C6.out, if_neg C7.out, C8.out, if_pos C10.out, CQ.out] at hw
      subst hw
      rw [HK.out]
      rw [← M8.out]
      exact ⟨_, rfl, D9.out⟩
    · go_simp
      refine (HB.out (j8 + 1) (by have := HJ.out.1; omega) _ SW0.out.pr).mono ?_
      intro e W1 hp
      rcases hp.both with ⟨kb, jb, cq, rfl, r2⟩ | ⟨kd', ps', nm', t', nz', z', ob', bi', ks', a', len', ck', jq, cq, rfl, hk, r1, r2⟩
      · have hw := HW.out
        simp only [functionO, if_pos C3.out, if_pos C4.out, if_pos C6.out, if_neg C7.out, C8.out, if_pos C10.out, cq] at hw
        subst hw
        exact ⟨rfl, rfl, SW0.out.tn.trans r2⟩
      have CQ := hide cq
      have SW1 := hide (SW0.out.call r1 r2)
      have RW1 := hide (RW0.out.tn r2 hgn)
      have JW1 := hide hk
      have HC : Hid (∀ k, Value.ownBlock (.slice a m ck) = some k → k < W0.heap.size) := fun k hk => (RW0.out.own k hk).2
      have HWs := hide r2.size
      have HN1 := hide (show n + 1 ≤ W0.heap.size from SW0.out.lt)
      clear cq hk r1 r2
      refine hK1 _ _ ?_
      clear hK1 K1
      refine wpAny_ready (rs := [1, 4]) (by kernel_rfl) (by decide) ?_
      refine AllReady.cons rfl (fun K1 hK1 => ?_) (AllReady.cons rfl (fun K1 hK1 => ?_) AllReady.nil)
      · obtain ⟨_, _, _, _, _, _, _, _, _, yq⟩ := SW1.out.vr.all
        go_simp
        refine hK1 _ _ ?_
        clear hK1 K1 yq
        refine wpAny_ready (rs := [4]) (by kernel_rfl) (by decide) ?_
        refine AllReady.cons rfl (fun K1 hK1 => ?_) AllReady.nil
        go_simp
        have hb := bel_new W1 (.cells #[.int .i64 kd', .int .i64 ps', .string nm', .int .i64 t', .int .i64 nz', .int .i64 z', .int .i64 ob', .int .u64 bi', .slice a' len' ck'] 27)
        have SW2 := hide (SW1.out.bel hb)
        have RW2 := hide (RW1.out.bel hb)
        have PU := hide (fun ty => Row.push (c := 1) RW2.out HN1.out HC.out (Nat.le_trans HWs.out hb.size) HJ.out.2 (JW1.out.bel hb) (Go.Deep.blk_alloc_new W1 _) ty)
        clear hb JW1
        generalize W1.alloc (.cells #[.int .i64 kd', .int .i64 ps', .string nm', .int .i64 t', .int .i64 nz', .int .i64 z', .int .i64 ob', .int .u64 bi', .slice a' len' ck'] 27) = W2 at *
        generalize W1.heap.size = bx at *
        refine hK1 _ _ ?_
        clear hK1 K1
        refine wpAny_ready (rs := [5]) (by kernel_rfl) (by decide) ?_
        refine AllReady.cons rfl (fun K1 hK1 => ?_) AllReady.nil
        refine step_appN (.tmp 34) (.tmp 37) _ _ _ PU.out rfl rfl rfl rfl ?_
        rintro v7 w7 ⟨o7, t7⟩
        obtain ⟨a7, c7, e7⟩ := o7.len
        obtain ⟨m7, hm7⟩ : ∃ m7, m7 = (ns ++ [Nd.mk kd' ps' nm' t' nz' z' ob' bi' ks']).length := ⟨_, rfl⟩
        rw [← hm7] at e7
        subst e7
        obtain ⟨x8, f8, s8, r8⟩ := SW2.out.grown t7 hzn o7
        have S8 := hide s8
        have R8 := hide r8
        have M8 := hide hm7
        clear s8 r8 hm7 o7 t7 PU SW2 RW2
        refine hK1 _ _ ?_
        clear hK1 K1
        refine wpAny_take (i := 6) (v := ?_) rfl (by kernel_rfl) (by kernel_rfl) (by kernel_rfl) (fun _ _ _ h => h) (Or.inl ⟨by rfl, fun w => ?_⟩) ?_
        rotate_left 1
        · (go_simp <;> with_reducible rfl)
        simp only [Act.put, List.getElem_toArray, List.getElem_cons_zero, List.getElem_cons_succ, List.setIfInBounds_toArray, List.set_cons_zero, List.set_cons_succ]
        refine wpAny_ready (rs := [7]) (by kernel_rfl) (by decide) ?_
        refine AllReady.cons rfl (fun K1 hK1 => ?_) AllReady.nil
        go_simp
        refine hK1 _ _ ?_
        clear hK1 K1
        refine wpAny_done (by kernel_rfl) ?_ _
        clear x8 f8
        generalize w7.setCell ⟨n, 8, none⟩ (.slice a7 m7 c7) = w8 at *
        clear R8 M8
        obtain ⟨⟨fz0, fz1, fz2, fz3, fz4, fz5, fz6, fz7, fz8⟩, bz0, bz1, bz2, bz3, bz4, bz5, bz6, bz7, bz8⟩ := S8.out.zr.all
        obtain ⟨_, cg0, cg1, cg2, cg3, cg4, cg5, cg6, cg7, cg8⟩ := S8.out.vr.all
        obtain ⟨_, rfl, z9, v9, p9, t9⟩ := S8.out.done
        have Z9 := hide z9
        have D9 := hide (And.intro v9 (And.intro p9 t9))
        clear z9 v9 p9 t9 S8
        go_wp2_with fail
        refine ret_nod (w.heap.size) rfl rfl Z9.out rfl ?_
        have hw := HW.out
        simp only [functionO, if_pos C3.out, if_pos C4.out, if_pos C6.out, if_neg C7.out, C8.out, if_pos C10.out, CQ.out] at hw
        subst hw
        rw [HK.out]
        rw [← M8.out]
        exact ⟨_, rfl, D9.out⟩
      · go_simp
        have hb := bel_new W1 (.cells #[.int .i64 kd', .int .i64 ps', .string nm', .int .i64 t', .int .i64 nz', .int .i64 z', .int .i64 ob', .int .u64 bi', .slice a' len' ck'] 27)
        have SW2 := hide (SW1.out.bel hb)
        have RW2 := hide (RW1.out.bel hb)
        have PU := hide (fun ty => Row.push (c := 1) RW2.out HN1.out HC.out (Nat.le_trans HWs.out hb.size) HJ.out.2 (JW1.out.bel hb) (Go.Deep.blk_alloc_new W1 _) ty)
        clear hb JW1
        generalize W1.alloc (.cells #[.int .i64 kd', .int .i64 ps', .string nm', .int .i64 t', .int .i64 nz', .int .i64 z', .int .i64 ob', .int .u64 bi', .slice a' len' ck'] 27) = W2 at *
        generalize W1.heap.size = bx at *
        refine hK1 _ _ ?_
        clear hK1 K1
        refine wpAny_ready (rs := [1]) (by kernel_rfl) (by decide) ?_
        refine AllReady.cons rfl (fun K1 hK1 => ?_) AllReady.nil
        obtain ⟨_, _, _, _, _, _, _, _, _, yq⟩ := SW2.out.vr.all
        go_simp
        refine hK1 _ _ ?_
        clear hK1 K1 yq
        refine wpAny_ready (rs := [5]) (by kernel_rfl) (by decide) ?_
        refine AllReady.cons rfl (fun K1 hK1 => ?_) AllReady.nil
        refine step_appN (.tmp 34) (.tmp 37) _ _ _ PU.out rfl rfl rfl rfl ?_
        rintro v7 w7 ⟨o7, t7⟩
        obtain ⟨a7, c7, e7⟩ := o7.len
        obtain ⟨m7, hm7⟩ : ∃ m7, m7 = (ns ++ [Nd.mk kd' ps' nm' t' nz' z' ob' bi' ks']).length := ⟨_, rfl⟩
        rw [← hm7] at e7
        subst e7
        obtain ⟨x8, f8, s8, r8⟩ := SW2.out.grown t7 hzn o7
        have S8 := hide s8
        have R8 := hide r8
        have M8 := hide hm7
        clear s8 r8 hm7 o7 t7 PU SW2 RW2
        refine hK1 _ _ ?_
        clear hK1 K1
        refine wpAny_take (i := 6) (v := ?_) rfl (by kernel_rfl) (by kernel_rfl) (by kernel_rfl) (fun _ _ _ h => h) (Or.inl ⟨by rfl, fun w => ?_⟩) ?_
        rotate_left 1
        · (go_simp <;> with_reducible rfl)
        simp only [Act.put, List.getElem_toArray, List.getElem_cons_zero, List.getElem_cons_succ, List.setIfInBounds_toArray, List.set_cons_zero, List.set_cons_succ]
        refine wpAny_ready (rs := [7]) (by kernel_rfl) (by decide) ?_
        refine AllReady.cons rfl (fun K1 hK1 => ?_) AllReady.nil
        go_simp
        refine hK1 _ _ ?_
        clear hK1 K1
        refine wpAny_done (by kernel_rfl) ?_ _
        clear x8 f8
        generalize w7.setCell ⟨n, 8, none⟩ (.slice a7 m7 c7) = w8 at *
        clear R8 M8
        obtain ⟨⟨fz0, fz1, fz2, fz3, fz4, fz5, fz6, fz7, fz8⟩, bz0, bz1, bz2, bz3, bz4, bz5, bz6, bz7, bz8⟩ := S8.out.zr.all
        obtain ⟨_, cg0, cg1, cg2, cg3, cg4, cg5, cg6, cg7, cg8⟩ := S8.out.vr.all
        obtain ⟨_, rfl, z9, v9, p9, t9⟩ := S8.out.done
        have Z9 := hide z9
        have D9 := hide (And.intro v9 (And.intro p9 t9))
        clear z9 v9 p9 t9 S8
        go_wp2_with fail
        refine ret_nod (w.heap.size) rfl rfl Z9.out rfl ?_
        have hw := HW.out
        simp only [functionO, if_pos C3.out, if_pos C4.out, if_pos C6.out, if_neg C7.out, C8.out, if_pos C10.out, CQ.out] at hw
        subst hw
        rw [HK.out]
        rw [← M8.out]
        exact ⟨_, rfl, D9.out⟩

end Go.Proofs.YtogeblmppagabaaGreatDoor.Ck
