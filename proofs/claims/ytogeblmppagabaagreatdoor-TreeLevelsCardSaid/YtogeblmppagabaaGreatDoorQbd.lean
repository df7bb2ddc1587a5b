/- Texts of this proof, packed: contracts of the program's functions, and the plain model that they are held against. -/
import Derived.Test.YtogeblmppagabaaGreatDoorQba
/- Rules one behind the other. -/
namespace Go.Proofs.YtogeblmppagabaaGreatDoor.Ck
open Go.RowKit

set_option maxRecDepth 20000 in
theorem all0_any (w : World) (g : Nat) :
    Calls Tryz.prog 194 #[.pointer (some ⟨g, 0, none⟩), .slice none 0 0] w fun e w' => e = .returned (.slice none 0 0) ∧ w' = w := by
  go_enter Tryz.func194, Tryz.ntmps194
  go_wp2_with fail
  refine wp_loop_rounds 1 ?_
  rw [rounds_succ]
  go_wp2_with fail
  go_ret
  exact ⟨rfl, rfl⟩

set_option maxRecDepth 20000 in
set_option maxHeartbeats 1000000 in
theorem all2_any {w : World} {p : List Addr} {g gT : Nat} {L : List Tk} {i l : Nat} (h : Ps w p g gT L i l) (ex bl : Nat → Out) (he : Rule 27 p g gT L l i (ex i)) (hbl : ∀ n j, ex i = .ok n j → Rule 138 p g gT L l j (bl j)) :
    Calls Tryz.prog 194 #[.pointer (some ⟨g, 0, none⟩), .slice (some ⟨w.heap.size, 0, none⟩) 2 2] (w.alloc (.cells #[.func (.func 27) #[.pointer (some ⟨g, 0, none⟩)] #[], .func (.func 138) #[.pointer (some ⟨g, 0, none⟩)] #[]] 50)) fun e w' => PostR p g gT L l w e w' (all2O ex bl i) := by
  have hb0 := bel_new w (.cells #[.func (.func 27) #[.pointer (some ⟨g, 0, none⟩)] #[], .func (.func 138) #[.pointer (some ⟨g, 0, none⟩)] #[]] 50)
  have hgl := h.lt_g
  have hT := h.row.lt
  have HP := hide (h.below hb0)
  have T0 := hide (Tn.of_bel (g := g) hb0)
  have k0 : (w.alloc (.cells #[.func (.func 27) #[.pointer (some ⟨g, 0, none⟩)] #[], .func (.func 138) #[.pointer (some ⟨g, 0, none⟩)] #[]] 50)).heap[w.heap.size]? = some (.cells #[.func (.func 27) #[.pointer (some ⟨g, 0, none⟩)] #[], .func (.func 138) #[.pointer (some ⟨g, 0, none⟩)] #[]] 50 (0, 0)) := Go.Deep.blk_alloc_new _ _
  have c0 := blk_cell k0 0 _ rfl
  have K0 := hide (blk_cell k0 1 _ rfl)
  have hs0 : (w.alloc (.cells #[.func (.func 27) #[.pointer (some ⟨g, 0, none⟩)] #[], .func (.func 138) #[.pointer (some ⟨g, 0, none⟩)] #[]] 50)).heap.size = w.heap.size + 1 := by simp
  have HR := hide he
  have HB := hide hbl
  obtain ⟨out, ho⟩ : ∃ out, all2O ex bl i = out := ⟨_, rfl⟩
  rw [ho]
  have HW := hide ho
  clear h he hbl ho hb0 k0
  generalize w.alloc (.cells #[.func (.func 27) #[.pointer (some ⟨g, 0, none⟩)] #[], .func (.func 138) #[.pointer (some ⟨g, 0, none⟩)] #[]] 50) = w0 at *
  obtain ⟨b0, hb0⟩ : ∃ b0, b0 = w.heap.size := ⟨_, rfl⟩
  rw [← hb0] at c0 K0 hs0 hgl hT ⊢
  have HB0 := hide hb0
  have HS0 := hide hs0
  clear hb0 hs0
  go_enter Tryz.func194, Tryz.ntmps194
  go_wp2_with fail
  refine wp_loop_rounds 3 ?_
  rw [rounds_succ]
  go_wp2_with fail
  refine (HR.out _ HP.out).mono ?_
  intro e w4 hp
  rcases hp.both with ⟨kb, jb, c1, rfl, r2⟩ | ⟨kd, ps, nm, t, nz, z, ob, bi, ks, a, len, ck, j, c1, rfl, hk, r1, r2⟩
  · have hw := HW.out
    simp only [all2O, c1] at hw
    subst hw
    exact ⟨rfl, rfl, T0.out.trans r2⟩
  have C1 := hide c1
  have hb6 := bel_new w4 (.cells #[.int .i64 kd, .int .i64 ps, .string nm, .int .i64 t, .int .i64 nz, .int .i64 z, .int .i64 ob, .int .u64 bi, .slice a len ck] 27)
  have PU := hide (fun ty => Row.push (B := b0 + 1) (c := 1) (Row.nil _ _) (Nat.le_of_eq HS0.out.symm) (fun k hk => by cases hk) (Nat.le_trans r2.size hb6.size) (by simp) (hk.bel hb6) (Go.Deep.blk_alloc_new w4 _) ty)
  have R6 := hide (And.intro (r1.below hb6) ((T0.out.trans r2).trans (Tn.of_bel hb6)))
  have K6 := hide (((Tn.trans r2 (Tn.of_bel hb6))).cell (show b0 ≠ g by omega) K0.out)
  clear hk hb6 r1 r2 c1 c0 HR K0
  go_wp2_with (first | (at_builtin; refine wpList_appN (.tmp 14) (.tmp 17) _ _ _ PU.out rfl rfl rfl rfl ?_; rintro v7 w7 ⟨o7, t7⟩))
  have o7 : Row w7 (b0 + 1) [Nd.mk kd ps nm t nz z ob bi ks] v7 := o7
  obtain ⟨a7, c7, e7⟩ := o7.len
  rw [List.length_singleton] at e7
  subst e7
  have H7 := hide (R6.out.1.belB t7 (by omega) (by omega))
  have T7 := hide (R6.out.2.belB t7 (by have := HB0.out; omega))
  have R7 := hide o7
  have c8 := (t7.cell (p := ⟨b0, 1, none⟩) (Nat.lt_succ_self b0)).trans K6.out
  have hs7 : b0 < w7.heap.size := World.block_lt_of_cell? w7 _ c8
  clear o7 t7 PU R6 K6
  rw [rounds_succ]
  go_wp2_with fail
  refine (HB.out _ _ C1.out _ H7.out).mono ?_
  intro e w8 hp
  rcases hp.both with ⟨kb, jb, c2, rfl, r2⟩ | ⟨kd', ps', nm', t', nz', z', ob', bi', ks', a', len', ck', j', c2, rfl, hk, r1, r2⟩
  · have hw := HW.out
    simp only [all2O, C1.out, c2] at hw
    subst hw
    exact ⟨rfl, rfl, T7.out.trans r2⟩
  have C2 := hide c2
  have hb9 := bel_new w8 (.cells #[.int .i64 kd', .int .i64 ps', .string nm', .int .i64 t', .int .i64 nz', .int .i64 z', .int .i64 ob', .int .u64 bi', .slice a' len' ck'] 27)
  have PU := hide (fun ty => Row.push (c := 1) ((R7.out.tn r2 (by omega)).bel hb9) hs7 (fun k hk => (R7.out.own k hk).2) (Nat.le_trans r2.size hb9.size) (by simp) (hk.bel hb9) (Go.Deep.blk_alloc_new w8 _) ty)
  have R9 := hide (And.intro (r1.below hb9) ((T7.out.trans r2).trans (Tn.of_bel hb9)))
  clear hk hb9 r1 r2 c2 c8 HB R7
  go_wp2_with (first | (at_builtin; refine wpList_appN (.tmp 14) (.tmp 17) _ _ _ PU.out rfl rfl rfl rfl ?_; rintro v9 w9 ⟨o9, t9⟩))
  have R10 := hide (o9.base (show w.heap.size ≤ b0 + 1 by have := HB0.out; omega))
  have H10 := hide (And.intro (R9.out.1.belB t9 (by omega) (by omega)) (R9.out.2.belB t9 (by have := HB0.out; omega)))
  clear o9 t9 PU R9
  rw [rounds_succ]
  go_wp2_with fail
  go_ret
  have hw := HW.out
  simp only [all2O, C1.out, C2.out] at hw
  subst hw
  exact ⟨_, rfl, R10.out, H10.out⟩

end Go.Proofs.YtogeblmppagabaaGreatDoor.Ck

/- Branches. -/
namespace Go.Proofs.YtogeblmppagabaaGreatDoor.Ck
open Go.RowKit

theorem all2_ge {ex bl : Nat → Out} {i : Nat} {ns : List Nd} {j : Nat} (h1 : ∀ n j, ex i = .ok n j → i ≤ j) (h2 : ∀ q n j, bl q = .ok n j → q ≤ j) (h : all2O ex bl i = .ok ns j) : i ≤ j ∧ ns.length = 2 := by
  unfold all2O at h
  cases hq : ex i with
  | bad k a => rw [hq] at h; cases h
  | ok m a =>
    rw [hq] at h
    dsimp only at h
    cases hq2 : bl a with
    | bad k b => rw [hq2] at h; cases h
    | ok m2 b =>
      rw [hq2] at h
      cases h
      exact ⟨Nat.le_trans (h1 _ _ hq) (h2 _ _ _ hq2), rfl⟩

set_option maxRecDepth 20000 in
set_option maxHeartbeats 1000000 in
theorem branch_any {w : World} {p : List Addr} {g gT : Nat} {L : List Tk} {i l : Nat} (h : Ps w p g gT L i l) (hE : Ends L) (hi : i + 1 < L.length) (ex bl : Nat → Out) (he : Rule 27 p g gT L l (i + 1) (ex (i + 1))) (hbl : ∀ j, i + 1 ≤ j → Rule 138 p g gT L l j (bl j)) (hge : ∀ n j, ex (i + 1) = .ok n j → i + 1 ≤ j) (hgb : ∀ q n j, bl q = .ok n j → q ≤ j) :
    Calls Tryz.prog 203 #[.pointer (some ⟨g, 0, none⟩)] w fun e w' => PostN p g gT L l w e w' (branchO L i ex bl) := by
  have HP := hide h
  have HE := hide hE
  have HI := hide hi
  have HR := hide he
  have HB := hide hbl
  have HG := hide hge
  have HGB := hide hgb
  have hb0 := hide (bel_new w nodZ)
  have hz0 := hide (nod_new w)
  have H0 := hide (h.below hb0.out)
  obtain ⟨out, ho⟩ : ∃ out, branchO L i ex bl = out := ⟨_, rfl⟩
  rw [ho]
  have HW := hide ho
  clear h hE ho hi he hbl hge hgb
  unfold nodZ at *
  go_enter Tryz.func203, Tryz.ntmps203
  go_wp2_with fail
  generalize w.alloc (.cells #[.int .i64 0, .int .i64 0, .string ⟨#[]⟩, .int .i64 0, .int .i64 0, .int .i64 0, .int .i64 0, .int .u64 0, .slice none 0 0] 27) = w0 at *
  refine (open_any H0.out (21) HI.out).mono ?_
  rintro e w1 ⟨rfl, r1, r2⟩
  have S2 := hide (Sn.start HP.out hb0.out hz0.out r1 r2 (21) (tkAt L i).pos ⟨#[]⟩ 0 0)
  clear r1 r2 hb0 hz0 H0
  go_wp2_with fail
  have e2 : (w1.alloc (.cells #[.int .i64 (21), .int .i64 (tkAt L i).pos, .string ⟨#[]⟩, .int .i64 0, .int .i64 0, .int .i64 0, .int .i64 0, .int .u64 0, .slice none 0 0] 27)).heap.size = w1.heap.size + 1 := by simp
  generalize w1.alloc (.cells #[.int .i64 (21), .int .i64 (tkAt L i).pos, .string ⟨#[]⟩, .int .i64 0, .int .i64 0, .int .i64 0, .int .i64 0, .int .u64 0, .slice none 0 0] 27) = w2 at *
  generalize w1.heap.size = n at *
  rw [← e2]
  clear e2
  have hz3 := S2.out.ltz
  have hn3 := S2.out.lt
  refine (all2_any S2.out.pr ex bl HR.out (fun _ j e => HB.out j (HG.out _ _ e))).mono ?_
  intro e w3 hp
  rcases hp.both with ⟨kb, jb, c3, rfl, r2⟩ | ⟨ns, a, m, ck, j3, hm, c3, rfl, hrow, r1, r2⟩
  · have hw := HW.out
    simp only [branchO, c3] at hw
    subst hw
    exact ⟨rfl, rfl, S2.out.tn.trans r2⟩
  have HJ : Hid (i + 1 ≤ j3 ∧ ns.length = 2) := all2_ge HG.out HGB.out c3
  have R3 := hide hrow
  have M3 := hide hm
  have C3 := hide c3
  have S3 := hide (S2.out.call r1 r2)
  clear c3 r1 r2 hrow hm S2
  have RR := hide ((R3.out.base (show n + 1 ≤ w2.heap.size from hn3)).tn (set1 S3.out.vr 8 (.slice a m ck)).2 (Nat.lt_succ_self n))
  obtain ⟨⟨fr0, fr1, fr2, fr3, fr4, fr5, fr6, fr7, fr8⟩, ce0, ce1, ce2, ce3, ce4, ce5, ce6, ce7, ce8⟩ := S3.out.vr.all
  have S4 := hide (S3.out.setKids hz3 hn3 R3.out.kids)
  clear S3
  go_wp2_with fail
  clear fr0 fr1 fr2 fr3 fr4 fr5 fr6 fr7 fr8 ce0 ce1 ce2 ce3 ce4 ce5 ce6 ce7 ce8
  generalize w3.setCell ⟨n, 8, none⟩ (.slice a m ck) = w4 at *
  have hgn : g < n + 1 := by have := S4.out.ng; have := S4.out.nn; omega
  refine (taken_both S4.out.pr HE.out bElse (by decide)).mono ?_
  rintro e w5 (⟨c5, rfl, r1, r2⟩ | ⟨c5, rfl, r1, r2⟩)
  · have RY := hide (RR.out.tn r2 hgn)
    have C5 := hide c5
    have S5 := hide (S4.out.call r1 r2)
    clear c5 r1 r2 RR S4
    go_wp2_with fail
    refine wp_region_any mixed ?_
    change wpAny _ _ _ _ _ _ _ (World.drew _)
    have SW0 := hide S5.out.drew
    have RW0 := hide (RY.out.bel (bel_drawn (Below.refl _ _)))
    have hgn : g < n + 1 := by have := SW0.out.ng; have := SW0.out.nn; omega
    have hzn : w.heap.size < n := by have := SW0.out.ne; have := SW0.out.nn; omega
    clear S5 RY
    generalize World.drew w5 = W0 at *
    refine wpAny_take (i := 0) (v := ?_) rfl (by kernel_rfl) (by kernel_rfl) (by kernel_rfl) (fun _ _ _ h => h) (Or.inl ⟨by rfl, fun w => ?_⟩) ?_
    rotate_left 1
    · (go_simp <;> with_reducible rfl)
    simp only [Act.put, List.getElem_toArray, List.getElem_cons_zero, List.setIfInBounds_toArray, List.set_cons_zero, List.set_cons_succ]
    refine wpAny_take (i := 2) (v := ?_) rfl (by kernel_rfl) (by kernel_rfl) (by kernel_rfl) (fun _ _ _ h => h) (Or.inl ⟨by rfl, fun w => ?_⟩) ?_
    rotate_left 1
    · (go_simp <;> with_reducible rfl)
    simp only [Act.put, List.getElem_toArray, List.getElem_cons_zero, List.getElem_cons_succ, List.setIfInBounds_toArray, List.set_cons_zero, List.set_cons_succ]
    refine wpAny_ready (rs := [1, 3]) (by kernel_rfl) (by decide) ?_
    refine AllReady.cons rfl (fun K1 hK1 => ?_) (AllReady.cons rfl (fun K1 hK1 => ?_) AllReady.nil)
    · obtain ⟨_, _, _, _, _, _, _, _, _, yq⟩ := SW0.out.vr.all
      go_simp
      refine hK1 _ _ ?_
      clear hK1 K1 yq
      refine wpAny_ready (rs := [3]) (by kernel_rfl) (by decide) ?_
      refine AllReady.cons rfl (fun K1 hK1 => ?_) AllReady.nil
      go_simp
      refine (HB.out (j3 + 1) (by have := HJ.out.1; omega) _ SW0.out.pr).mono ?_
      intro e W1 hp
      rcases hp.both with ⟨kb, jb, cq, rfl, r2⟩ | ⟨kd', ps', nm', t', nz', z', ob', bi', ks', a', len', ck', jq, cq, rfl, hk, r1, r2⟩
      · have hw := HW.out
        simp only [branchO, C3.out, if_pos C5.out, cq] at hw
        subst hw
        exact ⟨rfl, rfl, SW0.out.tn.trans r2⟩
      have CQ := hide cq
      have SW1 := hide (SW0.out.call r1 r2)
      have RW1 := hide (RW0.out.tn r2 hgn)
      have JW1 := hide hk
      have HC : Hid (∀ k, Value.ownBlock (.slice a m ck) = some k → k < W0.heap.size) := fun k hk => (RW0.out.own k hk).2
      have HWs := hide r2.size
      have HN1 := hide (show n + 1 ≤ W0.heap.size from SW0.out.lt)
      clear cq hk r1 r2
      refine hK1 _ _ ?_
      clear hK1 K1
      refine wpAny_ready (rs := [4]) (by kernel_rfl) (by decide) ?_
      refine AllReady.cons rfl (fun K1 hK1 => ?_) AllReady.nil
      go_simp
      have hb := bel_new W1 (.cells #[.int .i64 kd', .int .i64 ps', .string nm', .int .i64 t', .int .i64 nz', .int .i64 z', .int .i64 ob', .int .u64 bi', .slice a' len' ck'] 27)
      have SW2 := hide (SW1.out.bel hb)
      have RW2 := hide (RW1.out.bel hb)
      have PU := hide (fun ty => Row.push (c := 1) RW2.out HN1.out HC.out (Nat.le_trans HWs.out hb.size) (by have := HJ.out.2; omega) (JW1.out.bel hb) (Go.Deep.blk_alloc_new W1 _) ty)
      clear hb JW1
      generalize W1.alloc (.cells #[.int .i64 kd', .int .i64 ps', .string nm', .int .i64 t', .int .i64 nz', .int .i64 z', .int .i64 ob', .int .u64 bi', .slice a' len' ck'] 27) = W2 at *
      generalize W1.heap.size = bx at *
      refine hK1 _ _ ?_
      clear hK1 K1
      refine wpAny_ready (rs := [5]) (by kernel_rfl) (by decide) ?_
      refine AllReady.cons rfl (fun K1 hK1 => ?_) AllReady.nil
      refine step_appN (.tmp 17) (.tmp 20) _ _ _ PU.out rfl rfl rfl rfl ?_
      rintro v7 w7 ⟨o7, t7⟩
      obtain ⟨a7, c7, e7⟩ := o7.len
      obtain ⟨m7, hm7⟩ : ∃ m7, m7 = (ns ++ [Nd.mk kd' ps' nm' t' nz' z' ob' bi' ks']).length := ⟨_, rfl⟩
      rw [← hm7] at e7
      subst e7
      obtain ⟨x8, f8, s8, r8⟩ := SW2.out.grown t7 hzn o7
      have S8 := hide s8
      have R8 := hide r8
      have M8 := hide hm7
      clear s8 r8 hm7 o7 t7 PU SW2 RW2
      refine hK1 _ _ ?_
      clear hK1 K1
      refine wpAny_take (i := 6) (v := ?_) rfl (by kernel_rfl) (by kernel_rfl) (by kernel_rfl) (fun _ _ _ h => h) (Or.inl ⟨by rfl, fun w => ?_⟩) ?_
      rotate_left 1
      · (go_simp <;> with_reducible rfl)
      simp only [Act.put, List.getElem_toArray, List.getElem_cons_zero, List.getElem_cons_succ, List.setIfInBounds_toArray, List.set_cons_zero, List.set_cons_succ]
      refine wpAny_ready (rs := [7]) (by kernel_rfl) (by decide) ?_
      refine AllReady.cons rfl (fun K1 hK1 => ?_) AllReady.nil
      go_simp
      refine hK1 _ _ ?_
      clear hK1 K1
      refine wpAny_done (by kernel_rfl) ?_ _
      clear x8 f8
      generalize w7.setCell ⟨n, 8, none⟩ (.slice a7 m7 c7) = w8 at *
      obtain ⟨⟨fz0, fz1, fz2, fz3, fz4, fz5, fz6, fz7, fz8⟩, bz0, bz1, bz2, bz3, bz4, bz5, bz6, bz7, bz8⟩ := S8.out.zr.all
      obtain ⟨_, cg0, cg1, cg2, cg3, cg4, cg5, cg6, cg7, cg8⟩ := S8.out.vr.all
      obtain ⟨_, rfl, z9, v9, p9, t9⟩ := S8.out.done
      have Z9 := hide z9
      have D9 := hide (And.intro v9 (And.intro p9 t9))
      clear z9 v9 p9 t9 S8
      go_wp2_with fail
      refine ret_nod (w.heap.size) rfl rfl Z9.out rfl ?_
      have hw := HW.out
      simp only [branchO, C3.out, if_pos C5.out, CQ.out] at hw
      subst hw
      exact ⟨_, rfl, D9.out⟩
    · go_simp
      refine (HB.out (j3 + 1) (by have := HJ.out.1; omega) _ SW0.out.pr).mono ?_
      intro e W1 hp
      rcases hp.both with ⟨kb, jb, cq, rfl, r2⟩ | ⟨kd', ps', nm', t', nz', z', ob', bi', ks', a', len', ck', jq, cq, rfl, hk, r1, r2⟩
      · have hw := HW.out
        simp only [branchO, C3.out, if_pos C5.out, cq] at hw
        subst hw
        exact ⟨rfl, rfl, SW0.out.tn.trans r2⟩
      have CQ := hide cq
      have SW1 := hide (SW0.out.call r1 r2)
      have RW1 := hide (RW0.out.tn r2 hgn)
      have JW1 := hide hk
      have HC : Hid (∀ k, Value.ownBlock (.slice a m ck) = some k → k < W0.heap.size) := fun k hk => (RW0.out.own k hk).2
      have HWs := hide r2.size
      have HN1 := hide (show n + 1 ≤ W0.heap.size from SW0.out.lt)
      clear cq hk r1 r2
      refine hK1 _ _ ?_
      clear hK1 K1
      refine wpAny_ready (rs := [1, 4]) (by kernel_rfl) (by decide) ?_
      refine AllReady.cons rfl (fun K1 hK1 => ?_) (AllReady.cons rfl (fun K1 hK1 => ?_) AllReady.nil)
      · obtain ⟨_, _, _, _, _, _, _, _, _, yq⟩ := SW1.out.vr.all
        go_simp
        refine hK1 _ _ ?_
        clear hK1 K1 yq
        refine wpAny_ready (rs := [4]) (by kernel_rfl) (by decide) ?_
        refine AllReady.cons rfl (fun K1 hK1 => ?_) AllReady.nil
        go_simp
        have hb := bel_new W1 (.cells #[.int .i64 kd', .int .i64 ps', .string nm', .int .i64 t', .int .i64 nz', .int .i64 z', .int .i64 ob', .int .u64 bi', .slice a' len' ck'] 27)
        have SW2 := hide (SW1.out.bel hb)
        have RW2 := hide (RW1.out.bel hb)
        have PU := hide (fun ty => Row.push (c := 1) RW2.out HN1.out HC.out (Nat.le_trans HWs.out hb.size) (by have := HJ.out.2; omega) (JW1.out.bel hb) (Go.Deep.blk_alloc_new W1 _) ty)
        clear hb JW1
        generalize W1.alloc (.cells #[.int .i64 kd', .int .i64 ps', .string nm', .int .i64 t', .int .i64 nz', .int .i64 z', .int .i64 ob', .int .u64 bi', .slice a' len' ck'] 27) = W2 at *
        generalize W1.heap.size = bx at *
        refine hK1 _ _ ?_
        clear hK1 K1
        refine wpAny_ready (rs := [5]) (by kernel_rfl) (by decide) ?_
        refine AllReady.cons rfl (fun K1 hK1 => ?_) AllReady.nil
        refine step_appN (.tmp 17) (.tmp 20) _ _ _ PU.out rfl rfl rfl rfl ?_
        rintro v7 w7 ⟨o7, t7⟩
        obtain ⟨a7, c7, e7⟩ := o7.len
        obtain ⟨m7, hm7⟩ : ∃ m7, m7 = (ns ++ [Nd.mk kd' ps' nm' t' nz' z' ob' bi' ks']).length := ⟨_, rfl⟩
        rw [← hm7] at e7
        subst e7
        obtain ⟨x8, f8, s8, r8⟩ := SW2.out.grown t7 hzn o7
        have S8 := hide s8
        have R8 := hide r8
        have M8 := hide hm7
        clear s8 r8 hm7 o7 t7 PU SW2 RW2
        refine hK1 _ _ ?_
        clear hK1 K1
        refine wpAny_take (i := 6) (v := ?_) rfl (by kernel_rfl) (by kernel_rfl) (by kernel_rfl) (fun _ _ _ h => h) (Or.inl ⟨by rfl, fun w => ?_⟩) ?_
        rotate_left 1
        · (go_simp <;> with_reducible rfl)
        simp only [Act.put, List.getElem_toArray, List.getElem_cons_zero, List.getElem_cons_succ, List.setIfInBounds_toArray, List.set_cons_zero, List.set_cons_succ]
        refine wpAny_ready (rs := [7]) (by kernel_rfl) (by decide) ?_
        refine AllReady.cons rfl (fun K1 hK1 => ?_) AllReady.nil
        go_simp
        refine hK1 _ _ ?_
        clear hK1 K1
        refine wpAny_done (by kernel_rfl) ?_ _
        clear x8 f8
        generalize w7.setCell ⟨n, 8, none⟩ (.slice a7 m7 c7) = w8 at *
        obtain ⟨⟨fz0, fz1, fz2, fz3, fz4, fz5, fz6, fz7, fz8⟩, bz0, bz1, bz2, bz3, bz4, bz5, bz6, bz7, bz8⟩ := S8.out.zr.all
        obtain ⟨_, cg0, cg1, cg2, cg3, cg4, cg5, cg6, cg7, cg8⟩ := S8.out.vr.all
        obtain ⟨_, rfl, z9, v9, p9, t9⟩ := S8.out.done
        have Z9 := hide z9
        have D9 := hide (And.intro v9 (And.intro p9 t9))
        clear z9 v9 p9 t9 S8
        go_wp2_with fail
        refine ret_nod (w.heap.size) rfl rfl Z9.out rfl ?_
        have hw := HW.out
        simp only [branchO, C3.out, if_pos C5.out, CQ.out] at hw
        subst hw
        exact ⟨_, rfl, D9.out⟩
      · go_simp
        have hb := bel_new W1 (.cells #[.int .i64 kd', .int .i64 ps', .string nm', .int .i64 t', .int .i64 nz', .int .i64 z', .int .i64 ob', .int .u64 bi', .slice a' len' ck'] 27)
        have SW2 := hide (SW1.out.bel hb)
        have RW2 := hide (RW1.out.bel hb)
        have PU := hide (fun ty => Row.push (c := 1) RW2.out HN1.out HC.out (Nat.le_trans HWs.out hb.size) (by have := HJ.out.2; omega) (JW1.out.bel hb) (Go.Deep.blk_alloc_new W1 _) ty)
        clear hb JW1
        generalize W1.alloc (.cells #[.int .i64 kd', .int .i64 ps', .string nm', .int .i64 t', .int .i64 nz', .int .i64 z', .int .i64 ob', .int .u64 bi', .slice a' len' ck'] 27) = W2 at *
        generalize W1.heap.size = bx at *
        refine hK1 _ _ ?_
        clear hK1 K1
        refine wpAny_ready (rs := [1]) (by kernel_rfl) (by decide) ?_
        refine AllReady.cons rfl (fun K1 hK1 => ?_) AllReady.nil
        obtain ⟨_, _, _, _, _, _, _, _, _, yq⟩ := SW2.out.vr.all
        go_simp
        refine hK1 _ _ ?_
        clear hK1 K1 yq
        refine wpAny_ready (rs := [5]) (by kernel_rfl) (by decide) ?_
        refine AllReady.cons rfl (fun K1 hK1 => ?_) AllReady.nil
        refine step_appN (.tmp 17) (.tmp 20) _ _ _ PU.out rfl rfl rfl rfl ?_
        rintro v7 w7 ⟨o7, t7⟩
        obtain ⟨a7, c7, e7⟩ := o7.len
        obtain ⟨m7, hm7⟩ : ∃ m7, m7 = (ns ++ [Nd.mk kd' ps' nm' t' nz' z' ob' bi' ks']).length := ⟨_, rfl⟩
        rw [← hm7] at e7
        subst e7
        obtain ⟨x8, f8, s8, r8⟩ := SW2.out.grown t7 hzn o7
        have S8 := hide s8
        have R8 := hide r8
        have M8 := hide hm7
        clear s8 r8 hm7 o7 t7 PU SW2 RW2
        refine hK1 _ _ ?_
        clear hK1 K1
        refine wpAny_take (i := 6) (v := ?_) rfl (by kernel_rfl) (by kernel_rfl) (by kernel_rfl) (fun _ _ _ h => h) (Or.inl ⟨by rfl, fun w => ?_⟩) ?_
        rotate_left 1
        · (go_simp <;> with_reducible rfl)
        simp only [Act.put, List.getElem_toArray, List.getElem_cons_zero, List.getElem_cons_succ, List.setIfInBounds_toArray, List.set_cons_zero, List.set_cons_succ]
        refine wpAny_ready (rs := [7]) (by kernel_rfl) (by decide) ?_
        refine AllReady.cons rfl (fun K1 hK1 => ?_) AllReady.nil
        go_simp
        refine hK1 _ _ ?_
        clear hK1 K1
        refine wpAny_done (by kernel_rfl) ?_ _
        clear x8 f8
        generalize w7.setCell ⟨n, 8, none⟩ (.slice a7 m7 c7) = w8 at *
        obtain ⟨⟨fz0, fz1, fz2, fz3, fz4, fz5, fz6, fz7, fz8⟩, bz0, bz1, bz2, bz3, bz4, bz5, bz6, bz7, bz8⟩ := S8.out.zr.all
        obtain ⟨_, cg0, cg1, cg2, cg3, cg4, cg5, cg6, cg7, cg8⟩ := S8.out.vr.all
        obtain ⟨_, rfl, z9, v9, p9, t9⟩ := S8.out.done
        have Z9 := hide z9
        have D9 := hide (And.intro v9 (And.intro p9 t9))
        clear z9 v9 p9 t9 S8
        go_wp2_with fail
        refine ret_nod (w.heap.size) rfl rfl Z9.out rfl ?_
        have hw := HW.out
        simp only [branchO, C3.out, if_pos C5.out, CQ.out] at hw
        subst hw
        exact ⟨_, rfl, D9.out⟩
  · clear RR
    have C5 := hide c5
    have S5 := hide (S4.out.call r1 r2)
    clear c5 r1 r2 S4
    obtain ⟨⟨fz0, fz1, fz2, fz3, fz4, fz5, fz6, fz7, fz8⟩, bz0, bz1, bz2, bz3, bz4, bz5, bz6, bz7, bz8⟩ := S5.out.zr.all
    obtain ⟨_, cg0, cg1, cg2, cg3, cg4, cg5, cg6, cg7, cg8⟩ := S5.out.vr.all
    obtain ⟨_, rfl, z9, v9, p9, t9⟩ := S5.out.done
    have Z9 := hide z9
    have D9 := hide (And.intro v9 (And.intro p9 t9))
    clear z9 v9 p9 t9 S5
    go_wp2_with fail
    refine ret_nod (w.heap.size) rfl rfl Z9.out rfl ?_
    have hw := HW.out
    simp only [branchO, C3.out, if_neg C5.out] at hw
    subst hw
    exact ⟨_, rfl, D9.out⟩

end Go.Proofs.YtogeblmppagabaaGreatDoor.Ck
