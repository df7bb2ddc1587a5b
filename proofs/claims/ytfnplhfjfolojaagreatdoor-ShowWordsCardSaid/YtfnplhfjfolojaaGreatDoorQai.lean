/- Texts of this proof, packed: contracts of the program's functions, and the plain model that they are held against. -/
import Derived.Test.YtfnplhfjfolojaaGreatDoorQah
set_option maxRecDepth 20000
set_option maxHeartbeats 4000000
namespace Go.Proofs.YtfnplhfjfolojaaGreatDoor.Ck
open Go.RowKit
theorem named1_expr {w : World} {p : List Addr} {g gT : Nat} {L : List Tk} {i l : Nat} (h : Ps w p g gT L i l) (hE : Ya L) (hi : i + 1 < L.length) (kd : Int) (b c : Nat) (hbg : b ≠ g) (hc : w.cell? ⟨b, 0, none⟩ = some (.func (.func 32) #[.pointer (some ⟨g, 0, none⟩)] #[])) (r : Out) (hr : ZS 32 p g gT L l (i + 1 + 1 + 1) r) :
 Calls Tryz.prog 76 #[.pointer (some ⟨g, 0, none⟩), .int .i64 kd, .slice (some ⟨b, 0, none⟩) 1 c] w fun e w' => Zo p g gT L l w e w' (ZL L kd i r) := by
 have HP := Zb h
 have HE := Zb hE
 have HI := Zb hi
 have HC := Zb hc
 have HR := Zb hr
 have hb0 := Zb (Zd w Zh)
 have hz0 := Zb (ZG w)
 have H0 := Zb (h.below hb0.out)
 obtain ⟨out, ho⟩ : ∃ out, ZL L kd i r = out := ⟨_, rfl⟩
 rw [ho]
 have HW := Zb ho
 clear h hE ho hi hc hr
 unfold Zh at *
 go_enter Tryz.func76, Tryz.ntmps76
 go_wp2_with fail
 generalize w.alloc _ = w0 at *
 refine (Yt H0.out (kd) HI.out).mono ?_
 rintro e w1 ⟨rfl, r1, r2⟩
 have S2 := Zb (Sn.start HP.out hb0.out hz0.out r1 r2 (kd) (Zk L i).pos ⟨#[]⟩ 0 0)
 clear r1 r2 hb0 hz0 H0
 go_wp2_with fail
 generalize w1.alloc _ = w2 at *
 generalize w1.heap.size = n at *
 refine (YH S2.out.pr HE.out ).mono ?_
 rintro e w3 (⟨c3, rfl, r2⟩ | ⟨c3, rfl, r1, r2⟩)
 · have hw := HW.out
   simp only [ZL, if_neg c3] at hw
   subst hw
   exact ⟨rfl, rfl, S2.out.tn.trans r2⟩
 have C3 := Zb c3
 have S3 := Zb (S2.out.call r1 r2)
 clear c3 r1 r2 S2
 obtain ⟨⟨fr0, fr1, fr2, fr3, fr4, fr5, fr6, fr7, fr8⟩, ce0, ce1, ce2, ce3, ce4, ce5, ce6, ce7, ce8⟩ := S3.out.vr.all
 have S4 := Zb (S3.out.setName (tx L (i + 1)))
 clear S3
 go_wp2_with fail
 clear fr0 fr1 fr2 fr3 fr4 fr5 fr6 fr7 fr8 ce0 ce1 ce2 ce3 ce4 ce5 ce6 ce7 ce8
 generalize w3.setCell ⟨n, 2, none⟩ (.string (tx L (i + 1))) = w4 at *
 have cr := S4.out.tn.cell hbg HC.out
 refine wp_loop_rounds 2 ?_
 rw [rounds_succ]
 go_wp2_with fail
 clear cr
 refine (Zx S4.out.pr HE.out bComma (by decide)).mono ?_
 rintro e w5 (⟨c5, rfl, r2⟩ | ⟨c5, rfl, r1, r2⟩)
 · have hw := HW.out
   simp only [ZL, if_pos C3.out, if_neg c5] at hw
   subst hw
   exact ⟨rfl, rfl, S4.out.tn.trans r2⟩
 have C5 := Zb c5
 have S5 := Zb (S4.out.call r1 r2)
 clear c5 r1 r2 S4
 go_wp2_with fail
 have RY : Hid (Row w5 (n + 1) [] (.slice none 0 0)) := Row.nil _ _
 refine wp_region_any ZI ?_
 change wpAny _ _ _ _ _ _ _ (World.drew _)
 have SW0 := Zb S5.out.drew
 have RW0 := Zb (RY.out.bel (Zm (Below.refl _ _)))
 have hgn : g < n + 1 := by have := SW0.out.ng; have := SW0.out.nn; omega
 have hzn : w.heap.size < n := by have := SW0.out.ne; have := SW0.out.nn; omega
 clear S5 RY
 generalize World.drew w5 = W0 at *
 refine T_ 0 (v := ?_) (fun w => ?_) ?_
 rotate_left 1
 · (go_simp <;> with_reducible rfl)
 simp only [Act.put, S_]
 refine T_ 2 (v := ?_) (fun w => ?_) ?_
 rotate_left 1
 · (go_simp <;> with_reducible rfl)
 simp only [Act.put, S_]
 refine wpAny_ready (rs := [1, 3]) (by kernel_rfl) (by decide) ?_
 refine AllReady.cons rfl (fun K1 hK1 => ?_) (AllReady.cons rfl (fun K1 hK1 => ?_) AllReady.nil)
 · obtain ⟨_, _, _, _, _, _, _, _, _, yq⟩ := SW0.out.vr.all
   go_simp
   refine hK1 _ _ ?_
   clear hK1 K1 yq
   refine R_ 3 (fun K1 hK1 => ?_)
   go_simp
   refine (HR.out _ SW0.out.pr).mono ?_
   intro e W1 hp
   rcases hp.both with ⟨kb, jb, cq, rfl, r2⟩ | ⟨kd', ps', nm', t', nz', z', ob', bi', ks', a', len', ck', jq, cq, rfl, hk, r1, r2⟩
   · have hw := HW.out
     simp only [ZL, if_pos C3.out, if_pos C5.out, cq] at hw
     subst hw
     exact ⟨rfl, rfl, SW0.out.tn.trans r2⟩
   have CQ := Zb cq
   have SW1 := Zb (SW0.out.call r1 r2)
   have RW1 := Zb (RW0.out.tn r2 hgn)
   have JW1 := Zb hk
   have HC : Hid (∀ k, Value.ownBlock (.slice none 0 0) = some k -> k < W0.heap.size) := fun k hk => (RW0.out.own k hk).2
   have HWs := Zb r2.size
   have HN1 := Zb (show n + 1 <= W0.heap.size from SW0.out.lt)
   clear cq hk r1 r2
   refine hK1 _ _ ?_
   clear hK1 K1
   refine R_ 4 (fun K1 hK1 => ?_)
   go_simp
   have hb := Zd W1 (.cells #[.int .i64 kd', .int .i64 ps', .string nm', .int .i64 t', .int .i64 nz', .int .i64 z', .int .i64 ob', .int .u64 bi', .slice a' len' ck'] 29)
   have SW2 := Zb (SW1.out.bel hb)
   have RW2 := Zb (RW1.out.bel hb)
   have PU := Zb (fun ty => Row.push (c := 1) RW2.out HN1.out HC.out (Nat.le_trans HWs.out hb.size) (by simp) (JW1.out.bel hb) (B_ W1 _) ty)
   clear hb JW1
   generalize W1.alloc _ = W2 at *
   generalize W1.heap.size = bx at *
   refine hK1 _ _ ?_
   clear hK1 K1
   refine R_ 5 (fun K1 hK1 => ?_)
   refine ZQ (.tmp 26) (.tmp 29) _ _ _ PU.out rfl rfl rfl rfl ?_
   rintro v7 w7 ⟨o7, t7⟩
   obtain ⟨a7, c7, e7⟩ := o7.len
   obtain ⟨m7, hm7⟩ : ∃ m7, m7 = ([] ++ [Nd.mk kd' ps' nm' t' nz' z' ob' bi' ks']).length := ⟨_, rfl⟩
   rw [← hm7] at e7
   subst e7
   obtain ⟨x8, f8, s8, r8⟩ := SW2.out.grown t7 hzn o7
   have S8 := Zb s8
   have R8 := Zb r8
   have M8 := Zb hm7
   clear s8 r8 hm7 o7 t7 PU SW2 RW2
   refine hK1 _ _ ?_
   clear hK1 K1
   refine T_ 6 (v := ?_) (fun w => ?_) ?_
   rotate_left 1
   · (go_simp <;> with_reducible rfl)
   simp only [Act.put, S_]
   refine R_ 7 (fun K1 hK1 => ?_)
   go_simp
   refine hK1 _ _ ?_
   clear hK1 K1
   refine wpAny_done (by kernel_rfl) ?_ _
   clear x8 f8
   generalize w7.setCell ⟨n, 8, none⟩ (.slice a7 m7 c7) = w8 at *
   clear R8 M8
   go_wp2_with fail
   rw [rounds_succ]
   go_wp2_with fail
   refine (Zx S8.out.pr HE.out YL (by decide)).mono ?_
   rintro e w21 (⟨c21, rfl, r2⟩ | ⟨c21, rfl, r1, r2⟩)
   · have hw := HW.out
     simp only [ZL, if_pos C3.out, if_pos C5.out, CQ.out, ZX, if_neg c21] at hw
     subst hw
     exact ⟨rfl, rfl, S8.out.tn.trans r2⟩
   have C21 := Zb c21
   have S21 := Zb (S8.out.call r1 r2)
   clear c21 r1 r2 S8
   obtain ⟨⟨fz0, fz1, fz2, fz3, fz4, fz5, fz6, fz7, fz8⟩, bz0, bz1, bz2, bz3, bz4, bz5, bz6, bz7, bz8⟩ := S21.out.zr.all
   obtain ⟨_, cg0, cg1, cg2, cg3, cg4, cg5, cg6, cg7, cg8⟩ := S21.out.vr.all
   obtain ⟨_, rfl, z9, v9, p9, t9⟩ := S21.out.done
   have Z9 := Zb z9
   have D9 := Zb (And.intro v9 (And.intro p9 t9))
   clear z9 v9 p9 t9 S21
   go_wp2_with fail
   refine Zg (w.heap.size) rfl rfl Z9.out rfl ?_
   have hw := HW.out
   simp only [ZL, if_pos C3.out, if_pos C5.out, CQ.out, ZX, if_pos C21.out] at hw
   subst hw
   exact ⟨_, rfl, D9.out⟩
 · go_simp
   refine (HR.out _ SW0.out.pr).mono ?_
   intro e W1 hp
   rcases hp.both with ⟨kb, jb, cq, rfl, r2⟩ | ⟨kd', ps', nm', t', nz', z', ob', bi', ks', a', len', ck', jq, cq, rfl, hk, r1, r2⟩
   · have hw := HW.out
     simp only [ZL, if_pos C3.out, if_pos C5.out, cq] at hw
     subst hw
     exact ⟨rfl, rfl, SW0.out.tn.trans r2⟩
   have CQ := Zb cq
   have SW1 := Zb (SW0.out.call r1 r2)
   have RW1 := Zb (RW0.out.tn r2 hgn)
   have JW1 := Zb hk
   have HC : Hid (∀ k, Value.ownBlock (.slice none 0 0) = some k -> k < W0.heap.size) := fun k hk => (RW0.out.own k hk).2
   have HWs := Zb r2.size
   have HN1 := Zb (show n + 1 <= W0.heap.size from SW0.out.lt)
   clear cq hk r1 r2
   refine hK1 _ _ ?_
   clear hK1 K1
   refine wpAny_ready (rs := [1, 4]) (by kernel_rfl) (by decide) ?_
   refine AllReady.cons rfl (fun K1 hK1 => ?_) (AllReady.cons rfl (fun K1 hK1 => ?_) AllReady.nil)
   · obtain ⟨_, _, _, _, _, _, _, _, _, yq⟩ := SW1.out.vr.all
     go_simp
     refine hK1 _ _ ?_
     clear hK1 K1 yq
     refine R_ 4 (fun K1 hK1 => ?_)
     go_simp
     have hb := Zd W1 (.cells #[.int .i64 kd', .int .i64 ps', .string nm', .int .i64 t', .int .i64 nz', .int .i64 z', .int .i64 ob', .int .u64 bi', .slice a' len' ck'] 29)
     have SW2 := Zb (SW1.out.bel hb)
     have RW2 := Zb (RW1.out.bel hb)
     have PU := Zb (fun ty => Row.push (c := 1) RW2.out HN1.out HC.out (Nat.le_trans HWs.out hb.size) (by simp) (JW1.out.bel hb) (B_ W1 _) ty)
     clear hb JW1
     generalize W1.alloc _ = W2 at *
     generalize W1.heap.size = bx at *
     refine hK1 _ _ ?_
     clear hK1 K1
     refine R_ 5 (fun K1 hK1 => ?_)
     refine ZQ (.tmp 26) (.tmp 29) _ _ _ PU.out rfl rfl rfl rfl ?_
     rintro v7 w7 ⟨o7, t7⟩
     obtain ⟨a7, c7, e7⟩ := o7.len
     obtain ⟨m7, hm7⟩ : ∃ m7, m7 = ([] ++ [Nd.mk kd' ps' nm' t' nz' z' ob' bi' ks']).length := ⟨_, rfl⟩
     rw [← hm7] at e7
     subst e7
     obtain ⟨x8, f8, s8, r8⟩ := SW2.out.grown t7 hzn o7
     have S8 := Zb s8
     have R8 := Zb r8
     have M8 := Zb hm7
     clear s8 r8 hm7 o7 t7 PU SW2 RW2
     refine hK1 _ _ ?_
     clear hK1 K1
     refine T_ 6 (v := ?_) (fun w => ?_) ?_
     rotate_left 1
     · (go_simp <;> with_reducible rfl)
     simp only [Act.put, S_]
     refine R_ 7 (fun K1 hK1 => ?_)
     go_simp
     refine hK1 _ _ ?_
     clear hK1 K1
     refine wpAny_done (by kernel_rfl) ?_ _
     clear x8 f8
     generalize w7.setCell ⟨n, 8, none⟩ (.slice a7 m7 c7) = w8 at *
     clear R8 M8
     go_wp2_with fail
     rw [rounds_succ]
     go_wp2_with fail
     refine (Zx S8.out.pr HE.out YL (by decide)).mono ?_
     rintro e w21 (⟨c21, rfl, r2⟩ | ⟨c21, rfl, r1, r2⟩)
     · have hw := HW.out
       simp only [ZL, if_pos C3.out, if_pos C5.out, CQ.out, ZX, if_neg c21] at hw
       subst hw
       exact ⟨rfl, rfl, S8.out.tn.trans r2⟩
     have C21 := Zb c21
     have S21 := Zb (S8.out.call r1 r2)
     clear c21 r1 r2 S8
     obtain ⟨⟨fz0, fz1, fz2, fz3, fz4, fz5, fz6, fz7, fz8⟩, bz0, bz1, bz2, bz3, bz4, bz5, bz6, bz7, bz8⟩ := S21.out.zr.all
     obtain ⟨_, cg0, cg1, cg2, cg3, cg4, cg5, cg6, cg7, cg8⟩ := S21.out.vr.all
     obtain ⟨_, rfl, z9, v9, p9, t9⟩ := S21.out.done
     have Z9 := Zb z9
     have D9 := Zb (And.intro v9 (And.intro p9 t9))
     clear z9 v9 p9 t9 S21
     go_wp2_with fail
     refine Zg (w.heap.size) rfl rfl Z9.out rfl ?_
     have hw := HW.out
     simp only [ZL, if_pos C3.out, if_pos C5.out, CQ.out, ZX, if_pos C21.out] at hw
     subst hw
     exact ⟨_, rfl, D9.out⟩
   · go_simp
     have hb := Zd W1 (.cells #[.int .i64 kd', .int .i64 ps', .string nm', .int .i64 t', .int .i64 nz', .int .i64 z', .int .i64 ob', .int .u64 bi', .slice a' len' ck'] 29)
     have SW2 := Zb (SW1.out.bel hb)
     have RW2 := Zb (RW1.out.bel hb)
     have PU := Zb (fun ty => Row.push (c := 1) RW2.out HN1.out HC.out (Nat.le_trans HWs.out hb.size) (by simp) (JW1.out.bel hb) (B_ W1 _) ty)
     clear hb JW1
     generalize W1.alloc _ = W2 at *
     generalize W1.heap.size = bx at *
     refine hK1 _ _ ?_
     clear hK1 K1
     refine R_ 1 (fun K1 hK1 => ?_)
     obtain ⟨_, _, _, _, _, _, _, _, _, yq⟩ := SW2.out.vr.all
     go_simp
     refine hK1 _ _ ?_
     clear hK1 K1 yq
     refine R_ 5 (fun K1 hK1 => ?_)
     refine ZQ (.tmp 26) (.tmp 29) _ _ _ PU.out rfl rfl rfl rfl ?_
     rintro v7 w7 ⟨o7, t7⟩
     obtain ⟨a7, c7, e7⟩ := o7.len
     obtain ⟨m7, hm7⟩ : ∃ m7, m7 = ([] ++ [Nd.mk kd' ps' nm' t' nz' z' ob' bi' ks']).length := ⟨_, rfl⟩
     rw [← hm7] at e7
     subst e7
     obtain ⟨x8, f8, s8, r8⟩ := SW2.out.grown t7 hzn o7
     have S8 := Zb s8
     have R8 := Zb r8
     have M8 := Zb hm7
     clear s8 r8 hm7 o7 t7 PU SW2 RW2
     refine hK1 _ _ ?_
     clear hK1 K1
     refine T_ 6 (v := ?_) (fun w => ?_) ?_
     rotate_left 1
     · (go_simp <;> with_reducible rfl)
     simp only [Act.put, S_]
     refine R_ 7 (fun K1 hK1 => ?_)
     go_simp
     refine hK1 _ _ ?_
     clear hK1 K1
     refine wpAny_done (by kernel_rfl) ?_ _
     clear x8 f8
     generalize w7.setCell ⟨n, 8, none⟩ (.slice a7 m7 c7) = w8 at *
     clear R8 M8
     go_wp2_with fail
     rw [rounds_succ]
     go_wp2_with fail
     refine (Zx S8.out.pr HE.out YL (by decide)).mono ?_
     rintro e w21 (⟨c21, rfl, r2⟩ | ⟨c21, rfl, r1, r2⟩)
     · have hw := HW.out
       simp only [ZL, if_pos C3.out, if_pos C5.out, CQ.out, ZX, if_neg c21] at hw
       subst hw
       exact ⟨rfl, rfl, S8.out.tn.trans r2⟩
     have C21 := Zb c21
     have S21 := Zb (S8.out.call r1 r2)
     clear c21 r1 r2 S8
     obtain ⟨⟨fz0, fz1, fz2, fz3, fz4, fz5, fz6, fz7, fz8⟩, bz0, bz1, bz2, bz3, bz4, bz5, bz6, bz7, bz8⟩ := S21.out.zr.all
     obtain ⟨_, cg0, cg1, cg2, cg3, cg4, cg5, cg6, cg7, cg8⟩ := S21.out.vr.all
     obtain ⟨_, rfl, z9, v9, p9, t9⟩ := S21.out.done
     have Z9 := Zb z9
     have D9 := Zb (And.intro v9 (And.intro p9 t9))
     clear z9 v9 p9 t9 S21
     go_wp2_with fail
     refine Zg (w.heap.size) rfl rfl Z9.out rfl ?_
     have hw := HW.out
     simp only [ZL, if_pos C3.out, if_pos C5.out, CQ.out, ZX, if_pos C21.out] at hw
     subst hw
     exact ⟨_, rfl, D9.out⟩
theorem named1_target {w : World} {p : List Addr} {g gT : Nat} {L : List Tk} {i l : Nat} (h : Ps w p g gT L i l) (hE : Ya L) (hi : i + 1 < L.length) (kd : Int) (b c : Nat) (hbg : b ≠ g) (hc : w.cell? ⟨b, 0, none⟩ = some (.func (.func 221) #[.pointer (some ⟨g, 0, none⟩)] #[])) (r : Out) (hr : ZS 221 p g gT L l (i + 1 + 1 + 1) r) :
 Calls Tryz.prog 76 #[.pointer (some ⟨g, 0, none⟩), .int .i64 kd, .slice (some ⟨b, 0, none⟩) 1 c] w fun e w' => Zo p g gT L l w e w' (ZL L kd i r) := by
 have HP := Zb h
 have HE := Zb hE
 have HI := Zb hi
 have HC := Zb hc
 have HR := Zb hr
 have hb0 := Zb (Zd w Zh)
 have hz0 := Zb (ZG w)
 have H0 := Zb (h.below hb0.out)
 obtain ⟨out, ho⟩ : ∃ out, ZL L kd i r = out := ⟨_, rfl⟩
 rw [ho]
 have HW := Zb ho
 clear h hE ho hi hc hr
 unfold Zh at *
 go_enter Tryz.func76, Tryz.ntmps76
 go_wp2_with fail
 generalize w.alloc _ = w0 at *
 refine (Yt H0.out (kd) HI.out).mono ?_
 rintro e w1 ⟨rfl, r1, r2⟩
 have S2 := Zb (Sn.start HP.out hb0.out hz0.out r1 r2 (kd) (Zk L i).pos ⟨#[]⟩ 0 0)
 clear r1 r2 hb0 hz0 H0
 go_wp2_with fail
 generalize w1.alloc _ = w2 at *
 generalize w1.heap.size = n at *
 refine (YH S2.out.pr HE.out ).mono ?_
 rintro e w3 (⟨c3, rfl, r2⟩ | ⟨c3, rfl, r1, r2⟩)
 · have hw := HW.out
   simp only [ZL, if_neg c3] at hw
   subst hw
   exact ⟨rfl, rfl, S2.out.tn.trans r2⟩
 have C3 := Zb c3
 have S3 := Zb (S2.out.call r1 r2)
 clear c3 r1 r2 S2
 obtain ⟨⟨fr0, fr1, fr2, fr3, fr4, fr5, fr6, fr7, fr8⟩, ce0, ce1, ce2, ce3, ce4, ce5, ce6, ce7, ce8⟩ := S3.out.vr.all
 have S4 := Zb (S3.out.setName (tx L (i + 1)))
 clear S3
 go_wp2_with fail
 clear fr0 fr1 fr2 fr3 fr4 fr5 fr6 fr7 fr8 ce0 ce1 ce2 ce3 ce4 ce5 ce6 ce7 ce8
 generalize w3.setCell ⟨n, 2, none⟩ (.string (tx L (i + 1))) = w4 at *
 have cr := S4.out.tn.cell hbg HC.out
 refine wp_loop_rounds 2 ?_
 rw [rounds_succ]
 go_wp2_with fail
 clear cr
 refine (Zx S4.out.pr HE.out bComma (by decide)).mono ?_
 rintro e w5 (⟨c5, rfl, r2⟩ | ⟨c5, rfl, r1, r2⟩)
 · have hw := HW.out
   simp only [ZL, if_pos C3.out, if_neg c5] at hw
   subst hw
   exact ⟨rfl, rfl, S4.out.tn.trans r2⟩
 have C5 := Zb c5
 have S5 := Zb (S4.out.call r1 r2)
 clear c5 r1 r2 S4
 go_wp2_with fail
 have RY : Hid (Row w5 (n + 1) [] (.slice none 0 0)) := Row.nil _ _
 refine wp_region_any ZI ?_
 change wpAny _ _ _ _ _ _ _ (World.drew _)
 have SW0 := Zb S5.out.drew
 have RW0 := Zb (RY.out.bel (Zm (Below.refl _ _)))
 have hgn : g < n + 1 := by have := SW0.out.ng; have := SW0.out.nn; omega
 have hzn : w.heap.size < n := by have := SW0.out.ne; have := SW0.out.nn; omega
 clear S5 RY
 generalize World.drew w5 = W0 at *
 refine T_ 0 (v := ?_) (fun w => ?_) ?_
 rotate_left 1
 · (go_simp <;> with_reducible rfl)
 simp only [Act.put, S_]
 refine T_ 2 (v := ?_) (fun w => ?_) ?_
 rotate_left 1
 · (go_simp <;> with_reducible rfl)
 simp only [Act.put, S_]
 refine wpAny_ready (rs := [1, 3]) (by kernel_rfl) (by decide) ?_
 refine AllReady.cons rfl (fun K1 hK1 => ?_) (AllReady.cons rfl (fun K1 hK1 => ?_) AllReady.nil)
 · obtain ⟨_, _, _, _, _, _, _, _, _, yq⟩ := SW0.out.vr.all
   go_simp
   refine hK1 _ _ ?_
   clear hK1 K1 yq
   refine R_ 3 (fun K1 hK1 => ?_)
   go_simp
   refine (HR.out _ SW0.out.pr).mono ?_
   intro e W1 hp
   rcases hp.both with ⟨kb, jb, cq, rfl, r2⟩ | ⟨kd', ps', nm', t', nz', z', ob', bi', ks', a', len', ck', jq, cq, rfl, hk, r1, r2⟩
   · have hw := HW.out
     simp only [ZL, if_pos C3.out, if_pos C5.out, cq] at hw
     subst hw
     exact ⟨rfl, rfl, SW0.out.tn.trans r2⟩
   have CQ := Zb cq
   have SW1 := Zb (SW0.out.call r1 r2)
   have RW1 := Zb (RW0.out.tn r2 hgn)
   have JW1 := Zb hk
   have HC : Hid (∀ k, Value.ownBlock (.slice none 0 0) = some k -> k < W0.heap.size) := fun k hk => (RW0.out.own k hk).2
   have HWs := Zb r2.size
   have HN1 := Zb (show n + 1 <= W0.heap.size from SW0.out.lt)
   clear cq hk r1 r2
   refine hK1 _ _ ?_
   clear hK1 K1
   refine R_ 4 (fun K1 hK1 => ?_)
   go_simp
   have hb := Zd W1 (.cells #[.int .i64 kd', .int .i64 ps', .string nm', .int .i64 t', .int .i64 nz', .int .i64 z', .int .i64 ob', .int .u64 bi', .slice a' len' ck'] 29)
   have SW2 := Zb (SW1.out.bel hb)
   have RW2 := Zb (RW1.out.bel hb)
   have PU := Zb (fun ty => Row.push (c := 1) RW2.out HN1.out HC.out (Nat.le_trans HWs.out hb.size) (by simp) (JW1.out.bel hb) (B_ W1 _) ty)
   clear hb JW1
   generalize W1.alloc _ = W2 at *
   generalize W1.heap.size = bx at *
   refine hK1 _ _ ?_
   clear hK1 K1
   refine R_ 5 (fun K1 hK1 => ?_)
   refine ZQ (.tmp 26) (.tmp 29) _ _ _ PU.out rfl rfl rfl rfl ?_
   rintro v7 w7 ⟨o7, t7⟩
   obtain ⟨a7, c7, e7⟩ := o7.len
   obtain ⟨m7, hm7⟩ : ∃ m7, m7 = ([] ++ [Nd.mk kd' ps' nm' t' nz' z' ob' bi' ks']).length := ⟨_, rfl⟩
   rw [← hm7] at e7
   subst e7
   obtain ⟨x8, f8, s8, r8⟩ := SW2.out.grown t7 hzn o7
   have S8 := Zb s8
   have R8 := Zb r8
   have M8 := Zb hm7
   clear s8 r8 hm7 o7 t7 PU SW2 RW2
   refine hK1 _ _ ?_
   clear hK1 K1
   refine T_ 6 (v := ?_) (fun w => ?_) ?_
   rotate_left 1
   · (go_simp <;> with_reducible rfl)
   simp only [Act.put, S_]
   refine R_ 7 (fun K1 hK1 => ?_)
   go_simp
   refine hK1 _ _ ?_
   clear hK1 K1
   refine wpAny_done (by kernel_rfl) ?_ _
   clear x8 f8
   generalize w7.setCell ⟨n, 8, none⟩ (.slice a7 m7 c7) = w8 at *
   clear R8 M8
   go_wp2_with fail
   rw [rounds_succ]
   go_wp2_with fail
   refine (Zx S8.out.pr HE.out YL (by decide)).mono ?_
   rintro e w21 (⟨c21, rfl, r2⟩ | ⟨c21, rfl, r1, r2⟩)
   · have hw := HW.out
     simp only [ZL, if_pos C3.out, if_pos C5.out, CQ.out, ZX, if_neg c21] at hw
     subst hw
     exact ⟨rfl, rfl, S8.out.tn.trans r2⟩
   have C21 := Zb c21
   have S21 := Zb (S8.out.call r1 r2)
   clear c21 r1 r2 S8
   obtain ⟨⟨fz0, fz1, fz2, fz3, fz4, fz5, fz6, fz7, fz8⟩, bz0, bz1, bz2, bz3, bz4, bz5, bz6, bz7, bz8⟩ := S21.out.zr.all
   obtain ⟨_, cg0, cg1, cg2, cg3, cg4, cg5, cg6, cg7, cg8⟩ := S21.out.vr.all
   obtain ⟨_, rfl, z9, v9, p9, t9⟩ := S21.out.done
   have Z9 := Zb z9
   have D9 := Zb (And.intro v9 (And.intro p9 t9))
   clear z9 v9 p9 t9 S21
   go_wp2_with fail
   refine Zg (w.heap.size) rfl rfl Z9.out rfl ?_
   have hw := HW.out
   simp only [ZL, if_pos C3.out, if_pos C5.out, CQ.out, ZX, if_pos C21.out] at hw
   subst hw
   exact ⟨_, rfl, D9.out⟩
 · go_simp
   refine (HR.out _ SW0.out.pr).mono ?_
   intro e W1 hp
   rcases hp.both with ⟨kb, jb, cq, rfl, r2⟩ | ⟨kd', ps', nm', t', nz', z', ob', bi', ks', a', len', ck', jq, cq, rfl, hk, r1, r2⟩
   · have hw := HW.out
     simp only [ZL, if_pos C3.out, if_pos C5.out, cq] at hw
     subst hw
     exact ⟨rfl, rfl, SW0.out.tn.trans r2⟩
   have CQ := Zb cq
   have SW1 := Zb (SW0.out.call r1 r2)
   have RW1 := Zb (RW0.out.tn r2 hgn)
   have JW1 := Zb hk
   have HC : Hid (∀ k, Value.ownBlock (.slice none 0 0) = some k -> k < W0.heap.size) := fun k hk => (RW0.out.own k hk).2
   have HWs := Zb r2.size
   have HN1 := Zb (show n + 1 <= W0.heap.size from SW0.out.lt)
   clear cq hk r1 r2
   refine hK1 _ _ ?_
   clear hK1 K1
   refine wpAny_ready (rs := [1, 4]) (by kernel_rfl) (by decide) ?_
   refine AllReady.cons rfl (fun K1 hK1 => ?_) (AllReady.cons rfl (fun K1 hK1 => ?_) AllReady.nil)
   · obtain ⟨_, _, _, _, _, _, _, _, _, yq⟩ := SW1.out.vr.all
     go_simp
     refine hK1 _ _ ?_
     clear hK1 K1 yq
     refine R_ 4 (fun K1 hK1 => ?_)
     go_simp
     have hb := Zd W1 (.cells #[.int .i64 kd', .int .i64 ps', .string nm', .int .i64 t', .int .i64 nz', .int .i64 z', .int .i64 ob', .int .u64 bi', .slice a' len' ck'] 29)
     have SW2 := Zb (SW1.out.bel hb)
     have RW2 := Zb (RW1.out.bel hb)
     have PU := Zb (fun ty => Row.push (c := 1) RW2.out HN1.out HC.out (Nat.le_trans HWs.out hb.size) (by simp) (JW1.out.bel hb) (B_ W1 _) ty)
     clear hb JW1
     generalize W1.alloc _ = W2 at *
     generalize W1.heap.size = bx at *
     refine hK1 _ _ ?_
     clear hK1 K1
     refine R_ 5 (fun K1 hK1 => ?_)
     refine ZQ (.tmp 26) (.tmp 29) _ _ _ PU.out rfl rfl rfl rfl ?_
     rintro v7 w7 ⟨o7, t7⟩
     obtain ⟨a7, c7, e7⟩ := o7.len
     obtain ⟨m7, hm7⟩ : ∃ m7, m7 = ([] ++ [Nd.mk kd' ps' nm' t' nz' z' ob' bi' ks']).length := ⟨_, rfl⟩
     rw [← hm7] at e7
     subst e7
     obtain ⟨x8, f8, s8, r8⟩ := SW2.out.grown t7 hzn o7
     have S8 := Zb s8
     have R8 := Zb r8
     have M8 := Zb hm7
     clear s8 r8 hm7 o7 t7 PU SW2 RW2
     refine hK1 _ _ ?_
     clear hK1 K1
     refine T_ 6 (v := ?_) (fun w => ?_) ?_
     rotate_left 1
     · (go_simp <;> with_reducible rfl)
     simp only [Act.put, S_]
     refine R_ 7 (fun K1 hK1 => ?_)
     go_simp
     refine hK1 _ _ ?_
     clear hK1 K1
     refine wpAny_done (by kernel_rfl) ?_ _
     clear x8 f8
     generalize w7.setCell ⟨n, 8, none⟩ (.slice a7 m7 c7) = w8 at *
     clear R8 M8
     go_wp2_with fail
     rw [rounds_succ]
     go_wp2_with fail
     refine (Zx S8.out.pr HE.out YL (by decide)).mono ?_
     rintro e w21 (⟨c21, rfl, r2⟩ | ⟨c21, rfl, r1, r2⟩)
     · have hw := HW.out
       simp only [ZL, if_pos C3.out, if_pos C5.out, CQ.out, ZX, if_neg c21] at hw
       subst hw
       exact ⟨rfl, rfl, S8.out.tn.trans r2⟩
     have C21 := Zb c21
     have S21 := Zb (S8.out.call r1 r2)
     clear c21 r1 r2 S8
     obtain ⟨⟨fz0, fz1, fz2, fz3, fz4, fz5, fz6, fz7, fz8⟩, bz0, bz1, bz2, bz3, bz4, bz5, bz6, bz7, bz8⟩ := S21.out.zr.all
     obtain ⟨_, cg0, cg1, cg2, cg3, cg4, cg5, cg6, cg7, cg8⟩ := S21.out.vr.all
     obtain ⟨_, rfl, z9, v9, p9, t9⟩ := S21.out.done
     have Z9 := Zb z9
     have D9 := Zb (And.intro v9 (And.intro p9 t9))
     clear z9 v9 p9 t9 S21
     go_wp2_with fail
     refine Zg (w.heap.size) rfl rfl Z9.out rfl ?_
     have hw := HW.out
     simp only [ZL, if_pos C3.out, if_pos C5.out, CQ.out, ZX, if_pos C21.out] at hw
     subst hw
     exact ⟨_, rfl, D9.out⟩
   · go_simp
     have hb := Zd W1 (.cells #[.int .i64 kd', .int .i64 ps', .string nm', .int .i64 t', .int .i64 nz', .int .i64 z', .int .i64 ob', .int .u64 bi', .slice a' len' ck'] 29)
     have SW2 := Zb (SW1.out.bel hb)
     have RW2 := Zb (RW1.out.bel hb)
     have PU := Zb (fun ty => Row.push (c := 1) RW2.out HN1.out HC.out (Nat.le_trans HWs.out hb.size) (by simp) (JW1.out.bel hb) (B_ W1 _) ty)
     clear hb JW1
     generalize W1.alloc _ = W2 at *
     generalize W1.heap.size = bx at *
     refine hK1 _ _ ?_
     clear hK1 K1
     refine R_ 1 (fun K1 hK1 => ?_)
     obtain ⟨_, _, _, _, _, _, _, _, _, yq⟩ := SW2.out.vr.all
     go_simp
     refine hK1 _ _ ?_
     clear hK1 K1 yq
     refine R_ 5 (fun K1 hK1 => ?_)
     refine ZQ (.tmp 26) (.tmp 29) _ _ _ PU.out rfl rfl rfl rfl ?_
     rintro v7 w7 ⟨o7, t7⟩
     obtain ⟨a7, c7, e7⟩ := o7.len
     obtain ⟨m7, hm7⟩ : ∃ m7, m7 = ([] ++ [Nd.mk kd' ps' nm' t' nz' z' ob' bi' ks']).length := ⟨_, rfl⟩
     rw [← hm7] at e7
     subst e7
     obtain ⟨x8, f8, s8, r8⟩ := SW2.out.grown t7 hzn o7
     have S8 := Zb s8
     have R8 := Zb r8
     have M8 := Zb hm7
     clear s8 r8 hm7 o7 t7 PU SW2 RW2
     refine hK1 _ _ ?_
     clear hK1 K1
     refine T_ 6 (v := ?_) (fun w => ?_) ?_
     rotate_left 1
     · (go_simp <;> with_reducible rfl)
     simp only [Act.put, S_]
     refine R_ 7 (fun K1 hK1 => ?_)
     go_simp
     refine hK1 _ _ ?_
     clear hK1 K1
     refine wpAny_done (by kernel_rfl) ?_ _
     clear x8 f8
     generalize w7.setCell ⟨n, 8, none⟩ (.slice a7 m7 c7) = w8 at *
     clear R8 M8
     go_wp2_with fail
     rw [rounds_succ]
     go_wp2_with fail
     refine (Zx S8.out.pr HE.out YL (by decide)).mono ?_
     rintro e w21 (⟨c21, rfl, r2⟩ | ⟨c21, rfl, r1, r2⟩)
     · have hw := HW.out
       simp only [ZL, if_pos C3.out, if_pos C5.out, CQ.out, ZX, if_neg c21] at hw
       subst hw
       exact ⟨rfl, rfl, S8.out.tn.trans r2⟩
     have C21 := Zb c21
     have S21 := Zb (S8.out.call r1 r2)
     clear c21 r1 r2 S8
     obtain ⟨⟨fz0, fz1, fz2, fz3, fz4, fz5, fz6, fz7, fz8⟩, bz0, bz1, bz2, bz3, bz4, bz5, bz6, bz7, bz8⟩ := S21.out.zr.all
     obtain ⟨_, cg0, cg1, cg2, cg3, cg4, cg5, cg6, cg7, cg8⟩ := S21.out.vr.all
     obtain ⟨_, rfl, z9, v9, p9, t9⟩ := S21.out.done
     have Z9 := Zb z9
     have D9 := Zb (And.intro v9 (And.intro p9 t9))
     clear z9 v9 p9 t9 S21
     go_wp2_with fail
     refine Zg (w.heap.size) rfl rfl Z9.out rfl ?_
     have hw := HW.out
     simp only [ZL, if_pos C3.out, if_pos C5.out, CQ.out, ZX, if_pos C21.out] at hw
     subst hw
     exact ⟨_, rfl, D9.out⟩
theorem leaves0_any {w : World} {p : List Addr} {g gT : Nat} {L : List Tk} {i l : Nat} (h : Ps w p g gT L i l) (hE : Ya L) (hi : i + 1 < L.length) :
 Calls Tryz.prog 224 #[.pointer (some ⟨g, 0, none⟩), .int .i64 23, .slice none 0 0] w fun e w' => Zo p g gT L l w e w' (leave0O L i) := by
 have HP := Zb h
 have HE := Zb hE
 have HI := Zb hi
 have hb0 := Zb (Zd w Zh)
 have hz0 := Zb (ZG w)
 have H0 := Zb (h.below hb0.out)
 obtain ⟨out, ho⟩ : ∃ out, leave0O L i = out := ⟨_, rfl⟩
 rw [ho]
 have HW := Zb ho
 clear h hE ho hi
 unfold Zh at *
 go_enter Tryz.func224, Tryz.ntmps224
 go_wp2_with fail
 generalize w.alloc _ = w0 at *
 refine (Yt H0.out (23) HI.out).mono ?_
 rintro e w1 ⟨rfl, r1, r2⟩
 have S2 := Zb (Sn.start HP.out hb0.out hz0.out r1 r2 (23) (Zk L i).pos ⟨#[]⟩ 0 0)
 clear r1 r2 hb0 hz0 H0
 go_wp2_with fail
 generalize w1.alloc _ = w2 at *
 generalize w1.heap.size = n at *
 have hz := S2.out.ltz
 have hn := S2.out.lt
 refine (all0_any _ _).mono ?_
 rintro e w3 ⟨rfl, rfl⟩
 obtain ⟨⟨fr0, fr1, fr2, fr3, fr4, fr5, fr6, fr7, fr8⟩, ce0, ce1, ce2, ce3, ce4, ce5, ce6, ce7, ce8⟩ := S2.out.vr.all
 have S4 := Zb (S2.out.setKids hz hn (C := w3.heap.size) (ks' := []) (by unfold Zt; rfl))
 clear S2
 go_wp2_with fail
 clear fr0 fr1 fr2 fr3 fr4 fr5 fr6 fr7 fr8 ce0 ce1 ce2 ce3 ce4 ce5 ce6 ce7 ce8
 have e4 : (w3.setCell ⟨n, 8, none⟩ (.slice none 0 0)).heap.size = w3.heap.size := by simp
 generalize w3.setCell ⟨n, 8, none⟩ (.slice none 0 0) = w4 at *
 rw [← e4]
 clear e4
 refine (Zx S4.out.pr HE.out YL (by decide)).mono ?_
 rintro e w5 (⟨c5, rfl, r2⟩ | ⟨c5, rfl, r1, r2⟩)
 · have hw := HW.out
   simp only [leave0O, ZX, if_neg c5] at hw
   subst hw
   exact ⟨rfl, rfl, S4.out.tn.trans r2⟩
 have C5 := Zb c5
 have S5 := Zb (S4.out.call r1 r2)
 clear c5 r1 r2 S4
 obtain ⟨⟨fz0, fz1, fz2, fz3, fz4, fz5, fz6, fz7, fz8⟩, bz0, bz1, bz2, bz3, bz4, bz5, bz6, bz7, bz8⟩ := S5.out.zr.all
 obtain ⟨_, cg0, cg1, cg2, cg3, cg4, cg5, cg6, cg7, cg8⟩ := S5.out.vr.all
 obtain ⟨_, rfl, z9, v9, p9, t9⟩ := S5.out.done
 have Z9 := Zb z9
 have D9 := Zb (And.intro v9 (And.intro p9 t9))
 clear z9 v9 p9 t9 S5
 go_wp2_with fail
 refine Zg (w.heap.size) rfl rfl Z9.out rfl ?_
 have hw := HW.out
 simp only [leave0O, ZX, if_pos C5.out] at hw
 subst hw
 exact ⟨_, rfl, D9.out⟩
theorem leaves1_any {w : World} {p : List Addr} {g gT : Nat} {L : List Tk} {i l : Nat} (h : Ps w p g gT L i l) (hE : Ya L) (hi : i + 1 < L.length) (b c : Nat) (hbg : b ≠ g) (hc : w.cell? ⟨b, 0, none⟩ = some (.func (.func 32) #[.pointer (some ⟨g, 0, none⟩)] #[])) (r : Out) (hr : ZS 32 p g gT L l (i + 1) r) :
 Calls Tryz.prog 224 #[.pointer (some ⟨g, 0, none⟩), .int .i64 24, .slice (some ⟨b, 0, none⟩) 1 c] w fun e w' => Zo p g gT L l w e w' (leave1O L i r) := by
 have HP := Zb h
 have HE := Zb hE
 have HI := Zb hi
 have HC := Zb hc
 have HR := Zb hr
 have hb0 := Zb (Zd w Zh)
 have hz0 := Zb (ZG w)
 have H0 := Zb (h.below hb0.out)
 obtain ⟨out, ho⟩ : ∃ out, leave1O L i r = out := ⟨_, rfl⟩
 rw [ho]
 have HW := Zb ho
 clear h hE ho hi hc hr
 unfold Zh at *
 go_enter Tryz.func224, Tryz.ntmps224
 go_wp2_with fail
 generalize w.alloc _ = w0 at *
 refine (Yt H0.out (24) HI.out).mono ?_
 rintro e w1 ⟨rfl, r1, r2⟩
 have S2 := Zb (Sn.start HP.out hb0.out hz0.out r1 r2 (24) (Zk L i).pos ⟨#[]⟩ 0 0)
 clear r1 r2 hb0 hz0 H0
 go_wp2_with fail
 generalize w1.alloc _ = w2 at *
 generalize w1.heap.size = n at *
 have hz := S2.out.ltz
 have hn := S2.out.lt
 refine (all_treeparserexpr S2.out.pr b c r HR.out (S2.out.tn.cell hbg HC.out)).mono ?_
 intro e w3 hp
 rcases hp.both with ⟨kb, jb, c3, rfl, r2⟩ | ⟨nd1, gk, ck, j3, c3, rfl, hk, r1, r2⟩
 · have hw := HW.out
   simp only [leave1O, c3] at hw
   subst hw
   exact ⟨rfl, rfl, S2.out.tn.trans r2⟩
 have K3 := Zb hk
 have C3 := Zb c3
 have S3 := Zb (S2.out.call r1 r2)
 clear c3 r1 r2 hk S2
 have hc3 := C3.out
 subst hc3
 obtain ⟨⟨fr0, fr1, fr2, fr3, fr4, fr5, fr6, fr7, fr8⟩, ce0, ce1, ce2, ce3, ce4, ce5, ce6, ce7, ce8⟩ := S3.out.vr.all
 have S4 := Zb (S3.out.setKids hz hn K3.out)
 clear S3
 go_wp2_with fail
 clear fr0 fr1 fr2 fr3 fr4 fr5 fr6 fr7 fr8 ce0 ce1 ce2 ce3 ce4 ce5 ce6 ce7 ce8
 have e4 : (w3.setCell ⟨n, 8, none⟩ (.slice (some ⟨gk, 0, none⟩) 1 ck)).heap.size = w3.heap.size := by simp
 generalize w3.setCell ⟨n, 8, none⟩ (.slice (some ⟨gk, 0, none⟩) 1 ck) = w4 at *
 rw [← e4]
 clear e4
 refine (Zx S4.out.pr HE.out YL (by decide)).mono ?_
 rintro e w5 (⟨c5, rfl, r2⟩ | ⟨c5, rfl, r1, r2⟩)
 · have hw := HW.out
   simp only [leave1O, ZX, if_neg c5] at hw
   subst hw
   exact ⟨rfl, rfl, S4.out.tn.trans r2⟩
 have C5 := Zb c5
 have S5 := Zb (S4.out.call r1 r2)
 clear c5 r1 r2 S4
 obtain ⟨⟨fz0, fz1, fz2, fz3, fz4, fz5, fz6, fz7, fz8⟩, bz0, bz1, bz2, bz3, bz4, bz5, bz6, bz7, bz8⟩ := S5.out.zr.all
 obtain ⟨_, cg0, cg1, cg2, cg3, cg4, cg5, cg6, cg7, cg8⟩ := S5.out.vr.all
 obtain ⟨_, rfl, z9, v9, p9, t9⟩ := S5.out.done
 have Z9 := Zb z9
 have D9 := Zb (And.intro v9 (And.intro p9 t9))
 clear z9 v9 p9 t9 S5
 go_wp2_with fail
 refine Zg (w.heap.size) rfl rfl Z9.out rfl ?_
 have hw := HW.out
 simp only [leave1O, ZX, if_pos C5.out] at hw
 subst hw
 exact ⟨_, rfl, D9.out⟩
def Bt (A B k : Nat) : Prop := A < k /\ k < B
structure Ff (wr : World) (A m : Nat) (kd ps : Int) (nm : ByteArray) (t nz z ob bi : Int) (ks : List Nd) (a : Option Addr) (len ck : Nat) : Prop where
 vr : Nod wr m (.int .i64 kd) (.int .i64 ps) (.string nm) (.int .i64 t) (.int .i64 nz) (.int .i64 z) (.int .i64 ob) (.int .u64 bi) (.slice a len ck)
 kv : Zt wr (Bt A m) ks (.slice a len ck)
theorem Ff.tn {wr w' : World} {A m q : Nat} {kd ps : Int} {nm : ByteArray} {t nz z ob bi : Int} {ks : List Nd} {a : Option Addr} {len ck : Nat} (h : Ff wr A m kd ps nm t nz z ob bi ks a len ck) (r : Tn q wr w') (hq : q <= A /\ q ≠ m ∨ m < q) : Ff w' A m kd ps nm t nz z ob bi ks a len ck :=
 ⟨h.vr.tn r (by omega), h.kv.tnS r (fun e => by have h1 := e.1; have h2 := e.2; omega)⟩
theorem Ff.bel {wr w' : World} {A m : Nat} {kd ps : Int} {nm : ByteArray} {t nz z ob bi : Int} {ks : List Nd} {a : Option Addr} {len ck : Nat} (h : Ff wr A m kd ps nm t nz z ob bi ks a len ck) (r : Below wr.heap.size wr w') : Ff w' A m kd ps nm t nz z ob bi ks a len ck := ⟨h.vr.bel r, h.kv.bel r⟩
theorem Ff.drew {wr : World} {A m : Nat} {kd ps : Int} {nm : ByteArray} {t nz z ob bi : Int} {ks : List Nd} {a : Option Addr} {len ck : Nat} (h : Ff wr A m kd ps nm t nz z ob bi ks a len ck) : Ff wr.drew A m kd ps nm t nz z ob bi ks a len ck := h.bel (Zm (Below.refl _ _))
theorem Sn.setKids2 {w wr : World} {p : List Addr} {g gT : Nat} {L : List Tk} {i l z n : Nat} {kd ps : Int} {nm : ByteArray} {t nz : Int} {a : Option Addr} {len ck : Nat} {ks : List Nd} {a' : Option Addr} {len' ck' : Nat} {ks' : List Nd} (h : Sn w wr p g gT L i l z n kd ps nm t nz a len ck ks) (hk : Zt wr (Ot w.heap.size z n) ks' (.slice a' len' ck')) : Sn w (wr.setCell ⟨n, 8, none⟩ (.slice a' len' ck')) p g gT L i l z n kd ps nm t nz a' len' ck' ks' := by
 obtain ⟨x, s⟩ := Zs h.vr 8 (.slice a' len' ck')
 obtain ⟨k1, k2, k3, k4⟩ := h.own s
 exact ⟨k1, k2, k3, x, hk.tnS s (fun e => e.2.2 rfl), h.ng, h.nT, h.nn, h.nz', h.ne⟩
theorem wordFirst_any {w : World} {p : List Addr} {g gT : Nat} {L : List Tk} {i l : Nat} (h : Ps w p g gT L i l) (hE : Ya L) (hl : l <= 16) (tg : Out) (ex exIn : Nat -> Out) (htg : ZS 221 p g gT L l i tg) (hex : ∀ n j, tg = .ok n j -> ZS 32 p g gT L l (j + 1) (ex (j + 1))) (hge : ∀ j m j', exIn j = .ok m j' -> j <= j') (hin : l ≠ 16 -> ∀ n j, tg = .ok n j -> ∀ j', j + 1 <= j' -> ZS 32 p g gT L (l + 1) j' (exIn j')) :
 Calls Tryz.prog 225 #[.pointer (some ⟨g, 0, none⟩)] w fun e w' => Zo p g gT L l w e w' (Zu L l tg ex exIn) := by
 have HP := Zb h
 have HE := Zb hE
 have HT := Zb htg
 have HX := Zb hex
 have HG := Zb hge
 have HIN := Zb hin
 have hb0 := Zb (Zd w Zh)
 have hz0 := Zb (ZG w)
 have H0 := Zb (h.below hb0.out)
 obtain ⟨out, ho⟩ : ∃ out, Zu L l tg ex exIn = out := ⟨_, rfl⟩
 rw [ho]
 have HW := Zb ho
 clear h hE ho htg hex hge hin
 unfold Zh at *
 go_enter Tryz.func225, Tryz.ntmps225
 go_wp2_with fail
 generalize w.alloc _ = w0 at *
 refine (HT.out _ H0.out).mono ?_
 intro e w1 hp
 rcases hp.both with ⟨kb, jb, c1, rfl, r2⟩ | ⟨kd', ps', nm', t', nz', z', ob', bi', ks', a', len', ck', j, c1, rfl, hk, r1, r2⟩
 · have hw := HW.out
   simp only [Zu, c1] at hw
   subst hw
   exact ⟨rfl, rfl, (Tn.of_bel hb0.out).trans r2⟩
 have C1 := Zb c1
 have hw0 : w.heap.size < w0.heap.size := Ze hz0.out
 have hw1 := r2.size
 have hgw := HP.out.lt_g
 have hbF := Zd w1 (.cells #[.int .i64 kd', .int .i64 ps', .string nm', .int .i64 t', .int .i64 nz', .int .i64 z', .int .i64 ob', .int .u64 bi', .slice a' len' ck'] 29)
 have S1 := Zb (Sn.start HP.out hb0.out hz0.out (r1.below hbF) (r2.trans (Tn.of_bel hbF)) 0 ps' ⟨#[]⟩ 0 0)
 have hs1 : (w1.alloc (.cells #[.int .i64 kd', .int .i64 ps', .string nm', .int .i64 t', .int .i64 nz', .int .i64 z', .int .i64 ob', .int .u64 bi', .slice a' len' ck'] 29)).heap.size = w1.heap.size + 1 := by simp
 have hbN := Zd (w1.alloc (.cells #[.int .i64 kd', .int .i64 ps', .string nm', .int .i64 t', .int .i64 nz', .int .i64 z', .int .i64 ob', .int .u64 bi', .slice a' len' ck'] 29)) (.cells #[.int .i64 0, .int .i64 ps', .string ⟨#[]⟩, .int .i64 0, .int .i64 0, .int .i64 0, .int .i64 0, .int .u64 0, .slice none 0 0] 29)
 have F1 : Hid (Ff (w1.alloc (.cells #[.int .i64 kd', .int .i64 ps', .string nm', .int .i64 t', .int .i64 nz', .int .i64 z', .int .i64 ob', .int .u64 bi', .slice a' len' ck'] 29)) w.heap.size w1.heap.size kd' ps' nm' t' nz' z' ob' bi' ks' a' len' ck') := ⟨B_ _ _, Zt.keep (S := fun k => Fr w0.heap.size k /\ k < w1.heap.size) (fun k hk => ⟨Nat.lt_of_lt_of_le hw0 hk.1, hk.2⟩) (fun k h2 _ => hbF.block k h2.2) _ _ hk.within⟩
 have F1 := Zb (F1.out.bel hbN)
 have e2 : ((w1.alloc (.cells #[.int .i64 kd', .int .i64 ps', .string nm', .int .i64 t', .int .i64 nz', .int .i64 z', .int .i64 ob', .int .u64 bi', .slice a' len' ck'] 29)).alloc (.cells #[.int .i64 0, .int .i64 ps', .string ⟨#[]⟩, .int .i64 0, .int .i64 0, .int .i64 0, .int .i64 0, .int .u64 0, .slice none 0 0] 29)).heap.size = w1.heap.size + 1 + 1 := by simp
 rw [hs1] at S1
 have hgm : g <= w.heap.size /\ g ≠ w1.heap.size := by omega
 obtain ⟨_, cf0, cf1, cf2, _⟩ := F1.out.vr.all
 clear c1 hk r1 r2 hbF hbN hb0 hz0 H0 hs1 HT hw0 hw1
 by_cases hk28 : kd' = 28
 · subst hk28
   go_wp2_with fail
   clear cf0 cf1 cf2
   generalize (w1.alloc _).alloc _ = w2 at *
   generalize w1.heap.size = n1 at *
   obtain ⟨n, hn⟩ : ∃ n, n = n1 + 1 := ⟨_, rfl⟩
   rw [← hn] at S1 e2 ⊢
   have hmn : n1 < n := by omega
   clear hn
   have S2 := Zb S1.out
   have F2 := Zb F1.out
   clear S1 F1
   rw [← e2]
   clear e2
   refine (sees_both S2.out.pr bOpen).mono ?_
   rintro e w3 (⟨c3, rfl, hb⟩ | ⟨c3, rfl, hb⟩)
   · have F3 := Zb (F2.out.bel hb)
     have C3 := Zb c3
     have S3 := Zb (S2.out.bel hb)
     clear c3 hb F2 S2
     go_wp2_with fail
     refine wp_region_any ZI ?_
     change wpAny _ _ _ _ _ _ _ (World.drew _)
     have SW0 := Zb S3.out.drew
     have FW0 := Zb F3.out.drew
     clear S3 F3
     generalize World.drew w3 = W0 at *
     refine T_ 0 (v := ?_) (fun w => ?_) ?_
     rotate_left 1
     · (go_simp <;> with_reducible rfl)
     simp only [Act.put, S_]
     refine T_ 2 (v := ?_) (fun w => ?_) ?_
     rotate_left 1
     · (go_simp <;> with_reducible rfl)
     simp only [Act.put, S_]
     refine wpAny_ready (rs := [1, 3]) (by kernel_rfl) (by decide) ?_
     refine AllReady.cons rfl (fun K1 hK1 => ?_) (AllReady.cons rfl (fun K1 hK1 => ?_) AllReady.nil)
     · obtain ⟨_, _, _, yq, _⟩ := FW0.out.vr.all
       go_simp
       refine hK1 _ _ ?_
       clear hK1 K1 yq
       refine R_ 3 (fun K1 hK1 => ?_)
       obtain ⟨⟨fr0, fr1, fr2, fr3, fr4, fr5, fr6, fr7, fr8⟩, ce0, ce1, ce2, ce3, ce4, ce5, ce6, ce7, ce8⟩ := SW0.out.vr.all
       go_simp
       have SW1 := Zb (SW0.out.setK 13)
       have FW1 := Zb (FW0.out.tn (Zs SW0.out.vr 0 (.int .i64 13)).2 (.inr hmn))
       clear fr0 fr1 fr2 fr3 fr4 fr5 fr6 fr7 fr8 ce0 ce1 ce2 ce3 ce4 ce5 ce6 ce7 ce8 SW0 FW0
       generalize W0.setCell ⟨n, 0, none⟩ (.int .i64 13) = W1 at *
       refine hK1 _ _ ?_
       clear hK1 K1
       refine T_ 4 (v := ?_) (fun w => ?_) ?_
       rotate_left 1
       · (go_simp <;> with_reducible rfl)
       simp only [Act.put, S_]
       refine R_ 5 (fun K1 hK1 => ?_)
       obtain ⟨⟨fr0, fr1, fr2, fr3, fr4, fr5, fr6, fr7, fr8⟩, ce0, ce1, ce2, ce3, ce4, ce5, ce6, ce7, ce8⟩ := SW1.out.vr.all
       go_simp
       have SW2 := Zb (SW1.out.setName nm')
       have FW2 := Zb (FW1.out.tn (Zs SW1.out.vr 2 (.string nm')).2 (.inr hmn))
       clear fr0 fr1 fr2 fr3 fr4 fr5 fr6 fr7 fr8 ce0 ce1 ce2 ce3 ce4 ce5 ce6 ce7 ce8 SW1 FW1
       generalize W1.setCell ⟨n, 2, none⟩ (.string nm') = W2 at *
       refine hK1 _ _ ?_
       clear hK1 K1
       refine wpAny_done (by kernel_rfl) ?_ _
       clear FW2
       obtain ⟨_, cg0, cg1, cg2, cg3, cg4, cg5, cg6, cg7, cg8⟩ := SW2.out.vr.all
       go_wp2_with fail
       clear cg0 cg1 cg2 cg3 cg4 cg5 cg6 cg7 cg8
       have hC := SW2.out.ltz
       refine (called_any SW2.out.pr HE.out hl 13 ps' nm' 0 0 exIn HG.out (fun a => HIN.out a _ _ C1.out)).mono ?_
       intro e w21 hp
       rcases hp.both with ⟨kb, jb, c21, rfl, r2⟩ | ⟨kd, ps, nm, t, nz, z, ob, bi, ks, a, len, ck, j21, c21, rfl, hk, r1, r2⟩
       · have hw := HW.out
         simp only [Zu, Nd.kind, Nd.pos, Nd.name, C1.out, true_and, if_pos C3.out, c21] at hw
         subst hw
         exact ⟨rfl, rfl, SW2.out.tn.trans r2⟩
       have Z21 := Zb (SW2.out.zn.call r1 r2)
       have C21 := Zb c21
       clear c21 r1 r2 SW2
       obtain ⟨⟨fz0, fz1, fz2, fz3, fz4, fz5, fz6, fz7, fz8⟩, bz0, bz1, bz2, bz3, bz4, bz5, bz6, bz7, bz8⟩ := Z21.out.zr.all
       obtain ⟨_, rfl, z9, v9, p9, t9⟩ := Z21.out.done (kd := kd) (ps := ps) (nm := nm) (t := t) (nz := nz) (z := z) (ob := ob) (bi := bi) hC hk
       have Z9 := Zb z9
       have D9 := Zb (And.intro v9 (And.intro p9 t9))
       clear z9 v9 p9 t9 hk Z21
       go_wp2_with fail
       refine Zg w.heap.size rfl rfl Z9.out rfl ?_
       have hw := HW.out
       simp only [Zu, Nd.kind, Nd.pos, Nd.name, C1.out, true_and, if_pos C3.out, C21.out] at hw
       subst hw
       exact ⟨_, rfl, D9.out⟩
     · obtain ⟨⟨fr0, fr1, fr2, fr3, fr4, fr5, fr6, fr7, fr8⟩, ce0, ce1, ce2, ce3, ce4, ce5, ce6, ce7, ce8⟩ := SW0.out.vr.all
       go_simp
       have SW1 := Zb (SW0.out.setK 13)
       have FW1 := Zb (FW0.out.tn (Zs SW0.out.vr 0 (.int .i64 13)).2 (.inr hmn))
       clear fr0 fr1 fr2 fr3 fr4 fr5 fr6 fr7 fr8 ce0 ce1 ce2 ce3 ce4 ce5 ce6 ce7 ce8 SW0 FW0
       generalize W0.setCell ⟨n, 0, none⟩ (.int .i64 13) = W1 at *
       refine hK1 _ _ ?_
       clear hK1 K1
       refine R_ 1 (fun K1 hK1 => ?_)
       obtain ⟨_, _, _, yq, _⟩ := FW1.out.vr.all
       go_simp
       refine hK1 _ _ ?_
       clear hK1 K1 yq
       refine T_ 4 (v := ?_) (fun w => ?_) ?_
       rotate_left 1
       · (go_simp <;> with_reducible rfl)
       simp only [Act.put, S_]
       refine R_ 5 (fun K1 hK1 => ?_)
       obtain ⟨⟨fr0, fr1, fr2, fr3, fr4, fr5, fr6, fr7, fr8⟩, ce0, ce1, ce2, ce3, ce4, ce5, ce6, ce7, ce8⟩ := SW1.out.vr.all
       go_simp
       have SW2 := Zb (SW1.out.setName nm')
       have FW2 := Zb (FW1.out.tn (Zs SW1.out.vr 2 (.string nm')).2 (.inr hmn))
       clear fr0 fr1 fr2 fr3 fr4 fr5 fr6 fr7 fr8 ce0 ce1 ce2 ce3 ce4 ce5 ce6 ce7 ce8 SW1 FW1
       generalize W1.setCell ⟨n, 2, none⟩ (.string nm') = W2 at *
       refine hK1 _ _ ?_
       clear hK1 K1
       refine wpAny_done (by kernel_rfl) ?_ _
       clear FW2
       obtain ⟨_, cg0, cg1, cg2, cg3, cg4, cg5, cg6, cg7, cg8⟩ := SW2.out.vr.all
       go_wp2_with fail
       clear cg0 cg1 cg2 cg3 cg4 cg5 cg6 cg7 cg8
       have hC := SW2.out.ltz
       refine (called_any SW2.out.pr HE.out hl 13 ps' nm' 0 0 exIn HG.out (fun a => HIN.out a _ _ C1.out)).mono ?_
       intro e w21 hp
       rcases hp.both with ⟨kb, jb, c21, rfl, r2⟩ | ⟨kd, ps, nm, t, nz, z, ob, bi, ks, a, len, ck, j21, c21, rfl, hk, r1, r2⟩
       · have hw := HW.out
         simp only [Zu, Nd.kind, Nd.pos, Nd.name, C1.out, true_and, if_pos C3.out, c21] at hw
         subst hw
         exact ⟨rfl, rfl, SW2.out.tn.trans r2⟩
       have Z21 := Zb (SW2.out.zn.call r1 r2)
       have C21 := Zb c21
       clear c21 r1 r2 SW2
       obtain ⟨⟨fz0, fz1, fz2, fz3, fz4, fz5, fz6, fz7, fz8⟩, bz0, bz1, bz2, bz3, bz4, bz5, bz6, bz7, bz8⟩ := Z21.out.zr.all
       obtain ⟨_, rfl, z9, v9, p9, t9⟩ := Z21.out.done (kd := kd) (ps := ps) (nm := nm) (t := t) (nz := nz) (z := z) (ob := ob) (bi := bi) hC hk
       have Z9 := Zb z9
       have D9 := Zb (And.intro v9 (And.intro p9 t9))
       clear z9 v9 p9 t9 hk Z21
       go_wp2_with fail
       refine Zg w.heap.size rfl rfl Z9.out rfl ?_
       have hw := HW.out
       simp only [Zu, Nd.kind, Nd.pos, Nd.name, C1.out, true_and, if_pos C3.out, C21.out] at hw
       subst hw
       exact ⟨_, rfl, D9.out⟩
   have F3 := Zb (F2.out.bel hb)
   have C3 := Zb c3
   have S3 := Zb (S2.out.bel hb)
   clear c3 hb F2 S2
   obtain ⟨_, cf0, _⟩ := F3.out.vr.all
   go_wp2_with fail
   clear cf0
   refine (taken_both S3.out.pr HE.out bLet (by decide)).mono ?_
   rintro e w4 (⟨c4, rfl, r1, r2⟩ | ⟨c4, rfl, r1, r2⟩)
   · have F4 := Zb (F3.out.tn r2 (.inl hgm))
     have C4 := Zb c4
     have S4 := Zb (S3.out.call r1 r2)
     clear c4 r1 r2 F3 S3
     go_wp2_with fail
     refine wp_region_any ZI ?_
     change wpAny _ _ _ _ _ _ _ (World.drew _)
     have SW0 := Zb S4.out.drew
     have FW0 := Zb F4.out.drew
     clear S4 F4
     generalize World.drew w4 = W0 at *
     refine T_ 0 (v := ?_) (fun w => ?_) ?_
     rotate_left 1
     · (go_simp <;> with_reducible rfl)
     simp only [Act.put, S_]
     refine T_ 2 (v := ?_) (fun w => ?_) ?_
     rotate_left 1
     · (go_simp <;> with_reducible rfl)
     simp only [Act.put, S_]
     refine wpAny_ready (rs := [1, 3]) (by kernel_rfl) (by decide) ?_
     refine AllReady.cons rfl (fun K1 hK1 => ?_) (AllReady.cons rfl (fun K1 hK1 => ?_) AllReady.nil)
     · obtain ⟨_, _, _, yq, _⟩ := FW0.out.vr.all
       go_simp
       refine hK1 _ _ ?_
       clear hK1 K1 yq
       refine R_ 3 (fun K1 hK1 => ?_)
       obtain ⟨⟨fr0, fr1, fr2, fr3, fr4, fr5, fr6, fr7, fr8⟩, ce0, ce1, ce2, ce3, ce4, ce5, ce6, ce7, ce8⟩ := SW0.out.vr.all
       go_simp
       have SW1 := Zb (SW0.out.setK 11)
       have FW1 := Zb (FW0.out.tn (Zs SW0.out.vr 0 (.int .i64 11)).2 (.inr hmn))
       clear fr0 fr1 fr2 fr3 fr4 fr5 fr6 fr7 fr8 ce0 ce1 ce2 ce3 ce4 ce5 ce6 ce7 ce8 SW0 FW0
       generalize W0.setCell ⟨n, 0, none⟩ (.int .i64 11) = W1 at *
       refine hK1 _ _ ?_
       clear hK1 K1
       refine T_ 4 (v := ?_) (fun w => ?_) ?_
       rotate_left 1
       · (go_simp <;> with_reducible rfl)
       simp only [Act.put, S_]
       refine R_ 5 (fun K1 hK1 => ?_)
       obtain ⟨⟨fr0, fr1, fr2, fr3, fr4, fr5, fr6, fr7, fr8⟩, ce0, ce1, ce2, ce3, ce4, ce5, ce6, ce7, ce8⟩ := SW1.out.vr.all
       go_simp
       have SW2 := Zb (SW1.out.setName nm')
       have FW2 := Zb (FW1.out.tn (Zs SW1.out.vr 2 (.string nm')).2 (.inr hmn))
       clear fr0 fr1 fr2 fr3 fr4 fr5 fr6 fr7 fr8 ce0 ce1 ce2 ce3 ce4 ce5 ce6 ce7 ce8 SW1 FW1
       generalize W1.setCell ⟨n, 2, none⟩ (.string nm') = W2 at *
       refine hK1 _ _ ?_
       clear hK1 K1
       refine wpAny_done (by kernel_rfl) ?_ _
       clear FW2
       go_wp2_with fail
       have hz := SW2.out.ltz
       have hn := SW2.out.lt
       refine (YB SW2.out.pr _ (HX.out _ _ C1.out)).mono ?_
       intro e w21 hp
       rcases hp.both with ⟨kb, jb, c21, rfl, r2⟩ | ⟨nd1, gk, cq, jq, c21, rfl, hk, r1, r2⟩
       · have hw := HW.out
         simp only [Zu, Nd.kind, Nd.pos, Nd.name, C1.out, true_and, if_neg C3.out, if_pos C4.out, c21] at hw
         subst hw
         exact ⟨rfl, rfl, SW2.out.tn.trans r2⟩
       have K21 := Zb hk
       have C21 := Zb c21
       have S21 := Zb (SW2.out.call r1 r2)
       clear c21 r1 r2 hk SW2
       obtain ⟨⟨fr0, fr1, fr2, fr3, fr4, fr5, fr6, fr7, fr8⟩, ce0, ce1, ce2, ce3, ce4, ce5, ce6, ce7, ce8⟩ := S21.out.vr.all
       have S22 := Zb (S21.out.setKids hz hn K21.out)
       clear S21
       go_wp2_with fail
       clear fr0 fr1 fr2 fr3 fr4 fr5 fr6 fr7 fr8 ce0 ce1 ce2 ce3 ce4 ce5 ce6 ce7 ce8
       have e22 : (w21.setCell ⟨n, 8, none⟩ (.slice (some ⟨gk, 0, none⟩) 1 cq)).heap.size = w21.heap.size := by simp
       generalize w21.setCell ⟨n, 8, none⟩ (.slice (some ⟨gk, 0, none⟩) 1 cq) = w22 at *
       rw [← e22]
       clear e22
       refine (Zx S22.out.pr HE.out YL (by decide)).mono ?_
       rintro e w23 (⟨c23, rfl, r2⟩ | ⟨c23, rfl, r1, r2⟩)
       · have hw := HW.out
         simp only [Zu, Nd.kind, Nd.pos, Nd.name, C1.out, true_and, if_neg C3.out, if_pos C4.out, C21.out, ZX, if_neg c23] at hw
         subst hw
         exact ⟨rfl, rfl, S22.out.tn.trans r2⟩
       have C23 := Zb c23
       have S23 := Zb (S22.out.call r1 r2)
       clear c23 r1 r2 S22
       obtain ⟨⟨fz0, fz1, fz2, fz3, fz4, fz5, fz6, fz7, fz8⟩, bz0, bz1, bz2, bz3, bz4, bz5, bz6, bz7, bz8⟩ := S23.out.zr.all
       obtain ⟨_, cg0, cg1, cg2, cg3, cg4, cg5, cg6, cg7, cg8⟩ := S23.out.vr.all
       obtain ⟨_, rfl, z9, v9, p9, t9⟩ := S23.out.done
       have Z9 := Zb z9
       have D9 := Zb (And.intro v9 (And.intro p9 t9))
       clear z9 v9 p9 t9 S23
       go_wp2_with fail
       refine Zg (w.heap.size) rfl rfl Z9.out rfl ?_
       have hw := HW.out
       simp only [Zu, Nd.kind, Nd.pos, Nd.name, C1.out, true_and, if_neg C3.out, if_pos C4.out, C21.out, ZX, if_pos C23.out] at hw
       subst hw
       exact ⟨_, rfl, D9.out⟩
     · obtain ⟨⟨fr0, fr1, fr2, fr3, fr4, fr5, fr6, fr7, fr8⟩, ce0, ce1, ce2, ce3, ce4, ce5, ce6, ce7, ce8⟩ := SW0.out.vr.all
       go_simp
       have SW1 := Zb (SW0.out.setK 11)
       have FW1 := Zb (FW0.out.tn (Zs SW0.out.vr 0 (.int .i64 11)).2 (.inr hmn))
       clear fr0 fr1 fr2 fr3 fr4 fr5 fr6 fr7 fr8 ce0 ce1 ce2 ce3 ce4 ce5 ce6 ce7 ce8 SW0 FW0
       generalize W0.setCell ⟨n, 0, none⟩ (.int .i64 11) = W1 at *
       refine hK1 _ _ ?_
       clear hK1 K1
       refine R_ 1 (fun K1 hK1 => ?_)
       obtain ⟨_, _, _, yq, _⟩ := FW1.out.vr.all
       go_simp
       refine hK1 _ _ ?_
       clear hK1 K1 yq
       refine T_ 4 (v := ?_) (fun w => ?_) ?_
       rotate_left 1
       · (go_simp <;> with_reducible rfl)
       simp only [Act.put, S_]
       refine R_ 5 (fun K1 hK1 => ?_)
       obtain ⟨⟨fr0, fr1, fr2, fr3, fr4, fr5, fr6, fr7, fr8⟩, ce0, ce1, ce2, ce3, ce4, ce5, ce6, ce7, ce8⟩ := SW1.out.vr.all
       go_simp
       have SW2 := Zb (SW1.out.setName nm')
       have FW2 := Zb (FW1.out.tn (Zs SW1.out.vr 2 (.string nm')).2 (.inr hmn))
       clear fr0 fr1 fr2 fr3 fr4 fr5 fr6 fr7 fr8 ce0 ce1 ce2 ce3 ce4 ce5 ce6 ce7 ce8 SW1 FW1
       generalize W1.setCell ⟨n, 2, none⟩ (.string nm') = W2 at *
       refine hK1 _ _ ?_
       clear hK1 K1
       refine wpAny_done (by kernel_rfl) ?_ _
       clear FW2
       go_wp2_with fail
       have hz := SW2.out.ltz
       have hn := SW2.out.lt
       refine (YB SW2.out.pr _ (HX.out _ _ C1.out)).mono ?_
       intro e w21 hp
       rcases hp.both with ⟨kb, jb, c21, rfl, r2⟩ | ⟨nd1, gk, cq, jq, c21, rfl, hk, r1, r2⟩
       · have hw := HW.out
         simp only [Zu, Nd.kind, Nd.pos, Nd.name, C1.out, true_and, if_neg C3.out, if_pos C4.out, c21] at hw
         subst hw
         exact ⟨rfl, rfl, SW2.out.tn.trans r2⟩
       have K21 := Zb hk
       have C21 := Zb c21
       have S21 := Zb (SW2.out.call r1 r2)
       clear c21 r1 r2 hk SW2
       obtain ⟨⟨fr0, fr1, fr2, fr3, fr4, fr5, fr6, fr7, fr8⟩, ce0, ce1, ce2, ce3, ce4, ce5, ce6, ce7, ce8⟩ := S21.out.vr.all
       have S22 := Zb (S21.out.setKids hz hn K21.out)
       clear S21
       go_wp2_with fail
       clear fr0 fr1 fr2 fr3 fr4 fr5 fr6 fr7 fr8 ce0 ce1 ce2 ce3 ce4 ce5 ce6 ce7 ce8
       have e22 : (w21.setCell ⟨n, 8, none⟩ (.slice (some ⟨gk, 0, none⟩) 1 cq)).heap.size = w21.heap.size := by simp
       generalize w21.setCell ⟨n, 8, none⟩ (.slice (some ⟨gk, 0, none⟩) 1 cq) = w22 at *
       rw [← e22]
       clear e22
       refine (Zx S22.out.pr HE.out YL (by decide)).mono ?_
       rintro e w23 (⟨c23, rfl, r2⟩ | ⟨c23, rfl, r1, r2⟩)
       · have hw := HW.out
         simp only [Zu, Nd.kind, Nd.pos, Nd.name, C1.out, true_and, if_neg C3.out, if_pos C4.out, C21.out, ZX, if_neg c23] at hw
         subst hw
         exact ⟨rfl, rfl, S22.out.tn.trans r2⟩
       have C23 := Zb c23
       have S23 := Zb (S22.out.call r1 r2)
       clear c23 r1 r2 S22
       obtain ⟨⟨fz0, fz1, fz2, fz3, fz4, fz5, fz6, fz7, fz8⟩, bz0, bz1, bz2, bz3, bz4, bz5, bz6, bz7, bz8⟩ := S23.out.zr.all
       obtain ⟨_, cg0, cg1, cg2, cg3, cg4, cg5, cg6, cg7, cg8⟩ := S23.out.vr.all
       obtain ⟨_, rfl, z9, v9, p9, t9⟩ := S23.out.done
       have Z9 := Zb z9
       have D9 := Zb (And.intro v9 (And.intro p9 t9))
       clear z9 v9 p9 t9 S23
       go_wp2_with fail
       refine Zg (w.heap.size) rfl rfl Z9.out rfl ?_
       have hw := HW.out
       simp only [Zu, Nd.kind, Nd.pos, Nd.name, C1.out, true_and, if_neg C3.out, if_pos C4.out, C21.out, ZX, if_pos C23.out] at hw
       subst hw
       exact ⟨_, rfl, D9.out⟩
   · have F4 := Zb (F3.out.tn r2 (.inl hgm))
     have C4 := Zb c4
     have S4 := Zb (S3.out.call r1 r2)
     clear c4 r1 r2 F3 S3
     go_wp2_with fail
     refine (Zx S4.out.pr HE.out bSet (by decide)).mono ?_
     rintro e w5 (⟨c5, rfl, r2⟩ | ⟨c5, rfl, r1, r2⟩)
     · have hw := HW.out
       simp only [Zu, Nd.kind, Nd.pos, Nd.name, C1.out, true_and, if_neg C3.out, if_neg C4.out, if_neg c5] at hw
       subst hw
       exact ⟨rfl, rfl, S4.out.tn.trans r2⟩
     have F5 := Zb (F4.out.tn r2 (.inl hgm))
     have C5 := Zb c5
     have S5 := Zb (S4.out.call r1 r2)
     clear c5 r1 r2 F4 S4
     obtain ⟨⟨fr0, fr1, fr2, fr3, fr4, fr5, fr6, fr7, fr8⟩, ce0, ce1, ce2, ce3, ce4, ce5, ce6, ce7, ce8⟩ := S5.out.vr.all
     have S6 := Zb (S5.out.setK 10)
     have F6 := Zb (F5.out.tn (Zs S5.out.vr 0 (.int .i64 10)).2 (.inr hmn))
     clear S5 F5
     go_wp2_with fail
     clear fr0 fr1 fr2 fr3 fr4 fr5 fr6 fr7 fr8 ce0 ce1 ce2 ce3 ce4 ce5 ce6 ce7 ce8
     generalize w5.setCell ⟨n, 0, none⟩ (.int .i64 10) = w6 at *
     refine wp_region_any ZI ?_
     change wpAny _ _ _ _ _ _ _ (World.drew _)
     have SW0 := Zb S6.out.drew
     have FW0 := Zb F6.out.drew
     clear S6 F6
     generalize World.drew w6 = W0 at *
     refine T_ 1 (v := ?_) (fun w => ?_) ?_
     rotate_left 1
     · (go_simp <;> with_reducible rfl)
     simp only [Act.put, S_]
     refine wpAny_ready (rs := [0, 2]) (by kernel_rfl) (by decide) ?_
     refine AllReady.cons rfl (fun K1 hK1 => ?_) (AllReady.cons rfl (fun K1 hK1 => ?_) AllReady.nil)
     · obtain ⟨_, ce0, ce1, ce2, ce3, ce4, ce5, ce6, ce7, ce8⟩ := FW0.out.vr.all
       go_simp
       refine hK1 _ _ ?_
       clear hK1 K1 ce0 ce1 ce2 ce3 ce4 ce5 ce6 ce7 ce8
       refine R_ 2 (fun K1 hK1 => ?_)
       go_simp
       refine (HX.out _ _ C1.out _ SW0.out.pr).mono ?_
       intro e W1 hp
       rcases hp.both with ⟨kb, jb, cq, rfl, r2⟩ | ⟨kd'', ps'', nm'', t'', nz'', z'', ob'', bi'', ks'', a'', len'', ck'', jq, cq, rfl, hk, r1, r2⟩
       · have hw := HW.out
         simp only [Zu, Nd.kind, Nd.pos, Nd.name, C1.out, true_and, if_neg C3.out, if_neg C4.out, if_pos C5.out, cq] at hw
         subst hw
         exact ⟨rfl, rfl, SW0.out.tn.trans r2⟩
       have CQ := Zb cq
       have FW1 := Zb (FW0.out.tn r2 (.inl hgm))
       have JW1 := Zb (hk.lowS (fun x hx => show Ot w.heap.size w.heap.size n x from ⟨by have : W0.heap.size <= x := hx; have := SW0.out.ltz; omega, by have : W0.heap.size <= x := hx; have := SW0.out.ltz; omega, by have : W0.heap.size <= x := hx; have := SW0.out.lt; omega⟩))
       have SW1 := Zb (SW0.out.call r1 r2)
       clear cq hk r1 r2
       refine hK1 _ _ ?_
       clear hK1 K1
       refine R_ 3 (fun K1 hK1 => ?_)
       go_simp
       have hb := Zd W1 (.cells #[.int .i64 28, .int .i64 ps', .string nm', .int .i64 t', .int .i64 nz', .int .i64 z', .int .i64 ob', .int .u64 bi', .slice a' len' ck', .int .i64 kd'', .int .i64 ps'', .string nm'', .int .i64 t'', .int .i64 nz'', .int .i64 z'', .int .i64 ob'', .int .u64 bi'', .slice a'' len'' ck''] 29)
       have kb : (W1.alloc (.cells #[.int .i64 28, .int .i64 ps', .string nm', .int .i64 t', .int .i64 nz', .int .i64 z', .int .i64 ob', .int .u64 bi', .slice a' len' ck', .int .i64 kd'', .int .i64 ps'', .string nm'', .int .i64 t'', .int .i64 nz'', .int .i64 z'', .int .i64 ob'', .int .u64 bi'', .slice a'' len'' ck''] 29)).heap[W1.heap.size]? = some (.cells #[.int .i64 28, .int .i64 ps', .string nm', .int .i64 t', .int .i64 nz', .int .i64 z', .int .i64 ob', .int .u64 bi', .slice a' len' ck', .int .i64 kd'', .int .i64 ps'', .string nm'', .int .i64 t'', .int .i64 nz'', .int .i64 z'', .int .i64 ob'', .int .u64 bi'', .slice a'' len'' ck''] 29 (0, 0)) := B_ _ _
       have KK := Zb (Yj kb ((FW1.out.bel hb).kv.lowS (fun x hx => show Ot w.heap.size w.heap.size n x from ⟨by have := hx.1; omega, by have := hx.1; omega, by have := hx.2; omega⟩)) (JW1.out.bel hb) (show Ot w.heap.size w.heap.size n W1.heap.size from ⟨by have := SW1.out.ltz; omega, by have := SW1.out.ltz; omega, by have := SW1.out.lt; omega⟩))
       have SW2 := Zb (SW1.out.bel hb)
       clear hb kb JW1
       generalize W1.alloc _ = W2 at *
       generalize W1.heap.size = bx at *
       refine hK1 _ _ ?_
       clear hK1 K1
       refine T_ 4 (v := ?_) (fun w => ?_) ?_
       rotate_left 1
       · (go_simp <;> with_reducible rfl)
       simp only [Act.put, S_]
       refine R_ 5 (fun K1 hK1 => ?_)
       obtain ⟨⟨fr0, fr1, fr2, fr3, fr4, fr5, fr6, fr7, fr8⟩, ce0, ce1, ce2, ce3, ce4, ce5, ce6, ce7, ce8⟩ := SW2.out.vr.all
       go_simp
       refine hK1 _ _ ?_
       clear hK1 K1 fr0 fr1 fr2 fr3 fr4 fr5 fr6 fr7 fr8 ce0 ce1 ce2 ce3 ce4 ce5 ce6 ce7 ce8
       refine wpAny_done (by kernel_rfl) ?_ _
       have e9 : (W2.setCell ⟨n, 8, none⟩ (.slice (some ⟨bx, 0, none⟩) 2 2)).heap.size = W2.heap.size := by simp
       have S30 := Zb (SW2.out.setKids2 KK.out)
       clear KK
       generalize W2.setCell ⟨n, 8, none⟩ (.slice (some ⟨bx, 0, none⟩) 2 2) = w30 at *
       go_wp2_with fail
       try rw [← e9]
       clear e9
       refine (Zx S30.out.pr HE.out YL (by decide)).mono ?_
       rintro e w31 (⟨c31, rfl, r2⟩ | ⟨c31, rfl, r1, r2⟩)
       · have hw := HW.out
         simp only [Zu, Nd.kind, Nd.pos, Nd.name, C1.out, true_and, if_neg C3.out, if_neg C4.out, if_pos C5.out, CQ.out, ZX, if_neg c31] at hw
         subst hw
         exact ⟨rfl, rfl, S30.out.tn.trans r2⟩
       have C31 := Zb c31
       have S31 := Zb (S30.out.call r1 r2)
       clear c31 r1 r2 S30
       obtain ⟨⟨fz0, fz1, fz2, fz3, fz4, fz5, fz6, fz7, fz8⟩, bz0, bz1, bz2, bz3, bz4, bz5, bz6, bz7, bz8⟩ := S31.out.zr.all
       obtain ⟨_, cg0, cg1, cg2, cg3, cg4, cg5, cg6, cg7, cg8⟩ := S31.out.vr.all
       obtain ⟨_, rfl, z9, v9, p9, t9⟩ := S31.out.done
       have Z9 := Zb z9
       have D9 := Zb (And.intro v9 (And.intro p9 t9))
       clear z9 v9 p9 t9 S31
       go_wp2_with fail
       refine Zg (w.heap.size) rfl rfl Z9.out rfl ?_
       have hw := HW.out
       simp only [Zu, Nd.kind, Nd.pos, Nd.name, C1.out, true_and, if_neg C3.out, if_neg C4.out, if_pos C5.out, CQ.out, ZX, if_pos C31.out] at hw
       subst hw
       exact ⟨_, rfl, D9.out⟩
     · go_simp
       refine (HX.out _ _ C1.out _ SW0.out.pr).mono ?_
       intro e W1 hp
       rcases hp.both with ⟨kb, jb, cq, rfl, r2⟩ | ⟨kd'', ps'', nm'', t'', nz'', z'', ob'', bi'', ks'', a'', len'', ck'', jq, cq, rfl, hk, r1, r2⟩
       · have hw := HW.out
         simp only [Zu, Nd.kind, Nd.pos, Nd.name, C1.out, true_and, if_neg C3.out, if_neg C4.out, if_pos C5.out, cq] at hw
         subst hw
         exact ⟨rfl, rfl, SW0.out.tn.trans r2⟩
       have CQ := Zb cq
       have FW1 := Zb (FW0.out.tn r2 (.inl hgm))
       have JW1 := Zb (hk.lowS (fun x hx => show Ot w.heap.size w.heap.size n x from ⟨by have : W0.heap.size <= x := hx; have := SW0.out.ltz; omega, by have : W0.heap.size <= x := hx; have := SW0.out.ltz; omega, by have : W0.heap.size <= x := hx; have := SW0.out.lt; omega⟩))
       have SW1 := Zb (SW0.out.call r1 r2)
       clear cq hk r1 r2
       refine hK1 _ _ ?_
       clear hK1 K1
       refine R_ 0 (fun K1 hK1 => ?_)
       obtain ⟨_, ce0, ce1, ce2, ce3, ce4, ce5, ce6, ce7, ce8⟩ := FW1.out.vr.all
       go_simp
       refine hK1 _ _ ?_
       clear hK1 K1 ce0 ce1 ce2 ce3 ce4 ce5 ce6 ce7 ce8
       refine R_ 3 (fun K1 hK1 => ?_)
       go_simp
       have hb := Zd W1 (.cells #[.int .i64 28, .int .i64 ps', .string nm', .int .i64 t', .int .i64 nz', .int .i64 z', .int .i64 ob', .int .u64 bi', .slice a' len' ck', .int .i64 kd'', .int .i64 ps'', .string nm'', .int .i64 t'', .int .i64 nz'', .int .i64 z'', .int .i64 ob'', .int .u64 bi'', .slice a'' len'' ck''] 29)
       have kb : (W1.alloc (.cells #[.int .i64 28, .int .i64 ps', .string nm', .int .i64 t', .int .i64 nz', .int .i64 z', .int .i64 ob', .int .u64 bi', .slice a' len' ck', .int .i64 kd'', .int .i64 ps'', .string nm'', .int .i64 t'', .int .i64 nz'', .int .i64 z'', .int .i64 ob'', .int .u64 bi'', .slice a'' len'' ck''] 29)).heap[W1.heap.size]? = some (.cells #[.int .i64 28, .int .i64 ps', .string nm', .int .i64 t', .int .i64 nz', .int .i64 z', .int .i64 ob', .int .u64 bi', .slice a' len' ck', .int .i64 kd'', .int .i64 ps'', .string nm'', .int .i64 t'', .int .i64 nz'', .int .i64 z'', .int .i64 ob'', .int .u64 bi'', .slice a'' len'' ck''] 29 (0, 0)) := B_ _ _
       have KK := Zb (Yj kb ((FW1.out.bel hb).kv.lowS (fun x hx => show Ot w.heap.size w.heap.size n x from ⟨by have := hx.1; omega, by have := hx.1; omega, by have := hx.2; omega⟩)) (JW1.out.bel hb) (show Ot w.heap.size w.heap.size n W1.heap.size from ⟨by have := SW1.out.ltz; omega, by have := SW1.out.ltz; omega, by have := SW1.out.lt; omega⟩))
       have SW2 := Zb (SW1.out.bel hb)
       clear hb kb JW1
       generalize W1.alloc _ = W2 at *
       generalize W1.heap.size = bx at *
       refine hK1 _ _ ?_
       clear hK1 K1
       refine T_ 4 (v := ?_) (fun w => ?_) ?_
       rotate_left 1
       · (go_simp <;> with_reducible rfl)
       simp only [Act.put, S_]
       refine R_ 5 (fun K1 hK1 => ?_)
       obtain ⟨⟨fr0, fr1, fr2, fr3, fr4, fr5, fr6, fr7, fr8⟩, ce0, ce1, ce2, ce3, ce4, ce5, ce6, ce7, ce8⟩ := SW2.out.vr.all
       go_simp
       refine hK1 _ _ ?_
       clear hK1 K1 fr0 fr1 fr2 fr3 fr4 fr5 fr6 fr7 fr8 ce0 ce1 ce2 ce3 ce4 ce5 ce6 ce7 ce8
       refine wpAny_done (by kernel_rfl) ?_ _
       have e9 : (W2.setCell ⟨n, 8, none⟩ (.slice (some ⟨bx, 0, none⟩) 2 2)).heap.size = W2.heap.size := by simp
       have S30 := Zb (SW2.out.setKids2 KK.out)
       clear KK
       generalize W2.setCell ⟨n, 8, none⟩ (.slice (some ⟨bx, 0, none⟩) 2 2) = w30 at *
       go_wp2_with fail
       try rw [← e9]
       clear e9
       refine (Zx S30.out.pr HE.out YL (by decide)).mono ?_
       rintro e w31 (⟨c31, rfl, r2⟩ | ⟨c31, rfl, r1, r2⟩)
       · have hw := HW.out
         simp only [Zu, Nd.kind, Nd.pos, Nd.name, C1.out, true_and, if_neg C3.out, if_neg C4.out, if_pos C5.out, CQ.out, ZX, if_neg c31] at hw
         subst hw
         exact ⟨rfl, rfl, S30.out.tn.trans r2⟩
       have C31 := Zb c31
       have S31 := Zb (S30.out.call r1 r2)
       clear c31 r1 r2 S30
       obtain ⟨⟨fz0, fz1, fz2, fz3, fz4, fz5, fz6, fz7, fz8⟩, bz0, bz1, bz2, bz3, bz4, bz5, bz6, bz7, bz8⟩ := S31.out.zr.all
       obtain ⟨_, cg0, cg1, cg2, cg3, cg4, cg5, cg6, cg7, cg8⟩ := S31.out.vr.all
       obtain ⟨_, rfl, z9, v9, p9, t9⟩ := S31.out.done
       have Z9 := Zb z9
       have D9 := Zb (And.intro v9 (And.intro p9 t9))
       clear z9 v9 p9 t9 S31
       go_wp2_with fail
       refine Zg (w.heap.size) rfl rfl Z9.out rfl ?_
       have hw := HW.out
       simp only [Zu, Nd.kind, Nd.pos, Nd.name, C1.out, true_and, if_neg C3.out, if_neg C4.out, if_pos C5.out, CQ.out, ZX, if_pos C31.out] at hw
       subst hw
       exact ⟨_, rfl, D9.out⟩
 · have hk2 : (kd' == 28) = false := by simpa using hk28
   have HK28 : Hid ((kd' = 28) = False) := by show _ = _; simp [hk28]
   go_wp2_with fail
   clear cf0 cf1 cf2
   generalize (w1.alloc _).alloc _ = w2 at *
   generalize w1.heap.size = n1 at *
   obtain ⟨n, hn⟩ : ∃ n, n = n1 + 1 := ⟨_, rfl⟩
   rw [← hn] at S1 e2 ⊢
   have hmn : n1 < n := by omega
   clear hn
   have S2 := Zb S1.out
   have F2 := Zb F1.out
   clear S1 F1
   rw [← e2]
   clear e2
   clear hk2
   refine (Zx S2.out.pr HE.out bSet (by decide)).mono ?_
   rintro e w3 (⟨c3, rfl, r2⟩ | ⟨c3, rfl, r1, r2⟩)
   · have hw := HW.out
     simp only [Zu, Nd.kind, C1.out, HK28.out, false_and, if_false, if_neg c3] at hw
     subst hw
     exact ⟨rfl, rfl, S2.out.tn.trans r2⟩
   have F3 := Zb (F2.out.tn r2 (.inl hgm))
   have C3 := Zb c3
   have S3 := Zb (S2.out.call r1 r2)
   clear c3 r1 r2 F2 S2
   obtain ⟨⟨fr0, fr1, fr2, fr3, fr4, fr5, fr6, fr7, fr8⟩, ce0, ce1, ce2, ce3, ce4, ce5, ce6, ce7, ce8⟩ := S3.out.vr.all
   have S4 := Zb (S3.out.setK 10)
   have F4 := Zb (F3.out.tn (Zs S3.out.vr 0 (.int .i64 10)).2 (.inr hmn))
   clear S3 F3
   go_wp2_with fail
   clear fr0 fr1 fr2 fr3 fr4 fr5 fr6 fr7 fr8 ce0 ce1 ce2 ce3 ce4 ce5 ce6 ce7 ce8
   generalize w3.setCell ⟨n, 0, none⟩ (.int .i64 10) = w4 at *
   refine wp_region_any ZI ?_
   change wpAny _ _ _ _ _ _ _ (World.drew _)
   have SW0 := Zb S4.out.drew
   have FW0 := Zb F4.out.drew
   clear S4 F4
   generalize World.drew w4 = W0 at *
   refine T_ 1 (v := ?_) (fun w => ?_) ?_
   rotate_left 1
   · (go_simp <;> with_reducible rfl)
   simp only [Act.put, S_]
   refine wpAny_ready (rs := [0, 2]) (by kernel_rfl) (by decide) ?_
   refine AllReady.cons rfl (fun K1 hK1 => ?_) (AllReady.cons rfl (fun K1 hK1 => ?_) AllReady.nil)
   · obtain ⟨_, ce0, ce1, ce2, ce3, ce4, ce5, ce6, ce7, ce8⟩ := FW0.out.vr.all
     go_simp
     refine hK1 _ _ ?_
     clear hK1 K1 ce0 ce1 ce2 ce3 ce4 ce5 ce6 ce7 ce8
     refine R_ 2 (fun K1 hK1 => ?_)
     go_simp
     refine (HX.out _ _ C1.out _ SW0.out.pr).mono ?_
     intro e W1 hp
     rcases hp.both with ⟨kb, jb, cq, rfl, r2⟩ | ⟨kd'', ps'', nm'', t'', nz'', z'', ob'', bi'', ks'', a'', len'', ck'', jq, cq, rfl, hk, r1, r2⟩
     · have hw := HW.out
       simp only [Zu, Nd.kind, C1.out, HK28.out, false_and, if_false, if_pos C3.out, cq] at hw
       subst hw
       exact ⟨rfl, rfl, SW0.out.tn.trans r2⟩
     have CQ := Zb cq
     have FW1 := Zb (FW0.out.tn r2 (.inl hgm))
     have JW1 := Zb (hk.lowS (fun x hx => show Ot w.heap.size w.heap.size n x from ⟨by have : W0.heap.size <= x := hx; have := SW0.out.ltz; omega, by have : W0.heap.size <= x := hx; have := SW0.out.ltz; omega, by have : W0.heap.size <= x := hx; have := SW0.out.lt; omega⟩))
     have SW1 := Zb (SW0.out.call r1 r2)
     clear cq hk r1 r2
     refine hK1 _ _ ?_
     clear hK1 K1
     refine R_ 3 (fun K1 hK1 => ?_)
     go_simp
     have hb := Zd W1 (.cells #[.int .i64 kd', .int .i64 ps', .string nm', .int .i64 t', .int .i64 nz', .int .i64 z', .int .i64 ob', .int .u64 bi', .slice a' len' ck', .int .i64 kd'', .int .i64 ps'', .string nm'', .int .i64 t'', .int .i64 nz'', .int .i64 z'', .int .i64 ob'', .int .u64 bi'', .slice a'' len'' ck''] 29)
     have kb : (W1.alloc (.cells #[.int .i64 kd', .int .i64 ps', .string nm', .int .i64 t', .int .i64 nz', .int .i64 z', .int .i64 ob', .int .u64 bi', .slice a' len' ck', .int .i64 kd'', .int .i64 ps'', .string nm'', .int .i64 t'', .int .i64 nz'', .int .i64 z'', .int .i64 ob'', .int .u64 bi'', .slice a'' len'' ck''] 29)).heap[W1.heap.size]? = some (.cells #[.int .i64 kd', .int .i64 ps', .string nm', .int .i64 t', .int .i64 nz', .int .i64 z', .int .i64 ob', .int .u64 bi', .slice a' len' ck', .int .i64 kd'', .int .i64 ps'', .string nm'', .int .i64 t'', .int .i64 nz'', .int .i64 z'', .int .i64 ob'', .int .u64 bi'', .slice a'' len'' ck''] 29 (0, 0)) := B_ _ _
     have KK := Zb (Yj kb ((FW1.out.bel hb).kv.lowS (fun x hx => show Ot w.heap.size w.heap.size n x from ⟨by have := hx.1; omega, by have := hx.1; omega, by have := hx.2; omega⟩)) (JW1.out.bel hb) (show Ot w.heap.size w.heap.size n W1.heap.size from ⟨by have := SW1.out.ltz; omega, by have := SW1.out.ltz; omega, by have := SW1.out.lt; omega⟩))
     have SW2 := Zb (SW1.out.bel hb)
     clear hb kb JW1
     generalize W1.alloc _ = W2 at *
     generalize W1.heap.size = bx at *
     refine hK1 _ _ ?_
     clear hK1 K1
     refine T_ 4 (v := ?_) (fun w => ?_) ?_
     rotate_left 1
     · (go_simp <;> with_reducible rfl)
     simp only [Act.put, S_]
     refine R_ 5 (fun K1 hK1 => ?_)
     obtain ⟨⟨fr0, fr1, fr2, fr3, fr4, fr5, fr6, fr7, fr8⟩, ce0, ce1, ce2, ce3, ce4, ce5, ce6, ce7, ce8⟩ := SW2.out.vr.all
     go_simp
     refine hK1 _ _ ?_
     clear hK1 K1 fr0 fr1 fr2 fr3 fr4 fr5 fr6 fr7 fr8 ce0 ce1 ce2 ce3 ce4 ce5 ce6 ce7 ce8
     refine wpAny_done (by kernel_rfl) ?_ _
     have e9 : (W2.setCell ⟨n, 8, none⟩ (.slice (some ⟨bx, 0, none⟩) 2 2)).heap.size = W2.heap.size := by simp
     have S30 := Zb (SW2.out.setKids2 KK.out)
     clear KK
     generalize W2.setCell ⟨n, 8, none⟩ (.slice (some ⟨bx, 0, none⟩) 2 2) = w30 at *
     go_wp2_with fail
     try rw [← e9]
     clear e9
     refine (Zx S30.out.pr HE.out YL (by decide)).mono ?_
     rintro e w31 (⟨c31, rfl, r2⟩ | ⟨c31, rfl, r1, r2⟩)
     · have hw := HW.out
       simp only [Zu, Nd.kind, C1.out, HK28.out, false_and, if_false, if_pos C3.out, CQ.out, ZX, if_neg c31] at hw
       subst hw
       exact ⟨rfl, rfl, S30.out.tn.trans r2⟩
     have C31 := Zb c31
     have S31 := Zb (S30.out.call r1 r2)
     clear c31 r1 r2 S30
     obtain ⟨⟨fz0, fz1, fz2, fz3, fz4, fz5, fz6, fz7, fz8⟩, bz0, bz1, bz2, bz3, bz4, bz5, bz6, bz7, bz8⟩ := S31.out.zr.all
     obtain ⟨_, cg0, cg1, cg2, cg3, cg4, cg5, cg6, cg7, cg8⟩ := S31.out.vr.all
     obtain ⟨_, rfl, z9, v9, p9, t9⟩ := S31.out.done
     have Z9 := Zb z9
     have D9 := Zb (And.intro v9 (And.intro p9 t9))
     clear z9 v9 p9 t9 S31
     go_wp2_with fail
     refine Zg (w.heap.size) rfl rfl Z9.out rfl ?_
     have hw := HW.out
     simp only [Zu, Nd.kind, C1.out, HK28.out, false_and, if_false, if_pos C3.out, CQ.out, ZX, if_pos C31.out] at hw
     subst hw
     exact ⟨_, rfl, D9.out⟩
   · go_simp
     refine (HX.out _ _ C1.out _ SW0.out.pr).mono ?_
     intro e W1 hp
     rcases hp.both with ⟨kb, jb, cq, rfl, r2⟩ | ⟨kd'', ps'', nm'', t'', nz'', z'', ob'', bi'', ks'', a'', len'', ck'', jq, cq, rfl, hk, r1, r2⟩
     · have hw := HW.out
       simp only [Zu, Nd.kind, C1.out, HK28.out, false_and, if_false, if_pos C3.out, cq] at hw
       subst hw
       exact ⟨rfl, rfl, SW0.out.tn.trans r2⟩
     have CQ := Zb cq
     have FW1 := Zb (FW0.out.tn r2 (.inl hgm))
     have JW1 := Zb (hk.lowS (fun x hx => show Ot w.heap.size w.heap.size n x from ⟨by have : W0.heap.size <= x := hx; have := SW0.out.ltz; omega, by have : W0.heap.size <= x := hx; have := SW0.out.ltz; omega, by have : W0.heap.size <= x := hx; have := SW0.out.lt; omega⟩))
     have SW1 := Zb (SW0.out.call r1 r2)
     clear cq hk r1 r2
     refine hK1 _ _ ?_
     clear hK1 K1
     refine R_ 0 (fun K1 hK1 => ?_)
     obtain ⟨_, ce0, ce1, ce2, ce3, ce4, ce5, ce6, ce7, ce8⟩ := FW1.out.vr.all
     go_simp
     refine hK1 _ _ ?_
     clear hK1 K1 ce0 ce1 ce2 ce3 ce4 ce5 ce6 ce7 ce8
     refine R_ 3 (fun K1 hK1 => ?_)
     go_simp
     have hb := Zd W1 (.cells #[.int .i64 kd', .int .i64 ps', .string nm', .int .i64 t', .int .i64 nz', .int .i64 z', .int .i64 ob', .int .u64 bi', .slice a' len' ck', .int .i64 kd'', .int .i64 ps'', .string nm'', .int .i64 t'', .int .i64 nz'', .int .i64 z'', .int .i64 ob'', .int .u64 bi'', .slice a'' len'' ck''] 29)
     have kb : (W1.alloc (.cells #[.int .i64 kd', .int .i64 ps', .string nm', .int .i64 t', .int .i64 nz', .int .i64 z', .int .i64 ob', .int .u64 bi', .slice a' len' ck', .int .i64 kd'', .int .i64 ps'', .string nm'', .int .i64 t'', .int .i64 nz'', .int .i64 z'', .int .i64 ob'', .int .u64 bi'', .slice a'' len'' ck''] 29)).heap[W1.heap.size]? = some (.cells #[.int .i64 kd', .int .i64 ps', .string nm', .int .i64 t', .int .i64 nz', .int .i64 z', .int .i64 ob', .int .u64 bi', .slice a' len' ck', .int .i64 kd'', .int .i64 ps'', .string nm'', .int .i64 t'', .int .i64 nz'', .int .i64 z'', .int .i64 ob'', .int .u64 bi'', .slice a'' len'' ck''] 29 (0, 0)) := B_ _ _
     have KK := Zb (Yj kb ((FW1.out.bel hb).kv.lowS (fun x hx => show Ot w.heap.size w.heap.size n x from ⟨by have := hx.1; omega, by have := hx.1; omega, by have := hx.2; omega⟩)) (JW1.out.bel hb) (show Ot w.heap.size w.heap.size n W1.heap.size from ⟨by have := SW1.out.ltz; omega, by have := SW1.out.ltz; omega, by have := SW1.out.lt; omega⟩))
     have SW2 := Zb (SW1.out.bel hb)
     clear hb kb JW1
     generalize W1.alloc _ = W2 at *
     generalize W1.heap.size = bx at *
     refine hK1 _ _ ?_
     clear hK1 K1
     refine T_ 4 (v := ?_) (fun w => ?_) ?_
     rotate_left 1
     · (go_simp <;> with_reducible rfl)
     simp only [Act.put, S_]
     refine R_ 5 (fun K1 hK1 => ?_)
     obtain ⟨⟨fr0, fr1, fr2, fr3, fr4, fr5, fr6, fr7, fr8⟩, ce0, ce1, ce2, ce3, ce4, ce5, ce6, ce7, ce8⟩ := SW2.out.vr.all
     go_simp
     refine hK1 _ _ ?_
     clear hK1 K1 fr0 fr1 fr2 fr3 fr4 fr5 fr6 fr7 fr8 ce0 ce1 ce2 ce3 ce4 ce5 ce6 ce7 ce8
     refine wpAny_done (by kernel_rfl) ?_ _
     have e9 : (W2.setCell ⟨n, 8, none⟩ (.slice (some ⟨bx, 0, none⟩) 2 2)).heap.size = W2.heap.size := by simp
     have S30 := Zb (SW2.out.setKids2 KK.out)
     clear KK
     generalize W2.setCell ⟨n, 8, none⟩ (.slice (some ⟨bx, 0, none⟩) 2 2) = w30 at *
     go_wp2_with fail
     try rw [← e9]
     clear e9
     refine (Zx S30.out.pr HE.out YL (by decide)).mono ?_
     rintro e w31 (⟨c31, rfl, r2⟩ | ⟨c31, rfl, r1, r2⟩)
     · have hw := HW.out
       simp only [Zu, Nd.kind, C1.out, HK28.out, false_and, if_false, if_pos C3.out, CQ.out, ZX, if_neg c31] at hw
       subst hw
       exact ⟨rfl, rfl, S30.out.tn.trans r2⟩
     have C31 := Zb c31
     have S31 := Zb (S30.out.call r1 r2)
     clear c31 r1 r2 S30
     obtain ⟨⟨fz0, fz1, fz2, fz3, fz4, fz5, fz6, fz7, fz8⟩, bz0, bz1, bz2, bz3, bz4, bz5, bz6, bz7, bz8⟩ := S31.out.zr.all
     obtain ⟨_, cg0, cg1, cg2, cg3, cg4, cg5, cg6, cg7, cg8⟩ := S31.out.vr.all
     obtain ⟨_, rfl, z9, v9, p9, t9⟩ := S31.out.done
     have Z9 := Zb z9
     have D9 := Zb (And.intro v9 (And.intro p9 t9))
     clear z9 v9 p9 t9 S31
     go_wp2_with fail
     refine Zg (w.heap.size) rfl rfl Z9.out rfl ?_
     have hw := HW.out
     simp only [Zu, Nd.kind, C1.out, HK28.out, false_and, if_false, if_pos C3.out, CQ.out, ZX, if_pos C31.out] at hw
     subst hw
     exact ⟨_, rfl, D9.out⟩
theorem stmts_any {w : World} {p : List Addr} {g gT : Nat} {L : List Tk} {i l : Nat} (h : Ps w p g gT L i l) (rule : Nat -> Out) (hgt : ∀ j m j', rule j = .ok m j' -> j < j') (hr : ∀ j, i <= j -> ZS 201 p g gT L l j (rule j)) :
 Calls Tryz.prog 163 #[.pointer (some ⟨g, 0, none⟩)] w fun e w' => PostR p g gT L l w e w' (stmtsF rule L L.length i []) := by
 have HP := Zb h
 have HR := Zb hr
 have HG := Zb hgt
 have hgl := h.lt_g
 have hT := h.row.lt
 have hL := h.len
 obtain ⟨out, ho⟩ : ∃ out, stmtsF rule L L.length i [] = out := ⟨_, rfl⟩
 rw [ho]
 have HW := Zb ho
 clear h ho hr hgt
 go_enter Tryz.func163, Tryz.ntmps163
 go_wp2_with fail
 go_loopw [3] (fun v wr => ∃ (j : Nat) (ns : List Nd) (a : Option Addr) (n ck : Nat), i <= j /\ v = .slice a n ck /\ ns.length <= j /\ Hid (n = ns.length /\ Row wr w.heap.size ns (.slice a n ck) /\ Ps wr p g gT L j l /\ Tn g w wr /\ ∃ f', L.length - j <= f' /\ stmtsF rule L f' j ns = out)) (fun _ wr => L.length - nextAt wr g)
 case atStart => exact ⟨i, [], none, 0, 0, Nat.le_refl _, rfl, Nat.zero_le _, rfl, Row.nil _ _, HP.out, Tn.refl _ _, L.length, Nat.sub_le _ _, HW.out⟩
 case round =>
  clear HW HP
  obtain ⟨j, ns, a, n, ck, hij, rfl, hnl, I⟩ := hrel
  have N3 := Zb I.out.2.2.1.next
  go_wp2_with fail
  refine (sees_both I.out.2.2.1 bCue).mono ?_
  rintro e w4 (⟨c4, rfl, hb⟩ | ⟨c4, rfl, hb⟩)
  · have R4 := Zb (I.out.2.1.bel hb)
    have H4 := Zb (And.intro (I.out.2.2.1.below hb) (I.out.2.2.2.1.trans (Tn.of_bel hb)))
    have hw : OutL.ok ns j = out := by
     obtain ⟨f', hf1, hf2⟩ := I.out.2.2.2.2
     have hlt := I.out.2.2.1.lt
     obtain ⟨f2, rfl⟩ : ∃ f2, f' = f2 + 1 := ⟨f' - 1, by omega⟩
     simp only [stmtsF, if_pos c4] at hf2
     exact hf2
    have HW := Zb hw
    clear hw c4 hb I
    go_wp2_with fail
    go_ret
    have hw := HW.out
    subst hw
    exact ⟨_, rfl, R4.out, H4.out⟩
  · have C4 := Zb c4
    have H4 := Zb (I.out.2.2.1.below hb)
    have T4 := Zb (I.out.2.2.2.1.trans (Tn.of_bel hb))
    have R4 := Zb (I.out.2.1.bel hb)
    have EN := Zb I.out.1
    have hlt := I.out.2.2.1.lt
    have F4 := Zb I.out.2.2.2.2
    clear c4 hb I
    go_wp2_with fail
    refine (HR.out j hij _ H4.out).mono ?_
    intro e w5 hp
    rcases hp.both with ⟨kb, jb, c5, rfl, r2⟩ | ⟨kd, ps, nm, t, nz, z, ob, bi, ks, a', len, ck', j', c5, rfl, hk, r1, r2⟩
    · obtain ⟨f', hf1, hf2⟩ := F4.out
      obtain ⟨f2, rfl⟩ : ∃ f2, f' = f2 + 1 := ⟨f' - 1, by omega⟩
      simp only [stmtsF, if_neg C4.out, c5] at hf2
      subst hf2
      exact ⟨rfl, rfl, T4.out.trans r2⟩
    have hj' := HG.out _ _ j' c5
    have F5 : Hid (∃ f', L.length - j' <= f' /\ stmtsF rule L f' j' (ns ++ [Nd.mk kd ps nm t nz z ob bi ks]) = out) := by
     obtain ⟨f', hf1, hf2⟩ := F4.out
     obtain ⟨f2, rfl⟩ : ∃ f2, f' = f2 + 1 := ⟨f' - 1, by omega⟩
     simp only [stmtsF, if_neg C4.out, c5] at hf2
     exact ⟨f2, by omega, hf2⟩
    clear c5 C4 F4
    have hb6 := Zd w5 (.cells #[.int .i64 kd, .int .i64 ps, .string nm, .int .i64 t, .int .i64 nz, .int .i64 z, .int .i64 ob, .int .u64 bi, .slice a' len ck'] 29)
    have hC : ∀ k, _ -> k < w4.heap.size := fun k hk => (R4.out.own k hk).2
    have PU := Zb (fun ty => Row.push (c := 1) ((R4.out.tn r2 (hgl)).bel hb6) (T4.out.size) hC (Nat.le_trans r2.size hb6.size) (by omega) (hk.bel hb6) (B_ w5 _) ty)
    have R6 := Zb (And.intro (r1.below hb6) ((T4.out.trans r2).trans (Tn.of_bel hb6)))
    clear hk hb6 r1 r2 hC R4 T4 H4
    go_wp2_with (first | (at_builtin; refine Yv (.tmp 8) (.tmp 11) _ _ _ PU.out rfl rfl rfl rfl ?_; rintro v7 w7 ⟨o7, t7⟩))
    obtain ⟨a7, c7, e7⟩ := o7.len
    obtain ⟨n7, hn7⟩ : ∃ n7, n7 = (ns ++ [Nd.mk kd ps nm t nz z ob bi ks]).length := ⟨_, rfl⟩
    rw [← hn7] at e7
    subst e7
    have I7 := Zb (And.intro hn7 (And.intro o7 (And.intro (R6.out.1.belB t7 hgl hT) (R6.out.2.belB t7 (Nat.le_refl _)))))
    clear hn7 o7 t7 PU R6
    go_wp2_with fail
    go_roundw
    case rel => exact ⟨j', _, _, _, _, by omega, rfl, by rw [List.length_append, List.length_singleton]; omega, I7.out.1, I7.out.2.1, I7.out.2.2.1, I7.out.2.2.2, F5.out⟩
    case measure =>
     have h7 := I7.out.2.2.1.next
     rw [h7, N3.out]
     omega
theorem Zo.base {p : List Addr} {g gT : Nat} {L : List Tk} {l : Nat} {w w1 : World} {e : Ending} {w' : World} {o : Out} (h : Zo p g gT L l w1 e w' o) (hb : Below w.heap.size w w1) : Zo p g gT L l w e w' o := by
 cases o with
 | bad k j => exact ⟨h.1, (Tn.of_bel hb).trans h.2⟩
 | ok n j =>
  obtain ⟨v, h1, h2, h3, h4⟩ := h
  exact ⟨v, h1, h2.low hb.size, h3, (Tn.of_bel hb).trans h4⟩
theorem stmt_go {w : World} {p : List Addr} {g gT : Nat} {L : List Tk} {i l : Nat} (h : Ps w p g gT L i l) (hx : tx L i = ⟨#[103, 111]⟩) (r : Out) (hr : ∀ w, Ps w p g gT L i l -> Calls Tryz.prog 220 #[.pointer (some ⟨g, 0, none⟩)] w fun e w' => Zo p g gT L l w e w' r) :
 Calls Tryz.prog 201 #[.pointer (some ⟨g, 0, none⟩)] w fun e w' => Zo p g gT L l w e w' r := by
 have HP := Zb h
 have HR := Zb hr
 have hb0 := Zb (Zd w Zh)
 have hz0 := Zb (ZG w)
 have H0 := Zb (h.below hb0.out)
 obtain ⟨tk, htk⟩ : ∃ tk, Zk L i = tk := ⟨_, rfl⟩
 have HK := Zb htk
 unfold tx at hx
 rw [htk] at hx
 clear htk h hr
 obtain ⟨kind, text, nn, bits_, pos⟩ := tk
 dsimp only at hx
 subst hx
 have hf1 := tf1 (.int .i64 kind) (.string ⟨#[103, 111]⟩) (.int .i64 nn) (.int .u64 bits_) (.int .i64 pos)
 unfold Zh at *
 go_enter Tryz.func201, Tryz.ntmps201
 go_wp2_with fail
 generalize w.alloc _ = w0 at *
 refine (Zp H0.out).mono ?_
 rintro e w1 ⟨he, hb1⟩
 rw [HK.out] at he
 dsimp only [Tk.val] at he
 subst he
 have Z2 := Zb ((Zn.start HP.out hb0.out hz0.out).bel hb1)
 clear hb1 hb0 hz0 H0 HP
 go_wp2_with fail
 clear hf1
 have hC := Z2.out.lt
 refine (HR.out _ Z2.out.pr).mono ?_
 intro e w3 hp
 rcases hp.both with ⟨kb, jb, c3, rfl, r2⟩ | ⟨kd, ps, nm, t, nz, z, ob, bi, ks, a, len, ck, j, c3, rfl, hk, r1, r2⟩
 · subst c3
   exact ⟨rfl, rfl, Z2.out.tn.trans r2⟩
 have C3 := Zb c3
 have Z3 := Zb (Z2.out.call r1 r2)
 clear c3 r1 r2 Z2 HR
 obtain ⟨⟨fz0, fz1, fz2, fz3, fz4, fz5, fz6, fz7, fz8⟩, bz0, bz1, bz2, bz3, bz4, bz5, bz6, bz7, bz8⟩ := Z3.out.zr.all
 obtain ⟨_, rfl, z9, v9, p9, t9⟩ := Z3.out.done (kd := kd) (ps := ps) (nm := nm) (t := t) (nz := nz) (z := z) (ob := ob) (bi := bi) hC hk
 have Z9 := Zb z9
 have D9 := Zb (And.intro v9 (And.intro p9 t9))
 clear z9 v9 p9 t9 hk Z3
 go_wp2_with fail
 refine Zg w.heap.size rfl rfl Z9.out rfl ?_
 have hw := C3.out
 subst hw
 exact ⟨_, rfl, D9.out⟩
theorem stmt_lock {w : World} {p : List Addr} {g gT : Nat} {L : List Tk} {i l : Nat} (h : Ps w p g gT L i l) (hx : tx L i = ⟨#[108, 111, 99, 107]⟩) (r : Out) (hr : ∀ w, Ps w p g gT L i l -> Calls Tryz.prog 76 #[.pointer (some ⟨g, 0, none⟩), .int .i64 14, .slice none 0 0] w fun e w' => Zo p g gT L l w e w' r) :
 Calls Tryz.prog 201 #[.pointer (some ⟨g, 0, none⟩)] w fun e w' => Zo p g gT L l w e w' r := by
 have HP := Zb h
 have HR := Zb hr
 have hb0 := Zb (Zd w Zh)
 have hz0 := Zb (ZG w)
 have H0 := Zb (h.below hb0.out)
 obtain ⟨tk, htk⟩ : ∃ tk, Zk L i = tk := ⟨_, rfl⟩
 have HK := Zb htk
 unfold tx at hx
 rw [htk] at hx
 clear htk h hr
 obtain ⟨kind, text, nn, bits_, pos⟩ := tk
 dsimp only at hx
 subst hx
 have hf1 := tf1 (.int .i64 kind) (.string ⟨#[108, 111, 99, 107]⟩) (.int .i64 nn) (.int .u64 bits_) (.int .i64 pos)
 unfold Zh at *
 go_enter Tryz.func201, Tryz.ntmps201
 go_wp2_with fail
 generalize w.alloc _ = w0 at *
 refine (Zp H0.out).mono ?_
 rintro e w1 ⟨he, hb1⟩
 rw [HK.out] at he
 dsimp only [Tk.val] at he
 subst he
 have Z2 := Zb ((Zn.start HP.out hb0.out hz0.out).bel hb1)
 clear hb1 hb0 hz0 H0 HP
 go_wp2_with fail
 clear hf1
 have hC := Z2.out.lt
 refine (HR.out _ Z2.out.pr).mono ?_
 intro e w3 hp
 rcases hp.both with ⟨kb, jb, c3, rfl, r2⟩ | ⟨kd, ps, nm, t, nz, z, ob, bi, ks, a, len, ck, j, c3, rfl, hk, r1, r2⟩
 · subst c3
   exact ⟨rfl, rfl, Z2.out.tn.trans r2⟩
 have C3 := Zb c3
 have Z3 := Zb (Z2.out.call r1 r2)
 clear c3 r1 r2 Z2 HR
 obtain ⟨⟨fz0, fz1, fz2, fz3, fz4, fz5, fz6, fz7, fz8⟩, bz0, bz1, bz2, bz3, bz4, bz5, bz6, bz7, bz8⟩ := Z3.out.zr.all
 obtain ⟨_, rfl, z9, v9, p9, t9⟩ := Z3.out.done (kd := kd) (ps := ps) (nm := nm) (t := t) (nz := nz) (z := z) (ob := ob) (bi := bi) hC hk
 have Z9 := Zb z9
 have D9 := Zb (And.intro v9 (And.intro p9 t9))
 clear z9 v9 p9 t9 hk Z3
 go_wp2_with fail
 refine Zg w.heap.size rfl rfl Z9.out rfl ?_
 have hw := C3.out
 subst hw
 exact ⟨_, rfl, D9.out⟩
theorem stmt_unlock {w : World} {p : List Addr} {g gT : Nat} {L : List Tk} {i l : Nat} (h : Ps w p g gT L i l) (hx : tx L i = ⟨#[117, 110, 108, 111, 99, 107]⟩) (r : Out) (hr : ∀ w, Ps w p g gT L i l -> Calls Tryz.prog 76 #[.pointer (some ⟨g, 0, none⟩), .int .i64 15, .slice none 0 0] w fun e w' => Zo p g gT L l w e w' r) :
 Calls Tryz.prog 201 #[.pointer (some ⟨g, 0, none⟩)] w fun e w' => Zo p g gT L l w e w' r := by
 have HP := Zb h
 have HR := Zb hr
 have hb0 := Zb (Zd w Zh)
 have hz0 := Zb (ZG w)
 have H0 := Zb (h.below hb0.out)
 obtain ⟨tk, htk⟩ : ∃ tk, Zk L i = tk := ⟨_, rfl⟩
 have HK := Zb htk
 unfold tx at hx
 rw [htk] at hx
 clear htk h hr
 obtain ⟨kind, text, nn, bits_, pos⟩ := tk
 dsimp only at hx
 subst hx
 have hf1 := tf1 (.int .i64 kind) (.string ⟨#[117, 110, 108, 111, 99, 107]⟩) (.int .i64 nn) (.int .u64 bits_) (.int .i64 pos)
 unfold Zh at *
 go_enter Tryz.func201, Tryz.ntmps201
 go_wp2_with fail
 generalize w.alloc _ = w0 at *
 refine (Zp H0.out).mono ?_
 rintro e w1 ⟨he, hb1⟩
 rw [HK.out] at he
 dsimp only [Tk.val] at he
 subst he
 have Z2 := Zb ((Zn.start HP.out hb0.out hz0.out).bel hb1)
 clear hb1 hb0 hz0 H0 HP
 go_wp2_with fail
 clear hf1
 have hC := Z2.out.lt
 refine (HR.out _ Z2.out.pr).mono ?_
 intro e w3 hp
 rcases hp.both with ⟨kb, jb, c3, rfl, r2⟩ | ⟨kd, ps, nm, t, nz, z, ob, bi, ks, a, len, ck, j, c3, rfl, hk, r1, r2⟩
 · subst c3
   exact ⟨rfl, rfl, Z2.out.tn.trans r2⟩
 have C3 := Zb c3
 have Z3 := Zb (Z2.out.call r1 r2)
 clear c3 r1 r2 Z2 HR
 obtain ⟨⟨fz0, fz1, fz2, fz3, fz4, fz5, fz6, fz7, fz8⟩, bz0, bz1, bz2, bz3, bz4, bz5, bz6, bz7, bz8⟩ := Z3.out.zr.all
 obtain ⟨_, rfl, z9, v9, p9, t9⟩ := Z3.out.done (kd := kd) (ps := ps) (nm := nm) (t := t) (nz := nz) (z := z) (ob := ob) (bi := bi) hC hk
 have Z9 := Zb z9
 have D9 := Zb (And.intro v9 (And.intro p9 t9))
 clear z9 v9 p9 t9 hk Z3
 go_wp2_with fail
 refine Zg w.heap.size rfl rfl Z9.out rfl ?_
 have hw := C3.out
 subst hw
 exact ⟨_, rfl, D9.out⟩
theorem stmt_send {w : World} {p : List Addr} {g gT : Nat} {L : List Tk} {i l : Nat} (h : Ps w p g gT L i l) (hx : tx L i = ⟨#[115, 101, 110, 100]⟩) (r : Out) (hr : ∀ w, Ps w p g gT L i l -> Calls Tryz.prog 76 #[.pointer (some ⟨g, 0, none⟩), .int .i64 16, .slice (some ⟨w.heap.size, 0, none⟩) 1 1] (w.alloc (.cells #[.func (.func 32) #[.pointer (some ⟨g, 0, none⟩)] #[]] 68)) fun e w' => Zo p g gT L l w e w' r) :
 Calls Tryz.prog 201 #[.pointer (some ⟨g, 0, none⟩)] w fun e w' => Zo p g gT L l w e w' r := by
 have HP := Zb h
 have HR := Zb hr
 have hb0 := Zb (Zd w Zh)
 have hz0 := Zb (ZG w)
 have H0 := Zb (h.below hb0.out)
 obtain ⟨tk, htk⟩ : ∃ tk, Zk L i = tk := ⟨_, rfl⟩
 have HK := Zb htk
 unfold tx at hx
 rw [htk] at hx
 clear htk h hr
 obtain ⟨kind, text, nn, bits_, pos⟩ := tk
 dsimp only at hx
 subst hx
 have hf1 := tf1 (.int .i64 kind) (.string ⟨#[115, 101, 110, 100]⟩) (.int .i64 nn) (.int .u64 bits_) (.int .i64 pos)
 unfold Zh at *
 go_enter Tryz.func201, Tryz.ntmps201
 go_wp2_with fail
 generalize w.alloc _ = w0 at *
 refine (Zp H0.out).mono ?_
 rintro e w1 ⟨he, hb1⟩
 rw [HK.out] at he
 dsimp only [Tk.val] at he
 subst he
 have Z2 := Zb ((Zn.start HP.out hb0.out hz0.out).bel hb1)
 clear hb1 hb0 hz0 H0 HP
 go_wp2_with fail
 clear hf1
 have hC := Z2.out.lt
 refine (HR.out _ Z2.out.pr).mono ?_
 intro e w3 hp
 rcases hp.both with ⟨kb, jb, c3, rfl, r2⟩ | ⟨kd, ps, nm, t, nz, z, ob, bi, ks, a, len, ck, j, c3, rfl, hk, r1, r2⟩
 · subst c3
   exact ⟨rfl, rfl, Z2.out.tn.trans r2⟩
 have C3 := Zb c3
 have Z3 := Zb (Z2.out.call r1 r2)
 clear c3 r1 r2 Z2 HR
 obtain ⟨⟨fz0, fz1, fz2, fz3, fz4, fz5, fz6, fz7, fz8⟩, bz0, bz1, bz2, bz3, bz4, bz5, bz6, bz7, bz8⟩ := Z3.out.zr.all
 obtain ⟨_, rfl, z9, v9, p9, t9⟩ := Z3.out.done (kd := kd) (ps := ps) (nm := nm) (t := t) (nz := nz) (z := z) (ob := ob) (bi := bi) hC hk
 have Z9 := Zb z9
 have D9 := Zb (And.intro v9 (And.intro p9 t9))
 clear z9 v9 p9 t9 hk Z3
 go_wp2_with fail
 refine Zg w.heap.size rfl rfl Z9.out rfl ?_
 have hw := C3.out
 subst hw
 exact ⟨_, rfl, D9.out⟩
theorem stmt_recv {w : World} {p : List Addr} {g gT : Nat} {L : List Tk} {i l : Nat} (h : Ps w p g gT L i l) (hx : tx L i = ⟨#[114, 101, 99, 118]⟩) (r : Out) (hr : ∀ w, Ps w p g gT L i l -> Calls Tryz.prog 76 #[.pointer (some ⟨g, 0, none⟩), .int .i64 17, .slice (some ⟨w.heap.size, 0, none⟩) 1 1] (w.alloc (.cells #[.func (.func 221) #[.pointer (some ⟨g, 0, none⟩)] #[]] 68)) fun e w' => Zo p g gT L l w e w' r) :
 Calls Tryz.prog 201 #[.pointer (some ⟨g, 0, none⟩)] w fun e w' => Zo p g gT L l w e w' r := by
 have HP := Zb h
 have HR := Zb hr
 have hb0 := Zb (Zd w Zh)
 have hz0 := Zb (ZG w)
 have H0 := Zb (h.below hb0.out)
 obtain ⟨tk, htk⟩ : ∃ tk, Zk L i = tk := ⟨_, rfl⟩
 have HK := Zb htk
 unfold tx at hx
 rw [htk] at hx
 clear htk h hr
 obtain ⟨kind, text, nn, bits_, pos⟩ := tk
 dsimp only at hx
 subst hx
 have hf1 := tf1 (.int .i64 kind) (.string ⟨#[114, 101, 99, 118]⟩) (.int .i64 nn) (.int .u64 bits_) (.int .i64 pos)
 unfold Zh at *
 go_enter Tryz.func201, Tryz.ntmps201
 go_wp2_with fail
 generalize w.alloc _ = w0 at *
 refine (Zp H0.out).mono ?_
 rintro e w1 ⟨he, hb1⟩
 rw [HK.out] at he
 dsimp only [Tk.val] at he
 subst he
 have Z2 := Zb ((Zn.start HP.out hb0.out hz0.out).bel hb1)
 clear hb1 hb0 hz0 H0 HP
 go_wp2_with fail
 clear hf1
 have hC := Z2.out.lt
 refine (HR.out _ Z2.out.pr).mono ?_
 intro e w3 hp
 rcases hp.both with ⟨kb, jb, c3, rfl, r2⟩ | ⟨kd, ps, nm, t, nz, z, ob, bi, ks, a, len, ck, j, c3, rfl, hk, r1, r2⟩
 · subst c3
   exact ⟨rfl, rfl, Z2.out.tn.trans r2⟩
 have C3 := Zb c3
 have Z3 := Zb (Z2.out.call r1 r2)
 clear c3 r1 r2 Z2 HR
 obtain ⟨⟨fz0, fz1, fz2, fz3, fz4, fz5, fz6, fz7, fz8⟩, bz0, bz1, bz2, bz3, bz4, bz5, bz6, bz7, bz8⟩ := Z3.out.zr.all
 obtain ⟨_, rfl, z9, v9, p9, t9⟩ := Z3.out.done (kd := kd) (ps := ps) (nm := nm) (t := t) (nz := nz) (z := z) (ob := ob) (bi := bi) hC hk
 have Z9 := Zb z9
 have D9 := Zb (And.intro v9 (And.intro p9 t9))
 clear z9 v9 p9 t9 hk Z3
 go_wp2_with fail
 refine Zg w.heap.size rfl rfl Z9.out rfl ?_
 have hw := C3.out
 subst hw
 exact ⟨_, rfl, D9.out⟩
end Go.Proofs.YtfnplhfjfolojaaGreatDoor.Ck
