/- Texts of this proof, packed: contracts of the program's functions, and the plain model that they are held against. -/
import Derived.Test.YtfnplhfjfolojaaGreatDoorQag
set_option maxRecDepth 20000
set_option maxHeartbeats 4000000
namespace Go.Proofs.YtfnplhfjfolojaaGreatDoor.Ck
open Go.RowKit
theorem all2_ge {ex bl : Nat -> Out} {i : Nat} {ns : List Nd} {j : Nat} (h1 : ∀ n j, ex i = .ok n j -> i <= j) (h2 : ∀ q n j, bl q = .ok n j -> q <= j) (h : all2O ex bl i = .ok ns j) : i <= j /\ ns.length = 2 := by
 unfold all2O at h
 cases hq : ex i with
 | bad k a => rw [hq] at h; cases h
 | ok m a =>
  rw [hq] at h
  dsimp only at h
  cases hq2 : bl a with
  | bad k b => rw [hq2] at h; cases h
  | ok m2 b =>
   rw [hq2] at h
   cases h
   exact ⟨Nat.le_trans (h1 _ _ hq) (h2 _ _ _ hq2), rfl⟩
theorem branch_any {w : World} {p : List Addr} {g gT : Nat} {L : List Tk} {i l : Nat} (h : Ps w p g gT L i l) (hE : Ya L) (hi : i + 1 < L.length) (ex bl : Nat -> Out) (he : ZS 32 p g gT L l (i + 1) (ex (i + 1))) (hbl : ∀ j, i + 1 <= j -> ZS 126 p g gT L l j (bl j)) (hge : ∀ n j, ex (i + 1) = .ok n j -> i + 1 <= j) (hgb : ∀ q n j, bl q = .ok n j -> q <= j) :
 Calls Tryz.prog 222 #[.pointer (some ⟨g, 0, none⟩)] w fun e w' => Zo p g gT L l w e w' (YE L i ex bl) := by
 have HP := Zb h
 have HE := Zb hE
 have HI := Zb hi
 have HR := Zb he
 have HB := Zb hbl
 have HG := Zb hge
 have HGB := Zb hgb
 have hb0 := Zb (Zd w Zh)
 have hz0 := Zb (ZG w)
 have H0 := Zb (h.below hb0.out)
 obtain ⟨out, ho⟩ : ∃ out, YE L i ex bl = out := ⟨_, rfl⟩
 rw [ho]
 have HW := Zb ho
 clear h hE ho hi he hbl hge hgb
 unfold Zh at *
 go_enter Tryz.func222, Tryz.ntmps222
 go_wp2_with fail
 generalize w.alloc _ = w0 at *
 refine (Yt H0.out (21) HI.out).mono ?_
 rintro e w1 ⟨rfl, r1, r2⟩
 have S2 := Zb (Sn.start HP.out hb0.out hz0.out r1 r2 (21) (Zk L i).pos ⟨#[]⟩ 0 0)
 clear r1 r2 hb0 hz0 H0
 go_wp2_with fail
 have e2 : (w1.alloc (.cells #[.int .i64 (21), .int .i64 (Zk L i).pos, .string ⟨#[]⟩, .int .i64 0, .int .i64 0, .int .i64 0, .int .i64 0, .int .u64 0, .slice none 0 0] 29)).heap.size = w1.heap.size + 1 := by simp
 generalize w1.alloc _ = w2 at *
 generalize w1.heap.size = n at *
 rw [← e2]
 clear e2
 have hz3 := S2.out.ltz
 have hn3 := S2.out.lt
 refine (all2_any S2.out.pr ex bl HR.out (fun _ j e => HB.out j (HG.out _ _ e))).mono ?_
 intro e w3 hp
 rcases hp.both with ⟨kb, jb, c3, rfl, r2⟩ | ⟨ns, a, m, ck, j3, hm, c3, rfl, hrow, r1, r2⟩
 · have hw := HW.out
   simp only [YE, c3] at hw
   subst hw
   exact ⟨rfl, rfl, S2.out.tn.trans r2⟩
 have HJ : Hid (i + 1 <= j3 /\ ns.length = 2) := all2_ge HG.out HGB.out c3
 have R3 := Zb hrow
 have M3 := Zb hm
 have C3 := Zb c3
 have S3 := Zb (S2.out.call r1 r2)
 clear c3 r1 r2 hrow hm S2
 have RR := Zb ((R3.out.base (show n + 1 <= w2.heap.size from hn3)).tn (Zs S3.out.vr 8 (.slice a m ck)).2 (Nat.lt_succ_self n))
 obtain ⟨⟨fr0, fr1, fr2, fr3, fr4, fr5, fr6, fr7, fr8⟩, ce0, ce1, ce2, ce3, ce4, ce5, ce6, ce7, ce8⟩ := S3.out.vr.all
 have S4 := Zb (S3.out.setKids hz3 hn3 R3.out.kids)
 clear S3
 go_wp2_with fail
 clear fr0 fr1 fr2 fr3 fr4 fr5 fr6 fr7 fr8 ce0 ce1 ce2 ce3 ce4 ce5 ce6 ce7 ce8
 generalize w3.setCell ⟨n, 8, none⟩ (.slice a m ck) = w4 at *
 have hgn : g < n + 1 := by have := S4.out.ng; have := S4.out.nn; omega
 refine (taken_both S4.out.pr HE.out bElse (by decide)).mono ?_
 rintro e w5 (⟨c5, rfl, r1, r2⟩ | ⟨c5, rfl, r1, r2⟩)
 · have RY := Zb (RR.out.tn r2 hgn)
   have C5 := Zb c5
   have S5 := Zb (S4.out.call r1 r2)
   clear c5 r1 r2 RR S4
   go_wp2_with fail
   refine wp_region_any ZI ?_
   change wpAny _ _ _ _ _ _ _ (World.drew _)
   have SW0 := Zb S5.out.drew
   have RW0 := Zb (RY.out.bel (Zm (Below.refl _ _)))
   have hgn : g < n + 1 := by have := SW0.out.ng; have := SW0.out.nn; omega
   have hzn : w.heap.size < n := by have := SW0.out.ne; have := SW0.out.nn; omega
   clear S5 RY
   generalize World.drew w5 = W0 at *
   refine T_ 0 (v := ?_) (fun w => ?_) ?_
   rotate_left 1
   · (go_simp <;> with_reducible rfl)
   simp only [Act.put, S_]
   refine T_ 2 (v := ?_) (fun w => ?_) ?_
   rotate_left 1
   · (go_simp <;> with_reducible rfl)
   simp only [Act.put, S_]
   refine wpAny_ready (rs := [1, 3]) (by kernel_rfl) (by decide) ?_
   refine AllReady.cons rfl (fun K1 hK1 => ?_) (AllReady.cons rfl (fun K1 hK1 => ?_) AllReady.nil)
   · obtain ⟨_, _, _, _, _, _, _, _, _, yq⟩ := SW0.out.vr.all
     go_simp
     refine hK1 _ _ ?_
     clear hK1 K1 yq
     refine R_ 3 (fun K1 hK1 => ?_)
     go_simp
     refine (HB.out (j3 + 1) (by have := HJ.out.1; omega) _ SW0.out.pr).mono ?_
     intro e W1 hp
     rcases hp.both with ⟨kb, jb, cq, rfl, r2⟩ | ⟨kd', ps', nm', t', nz', z', ob', bi', ks', a', len', ck', jq, cq, rfl, hk, r1, r2⟩
     · have hw := HW.out
       simp only [YE, C3.out, if_pos C5.out, cq] at hw
       subst hw
       exact ⟨rfl, rfl, SW0.out.tn.trans r2⟩
     have CQ := Zb cq
     have SW1 := Zb (SW0.out.call r1 r2)
     have RW1 := Zb (RW0.out.tn r2 hgn)
     have JW1 := Zb hk
     have HC : Hid (∀ k, Value.ownBlock (.slice a m ck) = some k -> k < W0.heap.size) := fun k hk => (RW0.out.own k hk).2
     have HWs := Zb r2.size
     have HN1 := Zb (show n + 1 <= W0.heap.size from SW0.out.lt)
     clear cq hk r1 r2
     refine hK1 _ _ ?_
     clear hK1 K1
     refine R_ 4 (fun K1 hK1 => ?_)
     go_simp
     have hb := Zd W1 (.cells #[.int .i64 kd', .int .i64 ps', .string nm', .int .i64 t', .int .i64 nz', .int .i64 z', .int .i64 ob', .int .u64 bi', .slice a' len' ck'] 29)
     have SW2 := Zb (SW1.out.bel hb)
     have RW2 := Zb (RW1.out.bel hb)
     have PU := Zb (fun ty => Row.push (c := 1) RW2.out HN1.out HC.out (Nat.le_trans HWs.out hb.size) (by have := HJ.out.2; omega) (JW1.out.bel hb) (B_ W1 _) ty)
     clear hb JW1
     generalize W1.alloc _ = W2 at *
     generalize W1.heap.size = bx at *
     refine hK1 _ _ ?_
     clear hK1 K1
     refine R_ 5 (fun K1 hK1 => ?_)
     refine ZQ (.tmp 17) (.tmp 20) _ _ _ PU.out rfl rfl rfl rfl ?_
     rintro v7 w7 ⟨o7, t7⟩
     obtain ⟨a7, c7, e7⟩ := o7.len
     obtain ⟨m7, hm7⟩ : ∃ m7, m7 = (ns ++ [Nd.mk kd' ps' nm' t' nz' z' ob' bi' ks']).length := ⟨_, rfl⟩
     rw [← hm7] at e7
     subst e7
     obtain ⟨x8, f8, s8, r8⟩ := SW2.out.grown t7 hzn o7
     have S8 := Zb s8
     have R8 := Zb r8
     have M8 := Zb hm7
     clear s8 r8 hm7 o7 t7 PU SW2 RW2
     refine hK1 _ _ ?_
     clear hK1 K1
     refine T_ 6 (v := ?_) (fun w => ?_) ?_
     rotate_left 1
     · (go_simp <;> with_reducible rfl)
     simp only [Act.put, S_]
     refine R_ 7 (fun K1 hK1 => ?_)
     go_simp
     refine hK1 _ _ ?_
     clear hK1 K1
     refine wpAny_done (by kernel_rfl) ?_ _
     clear x8 f8
     generalize w7.setCell ⟨n, 8, none⟩ (.slice a7 m7 c7) = w8 at *
     obtain ⟨⟨fz0, fz1, fz2, fz3, fz4, fz5, fz6, fz7, fz8⟩, bz0, bz1, bz2, bz3, bz4, bz5, bz6, bz7, bz8⟩ := S8.out.zr.all
     obtain ⟨_, cg0, cg1, cg2, cg3, cg4, cg5, cg6, cg7, cg8⟩ := S8.out.vr.all
     obtain ⟨_, rfl, z9, v9, p9, t9⟩ := S8.out.done
     have Z9 := Zb z9
     have D9 := Zb (And.intro v9 (And.intro p9 t9))
     clear z9 v9 p9 t9 S8
     go_wp2_with fail
     refine Zg (w.heap.size) rfl rfl Z9.out rfl ?_
     have hw := HW.out
     simp only [YE, C3.out, if_pos C5.out, CQ.out] at hw
     subst hw
     exact ⟨_, rfl, D9.out⟩
   · go_simp
     refine (HB.out (j3 + 1) (by have := HJ.out.1; omega) _ SW0.out.pr).mono ?_
     intro e W1 hp
     rcases hp.both with ⟨kb, jb, cq, rfl, r2⟩ | ⟨kd', ps', nm', t', nz', z', ob', bi', ks', a', len', ck', jq, cq, rfl, hk, r1, r2⟩
     · have hw := HW.out
       simp only [YE, C3.out, if_pos C5.out, cq] at hw
       subst hw
       exact ⟨rfl, rfl, SW0.out.tn.trans r2⟩
     have CQ := Zb cq
     have SW1 := Zb (SW0.out.call r1 r2)
     have RW1 := Zb (RW0.out.tn r2 hgn)
     have JW1 := Zb hk
     have HC : Hid (∀ k, Value.ownBlock (.slice a m ck) = some k -> k < W0.heap.size) := fun k hk => (RW0.out.own k hk).2
     have HWs := Zb r2.size
     have HN1 := Zb (show n + 1 <= W0.heap.size from SW0.out.lt)
     clear cq hk r1 r2
     refine hK1 _ _ ?_
     clear hK1 K1
     refine wpAny_ready (rs := [1, 4]) (by kernel_rfl) (by decide) ?_
     refine AllReady.cons rfl (fun K1 hK1 => ?_) (AllReady.cons rfl (fun K1 hK1 => ?_) AllReady.nil)
     · obtain ⟨_, _, _, _, _, _, _, _, _, yq⟩ := SW1.out.vr.all
       go_simp
       refine hK1 _ _ ?_
       clear hK1 K1 yq
       refine R_ 4 (fun K1 hK1 => ?_)
       go_simp
       have hb := Zd W1 (.cells #[.int .i64 kd', .int .i64 ps', .string nm', .int .i64 t', .int .i64 nz', .int .i64 z', .int .i64 ob', .int .u64 bi', .slice a' len' ck'] 29)
       have SW2 := Zb (SW1.out.bel hb)
       have RW2 := Zb (RW1.out.bel hb)
       have PU := Zb (fun ty => Row.push (c := 1) RW2.out HN1.out HC.out (Nat.le_trans HWs.out hb.size) (by have := HJ.out.2; omega) (JW1.out.bel hb) (B_ W1 _) ty)
       clear hb JW1
       generalize W1.alloc _ = W2 at *
       generalize W1.heap.size = bx at *
       refine hK1 _ _ ?_
       clear hK1 K1
       refine R_ 5 (fun K1 hK1 => ?_)
       refine ZQ (.tmp 17) (.tmp 20) _ _ _ PU.out rfl rfl rfl rfl ?_
       rintro v7 w7 ⟨o7, t7⟩
       obtain ⟨a7, c7, e7⟩ := o7.len
       obtain ⟨m7, hm7⟩ : ∃ m7, m7 = (ns ++ [Nd.mk kd' ps' nm' t' nz' z' ob' bi' ks']).length := ⟨_, rfl⟩
       rw [← hm7] at e7
       subst e7
       obtain ⟨x8, f8, s8, r8⟩ := SW2.out.grown t7 hzn o7
       have S8 := Zb s8
       have R8 := Zb r8
       have M8 := Zb hm7
       clear s8 r8 hm7 o7 t7 PU SW2 RW2
       refine hK1 _ _ ?_
       clear hK1 K1
       refine T_ 6 (v := ?_) (fun w => ?_) ?_
       rotate_left 1
       · (go_simp <;> with_reducible rfl)
       simp only [Act.put, S_]
       refine R_ 7 (fun K1 hK1 => ?_)
       go_simp
       refine hK1 _ _ ?_
       clear hK1 K1
       refine wpAny_done (by kernel_rfl) ?_ _
       clear x8 f8
       generalize w7.setCell ⟨n, 8, none⟩ (.slice a7 m7 c7) = w8 at *
       obtain ⟨⟨fz0, fz1, fz2, fz3, fz4, fz5, fz6, fz7, fz8⟩, bz0, bz1, bz2, bz3, bz4, bz5, bz6, bz7, bz8⟩ := S8.out.zr.all
       obtain ⟨_, cg0, cg1, cg2, cg3, cg4, cg5, cg6, cg7, cg8⟩ := S8.out.vr.all
       obtain ⟨_, rfl, z9, v9, p9, t9⟩ := S8.out.done
       have Z9 := Zb z9
       have D9 := Zb (And.intro v9 (And.intro p9 t9))
       clear z9 v9 p9 t9 S8
       go_wp2_with fail
       refine Zg (w.heap.size) rfl rfl Z9.out rfl ?_
       have hw := HW.out
       simp only [YE, C3.out, if_pos C5.out, CQ.out] at hw
       subst hw
       exact ⟨_, rfl, D9.out⟩
     · go_simp
       have hb := Zd W1 (.cells #[.int .i64 kd', .int .i64 ps', .string nm', .int .i64 t', .int .i64 nz', .int .i64 z', .int .i64 ob', .int .u64 bi', .slice a' len' ck'] 29)
       have SW2 := Zb (SW1.out.bel hb)
       have RW2 := Zb (RW1.out.bel hb)
       have PU := Zb (fun ty => Row.push (c := 1) RW2.out HN1.out HC.out (Nat.le_trans HWs.out hb.size) (by have := HJ.out.2; omega) (JW1.out.bel hb) (B_ W1 _) ty)
       clear hb JW1
       generalize W1.alloc _ = W2 at *
       generalize W1.heap.size = bx at *
       refine hK1 _ _ ?_
       clear hK1 K1
       refine R_ 1 (fun K1 hK1 => ?_)
       obtain ⟨_, _, _, _, _, _, _, _, _, yq⟩ := SW2.out.vr.all
       go_simp
       refine hK1 _ _ ?_
       clear hK1 K1 yq
       refine R_ 5 (fun K1 hK1 => ?_)
       refine ZQ (.tmp 17) (.tmp 20) _ _ _ PU.out rfl rfl rfl rfl ?_
       rintro v7 w7 ⟨o7, t7⟩
       obtain ⟨a7, c7, e7⟩ := o7.len
       obtain ⟨m7, hm7⟩ : ∃ m7, m7 = (ns ++ [Nd.mk kd' ps' nm' t' nz' z' ob' bi' ks']).length := ⟨_, rfl⟩
       rw [← hm7] at e7
       subst e7
       obtain ⟨x8, f8, s8, r8⟩ := SW2.out.grown t7 hzn o7
       have S8 := Zb s8
       have R8 := Zb r8
       have M8 := Zb hm7
       clear s8 r8 hm7 o7 t7 PU SW2 RW2
       refine hK1 _ _ ?_
       clear hK1 K1
       refine T_ 6 (v := ?_) (fun w => ?_) ?_
       rotate_left 1
       · (go_simp <;> with_reducible rfl)
       simp only [Act.put, S_]
       refine R_ 7 (fun K1 hK1 => ?_)
       go_simp
       refine hK1 _ _ ?_
       clear hK1 K1
       refine wpAny_done (by kernel_rfl) ?_ _
       clear x8 f8
       generalize w7.setCell ⟨n, 8, none⟩ (.slice a7 m7 c7) = w8 at *
       obtain ⟨⟨fz0, fz1, fz2, fz3, fz4, fz5, fz6, fz7, fz8⟩, bz0, bz1, bz2, bz3, bz4, bz5, bz6, bz7, bz8⟩ := S8.out.zr.all
       obtain ⟨_, cg0, cg1, cg2, cg3, cg4, cg5, cg6, cg7, cg8⟩ := S8.out.vr.all
       obtain ⟨_, rfl, z9, v9, p9, t9⟩ := S8.out.done
       have Z9 := Zb z9
       have D9 := Zb (And.intro v9 (And.intro p9 t9))
       clear z9 v9 p9 t9 S8
       go_wp2_with fail
       refine Zg (w.heap.size) rfl rfl Z9.out rfl ?_
       have hw := HW.out
       simp only [YE, C3.out, if_pos C5.out, CQ.out] at hw
       subst hw
       exact ⟨_, rfl, D9.out⟩
 · clear RR
   have C5 := Zb c5
   have S5 := Zb (S4.out.call r1 r2)
   clear c5 r1 r2 S4
   obtain ⟨⟨fz0, fz1, fz2, fz3, fz4, fz5, fz6, fz7, fz8⟩, bz0, bz1, bz2, bz3, bz4, bz5, bz6, bz7, bz8⟩ := S5.out.zr.all
   obtain ⟨_, cg0, cg1, cg2, cg3, cg4, cg5, cg6, cg7, cg8⟩ := S5.out.vr.all
   obtain ⟨_, rfl, z9, v9, p9, t9⟩ := S5.out.done
   have Z9 := Zb z9
   have D9 := Zb (And.intro v9 (And.intro p9 t9))
   clear z9 v9 p9 t9 S5
   go_wp2_with fail
   refine Zg (w.heap.size) rfl rfl Z9.out rfl ?_
   have hw := HW.out
   simp only [YE, C3.out, if_neg C5.out] at hw
   subst hw
   exact ⟨_, rfl, D9.out⟩
def progF (dc : Nat -> Out) (L : List Tk) : Nat -> Nat -> List Nd -> OutL
 | 0, j, _ => .bad 0 j
 | f + 1, j, ns => if (Zk L j).kind = 0 then .ok ns j else match dc j with | .ok m j' => progF dc L f j' (ns ++ [m]) | .bad k j' => .bad k j'
def programO (L : List Tk) (i : Nat) (dc : Nat -> Out) : Out :=
 match progF dc L L.length i [] with | .ok ns j => .ok (.mk 1 (Zk L i).pos ⟨#[]⟩ 0 0 0 0 0 ns) j | .bad k j => .bad k j
theorem more_both {w : World} {p : List Addr} {g gT : Nat} {L : List Tk} {i l : Nat} (h : Ps w p g gT L i l) :
    Calls Tryz.prog 44 #[.pointer (some ⟨g, 0, none⟩)] w fun e w' => ((Zk L i).kind = 0 /\ e = .returned (.bool false) /\ Below w.heap.size w w') ∨ (¬ (Zk L i).kind = 0 /\ e = .returned (.bool true) /\ Below w.heap.size w w') :=
  (more_any2 h).mono (fun e w' r => by
    by_cases hh : (Zk L i).kind = 0
    · exact .inl ⟨hh, by rw [r.1, hh]; rfl, r.2⟩
    · exact .inr ⟨hh, by rw [r.1, decide_eq_true hh], r.2⟩)
theorem program_any {w : World} {p : List Addr} {g gT : Nat} {L : List Tk} {i l : Nat} (h : Ps w p g gT L i l) (dc : Nat -> Out) (hgt : ∀ j m j', dc j = .ok m j' -> j < j') (hr : ∀ j, i <= j -> ZS 47 p g gT L l j (dc j)) :
 Calls Tryz.prog 28 #[.pointer (some ⟨g, 0, none⟩)] w fun e w' => Zo p g gT L l w e w' (programO L i dc) := by
 have HP := Zb h
 have HG := Zb hgt
 have HR := Zb hr
 have hb0 := Zb (Zd w Zh)
 have hz0 := Zb (ZG w)
 have H0 := Zb (h.below hb0.out)
 obtain ⟨tk, htk⟩ : ∃ tk, Zk L i = tk := ⟨_, rfl⟩
 have HK := Zb htk
 clear htk
 obtain ⟨kind, text, nn, bits_, pos⟩ := tk
 have hf4 := tf4 (.int .i64 kind) (.string text) (.int .i64 nn) (.int .u64 bits_) (.int .i64 pos)
 have hL := h.len
 obtain ⟨out, ho⟩ : ∃ out, programO L i dc = out := ⟨_, rfl⟩
 rw [ho]
 have HW := Zb ho
 clear h ho hgt hr
 unfold Zh at *
 go_enter Tryz.func28, Tryz.ntmps28
 go_wp2_with fail
 generalize w.alloc _ = w0 at *
 refine (Zp H0.out).mono ?_
 rintro e w1 ⟨he, hb1⟩
 rw [HK.out] at he
 dsimp only [Tk.val] at he
 subst he
 have S2 := Zb (Sn.start HP.out hb0.out hz0.out (H0.out.below hb1) (Tn.of_bel hb1) 1 pos ⟨#[]⟩ 0 0)
 clear hb1 hb0 hz0 H0
 go_wp2_with fail
 generalize w1.alloc _ = w2 at *
 generalize w1.heap.size = n at *
 clear hf4
 go_loopw [] (fun wr => ∃ (j : Nat) (ns : List Nd) (a : Option Addr) (m ck : Nat), i <= j /\ ns.length <= j /\ Hid (m = ns.length /\ Sn w wr p g gT L j l w.heap.size n 1 pos ⟨#[]⟩ 0 0 a m ck ns /\ Row wr (n + 1) ns (.slice a m ck) /\ ∃ f', L.length - j <= f' /\ progF dc L f' j ns = progF dc L L.length i [])) (fun wr => L.length - nextAt wr g)
 case atStart => exact ⟨i, [], none, 0, 0, Nat.le_refl _, Nat.zero_le _, rfl, S2.out, Row.nil _ _, L.length, Nat.sub_le _ _, rfl⟩
 case round =>
  clear S2
  obtain ⟨j, ns, a, m, ck, hij, hnl, I⟩ := hrel
  have N3 := Zb I.out.2.1.pr.next
  go_wp2_with fail
  refine (more_both I.out.2.1.pr).mono ?_
  rintro e w4 (⟨c4, rfl, hb⟩ | ⟨c4, rfl, hb⟩)
  · have S4 := Zb (I.out.2.1.bel hb)
    have HQ : Hid (progF dc L L.length i [] = .ok ns j) := by
     obtain ⟨f', hf1, hf2⟩ := I.out.2.2.2
     have hlt := I.out.2.1.pr.lt
     obtain ⟨f2, rfl⟩ : ∃ f2, f' = f2 + 1 := ⟨f' - 1, by omega⟩
     simp only [progF, if_pos c4] at hf2
     exact hf2.symm
    clear c4 hb I
    obtain ⟨⟨fz0, fz1, fz2, fz3, fz4, fz5, fz6, fz7, fz8⟩, bz0, bz1, bz2, bz3, bz4, bz5, bz6, bz7, bz8⟩ := S4.out.zr.all
    obtain ⟨_, cg0, cg1, cg2, cg3, cg4, cg5, cg6, cg7, cg8⟩ := S4.out.vr.all
    obtain ⟨_, rfl, z9, v9, p9, t9⟩ := S4.out.done
    have Z9 := Zb z9
    have D9 := Zb (And.intro v9 (And.intro p9 t9))
    clear z9 v9 p9 t9 S4
    go_wp2_with fail
    refine Zg (w.heap.size) rfl rfl Z9.out rfl ?_
    have hw := HW.out
    simp only [programO, HQ.out] at hw
    subst hw
    rw [HK.out]
    exact ⟨_, rfl, D9.out⟩
  · have C4 := Zb c4
    have S4 := Zb (I.out.2.1.bel hb)
    have RY := Zb (I.out.2.2.1.bel hb)
    have hlt := I.out.2.1.pr.lt
    have F4 := Zb I.out.2.2.2
    have EN := Zb I.out.1
    clear c4 hb I
    go_wp2_with fail
    refine wp_region_any ZI ?_
    change wpAny _ _ _ _ _ _ _ (World.drew _)
    have SW0 := Zb S4.out.drew
    have RW0 := Zb (RY.out.bel (Zm (Below.refl _ _)))
    have hgn : g < n + 1 := by have := SW0.out.ng; have := SW0.out.nn; omega
    have hzn : w.heap.size < n := by have := SW0.out.ne; have := SW0.out.nn; omega
    clear S4 RY
    generalize World.drew w4 = W0 at *
    refine T_ 0 (v := ?_) (fun w => ?_) ?_
    rotate_left 1
    · (go_simp <;> with_reducible rfl)
    simp only [Act.put, S_]
    refine T_ 2 (v := ?_) (fun w => ?_) ?_
    rotate_left 1
    · (go_simp <;> with_reducible rfl)
    simp only [Act.put, S_]
    refine wpAny_ready (rs := [1, 3]) (by kernel_rfl) (by decide) ?_
    refine AllReady.cons rfl (fun K1 hK1 => ?_) (AllReady.cons rfl (fun K1 hK1 => ?_) AllReady.nil)
    · obtain ⟨_, _, _, _, _, _, _, _, _, yq⟩ := SW0.out.vr.all
      go_simp
      refine hK1 _ _ ?_
      clear hK1 K1 yq
      refine R_ 3 (fun K1 hK1 => ?_)
      go_simp
      refine (HR.out j hij _ SW0.out.pr).mono ?_
      intro e W1 hp
      rcases hp.both with ⟨kb, jb, cq, rfl, r2⟩ | ⟨kd', ps', nm', t', nz', z', ob', bi', ks', a', len', ck', jq, cq, rfl, hk, r1, r2⟩
      · obtain ⟨f', hf1, hf2⟩ := F4.out
        obtain ⟨f2, rfl⟩ : ∃ f2, f' = f2 + 1 := ⟨f' - 1, by omega⟩
        simp only [progF, if_neg C4.out, cq] at hf2
        have hw := HW.out
        simp only [programO, ← hf2] at hw
        subst hw
        exact ⟨rfl, rfl, SW0.out.tn.trans r2⟩
      have CQ := Zb cq
      have SW1 := Zb (SW0.out.call r1 r2)
      have RW1 := Zb (RW0.out.tn r2 hgn)
      have JW1 := Zb hk
      have HC : Hid (∀ k, Value.ownBlock (.slice a m ck) = some k -> k < W0.heap.size) := fun k hk => (RW0.out.own k hk).2
      have HWs := Zb r2.size
      have HN1 := Zb (show n + 1 <= W0.heap.size from SW0.out.lt)
      clear cq hk r1 r2
      refine hK1 _ _ ?_
      clear hK1 K1
      refine R_ 4 (fun K1 hK1 => ?_)
      go_simp
      have hb := Zd W1 (.cells #[.int .i64 kd', .int .i64 ps', .string nm', .int .i64 t', .int .i64 nz', .int .i64 z', .int .i64 ob', .int .u64 bi', .slice a' len' ck'] 29)
      have SW2 := Zb (SW1.out.bel hb)
      have RW2 := Zb (RW1.out.bel hb)
      have PU := Zb (fun ty => Row.push (c := 1) RW2.out HN1.out HC.out (Nat.le_trans HWs.out hb.size) (by omega) (JW1.out.bel hb) (B_ W1 _) ty)
      clear hb JW1
      generalize W1.alloc _ = W2 at *
      generalize W1.heap.size = bx at *
      refine hK1 _ _ ?_
      clear hK1 K1
      refine R_ 5 (fun K1 hK1 => ?_)
      refine ZQ (.tmp 11) (.tmp 14) _ _ _ PU.out rfl rfl rfl rfl ?_
      rintro v7 w7 ⟨o7, t7⟩
      obtain ⟨a7, c7, e7⟩ := o7.len
      obtain ⟨m7, hm7⟩ : ∃ m7, m7 = (ns ++ [Nd.mk kd' ps' nm' t' nz' z' ob' bi' ks']).length := ⟨_, rfl⟩
      rw [← hm7] at e7
      subst e7
      obtain ⟨x8, f8, s8, r8⟩ := SW2.out.grown t7 hzn o7
      have S8 := Zb s8
      have R8 := Zb r8
      have M8 := Zb hm7
      clear s8 r8 hm7 o7 t7 PU SW2 RW2
      refine hK1 _ _ ?_
      clear hK1 K1
      refine T_ 6 (v := ?_) (fun w => ?_) ?_
      rotate_left 1
      · (go_simp <;> with_reducible rfl)
      simp only [Act.put, S_]
      refine R_ 7 (fun K1 hK1 => ?_)
      go_simp
      refine hK1 _ _ ?_
      clear hK1 K1
      refine wpAny_done (by kernel_rfl) ?_ _
      clear x8 f8
      generalize w7.setCell ⟨n, 8, none⟩ (.slice a7 m7 c7) = w8 at *
      have hj' := HG.out _ _ jq CQ.out
      have F5 : Hid (∃ f', L.length - jq <= f' /\ progF dc L f' jq (ns ++ [Nd.mk kd' ps' nm' t' nz' z' ob' bi' ks']) = progF dc L L.length i []) := by
       obtain ⟨f', hf1, hf2⟩ := F4.out
       obtain ⟨f2, rfl⟩ : ∃ f2, f' = f2 + 1 := ⟨f' - 1, by omega⟩
       simp only [progF, if_neg C4.out, CQ.out] at hf2
       exact ⟨f2, by omega, hf2⟩
      go_wp2_with fail
      go_roundw
      case rel => exact ⟨jq, _, _, _, _, by omega, by rw [List.length_append, List.length_singleton]; omega, M8.out, S8.out, R8.out, F5.out⟩
      case measure =>
       have h7 := S8.out.pr.next
       rw [h7, N3.out]
       omega
    · go_simp
      refine (HR.out j hij _ SW0.out.pr).mono ?_
      intro e W1 hp
      rcases hp.both with ⟨kb, jb, cq, rfl, r2⟩ | ⟨kd', ps', nm', t', nz', z', ob', bi', ks', a', len', ck', jq, cq, rfl, hk, r1, r2⟩
      · obtain ⟨f', hf1, hf2⟩ := F4.out
        obtain ⟨f2, rfl⟩ : ∃ f2, f' = f2 + 1 := ⟨f' - 1, by omega⟩
        simp only [progF, if_neg C4.out, cq] at hf2
        have hw := HW.out
        simp only [programO, ← hf2] at hw
        subst hw
        exact ⟨rfl, rfl, SW0.out.tn.trans r2⟩
      have CQ := Zb cq
      have SW1 := Zb (SW0.out.call r1 r2)
      have RW1 := Zb (RW0.out.tn r2 hgn)
      have JW1 := Zb hk
      have HC : Hid (∀ k, Value.ownBlock (.slice a m ck) = some k -> k < W0.heap.size) := fun k hk => (RW0.out.own k hk).2
      have HWs := Zb r2.size
      have HN1 := Zb (show n + 1 <= W0.heap.size from SW0.out.lt)
      clear cq hk r1 r2
      refine hK1 _ _ ?_
      clear hK1 K1
      refine wpAny_ready (rs := [1, 4]) (by kernel_rfl) (by decide) ?_
      refine AllReady.cons rfl (fun K1 hK1 => ?_) (AllReady.cons rfl (fun K1 hK1 => ?_) AllReady.nil)
      · obtain ⟨_, _, _, _, _, _, _, _, _, yq⟩ := SW1.out.vr.all
        go_simp
        refine hK1 _ _ ?_
        clear hK1 K1 yq
        refine R_ 4 (fun K1 hK1 => ?_)
        go_simp
        have hb := Zd W1 (.cells #[.int .i64 kd', .int .i64 ps', .string nm', .int .i64 t', .int .i64 nz', .int .i64 z', .int .i64 ob', .int .u64 bi', .slice a' len' ck'] 29)
        have SW2 := Zb (SW1.out.bel hb)
        have RW2 := Zb (RW1.out.bel hb)
        have PU := Zb (fun ty => Row.push (c := 1) RW2.out HN1.out HC.out (Nat.le_trans HWs.out hb.size) (by omega) (JW1.out.bel hb) (B_ W1 _) ty)
        clear hb JW1
        generalize W1.alloc _ = W2 at *
        generalize W1.heap.size = bx at *
        refine hK1 _ _ ?_
        clear hK1 K1
        refine R_ 5 (fun K1 hK1 => ?_)
        refine ZQ (.tmp 11) (.tmp 14) _ _ _ PU.out rfl rfl rfl rfl ?_
        rintro v7 w7 ⟨o7, t7⟩
        obtain ⟨a7, c7, e7⟩ := o7.len
        obtain ⟨m7, hm7⟩ : ∃ m7, m7 = (ns ++ [Nd.mk kd' ps' nm' t' nz' z' ob' bi' ks']).length := ⟨_, rfl⟩
        rw [← hm7] at e7
        subst e7
        obtain ⟨x8, f8, s8, r8⟩ := SW2.out.grown t7 hzn o7
        have S8 := Zb s8
        have R8 := Zb r8
        have M8 := Zb hm7
        clear s8 r8 hm7 o7 t7 PU SW2 RW2
        refine hK1 _ _ ?_
        clear hK1 K1
        refine T_ 6 (v := ?_) (fun w => ?_) ?_
        rotate_left 1
        · (go_simp <;> with_reducible rfl)
        simp only [Act.put, S_]
        refine R_ 7 (fun K1 hK1 => ?_)
        go_simp
        refine hK1 _ _ ?_
        clear hK1 K1
        refine wpAny_done (by kernel_rfl) ?_ _
        clear x8 f8
        generalize w7.setCell ⟨n, 8, none⟩ (.slice a7 m7 c7) = w8 at *
        have hj' := HG.out _ _ jq CQ.out
        have F5 : Hid (∃ f', L.length - jq <= f' /\ progF dc L f' jq (ns ++ [Nd.mk kd' ps' nm' t' nz' z' ob' bi' ks']) = progF dc L L.length i []) := by
         obtain ⟨f', hf1, hf2⟩ := F4.out
         obtain ⟨f2, rfl⟩ : ∃ f2, f' = f2 + 1 := ⟨f' - 1, by omega⟩
         simp only [progF, if_neg C4.out, CQ.out] at hf2
         exact ⟨f2, by omega, hf2⟩
        go_wp2_with fail
        go_roundw
        case rel => exact ⟨jq, _, _, _, _, by omega, by rw [List.length_append, List.length_singleton]; omega, M8.out, S8.out, R8.out, F5.out⟩
        case measure =>
         have h7 := S8.out.pr.next
         rw [h7, N3.out]
         omega
      · go_simp
        have hb := Zd W1 (.cells #[.int .i64 kd', .int .i64 ps', .string nm', .int .i64 t', .int .i64 nz', .int .i64 z', .int .i64 ob', .int .u64 bi', .slice a' len' ck'] 29)
        have SW2 := Zb (SW1.out.bel hb)
        have RW2 := Zb (RW1.out.bel hb)
        have PU := Zb (fun ty => Row.push (c := 1) RW2.out HN1.out HC.out (Nat.le_trans HWs.out hb.size) (by omega) (JW1.out.bel hb) (B_ W1 _) ty)
        clear hb JW1
        generalize W1.alloc _ = W2 at *
        generalize W1.heap.size = bx at *
        refine hK1 _ _ ?_
        clear hK1 K1
        refine R_ 1 (fun K1 hK1 => ?_)
        obtain ⟨_, _, _, _, _, _, _, _, _, yq⟩ := SW2.out.vr.all
        go_simp
        refine hK1 _ _ ?_
        clear hK1 K1 yq
        refine R_ 5 (fun K1 hK1 => ?_)
        refine ZQ (.tmp 11) (.tmp 14) _ _ _ PU.out rfl rfl rfl rfl ?_
        rintro v7 w7 ⟨o7, t7⟩
        obtain ⟨a7, c7, e7⟩ := o7.len
        obtain ⟨m7, hm7⟩ : ∃ m7, m7 = (ns ++ [Nd.mk kd' ps' nm' t' nz' z' ob' bi' ks']).length := ⟨_, rfl⟩
        rw [← hm7] at e7
        subst e7
        obtain ⟨x8, f8, s8, r8⟩ := SW2.out.grown t7 hzn o7
        have S8 := Zb s8
        have R8 := Zb r8
        have M8 := Zb hm7
        clear s8 r8 hm7 o7 t7 PU SW2 RW2
        refine hK1 _ _ ?_
        clear hK1 K1
        refine T_ 6 (v := ?_) (fun w => ?_) ?_
        rotate_left 1
        · (go_simp <;> with_reducible rfl)
        simp only [Act.put, S_]
        refine R_ 7 (fun K1 hK1 => ?_)
        go_simp
        refine hK1 _ _ ?_
        clear hK1 K1
        refine wpAny_done (by kernel_rfl) ?_ _
        clear x8 f8
        generalize w7.setCell ⟨n, 8, none⟩ (.slice a7 m7 c7) = w8 at *
        have hj' := HG.out _ _ jq CQ.out
        have F5 : Hid (∃ f', L.length - jq <= f' /\ progF dc L f' jq (ns ++ [Nd.mk kd' ps' nm' t' nz' z' ob' bi' ks']) = progF dc L L.length i []) := by
         obtain ⟨f', hf1, hf2⟩ := F4.out
         obtain ⟨f2, rfl⟩ : ∃ f2, f' = f2 + 1 := ⟨f' - 1, by omega⟩
         simp only [progF, if_neg C4.out, CQ.out] at hf2
         exact ⟨f2, by omega, hf2⟩
        go_wp2_with fail
        go_roundw
        case rel => exact ⟨jq, _, _, _, _, by omega, by rw [List.length_append, List.length_singleton]; omega, M8.out, S8.out, R8.out, F5.out⟩
        case measure =>
         have h7 := S8.out.pr.next
         rw [h7, N3.out]
         omega
theorem endO_gt {L : List Tk} {j : Nat} {n m : Nd} {j' : Nat} (h : ZX L j n = .ok m j') : j < j' := by
 unfold ZX at h
 split at h
 · cases h; omega
 · cases h
theorem boundO_gt {L : List Tk} {i : Nat} {t : Int} {j : Nat} (h : boundO L i = .ok t j) : i < j := by
 unfold boundO at h
 split at h
 · split at h
   · split at h
     · cases h; omega
     · cases h
   · cases h
 · cases h
theorem variableO_gt {L : List Tk} {i : Nat} {n : Nd} {j : Nat} (h : Ye L i = .ok n j) : i < j := by
 unfold Ye at h
 split at h
 · split at h
   · cases hq : boundO L (i + 1 + 1) with
     | bad k a => rw [hq] at h; cases h
     | ok z a =>
      rw [hq] at h
      dsimp only at h
      have h1 := boundO_gt hq
      cases hq2 : YA L a with
      | bad k b => rw [hq2] at h; cases h
      | ok t b =>
       rw [hq2] at h
       have h2 := typedO_gt hq2
       have h3 := endO_gt h
       omega
   · cases hq2 : YA L (i + 1 + 1) with
     | bad k b => rw [hq2] at h; cases h
     | ok t b =>
      rw [hq2] at h
      have h2 := typedO_gt hq2
      have h3 := endO_gt h
      omega
 · cases h
theorem channelO_gt {L : List Tk} {i : Nat} {n : Nd} {j : Nat} (h : YD L i = .ok n j) : i < j := by
 unfold YD at h
 split at h
 · cases hq : boundO L (i + 1 + 1) with
   | bad k a => rw [hq] at h; cases h
   | ok z a =>
    rw [hq] at h
    dsimp only at h
    have h1 := boundO_gt hq
    cases hq2 : YA L a with
    | bad k b => rw [hq2] at h; cases h
    | ok t b =>
     rw [hq2] at h
     have h2 := typedO_gt hq2
     have h3 := endO_gt h
     omega
 · cases h
theorem named0O_gt {L : List Tk} {kd : Int} {i : Nat} {n : Nd} {j : Nat} (h : named0O L kd i = .ok n j) : i < j := by
 unfold named0O at h
 split at h
 · have := endO_gt h
   omega
 · cases h
theorem named1O_gt {L : List Tk} {kd : Int} {i : Nat} {r : Out} {n : Nd} {j : Nat} (hr : ∀ m j', r = .ok m j' -> i + 1 + 1 + 1 <= j') (h : ZL L kd i r = .ok n j) : i < j := by
 unfold ZL at h
 split at h
 · split at h
   · cases r with
     | bad k a => cases h
     | ok m a =>
      have h1 := hr _ _ rfl
      have h2 := endO_gt h
      omega
   · cases h
 · cases h
theorem wrapL_gt {L : List Tk} {l i : Nat} {op sh : ByteArray} {r : OutL} (hr : ∀ m j', r = .ok m j' -> i + 1 <= j') {ns : List Nd} {j : Nat} (h : YG L l i op sh r = .ok ns j) : i < j := by
 unfold YG at h
 split at h
 · split at h
   · cases h
   · cases r with
     | bad k a => cases h
     | ok m a =>
      have h1 := hr _ _ rfl
      dsimp only at h
      split at h
      · cases h; omega
      · cases h
 · cases h
theorem listF_ge' {rule : Nat -> Out} {L : List Tk} (hge : ∀ j m j', rule j = .ok m j' -> j <= j') : ∀ (f j : Nat) (ns ms : List Nd) (j' : Nat), YK rule L f j ns = .ok ms j' -> j <= j'
 | 0, _, _, _, _, h => by unfold YK at h; cases h
 | f + 1, j, ns, ms, j', h => by
  unfold YK at h
  split at h
  · cases hq : rule (j + 1) with
    | bad k a => rw [hq] at h; cases h
    | ok m a =>
     rw [hq] at h
     have h1 := hge _ _ _ hq
     have h2 := listF_ge' hge f a _ ms j' h
     omega
  · cases h
    exact Nat.le_refl _
theorem argsO_ge {L : List Tk} {i : Nat} {rule : Nat -> Out} (hge : ∀ j m j', rule j = .ok m j' -> j <= j') {ns : List Nd} {j : Nat} (h : argsO L i rule = .ok ns j) : i <= j := by
 unfold argsO at h
 split at h
 · cases h; exact Nat.le_refl _
 · unfold listO at h
   cases hq : rule i with
   | bad k a => rw [hq] at h; cases h
   | ok m a =>
    rw [hq] at h
    exact Nat.le_trans (hge _ _ _ hq) (listF_ge' hge _ _ _ _ _ h)
theorem calledO_gt {L : List Tk} {l i : Nat} {rule : Nat -> Out} (hge : ∀ j m j', rule j = .ok m j' -> j <= j') {mkn : List Nd -> Nd} {n : Nd} {j : Nat} (h : calledO L l i rule mkn = .ok n j) : i < j := by
 unfold calledO at h
 cases hq : YG L l i bOpen bShut (argsO L (i + 1) rule) with
 | bad k a => rw [hq] at h; cases h
 | ok ns a =>
  rw [hq] at h
  have h1 := wrapL_gt (fun _ _ hh => argsO_ge hge hh) hq
  have h2 := endO_gt h
  omega
theorem goesO_gt {L : List Tk} {l i : Nat} {rule : Nat -> Out} (hge : ∀ j m j', rule j = .ok m j' -> j <= j') {n : Nd} {j : Nat} (h : goesO L l i rule = .ok n j) : i < j := by
 unfold goesO at h
 split at h
 · have := calledO_gt hge h
   omega
 · cases h
theorem blockO_gt {L : List Tk} {l i : Nat} {r : OutL} (hr : ∀ m j', r = .ok m j' -> i + 1 <= j') {n : Nd} {j : Nat} (h : blockO L l i r = .ok n j) : i < j := by
 unfold blockO at h
 cases hq : YG L l i bCur bCue r with
 | bad k a => rw [hq] at h; cases h
 | ok ns a =>
  rw [hq] at h
  have := wrapL_gt hr hq
  cases h
  omega
theorem stmtsF_ge {rule : Nat -> Out} {L : List Tk} (hge : ∀ j m j', rule j = .ok m j' -> j <= j') : ∀ (f j : Nat) (ns ms : List Nd) (j' : Nat), stmtsF rule L f j ns = .ok ms j' -> j <= j'
 | 0, _, _, _, _, h => by unfold stmtsF at h; cases h
 | f + 1, j, ns, ms, j', h => by
  unfold stmtsF at h
  split at h
  · cases h
    exact Nat.le_refl _
  · cases hq : rule j with
    | bad k a => rw [hq] at h; cases h
    | ok m a =>
     rw [hq] at h
     have h1 := hge _ _ _ hq
     have h2 := stmtsF_ge hge f a _ ms j' h
     omega
theorem branchO_gt {L : List Tk} {i : Nat} {ex bl : Nat -> Out} (h1 : ∀ n j, ex (i + 1) = .ok n j -> i + 1 <= j) (h2 : ∀ q n j, bl q = .ok n j -> q <= j) {n : Nd} {j : Nat} (h : YE L i ex bl = .ok n j) : i < j := by
 unfold YE at h
 cases hq : all2O ex bl (i + 1) with
 | bad k a => rw [hq] at h; cases h
 | ok ns a =>
  rw [hq] at h
  have h3 := (all2_ge h1 h2 hq).1
  dsimp only at h
  split at h
  · cases hq2 : bl (a + 1) with
    | bad k b => rw [hq2] at h; cases h
    | ok m b =>
     rw [hq2] at h
     have h4 := h2 _ _ _ hq2
     cases h
     omega
  · cases h
    omega
theorem loopO_gt {L : List Tk} {i : Nat} {ex bl : Nat -> Out} (h1 : ∀ n j, ex (i + 1) = .ok n j -> i + 1 <= j) (h2 : ∀ q n j, bl q = .ok n j -> q <= j) {n : Nd} {j : Nat} (h : loopO L i ex bl = .ok n j) : i < j := by
 unfold loopO at h
 cases hq : all2O ex bl (i + 1) with
 | bad k a => rw [hq] at h; cases h
 | ok ns a =>
  rw [hq] at h
  have h3 := (all2_ge h1 h2 hq).1
  cases h
  omega
theorem targetO_gt {L : List Tk} {l i : Nat} {r : Out} (hr : ∀ m j', r = .ok m j' -> i + 1 + 1 <= j') {n : Nd} {j : Nat} (h : targetO L l i r = .ok n j) : i < j := by
 unfold targetO at h
 split at h
 · by_cases hh : has L (i + 1) [bOpn] = true
   · rw [if_pos hh] at h
     cases hq : wrapO L l (i + 1) bOpn bSht r with
     | bad k a => rw [hq] at h; cases h
     | ok m a =>
      rw [hq] at h
      have := wrapO_ge (i := i + 1) hr hq
      cases h
      omega
   · rw [if_neg hh] at h
     cases h
     omega
 · cases h
theorem wordFirstO_gt {L : List Tk} {l i : Nat} {tg : Out} {ex exI : Nat -> Out} (h1 : ∀ n j, tg = .ok n j -> i < j) (h2 : ∀ q n j, ex q = .ok n j -> q <= j) (h3 : ∀ q n j, exI q = .ok n j -> q <= j) {n : Nd} {j : Nat} (h : Zu L l tg ex exI = .ok n j) : i < j := by
 unfold Zu at h
 cases tg with
 | bad k a => cases h
 | ok m a =>
  have h4 := h1 _ _ rfl
  dsimp only at h
  split at h
  · have := calledO_gt h3 h
    omega
  · split at h
    · cases hq : ex (a + 1) with
      | bad k b => rw [hq] at h; cases h
      | ok m2 b =>
       rw [hq] at h
       have h5 := h2 _ _ _ hq
       have h6 := endO_gt h
       omega
    · split at h
      · cases hq : ex (a + 1) with
        | bad k b => rw [hq] at h; cases h
        | ok m2 b =>
         rw [hq] at h
         have h5 := h2 _ _ _ hq
         have h6 := endO_gt h
         omega
      · cases h
theorem functionO_gt {L : List Tk} {i : Nat} {bl : Nat -> Out} (h2 : ∀ q n j, bl q = .ok n j -> q <= j) {n : Nd} {j : Nat} (h : ZM L i bl = .ok n j) : i < j := by
 unfold ZM at h
 split at h
 · split at h
   · split at h
     · split at h
       · rename_i ns a hq
         have h3 : i <= a := by
          split at hq
          · cases hq; omega
          · have := (listO_ge (fun _ _ _ hh => paramO_gt hh) hq).1
            omega
         split at h
         · cases hq2 : bl (a + 1) with
           | bad k b => rw [hq2] at h; cases h
           | ok m b =>
            rw [hq2] at h
            have h4 := h2 _ _ _ hq2
            cases h
            omega
         · cases h
       · cases h
     · cases h
   · cases h
 · cases h
def stO (L : List Tk) (l i : Nat) (ex exI tg bl : Nat -> Out) : Out :=
 if has L i [⟨#[103, 111]⟩] = true then goesO L l i exI else
 if has L i [⟨#[108, 111, 99, 107]⟩] = true then named0O L 14 i else
 if has L i [⟨#[117, 110, 108, 111, 99, 107]⟩] = true then named0O L 15 i else
 if has L i [⟨#[115, 101, 110, 100]⟩] = true then ZL L 16 i (ex (i + 1 + 1 + 1)) else
 if has L i [⟨#[114, 101, 99, 118]⟩] = true then ZL L 17 i (tg (i + 1 + 1 + 1)) else
 if has L i [⟨#[97, 100, 100]⟩] = true then ZL L 18 i (ex (i + 1 + 1 + 1)) else
 if has L i [⟨#[112, 117, 116]⟩] = true then ZL L 19 i (ex (i + 1 + 1 + 1)) else
 if has L i [⟨#[103, 101, 116]⟩] = true then ZL L 20 i (tg (i + 1 + 1 + 1)) else
 if has L i [⟨#[105, 102]⟩] = true then YE L i ex bl else
 if has L i [⟨#[119, 104, 105, 108, 101]⟩] = true then loopO L i ex bl else
 if has L i [⟨#[114, 101, 116, 117, 114, 110]⟩] = true then leave0O L i else
 if has L i [⟨#[102, 97, 105, 108]⟩] = true then leave1O L i (ex (i + 1)) else
 Zu L l (tg i) ex exI
def dcO (L : List Tk) (bl : Nat -> Out) (i : Nat) : Out :=
 if has L i [⟨#[118, 97, 114]⟩] = true then Ye L i else
 if has L i [⟨#[109, 117, 116, 101, 120]⟩] = true then named0O L 4 i else
 if has L i [⟨#[99, 104, 97, 110]⟩] = true then YD L i else
 if has L i [⟨#[97, 116, 111, 109, 105, 99]⟩] = true then named0O L 6 i else
 ZM L i bl
def exD (L : List Tk) (l i : Nat) : Out := pz L (8 * L.length + 7) 0 l i
def tgD (L : List Tk) (l i : Nat) : Out := targetO L l i (pz L (8 * L.length + 7) 0 (l + 1) (i + 1 + 1))
def stF (L : List Tk) : Nat -> Nat -> Nat -> Out
 | 0, _, i => .bad 0 i
 | f + 1, l, i => stO L l i (exD L l) (exD L (l + 1)) (tgD L l) (fun j => blockO L l j (stmtsF (stF L f (l + 1)) L L.length (j + 1) []))
def blD (L : List Tk) (f l j : Nat) : Out := blockO L l j (stmtsF (stF L f (l + 1)) L L.length (j + 1) [])
def prD (L : List Tk) : Out := programO L 0 (dcO L (blD L (L.length + 1) 0))
theorem exD_ge {L : List Tk} {l q : Nat} {n : Nd} {j : Nat} (h : exD L l q = .ok n j) : q <= j := pz_ge _ _ _ _ _ _ _ h
theorem tgD_gt {L : List Tk} {l q : Nat} {n : Nd} {j : Nat} (h : tgD L l q = .ok n j) : q < j := targetO_gt (fun _ _ hh => pz_ge _ _ _ _ _ _ _ hh) h
theorem leave1O_gt {L : List Tk} {i : Nat} {r : Out} {n : Nd} {j : Nat} (hr : ∀ m j', r = .ok m j' -> i + 1 <= j') (h : leave1O L i r = .ok n j) : i < j := by
 unfold leave1O at h
 cases r with
 | bad k a => cases h
 | ok m a =>
  have h1 := hr _ _ rfl
  have h2 := endO_gt h
  omega
theorem leave0O_gt {L : List Tk} {i : Nat} {n : Nd} {j : Nat} (h : leave0O L i = .ok n j) : i < j := by
 unfold leave0O at h
 have := endO_gt h
 omega
theorem stO_gt {L : List Tk} {l i : Nat} {ex exI tg bl : Nat -> Out} (h1 : ∀ q n j, ex q = .ok n j -> q <= j) (h2 : ∀ q n j, exI q = .ok n j -> q <= j) (h3 : ∀ q n j, tg q = .ok n j -> q < j) (h4 : ∀ q n j, bl q = .ok n j -> q <= j) {n : Nd} {j : Nat} (h : stO L l i ex exI tg bl = .ok n j) : i < j := by
 unfold stO at h
 by_cases hc : has L i [⟨#[103, 111]⟩] = true
 · rw [if_pos hc] at h
   exact goesO_gt h2 h
 rw [if_neg hc] at h
 clear hc
 by_cases hc : has L i [⟨#[108, 111, 99, 107]⟩] = true
 · rw [if_pos hc] at h
   exact named0O_gt h
 rw [if_neg hc] at h
 clear hc
 by_cases hc : has L i [⟨#[117, 110, 108, 111, 99, 107]⟩] = true
 · rw [if_pos hc] at h
   exact named0O_gt h
 rw [if_neg hc] at h
 clear hc
 by_cases hc : has L i [⟨#[115, 101, 110, 100]⟩] = true
 · rw [if_pos hc] at h
   exact named1O_gt (h1 _) h
 rw [if_neg hc] at h
 clear hc
 by_cases hc : has L i [⟨#[114, 101, 99, 118]⟩] = true
 · rw [if_pos hc] at h
   exact named1O_gt (fun m j' hh => Nat.le_of_lt (h3 _ m j' hh)) h
 rw [if_neg hc] at h
 clear hc
 by_cases hc : has L i [⟨#[97, 100, 100]⟩] = true
 · rw [if_pos hc] at h
   exact named1O_gt (h1 _) h
 rw [if_neg hc] at h
 clear hc
 by_cases hc : has L i [⟨#[112, 117, 116]⟩] = true
 · rw [if_pos hc] at h
   exact named1O_gt (h1 _) h
 rw [if_neg hc] at h
 clear hc
 by_cases hc : has L i [⟨#[103, 101, 116]⟩] = true
 · rw [if_pos hc] at h
   exact named1O_gt (fun m j' hh => Nat.le_of_lt (h3 _ m j' hh)) h
 rw [if_neg hc] at h
 clear hc
 by_cases hc : has L i [⟨#[105, 102]⟩] = true
 · rw [if_pos hc] at h
   exact branchO_gt (h1 _) h4 h
 rw [if_neg hc] at h
 clear hc
 by_cases hc : has L i [⟨#[119, 104, 105, 108, 101]⟩] = true
 · rw [if_pos hc] at h
   exact loopO_gt (h1 _) h4 h
 rw [if_neg hc] at h
 clear hc
 by_cases hc : has L i [⟨#[114, 101, 116, 117, 114, 110]⟩] = true
 · rw [if_pos hc] at h
   exact leave0O_gt h
 rw [if_neg hc] at h
 clear hc
 by_cases hc : has L i [⟨#[102, 97, 105, 108]⟩] = true
 · rw [if_pos hc] at h
   exact leave1O_gt (h1 _) h
 rw [if_neg hc] at h
 clear hc
 exact wordFirstO_gt (h3 i) h1 h2 h
theorem stF_gt (L : List Tk) : ∀ (f l i : Nat) (n : Nd) (j : Nat), stF L f l i = .ok n j -> i < j
 | 0, _, _, _, _, h => by unfold stF at h; cases h
 | f + 1, l, i, n, j, h => by
  unfold stF at h
  exact stO_gt (fun _ _ _ hh => exD_ge hh) (fun _ _ _ hh => exD_ge hh) (fun _ _ _ hh => tgD_gt hh) (fun _ _ _ hh => Nat.le_of_lt (blockO_gt (fun _ _ hq => stmtsF_ge (fun a b c hc => Nat.le_of_lt (stF_gt L f (l + 1) a b c hc)) _ _ _ _ _ hq) hh)) h
theorem blD_gt {L : List Tk} {f l q : Nat} {n : Nd} {j : Nat} (h : blD L f l q = .ok n j)   : q < j := blockO_gt (fun _ _ hq => stmtsF_ge (fun a b c hc => Nat.le_of_lt (stF_gt L f (l + 1) a b c hc)) _ _ _ _ _ hq) h
theorem dcO_gt {L : List Tk} {bl : Nat -> Out} (h2 : ∀ q n j, bl q = .ok n j -> q <= j) {i : Nat} {n : Nd} {j : Nat} (h : dcO L bl i = .ok n j) : i < j := by
 unfold dcO at h
 split at h
 · exact variableO_gt h
 split at h
 · exact named0O_gt h
 split at h
 · exact channelO_gt h
 split at h
 · exact named0O_gt h
 · exact functionO_gt h2 h
theorem variable_any {w : World} {p : List Addr} {g gT : Nat} {L : List Tk} {i l : Nat} (h : Ps w p g gT L i l) (hE : Ya L) (hi : i + 1 < L.length) :
 Calls Tryz.prog 75 #[.pointer (some ⟨g, 0, none⟩)] w fun e w' => Zo p g gT L l w e w' (Ye L i) := by
 have HP := Zb h
 have HE := Zb hE
 have HI := Zb hi
 have hb0 := Zb (Zd w Zh)
 have hz0 := Zb (ZG w)
 have H0 := Zb (h.below hb0.out)
 obtain ⟨out, ho⟩ : ∃ out, Ye L i = out := ⟨_, rfl⟩
 rw [ho]
 have HW := Zb ho
 clear h hE ho hi
 unfold Zh at *
 go_enter Tryz.func75, Tryz.ntmps75
 go_wp2_with fail
 generalize w.alloc _ = w0 at *
 refine (Yt H0.out (2) HI.out).mono ?_
 rintro e w1 ⟨rfl, r1, r2⟩
 have S2 := Zb (Sn.start HP.out hb0.out hz0.out r1 r2 (2) (Zk L i).pos ⟨#[]⟩ 0 0)
 clear r1 r2 hb0 hz0 H0
 go_wp2_with fail
 generalize w1.alloc _ = w2 at *
 generalize w1.heap.size = n at *
 refine (YH S2.out.pr HE.out ).mono ?_
 rintro e w3 (⟨c3, rfl, r2⟩ | ⟨c3, rfl, r1, r2⟩)
 · have hw := HW.out
   simp only [Ye, ZX, if_neg c3] at hw
   subst hw
   exact ⟨rfl, rfl, S2.out.tn.trans r2⟩
 have C3 := Zb c3
 have S3 := Zb (S2.out.call r1 r2)
 clear c3 r1 r2 S2
 obtain ⟨⟨fr0, fr1, fr2, fr3, fr4, fr5, fr6, fr7, fr8⟩, ce0, ce1, ce2, ce3, ce4, ce5, ce6, ce7, ce8⟩ := S3.out.vr.all
 have S4 := Zb (S3.out.setName (tx L (i + 1)))
 clear S3
 go_wp2_with fail
 clear fr0 fr1 fr2 fr3 fr4 fr5 fr6 fr7 fr8 ce0 ce1 ce2 ce3 ce4 ce5 ce6 ce7 ce8
 have e4 : (w3.setCell ⟨n, 2, none⟩ (.string (tx L (i + 1)))).heap.size = w3.heap.size := by simp
 generalize w3.setCell ⟨n, 2, none⟩ (.string (tx L (i + 1))) = w4 at *
 rw [← e4]
 clear e4
 refine (sees_both S4.out.pr bOpn).mono ?_
 rintro e w5 (⟨c5, rfl, hb⟩ | ⟨c5, rfl, hb⟩)
 · have C5 := Zb c5
   have S5 := Zb (S4.out.bel hb)
   clear c5 hb S4
   obtain ⟨⟨fr0, fr1, fr2, fr3, fr4, fr5, fr6, fr7, fr8⟩, ce0, ce1, ce2, ce3, ce4, ce5, ce6, ce7, ce8⟩ := S5.out.vr.all
   have S6 := Zb (S5.out.setK (3))
   clear S5
   go_wp2_with fail
   clear fr0 fr1 fr2 fr3 fr4 fr5 fr6 fr7 fr8 ce0 ce1 ce2 ce3 ce4 ce5 ce6 ce7 ce8
   generalize w5.setCell ⟨n, 0, none⟩ (.int .i64 (3)) = w6 at *
   refine (bound_any S6.out.pr HE.out).mono ?_
   intro e w7 hp
   rcases hp.both with ⟨kb, jb, c7, rfl, r2⟩ | ⟨z7, j7, c7, rfl, r1, r2⟩
   · have hw := HW.out
     simp only [Ye, ZX, if_pos C3.out, if_pos C5.out, c7] at hw
     subst hw
     exact ⟨rfl, rfl, S6.out.tn.trans r2⟩
   have C7 := Zb c7
   have S7 := Zb (S6.out.call r1 r2)
   clear c7 r1 r2 S6
   obtain ⟨⟨fr0, fr1, fr2, fr3, fr4, fr5, fr6, fr7, fr8⟩, ce0, ce1, ce2, ce3, ce4, ce5, ce6, ce7, ce8⟩ := S7.out.vr.all
   have S8 := Zb (S7.out.setN (z7))
   clear S7
   go_wp2_with fail
   clear fr0 fr1 fr2 fr3 fr4 fr5 fr6 fr7 fr8 ce0 ce1 ce2 ce3 ce4 ce5 ce6 ce7 ce8
   generalize w7.setCell ⟨n, 4, none⟩ (.int .i64 (z7)) = w8 at *
   refine (typed_any S8.out.pr HE.out).mono ?_
   intro e w9 hp
   rcases hp.both with ⟨kb, jb, c9, rfl, r2⟩ | ⟨t9, j9, c9, rfl, r1, r2⟩
   · have hw := HW.out
     simp only [Ye, ZX, if_pos C3.out, if_pos C5.out, C7.out, c9] at hw
     subst hw
     exact ⟨rfl, rfl, S8.out.tn.trans r2⟩
   have C9 := Zb c9
   have S9 := Zb (S8.out.call r1 r2)
   clear c9 r1 r2 S8
   obtain ⟨⟨fr0, fr1, fr2, fr3, fr4, fr5, fr6, fr7, fr8⟩, ce0, ce1, ce2, ce3, ce4, ce5, ce6, ce7, ce8⟩ := S9.out.vr.all
   have S10 := Zb (S9.out.setT (t9))
   clear S9
   go_wp2_with fail
   clear fr0 fr1 fr2 fr3 fr4 fr5 fr6 fr7 fr8 ce0 ce1 ce2 ce3 ce4 ce5 ce6 ce7 ce8
   have e10 : (w9.setCell ⟨n, 3, none⟩ (.int .i64 (t9))).heap.size = w9.heap.size := by simp
   generalize w9.setCell ⟨n, 3, none⟩ (.int .i64 (t9)) = w10 at *
   rw [← e10]
   clear e10
   refine (Zx S10.out.pr HE.out YL (by decide)).mono ?_
   rintro e w11 (⟨c11, rfl, r2⟩ | ⟨c11, rfl, r1, r2⟩)
   · have hw := HW.out
     simp only [Ye, ZX, if_pos C3.out, if_pos C5.out, C7.out, C9.out, if_neg c11] at hw
     subst hw
     exact ⟨rfl, rfl, S10.out.tn.trans r2⟩
   have C11 := Zb c11
   have S11 := Zb (S10.out.call r1 r2)
   clear c11 r1 r2 S10
   obtain ⟨⟨fz0, fz1, fz2, fz3, fz4, fz5, fz6, fz7, fz8⟩, bz0, bz1, bz2, bz3, bz4, bz5, bz6, bz7, bz8⟩ := S11.out.zr.all
   obtain ⟨_, cg0, cg1, cg2, cg3, cg4, cg5, cg6, cg7, cg8⟩ := S11.out.vr.all
   obtain ⟨_, rfl, z9, v9, p9, t9⟩ := S11.out.done
   have Z9 := Zb z9
   have D9 := Zb (And.intro v9 (And.intro p9 t9))
   clear z9 v9 p9 t9 S11
   go_wp2_with fail
   refine Zg (w.heap.size) rfl rfl Z9.out rfl ?_
   have hw := HW.out
   simp only [Ye, ZX, if_pos C3.out, if_pos C5.out, C7.out, C9.out, if_pos C11.out] at hw
   subst hw
   exact ⟨_, rfl, D9.out⟩
 · have C5 := Zb c5
   have S5 := Zb (S4.out.bel hb)
   clear c5 hb S4
   go_wp2_with fail
   refine (typed_any S5.out.pr HE.out).mono ?_
   intro e w6 hp
   rcases hp.both with ⟨kb, jb, c6, rfl, r2⟩ | ⟨t6, j6, c6, rfl, r1, r2⟩
   · have hw := HW.out
     simp only [Ye, ZX, if_pos C3.out, if_neg C5.out, c6] at hw
     subst hw
     exact ⟨rfl, rfl, S5.out.tn.trans r2⟩
   have C6 := Zb c6
   have S6 := Zb (S5.out.call r1 r2)
   clear c6 r1 r2 S5
   obtain ⟨⟨fr0, fr1, fr2, fr3, fr4, fr5, fr6, fr7, fr8⟩, ce0, ce1, ce2, ce3, ce4, ce5, ce6, ce7, ce8⟩ := S6.out.vr.all
   have S7 := Zb (S6.out.setT (t6))
   clear S6
   go_wp2_with fail
   clear fr0 fr1 fr2 fr3 fr4 fr5 fr6 fr7 fr8 ce0 ce1 ce2 ce3 ce4 ce5 ce6 ce7 ce8
   have e7 : (w6.setCell ⟨n, 3, none⟩ (.int .i64 (t6))).heap.size = w6.heap.size := by simp
   generalize w6.setCell ⟨n, 3, none⟩ (.int .i64 (t6)) = w7 at *
   rw [← e7]
   clear e7
   refine (Zx S7.out.pr HE.out YL (by decide)).mono ?_
   rintro e w8 (⟨c8, rfl, r2⟩ | ⟨c8, rfl, r1, r2⟩)
   · have hw := HW.out
     simp only [Ye, ZX, if_pos C3.out, if_neg C5.out, C6.out, if_neg c8] at hw
     subst hw
     exact ⟨rfl, rfl, S7.out.tn.trans r2⟩
   have C8 := Zb c8
   have S8 := Zb (S7.out.call r1 r2)
   clear c8 r1 r2 S7
   obtain ⟨⟨fz0, fz1, fz2, fz3, fz4, fz5, fz6, fz7, fz8⟩, bz0, bz1, bz2, bz3, bz4, bz5, bz6, bz7, bz8⟩ := S8.out.zr.all
   obtain ⟨_, cg0, cg1, cg2, cg3, cg4, cg5, cg6, cg7, cg8⟩ := S8.out.vr.all
   obtain ⟨_, rfl, z9, v9, p9, t9⟩ := S8.out.done
   have Z9 := Zb z9
   have D9 := Zb (And.intro v9 (And.intro p9 t9))
   clear z9 v9 p9 t9 S8
   go_wp2_with fail
   refine Zg (w.heap.size) rfl rfl Z9.out rfl ?_
   have hw := HW.out
   simp only [Ye, ZX, if_pos C3.out, if_neg C5.out, C6.out, if_pos C8.out] at hw
   subst hw
   exact ⟨_, rfl, D9.out⟩
theorem list_expr {w : World} {p : List Addr} {g gT : Nat} {L : List Tk} {i l : Nat} (h : Ps w p g gT L i l) (hE : Ya L) (rule : Nat -> Out) (hge : ∀ j m j', rule j = .ok m j' -> j <= j') (hr : ∀ j, i <= j -> ZS 32 p g gT L l j (rule j)) :
 Calls Tryz.prog 124 #[.pointer (some ⟨g, 0, none⟩), .func (.func 32) #[.pointer (some ⟨g, 0, none⟩)] #[]] w fun e w' => PostR p g gT L l w e w' (listO rule L i) := by
 have HP := Zb h
 have HE := Zb hE
 have HR := Zb hr
 have HG := Zb hge
 have hgl := h.lt_g
 have hT := h.row.lt
 have hL := h.len
 obtain ⟨out, ho⟩ : ∃ out, listO rule L i = out := ⟨_, rfl⟩
 rw [ho]
 have HW := Zb ho
 clear h hE ho hr hge
 go_enter Tryz.func124, Tryz.ntmps124
 go_wp2_with fail
 refine (HR.out i (Nat.le_refl _) _ HP.out).mono ?_
 intro e w1 hp
 rcases hp.both with ⟨kb, jb, c1, rfl, r2⟩ | ⟨kd, ps, nm, t, nz, z, ob, bi, ks, a, len, ck, j0, c1, rfl, hk, r1, r2⟩
 · have hw := HW.out
   simp only [listO, c1] at hw
   subst hw
   exact ⟨rfl, rfl, r2⟩
 have hj0 := HG.out i _ j0 c1
 have hb2 := Zd w1 (.cells #[.int .i64 kd, .int .i64 ps, .string nm, .int .i64 t, .int .i64 nz, .int .i64 z, .int .i64 ob, .int .u64 bi, .slice a len ck] 29)
 have M0 : Hid (∃ f', L.length - j0 <= f' /\ YK rule L f' j0 [Nd.mk kd ps nm t nz z ob bi ks] = out) := by
  have hw := HW.out
  simp only [listO, c1] at hw
  exact ⟨L.length, Nat.sub_le _ _, hw⟩
 have I0 := Zb (And.intro (Row.one (kd := kd) (p := ps) (nm := nm) (t := t) (n := nz) (z := z) (o := ob) (bits_ := bi) r2.size hk) (And.intro (r1.below hb2) (r2.trans (Tn.of_bel hb2))))
 clear hk r1 r2 hb2 c1 HW
 go_wp2_with fail
 generalize w1.alloc _ = w2 at *
 generalize w1.heap.size = b1 at *
 go_loopw [5] (fun v wr => ∃ (j : Nat) (ns : List Nd) (a : Option Addr) (n ck : Nat), i <= j /\ v = .slice a n ck /\ ns.length <= j + 1 /\ Hid (n = ns.length /\ Row wr w.heap.size ns (.slice a n ck) /\ Ps wr p g gT L j l /\ Tn g w wr /\ ∃ f', L.length - j <= f' /\ YK rule L f' j ns = out)) (fun _ wr => L.length - nextAt wr g)
 case atStart => exact ⟨j0, [Nd.mk kd ps nm t nz z ob bi ks], _, 1, 1, hj0, rfl, by simp, rfl, I0.out.1, I0.out.2.1, I0.out.2.2, M0.out⟩
 case round =>
  clear I0 M0 hj0
  obtain ⟨j, ns, a, n, ck, hij, rfl, hnl, I⟩ := hrel
  have N3 := Zb I.out.2.2.1.next
  go_wp2_with fail
  refine (taken_both I.out.2.2.1 HE.out bComma (by decide)).mono ?_
  rintro e w4 (⟨c4, rfl, r1, r2⟩ | ⟨c4, rfl, r1, r2⟩)
  · have C4 := Zb c4
    have H4 := Zb r1
    have T4 := Zb (I.out.2.2.2.1.trans r2)
    have R4 := Zb (I.out.2.1.tn r2 hgl)
    have EN := Zb I.out.1
    have hlt := I.out.2.2.1.lt
    have F4 := Zb I.out.2.2.2.2
    clear c4 r1 r2 I
    go_wp2_with fail
    refine (HR.out (j + 1) (by omega) _ H4.out).mono ?_
    intro e w5 hp
    rcases hp.both with ⟨kb, jb, c5, rfl, r2⟩ | ⟨kd, ps, nm, t, nz, z, ob, bi, ks, a', len, ck', j', c5, rfl, hk, r1, r2⟩
    · obtain ⟨f', hf1, hf2⟩ := F4.out
      obtain ⟨f2, rfl⟩ : ∃ f2, f' = f2 + 1 := ⟨f' - 1, by omega⟩
      simp only [YK, if_pos C4.out, c5] at hf2
      subst hf2
      exact ⟨rfl, rfl, T4.out.trans r2⟩
    have hj' := HG.out _ _ j' c5
    have F5 : Hid (∃ f', L.length - j' <= f' /\ YK rule L f' j' (ns ++ [Nd.mk kd ps nm t nz z ob bi ks]) = out) := by
     obtain ⟨f', hf1, hf2⟩ := F4.out
     obtain ⟨f2, rfl⟩ : ∃ f2, f' = f2 + 1 := ⟨f' - 1, by omega⟩
     simp only [YK, if_pos C4.out, c5] at hf2
     exact ⟨f2, by omega, hf2⟩
    clear c5 C4 F4
    have hb6 := Zd w5 (.cells #[.int .i64 kd, .int .i64 ps, .string nm, .int .i64 t, .int .i64 nz, .int .i64 z, .int .i64 ob, .int .u64 bi, .slice a' len ck'] 29)
    have hC : ∀ k, _ -> k < w4.heap.size := fun k hk => (R4.out.own k hk).2
    have PU := Zb (fun ty => Row.push (c := 1) ((R4.out.tn r2 (hgl)).bel hb6) (T4.out.size) hC (Nat.le_trans r2.size hb6.size) (by omega) (hk.bel hb6) (B_ w5 _) ty)
    have R6 := Zb (And.intro (r1.below hb6) ((T4.out.trans r2).trans (Tn.of_bel hb6)))
    clear hk hb6 r1 r2 hC R4 T4 H4
    go_wp2_with (first | (at_builtin; refine Yv (.tmp 11) (.tmp 14) _ _ _ PU.out rfl rfl rfl rfl ?_; rintro v7 w7 ⟨o7, t7⟩))
    obtain ⟨a7, c7, e7⟩ := o7.len
    obtain ⟨n7, hn7⟩ : ∃ n7, n7 = (ns ++ [Nd.mk kd ps nm t nz z ob bi ks]).length := ⟨_, rfl⟩
    rw [← hn7] at e7
    subst e7
    have I7 := Zb (And.intro hn7 (And.intro o7 (And.intro (R6.out.1.belB t7 hgl hT) (R6.out.2.belB t7 (Nat.le_refl _)))))
    clear hn7 o7 t7 PU R6
    go_wp2_with fail
    go_roundw
    case rel => exact ⟨j', _, _, _, _, by omega, rfl, by rw [List.length_append, List.length_singleton]; omega, I7.out.1, I7.out.2.1, I7.out.2.2.1, I7.out.2.2.2, F5.out⟩
    case measure =>
     have h7 := I7.out.2.2.1.next
     rw [h7, N3.out]
     omega
  · have R4 := Zb (I.out.2.1.tn r2 hgl)
    have H4 := Zb (And.intro r1 (I.out.2.2.2.1.trans r2))
    have hw : OutL.ok ns j = out := by
     obtain ⟨f', hf1, hf2⟩ := I.out.2.2.2.2
     have hlt := I.out.2.2.1.lt
     obtain ⟨f2, rfl⟩ : ∃ f2, f' = f2 + 1 := ⟨f' - 1, by omega⟩
     simp only [YK, if_neg c4] at hf2
     exact hf2
    have HW := Zb hw
    clear hw c4 r1 r2 I
    go_wp2_with fail
    go_ret
    have hw := HW.out
    subst hw
    exact ⟨_, rfl, R4.out, H4.out⟩
theorem within_args {w : World} {p : List Addr} {g gT : Nat} {L : List Tk} {i l : Nat} (h : Ps w p g gT L i l) (hE : Ya L) (hl : l <= 16) (op sh : ByteArray) (hop : op.size ≠ 0) (hsh : sh.size ≠ 0) (r : OutL) (hr : l ≠ 16 -> has L i [op] = true -> Yk 253 p g gT L (l + 1) (i + 1) r) :
 Calls Tryz.prog 162 #[.pointer (some ⟨g, 0, none⟩), .string op, .func (.func 253) #[.pointer (some ⟨g, 0, none⟩)] #[], .string sh] w fun e w' => PostR p g gT L l w e w' (YG L l i op sh r) := by
 have HP := Zb h
 have HE := Zb hE
 have HR := Zb hr
 have hi := h.lt
 have hgl := h.lt_g
 have HS := Zb hsh
 obtain ⟨out, ho⟩ : ∃ out, YG L l i op sh r = out := ⟨_, rfl⟩
 rw [ho]
 have HW := Zb ho
 clear h ho hr
 by_cases h1 : has L i [op] = true
 · by_cases h2 : l = 16
   · have HB := Zb (begin_deep HP.out op h1 h2)
     have hw := HW.out
     simp only [YG, if_pos h1, if_pos h2] at hw
     clear h1 h2 hE hop hsh hi hl HR HP
     go_enter Tryz.func162, Tryz.ntmps162
     go_wp2_with fail
     refine HB.out.mono ?_
     rintro e w1 ⟨rfl, r2⟩
     subst hw
     exact ⟨rfl, rfl, r2⟩
   · have HB := Zb (begin_yes HP.out op h1 (ZF hE hi (by simpa using hop) h1) (by omega))
     have HR := Zb (HR.out h2 h1)
     have C1 := Zb h1
     have C2 := Zb h2
     have hl2 : l < 16 := by omega
     clear h1 h2 hE hop hsh hi HP
     go_enter Tryz.func162, Tryz.ntmps162
     go_wp2_with fail
     refine HB.out.mono ?_
     rintro e w1 ⟨rfl, r1, r2⟩
     have H1 := Zb r1
     have T1 := Zb r2
     clear r1 r2 HB
     go_wp2_with fail
     refine (HR.out _ H1.out).mono ?_
     intro e w2 hp
     rcases hp.both with ⟨kb, jb, c2, rfl, r2⟩ | ⟨ns, a, n, ck, j, hn, c2, rfl, hrow, r1, r2⟩
     · have hw := HW.out
       simp only [YG, if_pos C1.out, if_neg C2.out, c2] at hw
       subst hw
       exact ⟨rfl, rfl, T1.out.trans r2⟩
     have C3 := Zb c2
     have H2 := Zb r1
     have T2 := Zb (T1.out.trans r2)
     have R2 := Zb hrow
     have EN := Zb hn
     clear c2 r1 r2 hrow HR hn
     go_wp2_with fail
     refine (Zx H2.out HE.out sh HS.out).mono ?_
     rintro e w3 (⟨c3, rfl, r2⟩ | ⟨c3, rfl, r1, r2⟩)
     · have hw := HW.out
       simp only [YG, if_pos C1.out, if_neg C2.out, C3.out, if_neg c3] at hw
       subst hw
       exact ⟨rfl, rfl, T2.out.trans r2⟩
     have C4 := Zb c3
     have HN := Zb (end_any r1 (by omega) (by omega))
     have hg1 := Nat.lt_of_lt_of_le hgl T1.out.size
     have R3 := Zb (R2.out.tn r2 hg1)
     have T3 := Zb (T2.out.trans r2)
     clear c3 r1 r2
     go_wp2_with fail
     refine HN.out.mono ?_
     rintro e w4 ⟨rfl, r1, r2⟩
     rw [Nat.add_sub_cancel] at r1
     have R4 := Zb ((R3.out.tn r2 hg1).base T1.out.size)
     have H4 := Zb (And.intro r1 (T3.out.trans r2))
     clear r1 r2 HN
     go_wp2_with fail
     go_ret
     have hw := HW.out
     simp only [YG, if_pos C1.out, if_neg C2.out, C3.out, if_pos C4.out] at hw
     subst hw
     exact ⟨_, rfl, R4.out, H4.out⟩
 · have HB := Zb (begin_no HP.out op (by simpa using h1))
   have hw := HW.out
   simp only [YG, if_neg h1] at hw
   clear h1 hE hop hsh hi hl HR HP
   go_enter Tryz.func162, Tryz.ntmps162
   go_wp2_with fail
   refine HB.out.mono ?_
   rintro e w1 ⟨rfl, r2⟩
   subst hw
   exact ⟨rfl, rfl, r2⟩
theorem args_any {w : World} {p : List Addr} {g gT : Nat} {L : List Tk} {i l : Nat} (h : Ps w p g gT L i l) (hE : Ya L) (rule : Nat -> Out) (hge : ∀ j m j', rule j = .ok m j' -> j <= j') (hr : ∀ j, i <= j -> ZS 32 p g gT L l j (rule j)) :
 Calls Tryz.prog 253 #[.pointer (some ⟨g, 0, none⟩)] w fun e w' => PostR p g gT L l w e w' (argsO L i rule) := by
 have HP := Zb h
 have HE := Zb hE
 have HR := Zb hr
 have HG := Zb hge
 obtain ⟨out, ho⟩ : ∃ out, argsO L i rule = out := ⟨_, rfl⟩
 rw [ho]
 have HW := Zb ho
 clear h hE ho hr hge
 go_enter Tryz.func253, Tryz.ntmps253
 go_wp2_with fail
 refine (sees_both HP.out bShut).mono ?_
 rintro e w1 (⟨c1, rfl, hb⟩ | ⟨c1, rfl, hb⟩)
 · have C1 := Zb c1
   have H1 := Zb (And.intro (HP.out.below hb) (Tn.of_bel (g := g) hb))
   clear c1 hb
   go_wp2_with fail
   go_ret
   have hw := HW.out
   simp only [argsO, if_pos C1.out] at hw
   subst hw
   exact ⟨_, rfl, Row.nil _ _, H1.out⟩
 have C1 := Zb c1
 have H1 := Zb (HP.out.below hb)
 have T1 := Zb (Tn.of_bel (g := g) hb)
 clear c1 hb
 go_wp2_with fail
 refine (list_expr H1.out HE.out rule HG.out HR.out).mono ?_
 intro e w2 hp
 rcases hp.both with ⟨kb, jb, c2, rfl, r2⟩ | ⟨ns, a, m, ck, j, hm, c2, rfl, hrow, r1, r2⟩
 · have hw := HW.out
   simp only [argsO, if_neg C1.out, c2] at hw
   subst hw
   exact ⟨rfl, rfl, T1.out.trans r2⟩
 have C2 := Zb c2
 have R2 := Zb (hrow.base T1.out.size)
 have H2 := Zb (And.intro r1 (T1.out.trans r2))
 have EN := Zb hm
 clear c2 hrow r1 r2 hm
 go_wp2_with fail
 go_ret
 have hw := HW.out
 simp only [argsO, if_neg C1.out, C2.out] at hw
 subst hw
 exact ⟨_, rfl, R2.out, H2.out⟩
theorem called_any {w : World} {p : List Addr} {g gT : Nat} {L : List Tk} {i l : Nat} (h : Ps w p g gT L i l) (hE : Ya L) (hl : l <= 16) (kd ps : Int) (nm : ByteArray) (t nz : Int) (rule : Nat -> Out) (hge : ∀ j m j', rule j = .ok m j' -> j <= j') (hr : l ≠ 16 -> ∀ j, i + 1 <= j -> ZS 32 p g gT L (l + 1) j (rule j)) :
 Calls Tryz.prog 244 #[.pointer (some ⟨g, 0, none⟩), .agg #[.int .i64 kd, .int .i64 ps, .string nm, .int .i64 t, .int .i64 nz, .int .i64 0, .int .i64 0, .int .u64 0, .slice none 0 0]] w fun e w' => Zo p g gT L l w e w' (calledO L l i rule (fun ns => .mk kd ps nm t nz 0 0 0 ns)) := by
 have S2 := Zb (Sn.boxed h kd ps nm t nz)
 have HE := Zb hE
 have HR := Zb hr
 have HG := Zb hge
 obtain ⟨out, ho⟩ : ∃ out, calledO L l i rule (fun ns => .mk kd ps nm t nz 0 0 0 ns) = out := ⟨_, rfl⟩
 rw [ho]
 have HW := Zb ho
 clear h hE ho hr hge
 unfold Zh at *
 go_enter Tryz.func244, Tryz.ntmps244
 go_wp2_with fail
 generalize (w.alloc _).alloc _ = w2 at *
 have hz3 := S2.out.ltz
 have hn3 := S2.out.lt
 refine (within_args S2.out.pr HE.out hl bOpen bShut (by decide) (by decide) _ (fun a _ w' hw' => args_any hw' HE.out rule HG.out (HR.out a))).mono ?_
 intro e w3 hp
 rcases hp.both with ⟨kb, jb, c3, rfl, r2⟩ | ⟨ns, a, m, ck, j3, hm, c3, rfl, hrow, r1, r2⟩
 · have hw := HW.out
   simp only [calledO, c3] at hw
   subst hw
   exact ⟨rfl, rfl, S2.out.tn.trans r2⟩
 have R3 := Zb hrow
 have M3 := Zb hm
 have C3 := Zb c3
 have S3 := Zb (S2.out.call r1 r2)
 clear c3 r1 r2 hrow hm S2
 obtain ⟨⟨fr0, fr1, fr2, fr3, fr4, fr5, fr6, fr7, fr8⟩, ce0, ce1, ce2, ce3, ce4, ce5, ce6, ce7, ce8⟩ := S3.out.vr.all
 have S4 := Zb (S3.out.setKids hz3 hn3 R3.out.kids)
 clear S3
 go_wp2_with fail
 clear fr0 fr1 fr2 fr3 fr4 fr5 fr6 fr7 fr8 ce0 ce1 ce2 ce3 ce4 ce5 ce6 ce7 ce8
 have e4 : (w3.setCell ⟨w.heap.size, 8, none⟩ (.slice a m ck)).heap.size = w3.heap.size := by simp
 generalize w3.setCell ⟨w.heap.size, 8, none⟩ (.slice a m ck) = w4 at *
 rw [← e4]
 clear e4
 refine (Zx S4.out.pr HE.out YL (by decide)).mono ?_
 rintro e w5 (⟨c5, rfl, r2⟩ | ⟨c5, rfl, r1, r2⟩)
 · have hw := HW.out
   simp only [calledO, C3.out, ZX, if_neg c5] at hw
   subst hw
   exact ⟨rfl, rfl, S4.out.tn.trans r2⟩
 have C5 := Zb c5
 have S5 := Zb (S4.out.call r1 r2)
 clear c5 r1 r2 S4
 obtain ⟨⟨fz0, fz1, fz2, fz3, fz4, fz5, fz6, fz7, fz8⟩, bz0, bz1, bz2, bz3, bz4, bz5, bz6, bz7, bz8⟩ := S5.out.zr.all
 obtain ⟨_, cg0, cg1, cg2, cg3, cg4, cg5, cg6, cg7, cg8⟩ := S5.out.vr.all
 obtain ⟨_, rfl, z9, v9, p9, t9⟩ := S5.out.done
 have Z9 := Zb z9
 have D9 := Zb (And.intro v9 (And.intro p9 t9))
 clear z9 v9 p9 t9 S5
 go_wp2_with fail
 refine Zg (w.heap.size + 1) rfl rfl Z9.out rfl ?_
 have hw := HW.out
 simp only [calledO, C3.out, ZX, if_pos C5.out] at hw
 subst hw
 exact ⟨_, rfl, D9.out⟩
theorem goes_any {w : World} {p : List Addr} {g gT : Nat} {L : List Tk} {i l : Nat} (h : Ps w p g gT L i l) (hE : Ya L) (hl : l <= 16) (hi : i + 1 < L.length) (rule : Nat -> Out) (hge : ∀ j m j', rule j = .ok m j' -> j <= j') (hr : l ≠ 16 -> ∀ j, i + 1 + 1 + 1 <= j -> ZS 32 p g gT L (l + 1) j (rule j)) :
 Calls Tryz.prog 220 #[.pointer (some ⟨g, 0, none⟩)] w fun e w' => Zo p g gT L l w e w' (goesO L l i rule) := by
 have HP := Zb h
 have HE := Zb hE
 have HI := Zb hi
 have HR := Zb hr
 have HG := Zb hge
 have hb0 := Zb (Zd w Zh)
 have hz0 := Zb (ZG w)
 have H0 := Zb (h.below hb0.out)
 obtain ⟨out, ho⟩ : ∃ out, goesO L l i rule = out := ⟨_, rfl⟩
 rw [ho]
 have HW := Zb ho
 clear h hE ho hi hr hge
 unfold Zh at *
 go_enter Tryz.func220, Tryz.ntmps220
 go_wp2_with fail
 generalize w.alloc _ = w0 at *
 refine (Yt H0.out (12) HI.out).mono ?_
 rintro e w1 ⟨rfl, r1, r2⟩
 have S2 := Zb (Sn.start HP.out hb0.out hz0.out r1 r2 (12) (Zk L i).pos ⟨#[]⟩ 0 0)
 clear r1 r2 hb0 hz0 H0
 go_wp2_with fail
 generalize w1.alloc _ = w2 at *
 generalize w1.heap.size = n at *
 refine (YH S2.out.pr HE.out ).mono ?_
 rintro e w3 (⟨c3, rfl, r2⟩ | ⟨c3, rfl, r1, r2⟩)
 · have hw := HW.out
   simp only [goesO, if_neg c3] at hw
   subst hw
   exact ⟨rfl, rfl, S2.out.tn.trans r2⟩
 have C3 := Zb c3
 have S3 := Zb (S2.out.call r1 r2)
 clear c3 r1 r2 S2
 obtain ⟨⟨fr0, fr1, fr2, fr3, fr4, fr5, fr6, fr7, fr8⟩, ce0, ce1, ce2, ce3, ce4, ce5, ce6, ce7, ce8⟩ := S3.out.vr.all
 have S4 := Zb (S3.out.setName (tx L (i + 1)))
 obtain ⟨_, cg0, cg1, cg2, cg3, cg4, cg5, cg6, cg7, cg8⟩ := S4.out.vr.all
 clear S3
 go_wp2_with fail
 clear fr0 fr1 fr2 fr3 fr4 fr5 fr6 fr7 fr8 ce0 ce1 ce2 ce3 ce4 ce5 ce6 ce7 ce8 cg0 cg1 cg2 cg3 cg4 cg5 cg6 cg7 cg8
 generalize w3.setCell ⟨n, 2, none⟩ (.string (tx L (i + 1))) = w4 at *
 have hC := S4.out.ltz
 refine (called_any S4.out.pr HE.out hl 12 (Zk L i).pos (tx L (i + 1)) 0 0 rule HG.out HR.out).mono ?_
 intro e w5 hp
 rcases hp.both with ⟨kb, jb, c5, rfl, r2⟩ | ⟨kd, ps, nm, t, nz, z, ob, bi, ks, a, len, ck, j5, c5, rfl, hk, r1, r2⟩
 · have hw := HW.out
   simp only [goesO, if_pos C3.out, c5] at hw
   subst hw
   exact ⟨rfl, rfl, S4.out.tn.trans r2⟩
 have Z5 := Zb (S4.out.zn.call r1 r2)
 have C5 := Zb c5
 clear c5 r1 r2 S4
 obtain ⟨⟨fz0, fz1, fz2, fz3, fz4, fz5, fz6, fz7, fz8⟩, bz0, bz1, bz2, bz3, bz4, bz5, bz6, bz7, bz8⟩ := Z5.out.zr.all
 obtain ⟨_, rfl, z9, v9, p9, t9⟩ := Z5.out.done (kd := kd) (ps := ps) (nm := nm) (t := t) (nz := nz) (z := z) (ob := ob) (bi := bi) hC hk
 have Z9 := Zb z9
 have D9 := Zb (And.intro v9 (And.intro p9 t9))
 clear z9 v9 p9 t9 hk Z5
 go_wp2_with fail
 refine Zg w.heap.size rfl rfl Z9.out rfl ?_
 have hw := HW.out
 simp only [goesO, if_pos C3.out, C5.out] at hw
 subst hw
 exact ⟨_, rfl, D9.out⟩
theorem within_stmts {w : World} {p : List Addr} {g gT : Nat} {L : List Tk} {i l : Nat} (h : Ps w p g gT L i l) (hE : Ya L) (hl : l <= 16) (op sh : ByteArray) (hop : op.size ≠ 0) (hsh : sh.size ≠ 0) (r : OutL) (hr : l ≠ 16 -> has L i [op] = true -> Yk 163 p g gT L (l + 1) (i + 1) r) :
 Calls Tryz.prog 162 #[.pointer (some ⟨g, 0, none⟩), .string op, .func (.func 163) #[.pointer (some ⟨g, 0, none⟩)] #[], .string sh] w fun e w' => PostR p g gT L l w e w' (YG L l i op sh r) := by
 have HP := Zb h
 have HE := Zb hE
 have HR := Zb hr
 have hi := h.lt
 have hgl := h.lt_g
 have HS := Zb hsh
 obtain ⟨out, ho⟩ : ∃ out, YG L l i op sh r = out := ⟨_, rfl⟩
 rw [ho]
 have HW := Zb ho
 clear h ho hr
 by_cases h1 : has L i [op] = true
 · by_cases h2 : l = 16
   · have HB := Zb (begin_deep HP.out op h1 h2)
     have hw := HW.out
     simp only [YG, if_pos h1, if_pos h2] at hw
     clear h1 h2 hE hop hsh hi hl HR HP
     go_enter Tryz.func162, Tryz.ntmps162
     go_wp2_with fail
     refine HB.out.mono ?_
     rintro e w1 ⟨rfl, r2⟩
     subst hw
     exact ⟨rfl, rfl, r2⟩
   · have HB := Zb (begin_yes HP.out op h1 (ZF hE hi (by simpa using hop) h1) (by omega))
     have HR := Zb (HR.out h2 h1)
     have C1 := Zb h1
     have C2 := Zb h2
     have hl2 : l < 16 := by omega
     clear h1 h2 hE hop hsh hi HP
     go_enter Tryz.func162, Tryz.ntmps162
     go_wp2_with fail
     refine HB.out.mono ?_
     rintro e w1 ⟨rfl, r1, r2⟩
     have H1 := Zb r1
     have T1 := Zb r2
     clear r1 r2 HB
     go_wp2_with fail
     refine (HR.out _ H1.out).mono ?_
     intro e w2 hp
     rcases hp.both with ⟨kb, jb, c2, rfl, r2⟩ | ⟨ns, a, n, ck, j, hn, c2, rfl, hrow, r1, r2⟩
     · have hw := HW.out
       simp only [YG, if_pos C1.out, if_neg C2.out, c2] at hw
       subst hw
       exact ⟨rfl, rfl, T1.out.trans r2⟩
     have C3 := Zb c2
     have H2 := Zb r1
     have T2 := Zb (T1.out.trans r2)
     have R2 := Zb hrow
     have EN := Zb hn
     clear c2 r1 r2 hrow HR hn
     go_wp2_with fail
     refine (Zx H2.out HE.out sh HS.out).mono ?_
     rintro e w3 (⟨c3, rfl, r2⟩ | ⟨c3, rfl, r1, r2⟩)
     · have hw := HW.out
       simp only [YG, if_pos C1.out, if_neg C2.out, C3.out, if_neg c3] at hw
       subst hw
       exact ⟨rfl, rfl, T2.out.trans r2⟩
     have C4 := Zb c3
     have HN := Zb (end_any r1 (by omega) (by omega))
     have hg1 := Nat.lt_of_lt_of_le hgl T1.out.size
     have R3 := Zb (R2.out.tn r2 hg1)
     have T3 := Zb (T2.out.trans r2)
     clear c3 r1 r2
     go_wp2_with fail
     refine HN.out.mono ?_
     rintro e w4 ⟨rfl, r1, r2⟩
     rw [Nat.add_sub_cancel] at r1
     have R4 := Zb ((R3.out.tn r2 hg1).base T1.out.size)
     have H4 := Zb (And.intro r1 (T3.out.trans r2))
     clear r1 r2 HN
     go_wp2_with fail
     go_ret
     have hw := HW.out
     simp only [YG, if_pos C1.out, if_neg C2.out, C3.out, if_pos C4.out] at hw
     subst hw
     exact ⟨_, rfl, R4.out, H4.out⟩
 · have HB := Zb (begin_no HP.out op (by simpa using h1))
   have hw := HW.out
   simp only [YG, if_neg h1] at hw
   clear h1 hE hop hsh hi hl HR HP
   go_enter Tryz.func162, Tryz.ntmps162
   go_wp2_with fail
   refine HB.out.mono ?_
   rintro e w1 ⟨rfl, r2⟩
   subst hw
   exact ⟨rfl, rfl, r2⟩
theorem block_any {w : World} {p : List Addr} {g gT : Nat} {L : List Tk} {i l : Nat} (h : Ps w p g gT L i l) (hE : Ya L) (hl : l <= 16) (r : OutL) (hr : l ≠ 16 -> has L i [bCur] = true -> Yk 163 p g gT L (l + 1) (i + 1) r) :
 Calls Tryz.prog 126 #[.pointer (some ⟨g, 0, none⟩)] w fun e w' => Zo p g gT L l w e w' (blockO L l i r) := by
 have HP := Zb h
 have HE := Zb hE
 have HR := Zb hr
 have hb0 := Zb (Zd w Zh)
 have hz0 := Zb (ZG w)
 have H0 := Zb (h.below hb0.out)
 obtain ⟨tk, htk⟩ : ∃ tk, Zk L i = tk := ⟨_, rfl⟩
 have HK := Zb htk
 clear htk
 obtain ⟨kind, text, nn, bits_, pos⟩ := tk
 have hf4 := tf4 (.int .i64 kind) (.string text) (.int .i64 nn) (.int .u64 bits_) (.int .i64 pos)
 obtain ⟨out, ho⟩ : ∃ out, blockO L l i r = out := ⟨_, rfl⟩
 rw [ho]
 have HW := Zb ho
 clear h hE ho hr
 unfold Zh at *
 go_enter Tryz.func126, Tryz.ntmps126
 go_wp2_with fail
 generalize w.alloc _ = w0 at *
 refine (Zp H0.out).mono ?_
 rintro e w1 ⟨he, hb1⟩
 rw [HK.out] at he
 dsimp only [Tk.val] at he
 subst he
 have S2 := Zb (Sn.start HP.out hb0.out hz0.out (H0.out.below hb1) (Tn.of_bel hb1) 9 pos ⟨#[]⟩ 0 0)
 clear hb1 hb0 hz0 H0
 go_wp2_with fail
 generalize w1.alloc _ = w2 at *
 generalize w1.heap.size = n at *
 clear hf4
 have hz3 := S2.out.ltz
 have hn3 := S2.out.lt
 refine (within_stmts S2.out.pr HE.out hl bCur bCue (by decide) (by decide) r HR.out).mono ?_
 intro e w3 hp
 rcases hp.both with ⟨kb, jb, c3, rfl, r2⟩ | ⟨ns, a, m, ck, j3, hm, c3, rfl, hrow, r1, r2⟩
 · have hw := HW.out
   simp only [blockO, c3] at hw
   subst hw
   exact ⟨rfl, rfl, S2.out.tn.trans r2⟩
 have R3 := Zb hrow
 have M3 := Zb hm
 have C3 := Zb c3
 have S3 := Zb (S2.out.call r1 r2)
 clear c3 r1 r2 hrow hm S2
 obtain ⟨⟨fr0, fr1, fr2, fr3, fr4, fr5, fr6, fr7, fr8⟩, ce0, ce1, ce2, ce3, ce4, ce5, ce6, ce7, ce8⟩ := S3.out.vr.all
 have S4 := Zb (S3.out.setKids hz3 hn3 R3.out.kids)
 obtain ⟨⟨fz0, fz1, fz2, fz3, fz4, fz5, fz6, fz7, fz8⟩, bz0, bz1, bz2, bz3, bz4, bz5, bz6, bz7, bz8⟩ := S4.out.zr.all
 obtain ⟨_, cg0, cg1, cg2, cg3, cg4, cg5, cg6, cg7, cg8⟩ := S4.out.vr.all
 obtain ⟨_, rfl, z9, v9, p9, t9⟩ := S4.out.done
 have Z9 := Zb z9
 have D9 := Zb (And.intro v9 (And.intro p9 t9))
 clear z9 v9 p9 t9 S3 S4
 go_wp2_with fail
 refine Zg (w.heap.size) rfl rfl Z9.out rfl ?_
 have hw := HW.out
 simp only [blockO, C3.out] at hw
 subst hw
 rw [HK.out]
 exact ⟨_, rfl, D9.out⟩
theorem loop_any {w : World} {p : List Addr} {g gT : Nat} {L : List Tk} {i l : Nat} (h : Ps w p g gT L i l) (hE : Ya L) (hi : i + 1 < L.length) (ex bl : Nat -> Out) (he : ZS 32 p g gT L l (i + 1) (ex (i + 1))) (hbl : ∀ n j, ex (i + 1) = .ok n j -> ZS 126 p g gT L l j (bl j)) :
 Calls Tryz.prog 223 #[.pointer (some ⟨g, 0, none⟩)] w fun e w' => Zo p g gT L l w e w' (loopO L i ex bl) := by
 have HP := Zb h
 have HE := Zb hE
 have HI := Zb hi
 have HR := Zb he
 have HB := Zb hbl
 have hb0 := Zb (Zd w Zh)
 have hz0 := Zb (ZG w)
 have H0 := Zb (h.below hb0.out)
 obtain ⟨out, ho⟩ : ∃ out, loopO L i ex bl = out := ⟨_, rfl⟩
 rw [ho]
 have HW := Zb ho
 clear h hE ho hi he hbl
 unfold Zh at *
 go_enter Tryz.func223, Tryz.ntmps223
 go_wp2_with fail
 generalize w.alloc _ = w0 at *
 refine (Yt H0.out (22) HI.out).mono ?_
 rintro e w1 ⟨rfl, r1, r2⟩
 have S2 := Zb (Sn.start HP.out hb0.out hz0.out r1 r2 (22) (Zk L i).pos ⟨#[]⟩ 0 0)
 clear r1 r2 hb0 hz0 H0
 go_wp2_with fail
 have e2 : (w1.alloc (.cells #[.int .i64 (22), .int .i64 (Zk L i).pos, .string ⟨#[]⟩, .int .i64 0, .int .i64 0, .int .i64 0, .int .i64 0, .int .u64 0, .slice none 0 0] 29)).heap.size = w1.heap.size + 1 := by simp
 generalize w1.alloc _ = w2 at *
 generalize w1.heap.size = n at *
 rw [← e2]
 clear e2
 have hz3 := S2.out.ltz
 have hn3 := S2.out.lt
 refine (all2_any S2.out.pr ex bl HR.out HB.out).mono ?_
 intro e w3 hp
 rcases hp.both with ⟨kb, jb, c3, rfl, r2⟩ | ⟨ns, a, m, ck, j3, hm, c3, rfl, hrow, r1, r2⟩
 · have hw := HW.out
   simp only [loopO, c3] at hw
   subst hw
   exact ⟨rfl, rfl, S2.out.tn.trans r2⟩
 have R3 := Zb hrow
 have M3 := Zb hm
 have C3 := Zb c3
 have S3 := Zb (S2.out.call r1 r2)
 clear c3 r1 r2 hrow hm S2
 obtain ⟨⟨fr0, fr1, fr2, fr3, fr4, fr5, fr6, fr7, fr8⟩, ce0, ce1, ce2, ce3, ce4, ce5, ce6, ce7, ce8⟩ := S3.out.vr.all
 have S4 := Zb (S3.out.setKids hz3 hn3 R3.out.kids)
 obtain ⟨⟨fz0, fz1, fz2, fz3, fz4, fz5, fz6, fz7, fz8⟩, bz0, bz1, bz2, bz3, bz4, bz5, bz6, bz7, bz8⟩ := S4.out.zr.all
 obtain ⟨_, cg0, cg1, cg2, cg3, cg4, cg5, cg6, cg7, cg8⟩ := S4.out.vr.all
 obtain ⟨_, rfl, z9, v9, p9, t9⟩ := S4.out.done
 have Z9 := Zb z9
 have D9 := Zb (And.intro v9 (And.intro p9 t9))
 clear z9 v9 p9 t9 S3 S4
 go_wp2_with fail
 refine Zg (w.heap.size) rfl rfl Z9.out rfl ?_
 have hw := HW.out
 simp only [loopO, C3.out] at hw
 subst hw
 exact ⟨_, rfl, D9.out⟩
theorem named0_any {w : World} {p : List Addr} {g gT : Nat} {L : List Tk} {i l : Nat} (h : Ps w p g gT L i l) (hE : Ya L) (hi : i + 1 < L.length) (kd : Int) :
 Calls Tryz.prog 76 #[.pointer (some ⟨g, 0, none⟩), .int .i64 kd, .slice none 0 0] w fun e w' => Zo p g gT L l w e w' (named0O L kd i) := by
 have HP := Zb h
 have HE := Zb hE
 have HI := Zb hi
 have hb0 := Zb (Zd w Zh)
 have hz0 := Zb (ZG w)
 have H0 := Zb (h.below hb0.out)
 obtain ⟨out, ho⟩ : ∃ out, named0O L kd i = out := ⟨_, rfl⟩
 rw [ho]
 have HW := Zb ho
 clear h hE ho hi
 unfold Zh at *
 go_enter Tryz.func76, Tryz.ntmps76
 go_wp2_with fail
 generalize w.alloc _ = w0 at *
 refine (Yt H0.out (kd) HI.out).mono ?_
 rintro e w1 ⟨rfl, r1, r2⟩
 have S2 := Zb (Sn.start HP.out hb0.out hz0.out r1 r2 (kd) (Zk L i).pos ⟨#[]⟩ 0 0)
 clear r1 r2 hb0 hz0 H0
 go_wp2_with fail
 generalize w1.alloc _ = w2 at *
 generalize w1.heap.size = n at *
 refine (YH S2.out.pr HE.out ).mono ?_
 rintro e w3 (⟨c3, rfl, r2⟩ | ⟨c3, rfl, r1, r2⟩)
 · have hw := HW.out
   simp only [named0O, if_neg c3] at hw
   subst hw
   exact ⟨rfl, rfl, S2.out.tn.trans r2⟩
 have C3 := Zb c3
 have S3 := Zb (S2.out.call r1 r2)
 clear c3 r1 r2 S2
 obtain ⟨⟨fr0, fr1, fr2, fr3, fr4, fr5, fr6, fr7, fr8⟩, ce0, ce1, ce2, ce3, ce4, ce5, ce6, ce7, ce8⟩ := S3.out.vr.all
 have S4 := Zb (S3.out.setName (tx L (i + 1)))
 clear S3
 go_wp2_with fail
 clear fr0 fr1 fr2 fr3 fr4 fr5 fr6 fr7 fr8 ce0 ce1 ce2 ce3 ce4 ce5 ce6 ce7 ce8
 generalize w3.setCell ⟨n, 2, none⟩ (.string (tx L (i + 1))) = w4 at *
 refine wp_loop_rounds 1 ?_
 rw [rounds_succ]
 go_wp2_with fail
 refine (Zx S4.out.pr HE.out YL (by decide)).mono ?_
 rintro e w5 (⟨c5, rfl, r2⟩ | ⟨c5, rfl, r1, r2⟩)
 · have hw := HW.out
   simp only [named0O, if_pos C3.out, ZX, if_neg c5] at hw
   subst hw
   exact ⟨rfl, rfl, S4.out.tn.trans r2⟩
 have C5 := Zb c5
 have S5 := Zb (S4.out.call r1 r2)
 clear c5 r1 r2 S4
 obtain ⟨⟨fz0, fz1, fz2, fz3, fz4, fz5, fz6, fz7, fz8⟩, bz0, bz1, bz2, bz3, bz4, bz5, bz6, bz7, bz8⟩ := S5.out.zr.all
 obtain ⟨_, cg0, cg1, cg2, cg3, cg4, cg5, cg6, cg7, cg8⟩ := S5.out.vr.all
 obtain ⟨_, rfl, z9, v9, p9, t9⟩ := S5.out.done
 have Z9 := Zb z9
 have D9 := Zb (And.intro v9 (And.intro p9 t9))
 clear z9 v9 p9 t9 S5
 go_wp2_with fail
 refine Zg (w.heap.size) rfl rfl Z9.out rfl ?_
 have hw := HW.out
 simp only [named0O, if_pos C3.out, ZX, if_pos C5.out] at hw
 subst hw
 exact ⟨_, rfl, D9.out⟩
end Go.Proofs.YtfnplhfjfolojaaGreatDoor.Ck
