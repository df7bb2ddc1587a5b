/- Texts of this proof, packed: contracts of the program's functions, and the plain model that they are held against. -/
import Derived.Test.YtogeblmppagabaaGreatDoorQba
/- Channels and parameters. -/
namespace Go.Proofs.YtogeblmppagabaaGreatDoor.Ck
open Go.RowKit

set_option maxRecDepth 20000 in
set_option maxHeartbeats 1000000 in
theorem channel_any {w : World} {p : List Addr} {g gT : Nat} {L : List Tk} {i l : Nat} (h : Ps w p g gT L i l) (hE : Ends L) (hi : i + 1 < L.length) :
    Calls Tryz.prog 104 #[.pointer (some ⟨g, 0, none⟩)] w fun e w' => PostN p g gT L l w e w' (channelO L i) := by
  have HP := hide h
  have HE := hide hE
  have HI := hide hi
  have hb0 := hide (bel_new w nodZ)
  have hz0 := hide (nod_new w)
  have H0 := hide (h.below hb0.out)
  obtain ⟨out, ho⟩ : ∃ out, channelO L i = out := ⟨_, rfl⟩
  rw [ho]
  have HW := hide ho
  clear h hE ho hi
  unfold nodZ at *
  go_enter Tryz.func104, Tryz.ntmps104
  go_wp2_with fail
  generalize w.alloc (.cells #[.int .i64 0, .int .i64 0, .string ⟨#[]⟩, .int .i64 0, .int .i64 0, .int .i64 0, .int .i64 0, .int .u64 0, .slice none 0 0] 27) = w0 at *
  refine (open_any H0.out (5) HI.out).mono ?_
  rintro e w1 ⟨rfl, r1, r2⟩
  have S2 := hide (Sn.start HP.out hb0.out hz0.out r1 r2 (5) (tkAt L i).pos ⟨#[]⟩ 0 0)
  clear r1 r2 hb0 hz0 H0
  go_wp2_with fail
  generalize w1.alloc (.cells #[.int .i64 (5), .int .i64 (tkAt L i).pos, .string ⟨#[]⟩, .int .i64 0, .int .i64 0, .int .i64 0, .int .i64 0, .int .u64 0, .slice none 0 0] 27) = w2 at *
  generalize w1.heap.size = n at *
  refine (word_both S2.out.pr HE.out ).mono ?_
  rintro e w3 (⟨c3, rfl, r2⟩ | ⟨c3, rfl, r1, r2⟩)
  · have hw := HW.out
    simp only [channelO, endO, if_neg c3] at hw
    subst hw
    exact ⟨rfl, rfl, S2.out.tn.trans r2⟩
  have C3 := hide c3
  have S3 := hide (S2.out.call r1 r2)
  clear c3 r1 r2 S2
  obtain ⟨⟨fr0, fr1, fr2, fr3, fr4, fr5, fr6, fr7, fr8⟩, ce0, ce1, ce2, ce3, ce4, ce5, ce6, ce7, ce8⟩ := S3.out.vr.all
  have S4 := hide (S3.out.setName (tx L (i + 1)))
  clear S3
  go_wp2_with fail
  clear fr0 fr1 fr2 fr3 fr4 fr5 fr6 fr7 fr8 ce0 ce1 ce2 ce3 ce4 ce5 ce6 ce7 ce8
  generalize w3.setCell ⟨n, 2, none⟩ (.string (tx L (i + 1))) = w4 at *
  refine (bound_any S4.out.pr HE.out).mono ?_
  intro e w5 hp
  rcases hp.both with ⟨kb, jb, c5, rfl, r2⟩ | ⟨z5, j5, c5, rfl, r1, r2⟩
  · have hw := HW.out
    simp only [channelO, if_pos C3.out, c5] at hw
    subst hw
    exact ⟨rfl, rfl, S4.out.tn.trans r2⟩
  have C5 := hide c5
  have S5 := hide (S4.out.call r1 r2)
  clear c5 r1 r2 S4
  obtain ⟨⟨fr0, fr1, fr2, fr3, fr4, fr5, fr6, fr7, fr8⟩, ce0, ce1, ce2, ce3, ce4, ce5, ce6, ce7, ce8⟩ := S5.out.vr.all
  have S6 := hide (S5.out.setN (z5))
  clear S5
  go_wp2_with fail
  clear fr0 fr1 fr2 fr3 fr4 fr5 fr6 fr7 fr8 ce0 ce1 ce2 ce3 ce4 ce5 ce6 ce7 ce8
  generalize w5.setCell ⟨n, 4, none⟩ (.int .i64 (z5)) = w6 at *
  refine (typed_any S6.out.pr HE.out).mono ?_
  intro e w7 hp
  rcases hp.both with ⟨kb, jb, c7, rfl, r2⟩ | ⟨t7, j7, c7, rfl, r1, r2⟩
  · have hw := HW.out
    simp only [channelO, if_pos C3.out, C5.out, c7] at hw
    subst hw
    exact ⟨rfl, rfl, S6.out.tn.trans r2⟩
  have C7 := hide c7
  have S7 := hide (S6.out.call r1 r2)
  clear c7 r1 r2 S6
  obtain ⟨⟨fr0, fr1, fr2, fr3, fr4, fr5, fr6, fr7, fr8⟩, ce0, ce1, ce2, ce3, ce4, ce5, ce6, ce7, ce8⟩ := S7.out.vr.all
  have S8 := hide (S7.out.setT (t7))
  clear S7
  go_wp2_with fail
  clear fr0 fr1 fr2 fr3 fr4 fr5 fr6 fr7 fr8 ce0 ce1 ce2 ce3 ce4 ce5 ce6 ce7 ce8
  have e8 : (w7.setCell ⟨n, 3, none⟩ (.int .i64 (t7))).heap.size = w7.heap.size := by simp
  generalize w7.setCell ⟨n, 3, none⟩ (.int .i64 (t7)) = w8 at *
  rw [← e8]
  clear e8
  refine (take_both S8.out.pr HE.out bSemi (by decide)).mono ?_
  rintro e w9 (⟨c9, rfl, r2⟩ | ⟨c9, rfl, r1, r2⟩)
  · have hw := HW.out
    simp only [channelO, endO, if_pos C3.out, C5.out, C7.out, if_neg c9] at hw
    subst hw
    exact ⟨rfl, rfl, S8.out.tn.trans r2⟩
  have C9 := hide c9
  have S9 := hide (S8.out.call r1 r2)
  clear c9 r1 r2 S8
  obtain ⟨⟨fz0, fz1, fz2, fz3, fz4, fz5, fz6, fz7, fz8⟩, bz0, bz1, bz2, bz3, bz4, bz5, bz6, bz7, bz8⟩ := S9.out.zr.all
  obtain ⟨_, cg0, cg1, cg2, cg3, cg4, cg5, cg6, cg7, cg8⟩ := S9.out.vr.all
  obtain ⟨_, rfl, z9, v9, p9, t9⟩ := S9.out.done
  have Z9 := hide z9
  have D9 := hide (And.intro v9 (And.intro p9 t9))
  clear z9 v9 p9 t9 S9
  go_wp2_with fail
  refine ret_nod (w.heap.size) rfl rfl Z9.out rfl ?_
  have hw := HW.out
  simp only [channelO, endO, if_pos C3.out, C5.out, C7.out, if_pos C9.out] at hw
  subst hw
  exact ⟨_, rfl, D9.out⟩

set_option maxRecDepth 20000 in
set_option maxHeartbeats 1000000 in
theorem param_any {w : World} {p : List Addr} {g gT : Nat} {L : List Tk} {i l : Nat} (h : Ps w p g gT L i l) (hE : Ends L) :
    Calls Tryz.prog 137 #[.pointer (some ⟨g, 0, none⟩)] w fun e w' => PostN p g gT L l w e w' (paramO L i) := by
  have HP := hide h
  have HE := hide hE
  have hb0 := hide (bel_new w nodZ)
  have hz0 := hide (nod_new w)
  have H0 := hide (h.below hb0.out)
  obtain ⟨tk, htk⟩ : ∃ tk, tkAt L i = tk := ⟨_, rfl⟩
  have HK := hide htk
  clear htk
  obtain ⟨kind, text, nn, bits_, pos⟩ := tk
  have hf4 := tf4 (.int .i64 kind) (.string text) (.int .i64 nn) (.int .u64 bits_) (.int .i64 pos)
  obtain ⟨out, ho⟩ : ∃ out, paramO L i = out := ⟨_, rfl⟩
  rw [ho]
  have HW := hide ho
  clear h hE ho
  unfold nodZ at *
  go_enter Tryz.func137, Tryz.ntmps137
  go_wp2_with fail
  generalize w.alloc (.cells #[.int .i64 0, .int .i64 0, .string ⟨#[]⟩, .int .i64 0, .int .i64 0, .int .i64 0, .int .i64 0, .int .u64 0, .slice none 0 0] 27) = w0 at *
  refine (here_any H0.out).mono ?_
  rintro e w1 ⟨he, hb1⟩
  rw [HK.out] at he
  dsimp only [Tk.val] at he
  subst he
  have S2 := hide (Sn.start HP.out hb0.out hz0.out (H0.out.below hb1) (Tn.of_bel hb1) 8 pos ⟨#[]⟩ 0 0)
  clear hb1 hb0 hz0 H0
  go_wp2_with fail
  generalize w1.alloc (.cells #[.int .i64 8, .int .i64 pos, .string ⟨#[]⟩, .int .i64 0, .int .i64 0, .int .i64 0, .int .i64 0, .int .u64 0, .slice none 0 0] 27) = w2 at *
  generalize w1.heap.size = n at *
  clear hf4
  refine (word_both S2.out.pr HE.out ).mono ?_
  rintro e w3 (⟨c3, rfl, r2⟩ | ⟨c3, rfl, r1, r2⟩)
  · have hw := HW.out
    simp only [paramO, if_neg c3] at hw
    subst hw
    exact ⟨rfl, rfl, S2.out.tn.trans r2⟩
  have C3 := hide c3
  have S3 := hide (S2.out.call r1 r2)
  clear c3 r1 r2 S2
  obtain ⟨⟨fr0, fr1, fr2, fr3, fr4, fr5, fr6, fr7, fr8⟩, ce0, ce1, ce2, ce3, ce4, ce5, ce6, ce7, ce8⟩ := S3.out.vr.all
  have S4 := hide (S3.out.setName (tx L i))
  clear S3
  go_wp2_with fail
  clear fr0 fr1 fr2 fr3 fr4 fr5 fr6 fr7 fr8 ce0 ce1 ce2 ce3 ce4 ce5 ce6 ce7 ce8
  generalize w3.setCell ⟨n, 2, none⟩ (.string (tx L i)) = w4 at *
  refine (typed_any S4.out.pr HE.out).mono ?_
  intro e w5 hp
  rcases hp.both with ⟨kb, jb, c5, rfl, r2⟩ | ⟨t5, j5, c5, rfl, r1, r2⟩
  · have hw := HW.out
    simp only [paramO, if_pos C3.out, c5] at hw
    subst hw
    exact ⟨rfl, rfl, S4.out.tn.trans r2⟩
  have C5 := hide c5
  have S5 := hide (S4.out.call r1 r2)
  clear c5 r1 r2 S4
  obtain ⟨⟨fr0, fr1, fr2, fr3, fr4, fr5, fr6, fr7, fr8⟩, ce0, ce1, ce2, ce3, ce4, ce5, ce6, ce7, ce8⟩ := S5.out.vr.all
  have S6 := hide (S5.out.setT (t5))
  obtain ⟨⟨fz0, fz1, fz2, fz3, fz4, fz5, fz6, fz7, fz8⟩, bz0, bz1, bz2, bz3, bz4, bz5, bz6, bz7, bz8⟩ := S6.out.zr.all
  obtain ⟨_, cg0, cg1, cg2, cg3, cg4, cg5, cg6, cg7, cg8⟩ := S6.out.vr.all
  obtain ⟨_, rfl, z9, v9, p9, t9⟩ := S6.out.done
  have Z9 := hide z9
  have D9 := hide (And.intro v9 (And.intro p9 t9))
  clear z9 v9 p9 t9 S5 S6
  go_wp2_with fail
  refine ret_nod (w.heap.size) rfl rfl Z9.out rfl ?_
  have hw := HW.out
  simp only [paramO, if_pos C3.out, C5.out] at hw
  subst hw
  rw [HK.out]
  exact ⟨_, rfl, D9.out⟩

end Go.Proofs.YtogeblmppagabaaGreatDoor.Ck

/- Lists of parameters. -/
namespace Go.Proofs.YtogeblmppagabaaGreatDoor.Ck
open Go.RowKit

set_option maxRecDepth 20000 in
set_option maxHeartbeats 1000000 in
theorem list_param {w : World} {p : List Addr} {g gT : Nat} {L : List Tk} {i l : Nat} (h : Ps w p g gT L i l) (hE : Ends L) (rule : Nat → Out) (hge : ∀ j m j', rule j = .ok m j' → j ≤ j') (hr : ∀ j, i ≤ j → Rule 137 p g gT L l j (rule j)) :
    Calls Tryz.prog 136 #[.pointer (some ⟨g, 0, none⟩), .func (.func 137) #[.pointer (some ⟨g, 0, none⟩)] #[]] w fun e w' => PostR p g gT L l w e w' (listO rule L i) := by
  have HP := hide h
  have HE := hide hE
  have HR := hide hr
  have HG := hide hge
  have hgl := h.lt_g
  have hT := h.row.lt
  have hL := h.len
  obtain ⟨out, ho⟩ : ∃ out, listO rule L i = out := ⟨_, rfl⟩
  rw [ho]
  have HW := hide ho
  clear h hE ho hr hge
  go_enter Tryz.func136, Tryz.ntmps136
  go_wp2_with fail
  refine (HR.out i (Nat.le_refl _) _ HP.out).mono ?_
  intro e w1 hp
  rcases hp.both with ⟨kb, jb, c1, rfl, r2⟩ | ⟨kd, ps, nm, t, nz, z, ob, bi, ks, a, len, ck, j0, c1, rfl, hk, r1, r2⟩
  · have hw := HW.out
    simp only [listO, c1] at hw
    subst hw
    exact ⟨rfl, rfl, r2⟩
  have hj0 := HG.out i _ j0 c1
  have hb2 := bel_new w1 (.cells #[.int .i64 kd, .int .i64 ps, .string nm, .int .i64 t, .int .i64 nz, .int .i64 z, .int .i64 ob, .int .u64 bi, .slice a len ck] 27)
  have M0 : Hid (∃ f', L.length - j0 ≤ f' ∧ listF rule L f' j0 [Nd.mk kd ps nm t nz z ob bi ks] = out) := by
    have hw := HW.out
    simp only [listO, c1] at hw
    exact ⟨L.length, Nat.sub_le _ _, hw⟩
  have I0 := hide (And.intro (Row.one (kd := kd) (p := ps) (nm := nm) (t := t) (n := nz) (z := z) (o := ob) (bits_ := bi) r2.size hk) (And.intro (r1.below hb2) (r2.trans (Tn.of_bel hb2))))
  clear hk r1 r2 hb2 c1 HW
  go_wp2_with fail
  generalize w1.alloc (.cells #[.int .i64 kd, .int .i64 ps, .string nm, .int .i64 t, .int .i64 nz, .int .i64 z, .int .i64 ob, .int .u64 bi, .slice a len ck] 27) = w2 at *
  generalize w1.heap.size = b1 at *
  go_loopw [5] (fun v wr => ∃ (j : Nat) (ns : List Nd) (a : Option Addr) (n ck : Nat), i ≤ j ∧ v = .slice a n ck ∧ ns.length ≤ j + 1 ∧ Hid (n = ns.length ∧ Row wr w.heap.size ns (.slice a n ck) ∧ Ps wr p g gT L j l ∧ Tn g w wr ∧ ∃ f', L.length - j ≤ f' ∧ listF rule L f' j ns = out)) (fun _ wr => L.length - nextAt wr g)
  case atStart => exact ⟨j0, [Nd.mk kd ps nm t nz z ob bi ks], _, 1, 1, hj0, rfl, by simp, rfl, I0.out.1, I0.out.2.1, I0.out.2.2, M0.out⟩
  case round =>
    clear I0 M0 hj0
    obtain ⟨j, ns, a, n, ck, hij, rfl, hnl, I⟩ := hrel
    have N3 := hide I.out.2.2.1.next
    go_wp2_with fail
    refine (taken_both I.out.2.2.1 HE.out bComma (by decide)).mono ?_
    rintro e w4 (⟨c4, rfl, r1, r2⟩ | ⟨c4, rfl, r1, r2⟩)
    · have C4 := hide c4
      have H4 := hide r1
      have T4 := hide (I.out.2.2.2.1.trans r2)
      have R4 := hide (I.out.2.1.tn r2 hgl)
      have EN := hide I.out.1
      have hlt := I.out.2.2.1.lt
      have F4 := hide I.out.2.2.2.2
      clear c4 r1 r2 I
      go_wp2_with fail
      refine (HR.out (j + 1) (by omega) _ H4.out).mono ?_
      intro e w5 hp
      rcases hp.both with ⟨kb, jb, c5, rfl, r2⟩ | ⟨kd, ps, nm, t, nz, z, ob, bi, ks, a', len, ck', j', c5, rfl, hk, r1, r2⟩
      · obtain ⟨f', hf1, hf2⟩ := F4.out
        obtain ⟨f2, rfl⟩ : ∃ f2, f' = f2 + 1 := ⟨f' - 1, by omega⟩
        simp only [listF, if_pos C4.out, c5] at hf2
        subst hf2
        exact ⟨rfl, rfl, T4.out.trans r2⟩
      have hj' := HG.out _ _ j' c5
      have F5 : Hid (∃ f', L.length - j' ≤ f' ∧ listF rule L f' j' (ns ++ [Nd.mk kd ps nm t nz z ob bi ks]) = out) := by
        obtain ⟨f', hf1, hf2⟩ := F4.out
        obtain ⟨f2, rfl⟩ : ∃ f2, f' = f2 + 1 := ⟨f' - 1, by omega⟩
        simp only [listF, if_pos C4.out, c5] at hf2
        exact ⟨f2, by omega, hf2⟩
      clear c5 C4 F4
      have hb6 := bel_new w5 (.cells #[.int .i64 kd, .int .i64 ps, .string nm, .int .i64 t, .int .i64 nz, .int .i64 z, .int .i64 ob, .int .u64 bi, .slice a' len ck'] 27)
      have hC : ∀ k, _ → k < w4.heap.size := fun k hk => (R4.out.own k hk).2
      have PU := hide (fun ty => Row.push (c := 1) ((R4.out.tn r2 (hgl)).bel hb6) (T4.out.size) hC (Nat.le_trans r2.size hb6.size) (by omega) (hk.bel hb6) (Go.Deep.blk_alloc_new w5 _) ty)
      have R6 := hide (And.intro (r1.below hb6) ((T4.out.trans r2).trans (Tn.of_bel hb6)))
      clear hk hb6 r1 r2 hC R4 T4 H4
      go_wp2_with (first | (at_builtin; refine wpList_appN (.tmp 11) (.tmp 14) _ _ _ PU.out rfl rfl rfl rfl ?_; rintro v7 w7 ⟨o7, t7⟩))
      obtain ⟨a7, c7, e7⟩ := o7.len
      obtain ⟨n7, hn7⟩ : ∃ n7, n7 = (ns ++ [Nd.mk kd ps nm t nz z ob bi ks]).length := ⟨_, rfl⟩
      rw [← hn7] at e7
      subst e7
      have I7 := hide (And.intro hn7 (And.intro o7 (And.intro (R6.out.1.belB t7 hgl hT) (R6.out.2.belB t7 (Nat.le_refl _)))))
      clear hn7 o7 t7 PU R6
      go_wp2_with fail
      go_roundw
      case rel => exact ⟨j', _, _, _, _, by omega, rfl, by rw [List.length_append, List.length_singleton]; omega, I7.out.1, I7.out.2.1, I7.out.2.2.1, I7.out.2.2.2, F5.out⟩
      case measure =>
        have h7 := I7.out.2.2.1.next
        rw [h7, N3.out]
        omega
    · have R4 := hide (I.out.2.1.tn r2 hgl)
      have H4 := hide (And.intro r1 (I.out.2.2.2.1.trans r2))
      have hw : OutL.ok ns j = out := by
        obtain ⟨f', hf1, hf2⟩ := I.out.2.2.2.2
        have hlt := I.out.2.2.1.lt
        obtain ⟨f2, rfl⟩ : ∃ f2, f' = f2 + 1 := ⟨f' - 1, by omega⟩
        simp only [listF, if_neg c4] at hf2
        exact hf2
      have HW := hide hw
      clear hw c4 r1 r2 I
      go_wp2_with fail
      go_ret
      have hw := HW.out
      subst hw
      exact ⟨_, rfl, R4.out, H4.out⟩

end Go.Proofs.YtogeblmppagabaaGreatDoor.Ck
