/- Texts of this proof, packed: contracts of the program's functions, and the plain model that they are held against. -/
import Derived.Test.YtogeblmppagabaaGreatDoorQba
/- Programs. -/
namespace Go.Proofs.YtogeblmppagabaaGreatDoor.Ck
open Go.RowKit

/-- declarations up to the end -/
def progF (dc : Nat → Out) (L : List Tk) : Nat → Nat → List Nd → OutL
  | 0, j, _ => .bad 0 j
  | f + 1, j, ns => if (tkAt L j).kind = 0 then .ok ns j else match dc j with | .ok m j' => progF dc L f j' (ns ++ [m]) | .bad k j' => .bad k j'
def programO (L : List Tk) (i : Nat) (dc : Nat → Out) : Out :=
  match progF dc L L.length i [] with | .ok ns j => .ok (.mk 1 (tkAt L i).pos ⟨#[]⟩ 0 0 0 0 0 ns) j | .bad k j => .bad k j
theorem more_both {w : World} {p : List Addr} {g gT : Nat} {L : List Tk} {i l : Nat} (h : Ps w p g gT L i l) :
    Calls Tryz.prog 51 #[.pointer (some ⟨g, 0, none⟩)] w fun e w' => ((tkAt L i).kind = 0 ∧ e = .returned (.bool false) ∧ Below w.heap.size w w') ∨ (¬ (tkAt L i).kind = 0 ∧ e = .returned (.bool true) ∧ Below w.heap.size w w') :=
  (more_any2 h).mono (fun e w' r => by
    by_cases hh : (tkAt L i).kind = 0
    · exact .inl ⟨hh, by rw [r.1, hh]; rfl, r.2⟩
    · exact .inr ⟨hh, by rw [r.1, decide_eq_true hh], r.2⟩)

set_option maxRecDepth 20000 in
set_option maxHeartbeats 1000000 in
theorem program_any {w : World} {p : List Addr} {g gT : Nat} {L : List Tk} {i l : Nat} (h : Ps w p g gT L i l) (dc : Nat → Out) (hgt : ∀ j m j', dc j = .ok m j' → j < j') (hr : ∀ j, i ≤ j → Rule 75 p g gT L l j (dc j)) :
    Calls Tryz.prog 45 #[.pointer (some ⟨g, 0, none⟩)] w fun e w' => PostN p g gT L l w e w' (programO L i dc) := by
  have HP := hide h
  have HG := hide hgt
  have HR := hide hr
  have hb0 := hide (bel_new w nodZ)
  have hz0 := hide (nod_new w)
  have H0 := hide (h.below hb0.out)
  obtain ⟨tk, htk⟩ : ∃ tk, tkAt L i = tk := ⟨_, rfl⟩
  have HK := hide htk
  clear htk
  obtain ⟨kind, text, nn, bits_, pos⟩ := tk
  have hf4 := tf4 (.int .i64 kind) (.string text) (.int .i64 nn) (.int .u64 bits_) (.int .i64 pos)
  have hL := h.len
  obtain ⟨out, ho⟩ : ∃ out, programO L i dc = out := ⟨_, rfl⟩
  rw [ho]
  have HW := hide ho
  clear h ho hgt hr
  unfold nodZ at *
  go_enter Tryz.func45, Tryz.ntmps45
  go_wp2_with fail
  generalize w.alloc (.cells #[.int .i64 0, .int .i64 0, .string ⟨#[]⟩, .int .i64 0, .int .i64 0, .int .i64 0, .int .i64 0, .int .u64 0, .slice none 0 0] 27) = w0 at *
  refine (here_any H0.out).mono ?_
  rintro e w1 ⟨he, hb1⟩
  rw [HK.out] at he
  dsimp only [Tk.val] at he
  subst he
  have S2 := hide (Sn.start HP.out hb0.out hz0.out (H0.out.below hb1) (Tn.of_bel hb1) 1 pos ⟨#[]⟩ 0 0)
  clear hb1 hb0 hz0 H0
  go_wp2_with fail
  generalize w1.alloc (.cells #[.int .i64 1, .int .i64 pos, .string ⟨#[]⟩, .int .i64 0, .int .i64 0, .int .i64 0, .int .i64 0, .int .u64 0, .slice none 0 0] 27) = w2 at *
  generalize w1.heap.size = n at *
  clear hf4
  go_loopw [] (fun wr => ∃ (j : Nat) (ns : List Nd) (a : Option Addr) (m ck : Nat), i ≤ j ∧ ns.length ≤ j ∧ Hid (m = ns.length ∧ Sn w wr p g gT L j l w.heap.size n 1 pos ⟨#[]⟩ 0 0 a m ck ns ∧ Row wr (n + 1) ns (.slice a m ck) ∧ ∃ f', L.length - j ≤ f' ∧ progF dc L f' j ns = progF dc L L.length i [])) (fun wr => L.length - nextAt wr g)
  case atStart => exact ⟨i, [], none, 0, 0, Nat.le_refl _, Nat.zero_le _, rfl, S2.out, Row.nil _ _, L.length, Nat.sub_le _ _, rfl⟩
  case round =>
    clear S2
    obtain ⟨j, ns, a, m, ck, hij, hnl, I⟩ := hrel
    have N3 := hide I.out.2.1.pr.next
    go_wp2_with fail
    refine (more_both I.out.2.1.pr).mono ?_
    rintro e w4 (⟨c4, rfl, hb⟩ | ⟨c4, rfl, hb⟩)
    · have S4 := hide (I.out.2.1.bel hb)
      have HQ : Hid (progF dc L L.length i [] = .ok ns j) := by
        obtain ⟨f', hf1, hf2⟩ := I.out.2.2.2
        have hlt := I.out.2.1.pr.lt
        obtain ⟨f2, rfl⟩ : ∃ f2, f' = f2 + 1 := ⟨f' - 1, by omega⟩
        simp only [progF, if_pos c4] at hf2
        exact hf2.symm
      clear c4 hb I
      obtain ⟨⟨fz0, fz1, fz2, fz3, fz4, fz5, fz6, fz7, fz8⟩, bz0, bz1, bz2, bz3, bz4, bz5, bz6, bz7, bz8⟩ := S4.out.zr.all
      obtain ⟨_, cg0, cg1, cg2, cg3, cg4, cg5, cg6, cg7, cg8⟩ := S4.out.vr.all
      obtain ⟨_, rfl, z9, v9, p9, t9⟩ := S4.out.done
      have Z9 := hide z9
      have D9 := hide (And.intro v9 (And.intro p9 t9))
      clear z9 v9 p9 t9 S4
      go_wp2_with fail
      refine ret_nod (w.heap.size) rfl rfl Z9.out rfl ?_
      have hw := HW.out
      simp only [programO, HQ.out] at hw
      subst hw
      rw [HK.out]
      exact ⟨_, rfl, D9.out⟩
    · have C4 := hide c4
      have S4 := hide (I.out.2.1.bel hb)
      have RY := hide (I.out.2.2.1.bel hb)
      have hlt := I.out.2.1.pr.lt
      have F4 := hide I.out.2.2.2
      have EN := hide I.out.1
      clear c4 hb I
      go_wp2_with fail
      refine wp_region_any mixed ?_
      change wpAny _ _ _ _ _ _ _ (World.drew _)
      have SW0 := hide S4.out.drew
      have RW0 := hide (RY.out.bel (bel_drawn (Below.refl _ _)))
      have hgn : g < n + 1 := by have := SW0.out.ng; have := SW0.out.nn; omega
      have hzn : w.heap.size < n := by have := SW0.out.ne; have := SW0.out.nn; omega
      clear S4 RY
      generalize World.drew w4 = W0 at *
      refine wpAny_take (i := 0) (v := ?_) rfl (by kernel_rfl) (by kernel_rfl) (by kernel_rfl) (fun _ _ _ h => h) (Or.inl ⟨by rfl, fun w => ?_⟩) ?_
      rotate_left 1
      · (go_simp <;> with_reducible rfl)
      simp only [Act.put, List.getElem_toArray, List.getElem_cons_zero, List.setIfInBounds_toArray, List.set_cons_zero, List.set_cons_succ]
      refine wpAny_take (i := 2) (v := ?_) rfl (by kernel_rfl) (by kernel_rfl) (by kernel_rfl) (fun _ _ _ h => h) (Or.inl ⟨by rfl, fun w => ?_⟩) ?_
      rotate_left 1
      · (go_simp <;> with_reducible rfl)
      simp only [Act.put, List.getElem_toArray, List.getElem_cons_zero, List.getElem_cons_succ, List.setIfInBounds_toArray, List.set_cons_zero, List.set_cons_succ]
      refine wpAny_ready (rs := [1, 3]) (by kernel_rfl) (by decide) ?_
      refine AllReady.cons rfl (fun K1 hK1 => ?_) (AllReady.cons rfl (fun K1 hK1 => ?_) AllReady.nil)
      · obtain ⟨_, _, _, _, _, _, _, _, _, yq⟩ := SW0.out.vr.all
        go_simp
        refine hK1 _ _ ?_
        clear hK1 K1 yq
        refine wpAny_ready (rs := [3]) (by kernel_rfl) (by decide) ?_
        refine AllReady.cons rfl (fun K1 hK1 => ?_) AllReady.nil
        go_simp
        refine (HR.out j hij _ SW0.out.pr).mono ?_
        intro e W1 hp
        rcases hp.both with ⟨kb, jb, cq, rfl, r2⟩ | ⟨kd', ps', nm', t', nz', z', ob', bi', ks', a', len', ck', jq, cq, rfl, hk, r1, r2⟩
        · obtain ⟨f', hf1, hf2⟩ := F4.out
          obtain ⟨f2, rfl⟩ : ∃ f2, f' = f2 + 1 := ⟨f' - 1, by omega⟩
          simp only [progF, if_neg C4.out, cq] at hf2
          have hw := HW.out
          simp only [programO, ← hf2] at hw
          subst hw
          exact ⟨rfl, rfl, SW0.out.tn.trans r2⟩
        have CQ := hide cq
        have SW1 := hide (SW0.out.call r1 r2)
        have RW1 := hide (RW0.out.tn r2 hgn)
        have JW1 := hide hk
        have HC : Hid (∀ k, Value.ownBlock (.slice a m ck) = some k → k < W0.heap.size) := fun k hk => (RW0.out.own k hk).2
        have HWs := hide r2.size
        have HN1 := hide (show n + 1 ≤ W0.heap.size from SW0.out.lt)
        clear cq hk r1 r2
        refine hK1 _ _ ?_
        clear hK1 K1
        refine wpAny_ready (rs := [4]) (by kernel_rfl) (by decide) ?_
        refine AllReady.cons rfl (fun K1 hK1 => ?_) AllReady.nil
        go_simp
        have hb := bel_new W1 (.cells #[.int .i64 kd', .int .i64 ps', .string nm', .int .i64 t', .int .i64 nz', .int .i64 z', .int .i64 ob', .int .u64 bi', .slice a' len' ck'] 27)
        have SW2 := hide (SW1.out.bel hb)
        have RW2 := hide (RW1.out.bel hb)
        have PU := hide (fun ty => Row.push (c := 1) RW2.out HN1.out HC.out (Nat.le_trans HWs.out hb.size) (by omega) (JW1.out.bel hb) (Go.Deep.blk_alloc_new W1 _) ty)
        clear hb JW1
        generalize W1.alloc (.cells #[.int .i64 kd', .int .i64 ps', .string nm', .int .i64 t', .int .i64 nz', .int .i64 z', .int .i64 ob', .int .u64 bi', .slice a' len' ck'] 27) = W2 at *
        generalize W1.heap.size = bx at *
        refine hK1 _ _ ?_
        clear hK1 K1
        refine wpAny_ready (rs := [5]) (by kernel_rfl) (by decide) ?_
        refine AllReady.cons rfl (fun K1 hK1 => ?_) AllReady.nil
        refine step_appN (.tmp 11) (.tmp 14) _ _ _ PU.out rfl rfl rfl rfl ?_
        rintro v7 w7 ⟨o7, t7⟩
        obtain ⟨a7, c7, e7⟩ := o7.len
        obtain ⟨m7, hm7⟩ : ∃ m7, m7 = (ns ++ [Nd.mk kd' ps' nm' t' nz' z' ob' bi' ks']).length := ⟨_, rfl⟩
        rw [← hm7] at e7
        subst e7
        obtain ⟨x8, f8, s8, r8⟩ := SW2.out.grown t7 hzn o7
        have S8 := hide s8
        have R8 := hide r8
        have M8 := hide hm7
        clear s8 r8 hm7 o7 t7 PU SW2 RW2
        refine hK1 _ _ ?_
        clear hK1 K1
        refine wpAny_take (i := 6) (v := ?_) rfl (by kernel_rfl) (by kernel_rfl) (by kernel_rfl) (fun _ _ _ h => h) (Or.inl ⟨by rfl, fun w => ?_⟩) ?_
        rotate_left 1
        · (go_simp <;> with_reducible rfl)
        simp only [Act.put, List.getElem_toArray, List.getElem_cons_zero, List.getElem_cons_succ, List.setIfInBounds_toArray, List.set_cons_zero, List.set_cons_succ]
        refine wpAny_ready (rs := [7]) (by kernel_rfl) (by decide) ?_
        refine AllReady.cons rfl (fun K1 hK1 => ?_) AllReady.nil
        go_simp
        refine hK1 _ _ ?_
        clear hK1 K1
        refine wpAny_done (by kernel_rfl) ?_ _
        clear x8 f8
        generalize w7.setCell ⟨n, 8, none⟩ (.slice a7 m7 c7) = w8 at *
        have hj' := HG.out _ _ jq CQ.out
        have F5 : Hid (∃ f', L.length - jq ≤ f' ∧ progF dc L f' jq (ns ++ [Nd.mk kd' ps' nm' t' nz' z' ob' bi' ks']) = progF dc L L.length i []) := by
          obtain ⟨f', hf1, hf2⟩ := F4.out
          obtain ⟨f2, rfl⟩ : ∃ f2, f' = f2 + 1 := ⟨f' - 1, by omega⟩
          simp only [progF, if_neg C4.out, CQ.out] at hf2
          exact ⟨f2, by omega, hf2⟩
        go_wp2_with fail
        go_roundw
        case rel => exact ⟨jq, _, _, _, _, by omega, by rw [List.length_append, List.length_singleton]; omega, M8.out, S8.out, R8.out, F5.out⟩
        case measure =>
          have h7 := S8.out.pr.next
          rw [h7, N3.out]
          omega
      · go_simp
        refine (HR.out j hij _ SW0.out.pr).mono ?_
        intro e W1 hp
        rcases hp.both with ⟨kb, jb, cq, rfl, r2⟩ | ⟨kd', ps', nm', t', nz', z', ob', bi', ks', a', len', ck', jq, cq, rfl, hk, r1, r2⟩
        · obtain ⟨f', hf1, hf2⟩ := F4.out
          obtain ⟨f2, rfl⟩ : ∃ f2, f' = f2 + 1 := ⟨f' - 1, by omega⟩
          simp only [progF, if_neg C4.out, cq] at hf2
          have hw := HW.out
          simp only [programO, ← hf2] at hw
          subst hw
          exact ⟨rfl, rfl, SW0.out.tn.trans r2⟩
        have CQ := hide cq
        have SW1 := hide (SW0.out.call r1 r2)
        have RW1 := hide (RW0.out.tn r2 hgn)
        have JW1 := hide hk
        have HC : Hid (∀ k, Value.ownBlock (.slice a m ck) = some k → k < W0.heap.size) := fun k hk => (RW0.out.own k hk).2
        have HWs := hide r2.size
        have HN1 := hide (show n + 1 ≤ W0.heap.size from SW0.out.lt)
        clear cq hk r1 r2
        refine hK1 _ _ ?_
        clear hK1 K1
        refine wpAny_ready (rs := [1, 4]) (by kernel_rfl) (by decide) ?_
        refine AllReady.cons rfl (fun K1 hK1 => ?_) (AllReady.cons rfl (fun K1 hK1 => ?_) AllReady.nil)
        · obtain ⟨_, _, _, _, _, _, _, _, _, yq⟩ := SW1.out.vr.all
          go_simp
          refine hK1 _ _ ?_
          clear hK1 K1 yq
          refine wpAny_ready (rs := [4]) (by kernel_rfl) (by decide) ?_
          refine AllReady.cons rfl (fun K1 hK1 => ?_) AllReady.nil
          go_simp
          have hb := bel_new W1 (.cells #[.int .i64 kd', .int .i64 ps', .string nm', .int .i64 t', .int .i64 nz', .int .i64 z', .int .i64 ob', .int .u64 bi', .slice a' len' ck'] 27)
          have SW2 := hide (SW1.out.bel hb)
          have RW2 := hide (RW1.out.bel hb)
          have PU := hide (fun ty => Row.push (c := 1) RW2.out HN1.out HC.out (Nat.le_trans HWs.out hb.size) (by omega) (JW1.out.bel hb) (Go.Deep.blk_alloc_new W1 _) ty)
          clear hb JW1
          generalize W1.alloc (.cells #[.int .i64 kd', .int .i64 ps', .string nm', .int .i64 t', .int .i64 nz', .int .i64 z', .int .i64 ob', .int .u64 bi', .slice a' len' ck'] 27) = W2 at *
          generalize W1.heap.size = bx at *
          refine hK1 _ _ ?_
          clear hK1 K1
          refine wpAny_ready (rs := [5]) (by kernel_rfl) (by decide) ?_
          refine AllReady.cons rfl (fun K1 hK1 => ?_) AllReady.nil
          refine step_appN (.tmp 11) (.tmp 14) _ _ _ PU.out rfl rfl rfl rfl ?_
          rintro v7 w7 ⟨o7, t7⟩
          obtain ⟨a7, c7, e7⟩ := o7.len
          obtain ⟨m7, hm7⟩ : ∃ m7, m7 = (ns ++ [Nd.mk kd' ps' nm' t' nz' z' ob' bi' ks']).length := ⟨_, rfl⟩
          rw [← hm7] at e7
          subst e7
          obtain ⟨x8, f8, s8, r8⟩ := SW2.out.grown t7 hzn o7
          have S8 := hide s8
          have R8 := hide r8
          have M8 := hide hm7
          clear s8 r8 hm7 o7 t7 PU SW2 RW2
          refine hK1 _ _ ?_
          clear hK1 K1
          refine wpAny_take (i := 6) (v := ?_) rfl (by kernel_rfl) (by kernel_rfl) (by kernel_rfl) (fun _ _ _ h => h) (Or.inl ⟨by rfl, fun w => ?_⟩) ?_
          rotate_left 1
          · (go_simp <;> with_reducible rfl)
          simp only [Act.put, List.getElem_toArray, List.getElem_cons_zero, List.getElem_cons_succ, List.setIfInBounds_toArray, List.set_cons_zero, List.set_cons_succ]
          refine wpAny_ready (rs := [7]) (by kernel_rfl) (by decide) ?_
          refine AllReady.cons rfl (fun K1 hK1 => ?_) AllReady.nil
          go_simp
          refine hK1 _ _ ?_
          clear hK1 K1
          refine wpAny_done (by kernel_rfl) ?_ _
          clear x8 f8
          generalize w7.setCell ⟨n, 8, none⟩ (.slice a7 m7 c7) = w8 at *
          have hj' := HG.out _ _ jq CQ.out
          have F5 : Hid (∃ f', L.length - jq ≤ f' ∧ progF dc L f' jq (ns ++ [Nd.mk kd' ps' nm' t' nz' z' ob' bi' ks']) = progF dc L L.length i []) := by
            obtain ⟨f', hf1, hf2⟩ := F4.out
            obtain ⟨f2, rfl⟩ : ∃ f2, f' = f2 + 1 := ⟨f' - 1, by omega⟩
            simp only [progF, if_neg C4.out, CQ.out] at hf2
            exact ⟨f2, by omega, hf2⟩
          go_wp2_with fail
          go_roundw
          case rel => exact ⟨jq, _, _, _, _, by omega, by rw [List.length_append, List.length_singleton]; omega, M8.out, S8.out, R8.out, F5.out⟩
          case measure =>
            have h7 := S8.out.pr.next
            rw [h7, N3.out]
            omega
        · go_simp
          have hb := bel_new W1 (.cells #[.int .i64 kd', .int .i64 ps', .string nm', .int .i64 t', .int .i64 nz', .int .i64 z', .int .i64 ob', .int .u64 bi', .slice a' len' ck'] 27)
          have SW2 := hide (SW1.out.bel hb)
          have RW2 := hide (RW1.out.bel hb)
          have PU := hide (fun ty => Row.push (c := 1) RW2.out HN1.out HC.out (Nat.le_trans HWs.out hb.size) (by omega) (JW1.out.bel hb) (Go.Deep.blk_alloc_new W1 _) ty)
          clear hb JW1
          generalize W1.alloc (.cells #[.int .i64 kd', .int .i64 ps', .string nm', .int .i64 t', .int .i64 nz', .int .i64 z', .int .i64 ob', .int .u64 bi', .slice a' len' ck'] 27) = W2 at *
          generalize W1.heap.size = bx at *
          refine hK1 _ _ ?_
          clear hK1 K1
          refine wpAny_ready (rs := [1]) (by kernel_rfl) (by decide) ?_
          refine AllReady.cons rfl (fun K1 hK1 => ?_) AllReady.nil
          obtain ⟨_, _, _, _, _, _, _, _, _, yq⟩ := SW2.out.vr.all
          go_simp
          refine hK1 _ _ ?_
          clear hK1 K1 yq
          refine wpAny_ready (rs := [5]) (by kernel_rfl) (by decide) ?_
          refine AllReady.cons rfl (fun K1 hK1 => ?_) AllReady.nil
          refine step_appN (.tmp 11) (.tmp 14) _ _ _ PU.out rfl rfl rfl rfl ?_
          rintro v7 w7 ⟨o7, t7⟩
          obtain ⟨a7, c7, e7⟩ := o7.len
          obtain ⟨m7, hm7⟩ : ∃ m7, m7 = (ns ++ [Nd.mk kd' ps' nm' t' nz' z' ob' bi' ks']).length := ⟨_, rfl⟩
          rw [← hm7] at e7
          subst e7
          obtain ⟨x8, f8, s8, r8⟩ := SW2.out.grown t7 hzn o7
          have S8 := hide s8
          have R8 := hide r8
          have M8 := hide hm7
          clear s8 r8 hm7 o7 t7 PU SW2 RW2
          refine hK1 _ _ ?_
          clear hK1 K1
          refine wpAny_take (i := 6) (v := ?_) rfl (by kernel_rfl) (by kernel_rfl) (by kernel_rfl) (fun _ _ _ h => h) (Or.inl ⟨by rfl, fun w => ?_⟩) ?_
          rotate_left 1
          · (go_simp <;> with_reducible rfl)
          simp only [Act.put, List.getElem_toArray, List.getElem_cons_zero, List.getElem_cons_succ, List.setIfInBounds_toArray, List.set_cons_zero, List.set_cons_succ]
          refine wpAny_ready (rs := [7]) (by kernel_rfl) (by decide) ?_
          refine AllReady.cons rfl (fun K1 hK1 => ?_) AllReady.nil
          go_simp
          refine hK1 _ _ ?_
          clear hK1 K1
          refine wpAny_done (by kernel_rfl) ?_ _
          clear x8 f8
          generalize w7.setCell ⟨n, 8, none⟩ (.slice a7 m7 c7) = w8 at *
          have hj' := HG.out _ _ jq CQ.out
          have F5 : Hid (∃ f', L.length - jq ≤ f' ∧ progF dc L f' jq (ns ++ [Nd.mk kd' ps' nm' t' nz' z' ob' bi' ks']) = progF dc L L.length i []) := by
            obtain ⟨f', hf1, hf2⟩ := F4.out
            obtain ⟨f2, rfl⟩ : ∃ f2, f' = f2 + 1 := ⟨f' - 1, by omega⟩
            simp only [progF, if_neg C4.out, CQ.out] at hf2
            exact ⟨f2, by omega, hf2⟩
          go_wp2_with fail
          go_roundw
          case rel => exact ⟨jq, _, _, _, _, by omega, by rw [List.length_append, List.length_singleton]; omega, M8.out, S8.out, R8.out, F5.out⟩
          case measure =>
            have h7 := S8.out.pr.next
            rw [h7, N3.out]
            omega

end Go.Proofs.YtogeblmppagabaaGreatDoor.Ck
