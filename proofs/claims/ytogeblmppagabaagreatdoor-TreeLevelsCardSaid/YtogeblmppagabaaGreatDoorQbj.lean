/- Texts of this proof, packed: contracts of the program's functions, and the plain model that they are held against. -/
import Derived.Test.YtogeblmppagabaaGreatDoorQbg
import Derived.Test.YtogeblmppagabaaGreatDoorQbd
/- Statements that begin with a word. -/
namespace Go.Proofs.YtogeblmppagabaaGreatDoor.Ck
open Go.RowKit

/-- blocks between two -/
def Bt (A B k : Nat) : Prop := A < k ∧ k < B
/-- another node's variable, in block m, beside the one of the method's own -/
structure Ff (wr : World) (A m : Nat) (kd ps : Int) (nm : ByteArray) (t nz z ob bi : Int) (ks : List Nd) (a : Option Addr) (len ck : Nat) : Prop where
  vr : Nod wr m (.int .i64 kd) (.int .i64 ps) (.string nm) (.int .i64 t) (.int .i64 nz) (.int .i64 z) (.int .i64 ob) (.int .u64 bi) (.slice a len ck)
  kv : KidsV wr (Bt A m) ks (.slice a len ck)
theorem Ff.tn {wr w' : World} {A m q : Nat} {kd ps : Int} {nm : ByteArray} {t nz z ob bi : Int} {ks : List Nd} {a : Option Addr} {len ck : Nat} (h : Ff wr A m kd ps nm t nz z ob bi ks a len ck) (r : Tn q wr w') (hq : q ≤ A ∧ q ≠ m ∨ m < q) : Ff w' A m kd ps nm t nz z ob bi ks a len ck :=
  ⟨h.vr.tn r (by omega), h.kv.tnS r (fun e => by have h1 := e.1; have h2 := e.2; omega)⟩
theorem Ff.bel {wr w' : World} {A m : Nat} {kd ps : Int} {nm : ByteArray} {t nz z ob bi : Int} {ks : List Nd} {a : Option Addr} {len ck : Nat} (h : Ff wr A m kd ps nm t nz z ob bi ks a len ck) (r : Below wr.heap.size wr w') : Ff w' A m kd ps nm t nz z ob bi ks a len ck := ⟨h.vr.bel r, h.kv.bel r⟩
theorem Ff.drew {wr : World} {A m : Nat} {kd ps : Int} {nm : ByteArray} {t nz z ob bi : Int} {ks : List Nd} {a : Option Addr} {len ck : Nat} (h : Ff wr A m kd ps nm t nz z ob bi ks a len ck) : Ff wr.drew A m kd ps nm t nz z ob bi ks a len ck := h.bel (bel_drawn (Below.refl _ _))
theorem Sn.setKids2 {w wr : World} {p : List Addr} {g gT : Nat} {L : List Tk} {i l z n : Nat} {kd ps : Int} {nm : ByteArray} {t nz : Int} {a : Option Addr} {len ck : Nat} {ks : List Nd} {a' : Option Addr} {len' ck' : Nat} {ks' : List Nd} (h : Sn w wr p g gT L i l z n kd ps nm t nz a len ck ks) (hk : KidsV wr (Ot w.heap.size z n) ks' (.slice a' len' ck')) : Sn w (wr.setCell ⟨n, 8, none⟩ (.slice a' len' ck')) p g gT L i l z n kd ps nm t nz a' len' ck' ks' := by
  obtain ⟨x, s⟩ := set1 h.vr 8 (.slice a' len' ck')
  obtain ⟨k1, k2, k3, k4⟩ := h.own s
  exact ⟨k1, k2, k3, x, hk.tnS s (fun e => e.2.2 rfl), h.ng, h.nT, h.nn, h.nz', h.ne⟩

set_option maxRecDepth 20000 in
set_option maxHeartbeats 1000000 in
theorem wordFirst_any {w : World} {p : List Addr} {g gT : Nat} {L : List Tk} {i l : Nat} (h : Ps w p g gT L i l) (hE : Ends L) (hl : l ≤ 16) (tg : Out) (ex exIn : Nat → Out) (htg : Rule 202 p g gT L l i tg) (hex : ∀ n j, tg = .ok n j → Rule 27 p g gT L l (j + 1) (ex (j + 1))) (hge : ∀ j m j', exIn j = .ok m j' → j ≤ j') (hin : l ≠ 16 → ∀ n j, tg = .ok n j → ∀ j', j + 1 ≤ j' → Rule 27 p g gT L (l + 1) j' (exIn j')) :
    Calls Tryz.prog 206 #[.pointer (some ⟨g, 0, none⟩)] w fun e w' => PostN p g gT L l w e w' (wordFirstO L l tg ex exIn) := by
  have HP := hide h
  have HE := hide hE
  have HT := hide htg
  have HX := hide hex
  have HG := hide hge
  have HIN := hide hin
  have hb0 := hide (bel_new w nodZ)
  have hz0 := hide (nod_new w)
  have H0 := hide (h.below hb0.out)
  obtain ⟨out, ho⟩ : ∃ out, wordFirstO L l tg ex exIn = out := ⟨_, rfl⟩
  rw [ho]
  have HW := hide ho
  clear h hE ho htg hex hge hin
  unfold nodZ at *
  go_enter Tryz.func206, Tryz.ntmps206
  go_wp2_with fail
  generalize w.alloc (.cells #[.int .i64 0, .int .i64 0, .string ⟨#[]⟩, .int .i64 0, .int .i64 0, .int .i64 0, .int .i64 0, .int .u64 0, .slice none 0 0] 27) = w0 at *
  refine (HT.out _ H0.out).mono ?_
  intro e w1 hp
  rcases hp.both with ⟨kb, jb, c1, rfl, r2⟩ | ⟨kd', ps', nm', t', nz', z', ob', bi', ks', a', len', ck', j, c1, rfl, hk, r1, r2⟩
  · have hw := HW.out
    simp only [wordFirstO, c1] at hw
    subst hw
    exact ⟨rfl, rfl, (Tn.of_bel hb0.out).trans r2⟩
  have C1 := hide c1
  have hw0 : w.heap.size < w0.heap.size := lt_of_blk hz0.out
  have hw1 := r2.size
  have hgw := HP.out.lt_g
  have hbF := bel_new w1 (.cells #[.int .i64 kd', .int .i64 ps', .string nm', .int .i64 t', .int .i64 nz', .int .i64 z', .int .i64 ob', .int .u64 bi', .slice a' len' ck'] 27)
  have S1 := hide (Sn.start HP.out hb0.out hz0.out (r1.below hbF) (r2.trans (Tn.of_bel hbF)) 0 ps' ⟨#[]⟩ 0 0)
  have hs1 : (w1.alloc (.cells #[.int .i64 kd', .int .i64 ps', .string nm', .int .i64 t', .int .i64 nz', .int .i64 z', .int .i64 ob', .int .u64 bi', .slice a' len' ck'] 27)).heap.size = w1.heap.size + 1 := by simp
  have hbN := bel_new (w1.alloc (.cells #[.int .i64 kd', .int .i64 ps', .string nm', .int .i64 t', .int .i64 nz', .int .i64 z', .int .i64 ob', .int .u64 bi', .slice a' len' ck'] 27)) (.cells #[.int .i64 0, .int .i64 ps', .string ⟨#[]⟩, .int .i64 0, .int .i64 0, .int .i64 0, .int .i64 0, .int .u64 0, .slice none 0 0] 27)
  have F1 : Hid (Ff (w1.alloc (.cells #[.int .i64 kd', .int .i64 ps', .string nm', .int .i64 t', .int .i64 nz', .int .i64 z', .int .i64 ob', .int .u64 bi', .slice a' len' ck'] 27)) w.heap.size w1.heap.size kd' ps' nm' t' nz' z' ob' bi' ks' a' len' ck') := ⟨Go.Deep.blk_alloc_new _ _, KidsV.keep (S := fun k => Fr w0.heap.size k ∧ k < w1.heap.size) (fun k hk => ⟨Nat.lt_of_lt_of_le hw0 hk.1, hk.2⟩) (fun k h2 _ => hbF.block k h2.2) _ _ hk.within⟩
  have F1 := hide (F1.out.bel hbN)
  have e2 : ((w1.alloc (.cells #[.int .i64 kd', .int .i64 ps', .string nm', .int .i64 t', .int .i64 nz', .int .i64 z', .int .i64 ob', .int .u64 bi', .slice a' len' ck'] 27)).alloc (.cells #[.int .i64 0, .int .i64 ps', .string ⟨#[]⟩, .int .i64 0, .int .i64 0, .int .i64 0, .int .i64 0, .int .u64 0, .slice none 0 0] 27)).heap.size = w1.heap.size + 1 + 1 := by simp
  rw [hs1] at S1
  have hgm : g ≤ w.heap.size ∧ g ≠ w1.heap.size := by omega
  obtain ⟨_, cf0, cf1, cf2, _⟩ := F1.out.vr.all
  clear c1 hk r1 r2 hbF hbN hb0 hz0 H0 hs1 HT hw0 hw1
  by_cases hk28 : kd' = 28
  · subst hk28
    go_wp2_with fail
    clear cf0 cf1 cf2
    generalize (w1.alloc (.cells #[.int .i64 28, .int .i64 ps', .string nm', .int .i64 t', .int .i64 nz', .int .i64 z', .int .i64 ob', .int .u64 bi', .slice a' len' ck'] 27)).alloc (.cells #[.int .i64 0, .int .i64 ps', .string ⟨#[]⟩, .int .i64 0, .int .i64 0, .int .i64 0, .int .i64 0, .int .u64 0, .slice none 0 0] 27) = w2 at *
    generalize w1.heap.size = n1 at *
    obtain ⟨n, hn⟩ : ∃ n, n = n1 + 1 := ⟨_, rfl⟩
    rw [← hn] at S1 e2 ⊢
    have hmn : n1 < n := by omega
    clear hn
    have S2 := hide S1.out
    have F2 := hide F1.out
    clear S1 F1
    rw [← e2]
    clear e2
    refine (sees_both S2.out.pr bOpen).mono ?_
    rintro e w3 (⟨c3, rfl, hb⟩ | ⟨c3, rfl, hb⟩)
    · have F3 := hide (F2.out.bel hb)
      have C3 := hide c3
      have S3 := hide (S2.out.bel hb)
      clear c3 hb F2 S2
      go_wp2_with fail
      refine wp_region_any mixed ?_
      change wpAny _ _ _ _ _ _ _ (World.drew _)
      have SW0 := hide S3.out.drew
      have FW0 := hide F3.out.drew
      clear S3 F3
      generalize World.drew w3 = W0 at *
      refine wpAny_take (i := 0) (v := ?_) rfl (by kernel_rfl) (by kernel_rfl) (by kernel_rfl) (fun _ _ _ h => h) (Or.inl ⟨by rfl, fun w => ?_⟩) ?_
      rotate_left 1
      · (go_simp <;> with_reducible rfl)
      simp only [Act.put, List.getElem_toArray, List.getElem_cons_zero, List.setIfInBounds_toArray, List.set_cons_zero, List.set_cons_succ]
      refine wpAny_take (i := 2) (v := ?_) rfl (by kernel_rfl) (by kernel_rfl) (by kernel_rfl) (fun _ _ _ h => h) (Or.inl ⟨by rfl, fun w => ?_⟩) ?_
      rotate_left 1
      · (go_simp <;> with_reducible rfl)
      simp only [Act.put, List.getElem_toArray, List.getElem_cons_zero, List.getElem_cons_succ, List.setIfInBounds_toArray, List.set_cons_zero, List.set_cons_succ]
      refine wpAny_ready (rs := [1, 3]) (by kernel_rfl) (by decide) ?_
      refine AllReady.cons rfl (fun K1 hK1 => ?_) (AllReady.cons rfl (fun K1 hK1 => ?_) AllReady.nil)
      · obtain ⟨_, _, _, yq, _⟩ := FW0.out.vr.all
        go_simp
        refine hK1 _ _ ?_
        clear hK1 K1 yq
        refine wpAny_ready (rs := [3]) (by kernel_rfl) (by decide) ?_
        refine AllReady.cons rfl (fun K1 hK1 => ?_) AllReady.nil
        obtain ⟨⟨fr0, fr1, fr2, fr3, fr4, fr5, fr6, fr7, fr8⟩, ce0, ce1, ce2, ce3, ce4, ce5, ce6, ce7, ce8⟩ := SW0.out.vr.all
        go_simp
        have SW1 := hide (SW0.out.setK 13)
        have FW1 := hide (FW0.out.tn (set1 SW0.out.vr 0 (.int .i64 13)).2 (.inr hmn))
        clear fr0 fr1 fr2 fr3 fr4 fr5 fr6 fr7 fr8 ce0 ce1 ce2 ce3 ce4 ce5 ce6 ce7 ce8 SW0 FW0
        generalize W0.setCell ⟨n, 0, none⟩ (.int .i64 13) = W1 at *
        refine hK1 _ _ ?_
        clear hK1 K1
        refine wpAny_take (i := 4) (v := ?_) rfl (by kernel_rfl) (by kernel_rfl) (by kernel_rfl) (fun _ _ _ h => h) (Or.inl ⟨by rfl, fun w => ?_⟩) ?_
        rotate_left 1
        · (go_simp <;> with_reducible rfl)
        simp only [Act.put, List.getElem_toArray, List.getElem_cons_zero, List.getElem_cons_succ, List.setIfInBounds_toArray, List.set_cons_zero, List.set_cons_succ]
        refine wpAny_ready (rs := [5]) (by kernel_rfl) (by decide) ?_
        refine AllReady.cons rfl (fun K1 hK1 => ?_) AllReady.nil
        obtain ⟨⟨fr0, fr1, fr2, fr3, fr4, fr5, fr6, fr7, fr8⟩, ce0, ce1, ce2, ce3, ce4, ce5, ce6, ce7, ce8⟩ := SW1.out.vr.all
        go_simp
        have SW2 := hide (SW1.out.setName nm')
        have FW2 := hide (FW1.out.tn (set1 SW1.out.vr 2 (.string nm')).2 (.inr hmn))
        clear fr0 fr1 fr2 fr3 fr4 fr5 fr6 fr7 fr8 ce0 ce1 ce2 ce3 ce4 ce5 ce6 ce7 ce8 SW1 FW1
        generalize W1.setCell ⟨n, 2, none⟩ (.string nm') = W2 at *
        refine hK1 _ _ ?_
        clear hK1 K1
        refine wpAny_done (by kernel_rfl) ?_ _
        clear FW2
        obtain ⟨_, cg0, cg1, cg2, cg3, cg4, cg5, cg6, cg7, cg8⟩ := SW2.out.vr.all
        go_wp2_with fail
        clear cg0 cg1 cg2 cg3 cg4 cg5 cg6 cg7 cg8
        have hC := SW2.out.ltz
        refine (called_any SW2.out.pr HE.out hl 13 ps' nm' 0 0 exIn HG.out (fun a => HIN.out a _ _ C1.out)).mono ?_
        intro e w21 hp
        rcases hp.both with ⟨kb, jb, c21, rfl, r2⟩ | ⟨kd, ps, nm, t, nz, z, ob, bi, ks, a, len, ck, j21, c21, rfl, hk, r1, r2⟩
        · have hw := HW.out
          simp only [wordFirstO, Nd.kind, Nd.pos, Nd.name, C1.out, true_and, if_pos C3.out, c21] at hw
          subst hw
          exact ⟨rfl, rfl, SW2.out.tn.trans r2⟩
        have Z21 := hide (SW2.out.zn.call r1 r2)
        have C21 := hide c21
        clear c21 r1 r2 SW2
        obtain ⟨⟨fz0, fz1, fz2, fz3, fz4, fz5, fz6, fz7, fz8⟩, bz0, bz1, bz2, bz3, bz4, bz5, bz6, bz7, bz8⟩ := Z21.out.zr.all
        obtain ⟨_, rfl, z9, v9, p9, t9⟩ := Z21.out.done (kd := kd) (ps := ps) (nm := nm) (t := t) (nz := nz) (z := z) (ob := ob) (bi := bi) hC hk
        have Z9 := hide z9
        have D9 := hide (And.intro v9 (And.intro p9 t9))
        clear z9 v9 p9 t9 hk Z21
        go_wp2_with fail
        refine ret_nod w.heap.size rfl rfl Z9.out rfl ?_
        have hw := HW.out
        simp only [wordFirstO, Nd.kind, Nd.pos, Nd.name, C1.out, true_and, if_pos C3.out, C21.out] at hw
        subst hw
        exact ⟨_, rfl, D9.out⟩
      · obtain ⟨⟨fr0, fr1, fr2, fr3, fr4, fr5, fr6, fr7, fr8⟩, ce0, ce1, ce2, ce3, ce4, ce5, ce6, ce7, ce8⟩ := SW0.out.vr.all
        go_simp
        have SW1 := hide (SW0.out.setK 13)
        have FW1 := hide (FW0.out.tn (set1 SW0.out.vr 0 (.int .i64 13)).2 (.inr hmn))
        clear fr0 fr1 fr2 fr3 fr4 fr5 fr6 fr7 fr8 ce0 ce1 ce2 ce3 ce4 ce5 ce6 ce7 ce8 SW0 FW0
        generalize W0.setCell ⟨n, 0, none⟩ (.int .i64 13) = W1 at *
        refine hK1 _ _ ?_
        clear hK1 K1
        refine wpAny_ready (rs := [1]) (by kernel_rfl) (by decide) ?_
        refine AllReady.cons rfl (fun K1 hK1 => ?_) AllReady.nil
        obtain ⟨_, _, _, yq, _⟩ := FW1.out.vr.all
        go_simp
        refine hK1 _ _ ?_
        clear hK1 K1 yq
        refine wpAny_take (i := 4) (v := ?_) rfl (by kernel_rfl) (by kernel_rfl) (by kernel_rfl) (fun _ _ _ h => h) (Or.inl ⟨by rfl, fun w => ?_⟩) ?_
        rotate_left 1
        · (go_simp <;> with_reducible rfl)
        simp only [Act.put, List.getElem_toArray, List.getElem_cons_zero, List.getElem_cons_succ, List.setIfInBounds_toArray, List.set_cons_zero, List.set_cons_succ]
        refine wpAny_ready (rs := [5]) (by kernel_rfl) (by decide) ?_
        refine AllReady.cons rfl (fun K1 hK1 => ?_) AllReady.nil
        obtain ⟨⟨fr0, fr1, fr2, fr3, fr4, fr5, fr6, fr7, fr8⟩, ce0, ce1, ce2, ce3, ce4, ce5, ce6, ce7, ce8⟩ := SW1.out.vr.all
        go_simp
        have SW2 := hide (SW1.out.setName nm')
        have FW2 := hide (FW1.out.tn (set1 SW1.out.vr 2 (.string nm')).2 (.inr hmn))
        clear fr0 fr1 fr2 fr3 fr4 fr5 fr6 fr7 fr8 ce0 ce1 ce2 ce3 ce4 ce5 ce6 ce7 ce8 SW1 FW1
        generalize W1.setCell ⟨n, 2, none⟩ (.string nm') = W2 at *
        refine hK1 _ _ ?_
        clear hK1 K1
        refine wpAny_done (by kernel_rfl) ?_ _
        clear FW2
        obtain ⟨_, cg0, cg1, cg2, cg3, cg4, cg5, cg6, cg7, cg8⟩ := SW2.out.vr.all
        go_wp2_with fail
        clear cg0 cg1 cg2 cg3 cg4 cg5 cg6 cg7 cg8
        have hC := SW2.out.ltz
        refine (called_any SW2.out.pr HE.out hl 13 ps' nm' 0 0 exIn HG.out (fun a => HIN.out a _ _ C1.out)).mono ?_
        intro e w21 hp
        rcases hp.both with ⟨kb, jb, c21, rfl, r2⟩ | ⟨kd, ps, nm, t, nz, z, ob, bi, ks, a, len, ck, j21, c21, rfl, hk, r1, r2⟩
        · have hw := HW.out
          simp only [wordFirstO, Nd.kind, Nd.pos, Nd.name, C1.out, true_and, if_pos C3.out, c21] at hw
          subst hw
          exact ⟨rfl, rfl, SW2.out.tn.trans r2⟩
        have Z21 := hide (SW2.out.zn.call r1 r2)
        have C21 := hide c21
        clear c21 r1 r2 SW2
        obtain ⟨⟨fz0, fz1, fz2, fz3, fz4, fz5, fz6, fz7, fz8⟩, bz0, bz1, bz2, bz3, bz4, bz5, bz6, bz7, bz8⟩ := Z21.out.zr.all
        obtain ⟨_, rfl, z9, v9, p9, t9⟩ := Z21.out.done (kd := kd) (ps := ps) (nm := nm) (t := t) (nz := nz) (z := z) (ob := ob) (bi := bi) hC hk
        have Z9 := hide z9
        have D9 := hide (And.intro v9 (And.intro p9 t9))
        clear z9 v9 p9 t9 hk Z21
        go_wp2_with fail
        refine ret_nod w.heap.size rfl rfl Z9.out rfl ?_
        have hw := HW.out
        simp only [wordFirstO, Nd.kind, Nd.pos, Nd.name, C1.out, true_and, if_pos C3.out, C21.out] at hw
        subst hw
        exact ⟨_, rfl, D9.out⟩
    have F3 := hide (F2.out.bel hb)
    have C3 := hide c3
    have S3 := hide (S2.out.bel hb)
    clear c3 hb F2 S2
    obtain ⟨_, cf0, _⟩ := F3.out.vr.all
    go_wp2_with fail
    clear cf0
    refine (taken_both S3.out.pr HE.out bLet (by decide)).mono ?_
    rintro e w4 (⟨c4, rfl, r1, r2⟩ | ⟨c4, rfl, r1, r2⟩)
    · have F4 := hide (F3.out.tn r2 (.inl hgm))
      have C4 := hide c4
      have S4 := hide (S3.out.call r1 r2)
      clear c4 r1 r2 F3 S3
      go_wp2_with fail
      refine wp_region_any mixed ?_
      change wpAny _ _ _ _ _ _ _ (World.drew _)
      have SW0 := hide S4.out.drew
      have FW0 := hide F4.out.drew
      clear S4 F4
      generalize World.drew w4 = W0 at *
      refine wpAny_take (i := 0) (v := ?_) rfl (by kernel_rfl) (by kernel_rfl) (by kernel_rfl) (fun _ _ _ h => h) (Or.inl ⟨by rfl, fun w => ?_⟩) ?_
      rotate_left 1
      · (go_simp <;> with_reducible rfl)
      simp only [Act.put, List.getElem_toArray, List.getElem_cons_zero, List.setIfInBounds_toArray, List.set_cons_zero, List.set_cons_succ]
      refine wpAny_take (i := 2) (v := ?_) rfl (by kernel_rfl) (by kernel_rfl) (by kernel_rfl) (fun _ _ _ h => h) (Or.inl ⟨by rfl, fun w => ?_⟩) ?_
      rotate_left 1
      · (go_simp <;> with_reducible rfl)
      simp only [Act.put, List.getElem_toArray, List.getElem_cons_zero, List.getElem_cons_succ, List.setIfInBounds_toArray, List.set_cons_zero, List.set_cons_succ]
      refine wpAny_ready (rs := [1, 3]) (by kernel_rfl) (by decide) ?_
      refine AllReady.cons rfl (fun K1 hK1 => ?_) (AllReady.cons rfl (fun K1 hK1 => ?_) AllReady.nil)
      · obtain ⟨_, _, _, yq, _⟩ := FW0.out.vr.all
        go_simp
        refine hK1 _ _ ?_
        clear hK1 K1 yq
        refine wpAny_ready (rs := [3]) (by kernel_rfl) (by decide) ?_
        refine AllReady.cons rfl (fun K1 hK1 => ?_) AllReady.nil
        obtain ⟨⟨fr0, fr1, fr2, fr3, fr4, fr5, fr6, fr7, fr8⟩, ce0, ce1, ce2, ce3, ce4, ce5, ce6, ce7, ce8⟩ := SW0.out.vr.all
        go_simp
        have SW1 := hide (SW0.out.setK 11)
        have FW1 := hide (FW0.out.tn (set1 SW0.out.vr 0 (.int .i64 11)).2 (.inr hmn))
        clear fr0 fr1 fr2 fr3 fr4 fr5 fr6 fr7 fr8 ce0 ce1 ce2 ce3 ce4 ce5 ce6 ce7 ce8 SW0 FW0
        generalize W0.setCell ⟨n, 0, none⟩ (.int .i64 11) = W1 at *
        refine hK1 _ _ ?_
        clear hK1 K1
        refine wpAny_take (i := 4) (v := ?_) rfl (by kernel_rfl) (by kernel_rfl) (by kernel_rfl) (fun _ _ _ h => h) (Or.inl ⟨by rfl, fun w => ?_⟩) ?_
        rotate_left 1
        · (go_simp <;> with_reducible rfl)
        simp only [Act.put, List.getElem_toArray, List.getElem_cons_zero, List.getElem_cons_succ, List.setIfInBounds_toArray, List.set_cons_zero, List.set_cons_succ]
        refine wpAny_ready (rs := [5]) (by kernel_rfl) (by decide) ?_
        refine AllReady.cons rfl (fun K1 hK1 => ?_) AllReady.nil
        obtain ⟨⟨fr0, fr1, fr2, fr3, fr4, fr5, fr6, fr7, fr8⟩, ce0, ce1, ce2, ce3, ce4, ce5, ce6, ce7, ce8⟩ := SW1.out.vr.all
        go_simp
        have SW2 := hide (SW1.out.setName nm')
        have FW2 := hide (FW1.out.tn (set1 SW1.out.vr 2 (.string nm')).2 (.inr hmn))
        clear fr0 fr1 fr2 fr3 fr4 fr5 fr6 fr7 fr8 ce0 ce1 ce2 ce3 ce4 ce5 ce6 ce7 ce8 SW1 FW1
        generalize W1.setCell ⟨n, 2, none⟩ (.string nm') = W2 at *
        refine hK1 _ _ ?_
        clear hK1 K1
        refine wpAny_done (by kernel_rfl) ?_ _
        clear FW2
        go_wp2_with fail
        have hz := SW2.out.ltz
        have hn := SW2.out.lt
        refine (alln_treeparserexpr SW2.out.pr _ (HX.out _ _ C1.out)).mono ?_
        intro e w21 hp
        rcases hp.both with ⟨kb, jb, c21, rfl, r2⟩ | ⟨nd1, gk, cq, jq, c21, rfl, hk, r1, r2⟩
        · have hw := HW.out
          simp only [wordFirstO, Nd.kind, Nd.pos, Nd.name, C1.out, true_and, if_neg C3.out, if_pos C4.out, c21] at hw
          subst hw
          exact ⟨rfl, rfl, SW2.out.tn.trans r2⟩
        have K21 := hide hk
        have C21 := hide c21
        have S21 := hide (SW2.out.call r1 r2)
        clear c21 r1 r2 hk SW2
        obtain ⟨⟨fr0, fr1, fr2, fr3, fr4, fr5, fr6, fr7, fr8⟩, ce0, ce1, ce2, ce3, ce4, ce5, ce6, ce7, ce8⟩ := S21.out.vr.all
        have S22 := hide (S21.out.setKids hz hn K21.out)
        clear S21
        go_wp2_with fail
        clear fr0 fr1 fr2 fr3 fr4 fr5 fr6 fr7 fr8 ce0 ce1 ce2 ce3 ce4 ce5 ce6 ce7 ce8
        have e22 : (w21.setCell ⟨n, 8, none⟩ (.slice (some ⟨gk, 0, none⟩) 1 cq)).heap.size = w21.heap.size := by simp
        generalize w21.setCell ⟨n, 8, none⟩ (.slice (some ⟨gk, 0, none⟩) 1 cq) = w22 at *
        rw [← e22]
        clear e22
        refine (take_both S22.out.pr HE.out bSemi (by decide)).mono ?_
        rintro e w23 (⟨c23, rfl, r2⟩ | ⟨c23, rfl, r1, r2⟩)
        · have hw := HW.out
          simp only [wordFirstO, Nd.kind, Nd.pos, Nd.name, C1.out, true_and, if_neg C3.out, if_pos C4.out, C21.out, endO, if_neg c23] at hw
          subst hw
          exact ⟨rfl, rfl, S22.out.tn.trans r2⟩
        have C23 := hide c23
        have S23 := hide (S22.out.call r1 r2)
        clear c23 r1 r2 S22
        obtain ⟨⟨fz0, fz1, fz2, fz3, fz4, fz5, fz6, fz7, fz8⟩, bz0, bz1, bz2, bz3, bz4, bz5, bz6, bz7, bz8⟩ := S23.out.zr.all
        obtain ⟨_, cg0, cg1, cg2, cg3, cg4, cg5, cg6, cg7, cg8⟩ := S23.out.vr.all
        obtain ⟨_, rfl, z9, v9, p9, t9⟩ := S23.out.done
        have Z9 := hide z9
        have D9 := hide (And.intro v9 (And.intro p9 t9))
        clear z9 v9 p9 t9 S23
        go_wp2_with fail
        refine ret_nod (w.heap.size) rfl rfl Z9.out rfl ?_
        have hw := HW.out
        simp only [wordFirstO, Nd.kind, Nd.pos, Nd.name, C1.out, true_and, if_neg C3.out, if_pos C4.out, C21.out, endO, if_pos C23.out] at hw
        subst hw
        exact ⟨_, rfl, D9.out⟩
      · obtain ⟨⟨fr0, fr1, fr2, fr3, fr4, fr5, fr6, fr7, fr8⟩, ce0, ce1, ce2, ce3, ce4, ce5, ce6, ce7, ce8⟩ := SW0.out.vr.all
        go_simp
        have SW1 := hide (SW0.out.setK 11)
        have FW1 := hide (FW0.out.tn (set1 SW0.out.vr 0 (.int .i64 11)).2 (.inr hmn))
        clear fr0 fr1 fr2 fr3 fr4 fr5 fr6 fr7 fr8 ce0 ce1 ce2 ce3 ce4 ce5 ce6 ce7 ce8 SW0 FW0
        generalize W0.setCell ⟨n, 0, none⟩ (.int .i64 11) = W1 at *
        refine hK1 _ _ ?_
        clear hK1 K1
        refine wpAny_ready (rs := [1]) (by kernel_rfl) (by decide) ?_
        refine AllReady.cons rfl (fun K1 hK1 => ?_) AllReady.nil
        obtain ⟨_, _, _, yq, _⟩ := FW1.out.vr.all
        go_simp
        refine hK1 _ _ ?_
        clear hK1 K1 yq
        refine wpAny_take (i := 4) (v := ?_) rfl (by kernel_rfl) (by kernel_rfl) (by kernel_rfl) (fun _ _ _ h => h) (Or.inl ⟨by rfl, fun w => ?_⟩) ?_
        rotate_left 1
        · (go_simp <;> with_reducible rfl)
        simp only [Act.put, List.getElem_toArray, List.getElem_cons_zero, List.getElem_cons_succ, List.setIfInBounds_toArray, List.set_cons_zero, List.set_cons_succ]
        refine wpAny_ready (rs := [5]) (by kernel_rfl) (by decide) ?_
        refine AllReady.cons rfl (fun K1 hK1 => ?_) AllReady.nil
        obtain ⟨⟨fr0, fr1, fr2, fr3, fr4, fr5, fr6, fr7, fr8⟩, ce0, ce1, ce2, ce3, ce4, ce5, ce6, ce7, ce8⟩ := SW1.out.vr.all
        go_simp
        have SW2 := hide (SW1.out.setName nm')
        have FW2 := hide (FW1.out.tn (set1 SW1.out.vr 2 (.string nm')).2 (.inr hmn))
        clear fr0 fr1 fr2 fr3 fr4 fr5 fr6 fr7 fr8 ce0 ce1 ce2 ce3 ce4 ce5 ce6 ce7 ce8 SW1 FW1
        generalize W1.setCell ⟨n, 2, none⟩ (.string nm') = W2 at *
        refine hK1 _ _ ?_
        clear hK1 K1
        refine wpAny_done (by kernel_rfl) ?_ _
        clear FW2
        go_wp2_with fail
        have hz := SW2.out.ltz
        have hn := SW2.out.lt
        refine (alln_treeparserexpr SW2.out.pr _ (HX.out _ _ C1.out)).mono ?_
        intro e w21 hp
        rcases hp.both with ⟨kb, jb, c21, rfl, r2⟩ | ⟨nd1, gk, cq, jq, c21, rfl, hk, r1, r2⟩
        · have hw := HW.out
          simp only [wordFirstO, Nd.kind, Nd.pos, Nd.name, C1.out, true_and, if_neg C3.out, if_pos C4.out, c21] at hw
          subst hw
          exact ⟨rfl, rfl, SW2.out.tn.trans r2⟩
        have K21 := hide hk
        have C21 := hide c21
        have S21 := hide (SW2.out.call r1 r2)
        clear c21 r1 r2 hk SW2
        obtain ⟨⟨fr0, fr1, fr2, fr3, fr4, fr5, fr6, fr7, fr8⟩, ce0, ce1, ce2, ce3, ce4, ce5, ce6, ce7, ce8⟩ := S21.out.vr.all
        have S22 := hide (S21.out.setKids hz hn K21.out)
        clear S21
        go_wp2_with fail
        clear fr0 fr1 fr2 fr3 fr4 fr5 fr6 fr7 fr8 ce0 ce1 ce2 ce3 ce4 ce5 ce6 ce7 ce8
        have e22 : (w21.setCell ⟨n, 8, none⟩ (.slice (some ⟨gk, 0, none⟩) 1 cq)).heap.size = w21.heap.size := by simp
        generalize w21.setCell ⟨n, 8, none⟩ (.slice (some ⟨gk, 0, none⟩) 1 cq) = w22 at *
        rw [← e22]
        clear e22
        refine (take_both S22.out.pr HE.out bSemi (by decide)).mono ?_
        rintro e w23 (⟨c23, rfl, r2⟩ | ⟨c23, rfl, r1, r2⟩)
        · have hw := HW.out
          simp only [wordFirstO, Nd.kind, Nd.pos, Nd.name, C1.out, true_and, if_neg C3.out, if_pos C4.out, C21.out, endO, if_neg c23] at hw
          subst hw
          exact ⟨rfl, rfl, S22.out.tn.trans r2⟩
        have C23 := hide c23
        have S23 := hide (S22.out.call r1 r2)
        clear c23 r1 r2 S22
        obtain ⟨⟨fz0, fz1, fz2, fz3, fz4, fz5, fz6, fz7, fz8⟩, bz0, bz1, bz2, bz3, bz4, bz5, bz6, bz7, bz8⟩ := S23.out.zr.all
        obtain ⟨_, cg0, cg1, cg2, cg3, cg4, cg5, cg6, cg7, cg8⟩ := S23.out.vr.all
        obtain ⟨_, rfl, z9, v9, p9, t9⟩ := S23.out.done
        have Z9 := hide z9
        have D9 := hide (And.intro v9 (And.intro p9 t9))
        clear z9 v9 p9 t9 S23
        go_wp2_with fail
        refine ret_nod (w.heap.size) rfl rfl Z9.out rfl ?_
        have hw := HW.out
        simp only [wordFirstO, Nd.kind, Nd.pos, Nd.name, C1.out, true_and, if_neg C3.out, if_pos C4.out, C21.out, endO, if_pos C23.out] at hw
        subst hw
        exact ⟨_, rfl, D9.out⟩
    · have F4 := hide (F3.out.tn r2 (.inl hgm))
      have C4 := hide c4
      have S4 := hide (S3.out.call r1 r2)
      clear c4 r1 r2 F3 S3
      go_wp2_with fail
      refine (take_both S4.out.pr HE.out bSet (by decide)).mono ?_
      rintro e w5 (⟨c5, rfl, r2⟩ | ⟨c5, rfl, r1, r2⟩)
      · have hw := HW.out
        simp only [wordFirstO, Nd.kind, Nd.pos, Nd.name, C1.out, true_and, if_neg C3.out, if_neg C4.out, if_neg c5] at hw
        subst hw
        exact ⟨rfl, rfl, S4.out.tn.trans r2⟩
      have F5 := hide (F4.out.tn r2 (.inl hgm))
      have C5 := hide c5
      have S5 := hide (S4.out.call r1 r2)
      clear c5 r1 r2 F4 S4
      obtain ⟨⟨fr0, fr1, fr2, fr3, fr4, fr5, fr6, fr7, fr8⟩, ce0, ce1, ce2, ce3, ce4, ce5, ce6, ce7, ce8⟩ := S5.out.vr.all
      have S6 := hide (S5.out.setK 10)
      have F6 := hide (F5.out.tn (set1 S5.out.vr 0 (.int .i64 10)).2 (.inr hmn))
      clear S5 F5
      go_wp2_with fail
      clear fr0 fr1 fr2 fr3 fr4 fr5 fr6 fr7 fr8 ce0 ce1 ce2 ce3 ce4 ce5 ce6 ce7 ce8
      generalize w5.setCell ⟨n, 0, none⟩ (.int .i64 10) = w6 at *
      refine wp_region_any mixed ?_
      change wpAny _ _ _ _ _ _ _ (World.drew _)
      have SW0 := hide S6.out.drew
      have FW0 := hide F6.out.drew
      clear S6 F6
      generalize World.drew w6 = W0 at *
      refine wpAny_take (i := 1) (v := ?_) rfl (by kernel_rfl) (by kernel_rfl) (by kernel_rfl) (fun _ _ _ h => h) (Or.inl ⟨by rfl, fun w => ?_⟩) ?_
      rotate_left 1
      · (go_simp <;> with_reducible rfl)
      simp only [Act.put, List.getElem_toArray, List.getElem_cons_zero, List.getElem_cons_succ, List.setIfInBounds_toArray, List.set_cons_zero, List.set_cons_succ]
      refine wpAny_ready (rs := [0, 2]) (by kernel_rfl) (by decide) ?_
      refine AllReady.cons rfl (fun K1 hK1 => ?_) (AllReady.cons rfl (fun K1 hK1 => ?_) AllReady.nil)
      · obtain ⟨_, ce0, ce1, ce2, ce3, ce4, ce5, ce6, ce7, ce8⟩ := FW0.out.vr.all
        go_simp
        refine hK1 _ _ ?_
        clear hK1 K1 ce0 ce1 ce2 ce3 ce4 ce5 ce6 ce7 ce8
        refine wpAny_ready (rs := [2]) (by kernel_rfl) (by decide) ?_
        refine AllReady.cons rfl (fun K1 hK1 => ?_) AllReady.nil
        go_simp
        refine (HX.out _ _ C1.out _ SW0.out.pr).mono ?_
        intro e W1 hp
        rcases hp.both with ⟨kb, jb, cq, rfl, r2⟩ | ⟨kd'', ps'', nm'', t'', nz'', z'', ob'', bi'', ks'', a'', len'', ck'', jq, cq, rfl, hk, r1, r2⟩
        · have hw := HW.out
          simp only [wordFirstO, Nd.kind, Nd.pos, Nd.name, C1.out, true_and, if_neg C3.out, if_neg C4.out, if_pos C5.out, cq] at hw
          subst hw
          exact ⟨rfl, rfl, SW0.out.tn.trans r2⟩
        have CQ := hide cq
        have FW1 := hide (FW0.out.tn r2 (.inl hgm))
        have JW1 := hide (hk.lowS (fun x hx => show Ot w.heap.size w.heap.size n x from ⟨by have : W0.heap.size ≤ x := hx; have := SW0.out.ltz; omega, by have : W0.heap.size ≤ x := hx; have := SW0.out.ltz; omega, by have : W0.heap.size ≤ x := hx; have := SW0.out.lt; omega⟩))
        have SW1 := hide (SW0.out.call r1 r2)
        clear cq hk r1 r2
        refine hK1 _ _ ?_
        clear hK1 K1
        refine wpAny_ready (rs := [3]) (by kernel_rfl) (by decide) ?_
        refine AllReady.cons rfl (fun K1 hK1 => ?_) AllReady.nil
        go_simp
        have hb := bel_new W1 (.cells #[.int .i64 28, .int .i64 ps', .string nm', .int .i64 t', .int .i64 nz', .int .i64 z', .int .i64 ob', .int .u64 bi', .slice a' len' ck', .int .i64 kd'', .int .i64 ps'', .string nm'', .int .i64 t'', .int .i64 nz'', .int .i64 z'', .int .i64 ob'', .int .u64 bi'', .slice a'' len'' ck''] 27)
        have kb : (W1.alloc (.cells #[.int .i64 28, .int .i64 ps', .string nm', .int .i64 t', .int .i64 nz', .int .i64 z', .int .i64 ob', .int .u64 bi', .slice a' len' ck', .int .i64 kd'', .int .i64 ps'', .string nm'', .int .i64 t'', .int .i64 nz'', .int .i64 z'', .int .i64 ob'', .int .u64 bi'', .slice a'' len'' ck''] 27)).heap[W1.heap.size]? = some (.cells #[.int .i64 28, .int .i64 ps', .string nm', .int .i64 t', .int .i64 nz', .int .i64 z', .int .i64 ob', .int .u64 bi', .slice a' len' ck', .int .i64 kd'', .int .i64 ps'', .string nm'', .int .i64 t'', .int .i64 nz'', .int .i64 z'', .int .i64 ob'', .int .u64 bi'', .slice a'' len'' ck''] 27 (0, 0)) := Go.Deep.blk_alloc_new _ _
        have KK := hide (two_kids kb ((FW1.out.bel hb).kv.lowS (fun x hx => show Ot w.heap.size w.heap.size n x from ⟨by have := hx.1; omega, by have := hx.1; omega, by have := hx.2; omega⟩)) (JW1.out.bel hb) (show Ot w.heap.size w.heap.size n W1.heap.size from ⟨by have := SW1.out.ltz; omega, by have := SW1.out.ltz; omega, by have := SW1.out.lt; omega⟩))
        have SW2 := hide (SW1.out.bel hb)
        clear hb kb JW1
        generalize W1.alloc (.cells #[.int .i64 28, .int .i64 ps', .string nm', .int .i64 t', .int .i64 nz', .int .i64 z', .int .i64 ob', .int .u64 bi', .slice a' len' ck', .int .i64 kd'', .int .i64 ps'', .string nm'', .int .i64 t'', .int .i64 nz'', .int .i64 z'', .int .i64 ob'', .int .u64 bi'', .slice a'' len'' ck''] 27) = W2 at *
        generalize W1.heap.size = bx at *
        refine hK1 _ _ ?_
        clear hK1 K1
        refine wpAny_take (i := 4) (v := ?_) rfl (by kernel_rfl) (by kernel_rfl) (by kernel_rfl) (fun _ _ _ h => h) (Or.inl ⟨by rfl, fun w => ?_⟩) ?_
        rotate_left 1
        · (go_simp <;> with_reducible rfl)
        simp only [Act.put, List.getElem_toArray, List.getElem_cons_zero, List.getElem_cons_succ, List.setIfInBounds_toArray, List.set_cons_zero, List.set_cons_succ]
        refine wpAny_ready (rs := [5]) (by kernel_rfl) (by decide) ?_
        refine AllReady.cons rfl (fun K1 hK1 => ?_) AllReady.nil
        obtain ⟨⟨fr0, fr1, fr2, fr3, fr4, fr5, fr6, fr7, fr8⟩, ce0, ce1, ce2, ce3, ce4, ce5, ce6, ce7, ce8⟩ := SW2.out.vr.all
        go_simp
        refine hK1 _ _ ?_
        clear hK1 K1 fr0 fr1 fr2 fr3 fr4 fr5 fr6 fr7 fr8 ce0 ce1 ce2 ce3 ce4 ce5 ce6 ce7 ce8
        refine wpAny_done (by kernel_rfl) ?_ _
        have e9 : (W2.setCell ⟨n, 8, none⟩ (.slice (some ⟨bx, 0, none⟩) 2 2)).heap.size = W2.heap.size := by simp
        have S30 := hide (SW2.out.setKids2 KK.out)
        clear KK
        generalize W2.setCell ⟨n, 8, none⟩ (.slice (some ⟨bx, 0, none⟩) 2 2) = w30 at *
        go_wp2_with fail
        try rw [← e9]
        clear e9
        refine (take_both S30.out.pr HE.out bSemi (by decide)).mono ?_
        rintro e w31 (⟨c31, rfl, r2⟩ | ⟨c31, rfl, r1, r2⟩)
        · have hw := HW.out
          simp only [wordFirstO, Nd.kind, Nd.pos, Nd.name, C1.out, true_and, if_neg C3.out, if_neg C4.out, if_pos C5.out, CQ.out, endO, if_neg c31] at hw
          subst hw
          exact ⟨rfl, rfl, S30.out.tn.trans r2⟩
        have C31 := hide c31
        have S31 := hide (S30.out.call r1 r2)
        clear c31 r1 r2 S30
        obtain ⟨⟨fz0, fz1, fz2, fz3, fz4, fz5, fz6, fz7, fz8⟩, bz0, bz1, bz2, bz3, bz4, bz5, bz6, bz7, bz8⟩ := S31.out.zr.all
        obtain ⟨_, cg0, cg1, cg2, cg3, cg4, cg5, cg6, cg7, cg8⟩ := S31.out.vr.all
        obtain ⟨_, rfl, z9, v9, p9, t9⟩ := S31.out.done
        have Z9 := hide z9
        have D9 := hide (And.intro v9 (And.intro p9 t9))
        clear z9 v9 p9 t9 S31
        go_wp2_with fail
        refine ret_nod (w.heap.size) rfl rfl Z9.out rfl ?_
        have hw := HW.out
        simp only [wordFirstO, Nd.kind, Nd.pos, Nd.name, C1.out, true_and, if_neg C3.out, if_neg C4.out, if_pos C5.out, CQ.out, endO, if_pos C31.out] at hw
        subst hw
        exact ⟨_, rfl, D9.out⟩
      · go_simp
        refine (HX.out _ _ C1.out _ SW0.out.pr).mono ?_
        intro e W1 hp
        rcases hp.both with ⟨kb, jb, cq, rfl, r2⟩ | ⟨kd'', ps'', nm'', t'', nz'', z'', ob'', bi'', ks'', a'', len'', ck'', jq, cq, rfl, hk, r1, r2⟩
        · have hw := HW.out
          simp only [wordFirstO, Nd.kind, Nd.pos, Nd.name, C1.out, true_and, if_neg C3.out, if_neg C4.out, if_pos C5.out, cq] at hw
          subst hw
          exact ⟨rfl, rfl, SW0.out.tn.trans r2⟩
        have CQ := hide cq
        have FW1 := hide (FW0.out.tn r2 (.inl hgm))
        have JW1 := hide (hk.lowS (fun x hx => show Ot w.heap.size w.heap.size n x from ⟨by have : W0.heap.size ≤ x := hx; have := SW0.out.ltz; omega, by have : W0.heap.size ≤ x := hx; have := SW0.out.ltz; omega, by have : W0.heap.size ≤ x := hx; have := SW0.out.lt; omega⟩))
        have SW1 := hide (SW0.out.call r1 r2)
        clear cq hk r1 r2
        refine hK1 _ _ ?_
        clear hK1 K1
        refine wpAny_ready (rs := [0]) (by kernel_rfl) (by decide) ?_
        refine AllReady.cons rfl (fun K1 hK1 => ?_) AllReady.nil
        obtain ⟨_, ce0, ce1, ce2, ce3, ce4, ce5, ce6, ce7, ce8⟩ := FW1.out.vr.all
        go_simp
        refine hK1 _ _ ?_
        clear hK1 K1 ce0 ce1 ce2 ce3 ce4 ce5 ce6 ce7 ce8
        refine wpAny_ready (rs := [3]) (by kernel_rfl) (by decide) ?_
        refine AllReady.cons rfl (fun K1 hK1 => ?_) AllReady.nil
        go_simp
        have hb := bel_new W1 (.cells #[.int .i64 28, .int .i64 ps', .string nm', .int .i64 t', .int .i64 nz', .int .i64 z', .int .i64 ob', .int .u64 bi', .slice a' len' ck', .int .i64 kd'', .int .i64 ps'', .string nm'', .int .i64 t'', .int .i64 nz'', .int .i64 z'', .int .i64 ob'', .int .u64 bi'', .slice a'' len'' ck''] 27)
        have kb : (W1.alloc (.cells #[.int .i64 28, .int .i64 ps', .string nm', .int .i64 t', .int .i64 nz', .int .i64 z', .int .i64 ob', .int .u64 bi', .slice a' len' ck', .int .i64 kd'', .int .i64 ps'', .string nm'', .int .i64 t'', .int .i64 nz'', .int .i64 z'', .int .i64 ob'', .int .u64 bi'', .slice a'' len'' ck''] 27)).heap[W1.heap.size]? = some (.cells #[.int .i64 28, .int .i64 ps', .string nm', .int .i64 t', .int .i64 nz', .int .i64 z', .int .i64 ob', .int .u64 bi', .slice a' len' ck', .int .i64 kd'', .int .i64 ps'', .string nm'', .int .i64 t'', .int .i64 nz'', .int .i64 z'', .int .i64 ob'', .int .u64 bi'', .slice a'' len'' ck''] 27 (0, 0)) := Go.Deep.blk_alloc_new _ _
        have KK := hide (two_kids kb ((FW1.out.bel hb).kv.lowS (fun x hx => show Ot w.heap.size w.heap.size n x from ⟨by have := hx.1; omega, by have := hx.1; omega, by have := hx.2; omega⟩)) (JW1.out.bel hb) (show Ot w.heap.size w.heap.size n W1.heap.size from ⟨by have := SW1.out.ltz; omega, by have := SW1.out.ltz; omega, by have := SW1.out.lt; omega⟩))
        have SW2 := hide (SW1.out.bel hb)
        clear hb kb JW1
        generalize W1.alloc (.cells #[.int .i64 28, .int .i64 ps', .string nm', .int .i64 t', .int .i64 nz', .int .i64 z', .int .i64 ob', .int .u64 bi', .slice a' len' ck', .int .i64 kd'', .int .i64 ps'', .string nm'', .int .i64 t'', .int .i64 nz'', .int .i64 z'', .int .i64 ob'', .int .u64 bi'', .slice a'' len'' ck''] 27) = W2 at *
        generalize W1.heap.size = bx at *
        refine hK1 _ _ ?_
        clear hK1 K1
        refine wpAny_take (i := 4) (v := ?_) rfl (by kernel_rfl) (by kernel_rfl) (by kernel_rfl) (fun _ _ _ h => h) (Or.inl ⟨by rfl, fun w => ?_⟩) ?_
        rotate_left 1
        · (go_simp <;> with_reducible rfl)
        simp only [Act.put, List.getElem_toArray, List.getElem_cons_zero, List.getElem_cons_succ, List.setIfInBounds_toArray, List.set_cons_zero, List.set_cons_succ]
        refine wpAny_ready (rs := [5]) (by kernel_rfl) (by decide) ?_
        refine AllReady.cons rfl (fun K1 hK1 => ?_) AllReady.nil
        obtain ⟨⟨fr0, fr1, fr2, fr3, fr4, fr5, fr6, fr7, fr8⟩, ce0, ce1, ce2, ce3, ce4, ce5, ce6, ce7, ce8⟩ := SW2.out.vr.all
        go_simp
        refine hK1 _ _ ?_
        clear hK1 K1 fr0 fr1 fr2 fr3 fr4 fr5 fr6 fr7 fr8 ce0 ce1 ce2 ce3 ce4 ce5 ce6 ce7 ce8
        refine wpAny_done (by kernel_rfl) ?_ _
        have e9 : (W2.setCell ⟨n, 8, none⟩ (.slice (some ⟨bx, 0, none⟩) 2 2)).heap.size = W2.heap.size := by simp
        have S30 := hide (SW2.out.setKids2 KK.out)
        clear KK
        generalize W2.setCell ⟨n, 8, none⟩ (.slice (some ⟨bx, 0, none⟩) 2 2) = w30 at *
        go_wp2_with fail
        try rw [← e9]
        clear e9
        refine (take_both S30.out.pr HE.out bSemi (by decide)).mono ?_
        rintro e w31 (⟨c31, rfl, r2⟩ | ⟨c31, rfl, r1, r2⟩)
        · have hw := HW.out
          simp only [wordFirstO, Nd.kind, Nd.pos, Nd.name, C1.out, true_and, if_neg C3.out, if_neg C4.out, if_pos C5.out, CQ.out, endO, if_neg c31] at hw
          subst hw
          exact ⟨rfl, rfl, S30.out.tn.trans r2⟩
        have C31 := hide c31
        have S31 := hide (S30.out.call r1 r2)
        clear c31 r1 r2 S30
        obtain ⟨⟨fz0, fz1, fz2, fz3, fz4, fz5, fz6, fz7, fz8⟩, bz0, bz1, bz2, bz3, bz4, bz5, bz6, bz7, bz8⟩ := S31.out.zr.all
        obtain ⟨_, cg0, cg1, cg2, cg3, cg4, cg5, cg6, cg7, cg8⟩ := S31.out.vr.all
        obtain ⟨_, rfl, z9, v9, p9, t9⟩ := S31.out.done
        have Z9 := hide z9
        have D9 := hide (And.intro v9 (And.intro p9 t9))
        clear z9 v9 p9 t9 S31
        go_wp2_with fail
        refine ret_nod (w.heap.size) rfl rfl Z9.out rfl ?_
        have hw := HW.out
        simp only [wordFirstO, Nd.kind, Nd.pos, Nd.name, C1.out, true_and, if_neg C3.out, if_neg C4.out, if_pos C5.out, CQ.out, endO, if_pos C31.out] at hw
        subst hw
        exact ⟨_, rfl, D9.out⟩
  · have hk2 : (kd' == 28) = false := by simpa using hk28
    have HK28 : Hid ((kd' = 28) = False) := by show _ = _; simp [hk28]
    go_wp2_with fail
    clear cf0 cf1 cf2
    generalize (w1.alloc (.cells #[.int .i64 kd', .int .i64 ps', .string nm', .int .i64 t', .int .i64 nz', .int .i64 z', .int .i64 ob', .int .u64 bi', .slice a' len' ck'] 27)).alloc (.cells #[.int .i64 0, .int .i64 ps', .string ⟨#[]⟩, .int .i64 0, .int .i64 0, .int .i64 0, .int .i64 0, .int .u64 0, .slice none 0 0] 27) = w2 at *
    generalize w1.heap.size = n1 at *
    obtain ⟨n, hn⟩ : ∃ n, n = n1 + 1 := ⟨_, rfl⟩
    rw [← hn] at S1 e2 ⊢
    have hmn : n1 < n := by omega
    clear hn
    have S2 := hide S1.out
    have F2 := hide F1.out
    clear S1 F1
    rw [← e2]
    clear e2
    clear hk2
    refine (take_both S2.out.pr HE.out bSet (by decide)).mono ?_
    rintro e w3 (⟨c3, rfl, r2⟩ | ⟨c3, rfl, r1, r2⟩)
    · have hw := HW.out
      simp only [wordFirstO, Nd.kind, C1.out, HK28.out, false_and, if_false, if_neg c3] at hw
      subst hw
      exact ⟨rfl, rfl, S2.out.tn.trans r2⟩
    have F3 := hide (F2.out.tn r2 (.inl hgm))
    have C3 := hide c3
    have S3 := hide (S2.out.call r1 r2)
    clear c3 r1 r2 F2 S2
    obtain ⟨⟨fr0, fr1, fr2, fr3, fr4, fr5, fr6, fr7, fr8⟩, ce0, ce1, ce2, ce3, ce4, ce5, ce6, ce7, ce8⟩ := S3.out.vr.all
    have S4 := hide (S3.out.setK 10)
    have F4 := hide (F3.out.tn (set1 S3.out.vr 0 (.int .i64 10)).2 (.inr hmn))
    clear S3 F3
    go_wp2_with fail
    clear fr0 fr1 fr2 fr3 fr4 fr5 fr6 fr7 fr8 ce0 ce1 ce2 ce3 ce4 ce5 ce6 ce7 ce8
    generalize w3.setCell ⟨n, 0, none⟩ (.int .i64 10) = w4 at *
    refine wp_region_any mixed ?_
    change wpAny _ _ _ _ _ _ _ (World.drew _)
    have SW0 := hide S4.out.drew
    have FW0 := hide F4.out.drew
    clear S4 F4
    generalize World.drew w4 = W0 at *
    refine wpAny_take (i := 1) (v := ?_) rfl (by kernel_rfl) (by kernel_rfl) (by kernel_rfl) (fun _ _ _ h => h) (Or.inl ⟨by rfl, fun w => ?_⟩) ?_
    rotate_left 1
    · (go_simp <;> with_reducible rfl)
    simp only [Act.put, List.getElem_toArray, List.getElem_cons_zero, List.getElem_cons_succ, List.setIfInBounds_toArray, List.set_cons_zero, List.set_cons_succ]
    refine wpAny_ready (rs := [0, 2]) (by kernel_rfl) (by decide) ?_
    refine AllReady.cons rfl (fun K1 hK1 => ?_) (AllReady.cons rfl (fun K1 hK1 => ?_) AllReady.nil)
    · obtain ⟨_, ce0, ce1, ce2, ce3, ce4, ce5, ce6, ce7, ce8⟩ := FW0.out.vr.all
      go_simp
      refine hK1 _ _ ?_
      clear hK1 K1 ce0 ce1 ce2 ce3 ce4 ce5 ce6 ce7 ce8
      refine wpAny_ready (rs := [2]) (by kernel_rfl) (by decide) ?_
      refine AllReady.cons rfl (fun K1 hK1 => ?_) AllReady.nil
      go_simp
      refine (HX.out _ _ C1.out _ SW0.out.pr).mono ?_
      intro e W1 hp
      rcases hp.both with ⟨kb, jb, cq, rfl, r2⟩ | ⟨kd'', ps'', nm'', t'', nz'', z'', ob'', bi'', ks'', a'', len'', ck'', jq, cq, rfl, hk, r1, r2⟩
      · have hw := HW.out
        simp only [wordFirstO, Nd.kind, C1.out, HK28.out, false_and, if_false, if_pos C3.out, cq] at hw
        subst hw
        exact ⟨rfl, rfl, SW0.out.tn.trans r2⟩
      have CQ := hide cq
      have FW1 := hide (FW0.out.tn r2 (.inl hgm))
      have JW1 := hide (hk.lowS (fun x hx => show Ot w.heap.size w.heap.size n x from ⟨by have : W0.heap.size ≤ x := hx; have := SW0.out.ltz; omega, by have : W0.heap.size ≤ x := hx; have := SW0.out.ltz; omega, by have : W0.heap.size ≤ x := hx; have := SW0.out.lt; omega⟩))
      have SW1 := hide (SW0.out.call r1 r2)
      clear cq hk r1 r2
      refine hK1 _ _ ?_
      clear hK1 K1
      refine wpAny_ready (rs := [3]) (by kernel_rfl) (by decide) ?_
      refine AllReady.cons rfl (fun K1 hK1 => ?_) AllReady.nil
      go_simp
      have hb := bel_new W1 (.cells #[.int .i64 kd', .int .i64 ps', .string nm', .int .i64 t', .int .i64 nz', .int .i64 z', .int .i64 ob', .int .u64 bi', .slice a' len' ck', .int .i64 kd'', .int .i64 ps'', .string nm'', .int .i64 t'', .int .i64 nz'', .int .i64 z'', .int .i64 ob'', .int .u64 bi'', .slice a'' len'' ck''] 27)
      have kb : (W1.alloc (.cells #[.int .i64 kd', .int .i64 ps', .string nm', .int .i64 t', .int .i64 nz', .int .i64 z', .int .i64 ob', .int .u64 bi', .slice a' len' ck', .int .i64 kd'', .int .i64 ps'', .string nm'', .int .i64 t'', .int .i64 nz'', .int .i64 z'', .int .i64 ob'', .int .u64 bi'', .slice a'' len'' ck''] 27)).heap[W1.heap.size]? = some (.cells #[.int .i64 kd', .int .i64 ps', .string nm', .int .i64 t', .int .i64 nz', .int .i64 z', .int .i64 ob', .int .u64 bi', .slice a' len' ck', .int .i64 kd'', .int .i64 ps'', .string nm'', .int .i64 t'', .int .i64 nz'', .int .i64 z'', .int .i64 ob'', .int .u64 bi'', .slice a'' len'' ck''] 27 (0, 0)) := Go.Deep.blk_alloc_new _ _
      have KK := hide (two_kids kb ((FW1.out.bel hb).kv.lowS (fun x hx => show Ot w.heap.size w.heap.size n x from ⟨by have := hx.1; omega, by have := hx.1; omega, by have := hx.2; omega⟩)) (JW1.out.bel hb) (show Ot w.heap.size w.heap.size n W1.heap.size from ⟨by have := SW1.out.ltz; omega, by have := SW1.out.ltz; omega, by have := SW1.out.lt; omega⟩))
      have SW2 := hide (SW1.out.bel hb)
      clear hb kb JW1
      generalize W1.alloc (.cells #[.int .i64 kd', .int .i64 ps', .string nm', .int .i64 t', .int .i64 nz', .int .i64 z', .int .i64 ob', .int .u64 bi', .slice a' len' ck', .int .i64 kd'', .int .i64 ps'', .string nm'', .int .i64 t'', .int .i64 nz'', .int .i64 z'', .int .i64 ob'', .int .u64 bi'', .slice a'' len'' ck''] 27) = W2 at *
      generalize W1.heap.size = bx at *
      refine hK1 _ _ ?_
      clear hK1 K1
      refine wpAny_take (i := 4) (v := ?_) rfl (by kernel_rfl) (by kernel_rfl) (by kernel_rfl) (fun _ _ _ h => h) (Or.inl ⟨by rfl, fun w => ?_⟩) ?_
      rotate_left 1
      · (go_simp <;> with_reducible rfl)
      simp only [Act.put, List.getElem_toArray, List.getElem_cons_zero, List.getElem_cons_succ, List.setIfInBounds_toArray, List.set_cons_zero, List.set_cons_succ]
      refine wpAny_ready (rs := [5]) (by kernel_rfl) (by decide) ?_
      refine AllReady.cons rfl (fun K1 hK1 => ?_) AllReady.nil
      obtain ⟨⟨fr0, fr1, fr2, fr3, fr4, fr5, fr6, fr7, fr8⟩, ce0, ce1, ce2, ce3, ce4, ce5, ce6, ce7, ce8⟩ := SW2.out.vr.all
      go_simp
      refine hK1 _ _ ?_
      clear hK1 K1 fr0 fr1 fr2 fr3 fr4 fr5 fr6 fr7 fr8 ce0 ce1 ce2 ce3 ce4 ce5 ce6 ce7 ce8
      refine wpAny_done (by kernel_rfl) ?_ _
      have e9 : (W2.setCell ⟨n, 8, none⟩ (.slice (some ⟨bx, 0, none⟩) 2 2)).heap.size = W2.heap.size := by simp
      have S30 := hide (SW2.out.setKids2 KK.out)
      clear KK
      generalize W2.setCell ⟨n, 8, none⟩ (.slice (some ⟨bx, 0, none⟩) 2 2) = w30 at *
      go_wp2_with fail
      try rw [← e9]
      clear e9
      refine (take_both S30.out.pr HE.out bSemi (by decide)).mono ?_
      rintro e w31 (⟨c31, rfl, r2⟩ | ⟨c31, rfl, r1, r2⟩)
      · have hw := HW.out
        simp only [wordFirstO, Nd.kind, C1.out, HK28.out, false_and, if_false, if_pos C3.out, CQ.out, endO, if_neg c31] at hw
        subst hw
        exact ⟨rfl, rfl, S30.out.tn.trans r2⟩
      have C31 := hide c31
      have S31 := hide (S30.out.call r1 r2)
      clear c31 r1 r2 S30
      obtain ⟨⟨fz0, fz1, fz2, fz3, fz4, fz5, fz6, fz7, fz8⟩, bz0, bz1, bz2, bz3, bz4, bz5, bz6, bz7, bz8⟩ := S31.out.zr.all
      obtain ⟨_, cg0, cg1, cg2, cg3, cg4, cg5, cg6, cg7, cg8⟩ := S31.out.vr.all
      obtain ⟨_, rfl, z9, v9, p9, t9⟩ := S31.out.done
      have Z9 := hide z9
      have D9 := hide (And.intro v9 (And.intro p9 t9))
      clear z9 v9 p9 t9 S31
      go_wp2_with fail
      refine ret_nod (w.heap.size) rfl rfl Z9.out rfl ?_
      have hw := HW.out
      simp only [wordFirstO, Nd.kind, C1.out, HK28.out, false_and, if_false, if_pos C3.out, CQ.out, endO, if_pos C31.out] at hw
      subst hw
      exact ⟨_, rfl, D9.out⟩
    · go_simp
      refine (HX.out _ _ C1.out _ SW0.out.pr).mono ?_
      intro e W1 hp
      rcases hp.both with ⟨kb, jb, cq, rfl, r2⟩ | ⟨kd'', ps'', nm'', t'', nz'', z'', ob'', bi'', ks'', a'', len'', ck'', jq, cq, rfl, hk, r1, r2⟩
      · have hw := HW.out
        simp only [wordFirstO, Nd.kind, C1.out, HK28.out, false_and, if_false, if_pos C3.out, cq] at hw
        subst hw
        exact ⟨rfl, rfl, SW0.out.tn.trans r2⟩
      have CQ := hide cq
      have FW1 := hide (FW0.out.tn r2 (.inl hgm))
      have JW1 := hide (hk.lowS (fun x hx => show Ot w.heap.size w.heap.size n x from ⟨by have : W0.heap.size ≤ x := hx; have := SW0.out.ltz; omega, by have : W0.heap.size ≤ x := hx; have := SW0.out.ltz; omega, by have : W0.heap.size ≤ x := hx; have := SW0.out.lt; omega⟩))
      have SW1 := hide (SW0.out.call r1 r2)
      clear cq hk r1 r2
      refine hK1 _ _ ?_
      clear hK1 K1
      refine wpAny_ready (rs := [0]) (by kernel_rfl) (by decide) ?_
      refine AllReady.cons rfl (fun K1 hK1 => ?_) AllReady.nil
      obtain ⟨_, ce0, ce1, ce2, ce3, ce4, ce5, ce6, ce7, ce8⟩ := FW1.out.vr.all
      go_simp
      refine hK1 _ _ ?_
      clear hK1 K1 ce0 ce1 ce2 ce3 ce4 ce5 ce6 ce7 ce8
      refine wpAny_ready (rs := [3]) (by kernel_rfl) (by decide) ?_
      refine AllReady.cons rfl (fun K1 hK1 => ?_) AllReady.nil
      go_simp
      have hb := bel_new W1 (.cells #[.int .i64 kd', .int .i64 ps', .string nm', .int .i64 t', .int .i64 nz', .int .i64 z', .int .i64 ob', .int .u64 bi', .slice a' len' ck', .int .i64 kd'', .int .i64 ps'', .string nm'', .int .i64 t'', .int .i64 nz'', .int .i64 z'', .int .i64 ob'', .int .u64 bi'', .slice a'' len'' ck''] 27)
      have kb : (W1.alloc (.cells #[.int .i64 kd', .int .i64 ps', .string nm', .int .i64 t', .int .i64 nz', .int .i64 z', .int .i64 ob', .int .u64 bi', .slice a' len' ck', .int .i64 kd'', .int .i64 ps'', .string nm'', .int .i64 t'', .int .i64 nz'', .int .i64 z'', .int .i64 ob'', .int .u64 bi'', .slice a'' len'' ck''] 27)).heap[W1.heap.size]? = some (.cells #[.int .i64 kd', .int .i64 ps', .string nm', .int .i64 t', .int .i64 nz', .int .i64 z', .int .i64 ob', .int .u64 bi', .slice a' len' ck', .int .i64 kd'', .int .i64 ps'', .string nm'', .int .i64 t'', .int .i64 nz'', .int .i64 z'', .int .i64 ob'', .int .u64 bi'', .slice a'' len'' ck''] 27 (0, 0)) := Go.Deep.blk_alloc_new _ _
      have KK := hide (two_kids kb ((FW1.out.bel hb).kv.lowS (fun x hx => show Ot w.heap.size w.heap.size n x from ⟨by have := hx.1; omega, by have := hx.1; omega, by have := hx.2; omega⟩)) (JW1.out.bel hb) (show Ot w.heap.size w.heap.size n W1.heap.size from ⟨by have := SW1.out.ltz; omega, by have := SW1.out.ltz; omega, by have := SW1.out.lt; omega⟩))
      have SW2 := hide (SW1.out.bel hb)
      clear hb kb JW1
      generalize W1.alloc (.cells #[.int .i64 kd', .int .i64 ps', .string nm', .int .i64 t', .int .i64 nz', .int .i64 z', .int .i64 ob', .int .u64 bi', .slice a' len' ck', .int .i64 kd'', .int .i64 ps'', .string nm'', .int .i64 t'', .int .i64 nz'', .int .i64 z'', .int .i64 ob'', .int .u64 bi'', .slice a'' len'' ck''] 27) = W2 at *
      generalize W1.heap.size = bx at *
      refine hK1 _ _ ?_
      clear hK1 K1
      refine wpAny_take (i := 4) (v := ?_) rfl (by kernel_rfl) (by kernel_rfl) (by kernel_rfl) (fun _ _ _ h => h) (Or.inl ⟨by rfl, fun w => ?_⟩) ?_
      rotate_left 1
      · (go_simp <;> with_reducible rfl)
      simp only [Act.put, List.getElem_toArray, List.getElem_cons_zero, List.getElem_cons_succ, List.setIfInBounds_toArray, List.set_cons_zero, List.set_cons_succ]
      refine wpAny_ready (rs := [5]) (by kernel_rfl) (by decide) ?_
      refine AllReady.cons rfl (fun K1 hK1 => ?_) AllReady.nil
      obtain ⟨⟨fr0, fr1, fr2, fr3, fr4, fr5, fr6, fr7, fr8⟩, ce0, ce1, ce2, ce3, ce4, ce5, ce6, ce7, ce8⟩ := SW2.out.vr.all
      go_simp
      refine hK1 _ _ ?_
      clear hK1 K1 fr0 fr1 fr2 fr3 fr4 fr5 fr6 fr7 fr8 ce0 ce1 ce2 ce3 ce4 ce5 ce6 ce7 ce8
      refine wpAny_done (by kernel_rfl) ?_ _
      have e9 : (W2.setCell ⟨n, 8, none⟩ (.slice (some ⟨bx, 0, none⟩) 2 2)).heap.size = W2.heap.size := by simp
      have S30 := hide (SW2.out.setKids2 KK.out)
      clear KK
      generalize W2.setCell ⟨n, 8, none⟩ (.slice (some ⟨bx, 0, none⟩) 2 2) = w30 at *
      go_wp2_with fail
      try rw [← e9]
      clear e9
      refine (take_both S30.out.pr HE.out bSemi (by decide)).mono ?_
      rintro e w31 (⟨c31, rfl, r2⟩ | ⟨c31, rfl, r1, r2⟩)
      · have hw := HW.out
        simp only [wordFirstO, Nd.kind, C1.out, HK28.out, false_and, if_false, if_pos C3.out, CQ.out, endO, if_neg c31] at hw
        subst hw
        exact ⟨rfl, rfl, S30.out.tn.trans r2⟩
      have C31 := hide c31
      have S31 := hide (S30.out.call r1 r2)
      clear c31 r1 r2 S30
      obtain ⟨⟨fz0, fz1, fz2, fz3, fz4, fz5, fz6, fz7, fz8⟩, bz0, bz1, bz2, bz3, bz4, bz5, bz6, bz7, bz8⟩ := S31.out.zr.all
      obtain ⟨_, cg0, cg1, cg2, cg3, cg4, cg5, cg6, cg7, cg8⟩ := S31.out.vr.all
      obtain ⟨_, rfl, z9, v9, p9, t9⟩ := S31.out.done
      have Z9 := hide z9
      have D9 := hide (And.intro v9 (And.intro p9 t9))
      clear z9 v9 p9 t9 S31
      go_wp2_with fail
      refine ret_nod (w.heap.size) rfl rfl Z9.out rfl ?_
      have hw := HW.out
      simp only [wordFirstO, Nd.kind, C1.out, HK28.out, false_and, if_false, if_pos C3.out, CQ.out, endO, if_pos C31.out] at hw
      subst hw
      exact ⟨_, rfl, D9.out⟩

end Go.Proofs.YtogeblmppagabaaGreatDoor.Ck
