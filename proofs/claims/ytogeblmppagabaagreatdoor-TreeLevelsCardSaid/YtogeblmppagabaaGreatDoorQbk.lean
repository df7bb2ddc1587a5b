/- Texts of this proof, packed: contracts of the program's functions, and the plain model that they are held against. -/
import Derived.Test.YtogeblmppagabaaGreatDoorQba
/- Rows of statements. -/
namespace Go.Proofs.YtogeblmppagabaaGreatDoor.Ck
open Go.RowKit

set_option maxRecDepth 20000 in
set_option maxHeartbeats 1000000 in
theorem stmts_any {w : World} {p : List Addr} {g gT : Nat} {L : List Tk} {i l : Nat} (h : Ps w p g gT L i l) (rule : Nat → Out) (hgt : ∀ j m j', rule j = .ok m j' → j < j') (hr : ∀ j, i ≤ j → Rule 183 p g gT L l j (rule j)) :
    Calls Tryz.prog 163 #[.pointer (some ⟨g, 0, none⟩)] w fun e w' => PostR p g gT L l w e w' (stmtsF rule L L.length i []) := by
  have HP := hide h
  have HR := hide hr
  have HG := hide hgt
  have hgl := h.lt_g
  have hT := h.row.lt
  have hL := h.len
  obtain ⟨out, ho⟩ : ∃ out, stmtsF rule L L.length i [] = out := ⟨_, rfl⟩
  rw [ho]
  have HW := hide ho
  clear h ho hr hgt
  go_enter Tryz.func163, Tryz.ntmps163
  go_wp2_with fail
  go_loopw [3] (fun v wr => ∃ (j : Nat) (ns : List Nd) (a : Option Addr) (n ck : Nat), i ≤ j ∧ v = .slice a n ck ∧ ns.length ≤ j ∧ Hid (n = ns.length ∧ Row wr w.heap.size ns (.slice a n ck) ∧ Ps wr p g gT L j l ∧ Tn g w wr ∧ ∃ f', L.length - j ≤ f' ∧ stmtsF rule L f' j ns = out)) (fun _ wr => L.length - nextAt wr g)
  case atStart => exact ⟨i, [], none, 0, 0, Nat.le_refl _, rfl, Nat.zero_le _, rfl, Row.nil _ _, HP.out, Tn.refl _ _, L.length, Nat.sub_le _ _, HW.out⟩
  case round =>
    clear HW HP
    obtain ⟨j, ns, a, n, ck, hij, rfl, hnl, I⟩ := hrel
    have N3 := hide I.out.2.2.1.next
    go_wp2_with fail
    refine (sees_both I.out.2.2.1 bCue).mono ?_
    rintro e w4 (⟨c4, rfl, hb⟩ | ⟨c4, rfl, hb⟩)
    · have R4 := hide (I.out.2.1.bel hb)
      have H4 := hide (And.intro (I.out.2.2.1.below hb) (I.out.2.2.2.1.trans (Tn.of_bel hb)))
      have hw : OutL.ok ns j = out := by
        obtain ⟨f', hf1, hf2⟩ := I.out.2.2.2.2
        have hlt := I.out.2.2.1.lt
        obtain ⟨f2, rfl⟩ : ∃ f2, f' = f2 + 1 := ⟨f' - 1, by omega⟩
        simp only [stmtsF, if_pos c4] at hf2
        exact hf2
      have HW := hide hw
      clear hw c4 hb I
      go_wp2_with fail
      go_ret
      have hw := HW.out
      subst hw
      exact ⟨_, rfl, R4.out, H4.out⟩
    · have C4 := hide c4
      have H4 := hide (I.out.2.2.1.below hb)
      have T4 := hide (I.out.2.2.2.1.trans (Tn.of_bel hb))
      have R4 := hide (I.out.2.1.bel hb)
      have EN := hide I.out.1
      have hlt := I.out.2.2.1.lt
      have F4 := hide I.out.2.2.2.2
      clear c4 hb I
      go_wp2_with fail
      refine (HR.out j hij _ H4.out).mono ?_
      intro e w5 hp
      rcases hp.both with ⟨kb, jb, c5, rfl, r2⟩ | ⟨kd, ps, nm, t, nz, z, ob, bi, ks, a', len, ck', j', c5, rfl, hk, r1, r2⟩
      · obtain ⟨f', hf1, hf2⟩ := F4.out
        obtain ⟨f2, rfl⟩ : ∃ f2, f' = f2 + 1 := ⟨f' - 1, by omega⟩
        simp only [stmtsF, if_neg C4.out, c5] at hf2
        subst hf2
        exact ⟨rfl, rfl, T4.out.trans r2⟩
      have hj' := HG.out _ _ j' c5
      have F5 : Hid (∃ f', L.length - j' ≤ f' ∧ stmtsF rule L f' j' (ns ++ [Nd.mk kd ps nm t nz z ob bi ks]) = out) := by
        obtain ⟨f', hf1, hf2⟩ := F4.out
        obtain ⟨f2, rfl⟩ : ∃ f2, f' = f2 + 1 := ⟨f' - 1, by omega⟩
        simp only [stmtsF, if_neg C4.out, c5] at hf2
        exact ⟨f2, by omega, hf2⟩
      clear c5 C4 F4
      have hb6 := bel_new w5 (.cells #[.int .i64 kd, .int .i64 ps, .string nm, .int .i64 t, .int .i64 nz, .int .i64 z, .int .i64 ob, .int .u64 bi, .slice a' len ck'] 27)
      have hC : ∀ k, _ → k < w4.heap.size := fun k hk => (R4.out.own k hk).2
      have PU := hide (fun ty => Row.push (c := 1) ((R4.out.tn r2 (hgl)).bel hb6) (T4.out.size) hC (Nat.le_trans r2.size hb6.size) (by omega) (hk.bel hb6) (Go.Deep.blk_alloc_new w5 _) ty)
      have R6 := hide (And.intro (r1.below hb6) ((T4.out.trans r2).trans (Tn.of_bel hb6)))
      clear hk hb6 r1 r2 hC R4 T4 H4
      go_wp2_with (first | (at_builtin; refine wpList_appN (.tmp 8) (.tmp 11) _ _ _ PU.out rfl rfl rfl rfl ?_; rintro v7 w7 ⟨o7, t7⟩))
      obtain ⟨a7, c7, e7⟩ := o7.len
      obtain ⟨n7, hn7⟩ : ∃ n7, n7 = (ns ++ [Nd.mk kd ps nm t nz z ob bi ks]).length := ⟨_, rfl⟩
      rw [← hn7] at e7
      subst e7
      have I7 := hide (And.intro hn7 (And.intro o7 (And.intro (R6.out.1.belB t7 hgl hT) (R6.out.2.belB t7 (Nat.le_refl _)))))
      clear hn7 o7 t7 PU R6
      go_wp2_with fail
      go_roundw
      case rel => exact ⟨j', _, _, _, _, by omega, rfl, by rw [List.length_append, List.length_singleton]; omega, I7.out.1, I7.out.2.1, I7.out.2.2.1, I7.out.2.2.2, F5.out⟩
      case measure =>
        have h7 := I7.out.2.2.1.next
        rw [h7, N3.out]
        omega

end Go.Proofs.YtogeblmppagabaaGreatDoor.Ck

/- What statements begin with. -/
namespace Go.Proofs.YtogeblmppagabaaGreatDoor.Ck
open Go.RowKit

theorem PostN.base {p : List Addr} {g gT : Nat} {L : List Tk} {l : Nat} {w w1 : World} {e : Ending} {w' : World} {o : Out} (h : PostN p g gT L l w1 e w' o) (hb : Below w.heap.size w w1) : PostN p g gT L l w e w' o := by
  cases o with
  | bad k j => exact ⟨h.1, (Tn.of_bel hb).trans h.2⟩
  | ok n j =>
    obtain ⟨v, h1, h2, h3, h4⟩ := h
    exact ⟨v, h1, h2.low hb.size, h3, (Tn.of_bel hb).trans h4⟩

set_option maxRecDepth 20000 in
set_option maxHeartbeats 1000000 in
theorem stmt_go {w : World} {p : List Addr} {g gT : Nat} {L : List Tk} {i l : Nat} (h : Ps w p g gT L i l) (hx : tx L i = ⟨#[103, 111]⟩) (r : Out) (hr : ∀ w, Ps w p g gT L i l → Calls Tryz.prog 201 #[.pointer (some ⟨g, 0, none⟩)] w fun e w' => PostN p g gT L l w e w' r) :
    Calls Tryz.prog 183 #[.pointer (some ⟨g, 0, none⟩)] w fun e w' => PostN p g gT L l w e w' r := by
  have HP := hide h
  have HR := hide hr
  have hb0 := hide (bel_new w nodZ)
  have hz0 := hide (nod_new w)
  have H0 := hide (h.below hb0.out)
  obtain ⟨tk, htk⟩ : ∃ tk, tkAt L i = tk := ⟨_, rfl⟩
  have HK := hide htk
  unfold tx at hx
  rw [htk] at hx
  clear htk h hr
  obtain ⟨kind, text, nn, bits_, pos⟩ := tk
  dsimp only at hx
  subst hx
  have hf1 := tf1 (.int .i64 kind) (.string ⟨#[103, 111]⟩) (.int .i64 nn) (.int .u64 bits_) (.int .i64 pos)
  unfold nodZ at *
  go_enter Tryz.func183, Tryz.ntmps183
  go_wp2_with fail
  generalize w.alloc (.cells #[.int .i64 0, .int .i64 0, .string ⟨#[]⟩, .int .i64 0, .int .i64 0, .int .i64 0, .int .i64 0, .int .u64 0, .slice none 0 0] 27) = w0 at *
  refine (here_any H0.out).mono ?_
  rintro e w1 ⟨he, hb1⟩
  rw [HK.out] at he
  dsimp only [Tk.val] at he
  subst he
  have Z2 := hide ((Zn.start HP.out hb0.out hz0.out).bel hb1)
  clear hb1 hb0 hz0 H0 HP
  go_wp2_with fail
  clear hf1
  have hC := Z2.out.lt
  refine (HR.out _ Z2.out.pr).mono ?_
  intro e w3 hp
  rcases hp.both with ⟨kb, jb, c3, rfl, r2⟩ | ⟨kd, ps, nm, t, nz, z, ob, bi, ks, a, len, ck, j, c3, rfl, hk, r1, r2⟩
  · subst c3
    exact ⟨rfl, rfl, Z2.out.tn.trans r2⟩
  have C3 := hide c3
  have Z3 := hide (Z2.out.call r1 r2)
  clear c3 r1 r2 Z2 HR
  obtain ⟨⟨fz0, fz1, fz2, fz3, fz4, fz5, fz6, fz7, fz8⟩, bz0, bz1, bz2, bz3, bz4, bz5, bz6, bz7, bz8⟩ := Z3.out.zr.all
  obtain ⟨_, rfl, z9, v9, p9, t9⟩ := Z3.out.done (kd := kd) (ps := ps) (nm := nm) (t := t) (nz := nz) (z := z) (ob := ob) (bi := bi) hC hk
  have Z9 := hide z9
  have D9 := hide (And.intro v9 (And.intro p9 t9))
  clear z9 v9 p9 t9 hk Z3
  go_wp2_with fail
  refine ret_nod w.heap.size rfl rfl Z9.out rfl ?_
  have hw := C3.out
  subst hw
  exact ⟨_, rfl, D9.out⟩

set_option maxRecDepth 20000 in
set_option maxHeartbeats 1000000 in
theorem stmt_lock {w : World} {p : List Addr} {g gT : Nat} {L : List Tk} {i l : Nat} (h : Ps w p g gT L i l) (hx : tx L i = ⟨#[108, 111, 99, 107]⟩) (r : Out) (hr : ∀ w, Ps w p g gT L i l → Calls Tryz.prog 103 #[.pointer (some ⟨g, 0, none⟩), .int .i64 14, .slice none 0 0] w fun e w' => PostN p g gT L l w e w' r) :
    Calls Tryz.prog 183 #[.pointer (some ⟨g, 0, none⟩)] w fun e w' => PostN p g gT L l w e w' r := by
  have HP := hide h
  have HR := hide hr
  have hb0 := hide (bel_new w nodZ)
  have hz0 := hide (nod_new w)
  have H0 := hide (h.below hb0.out)
  obtain ⟨tk, htk⟩ : ∃ tk, tkAt L i = tk := ⟨_, rfl⟩
  have HK := hide htk
  unfold tx at hx
  rw [htk] at hx
  clear htk h hr
  obtain ⟨kind, text, nn, bits_, pos⟩ := tk
  dsimp only at hx
  subst hx
  have hf1 := tf1 (.int .i64 kind) (.string ⟨#[108, 111, 99, 107]⟩) (.int .i64 nn) (.int .u64 bits_) (.int .i64 pos)
  unfold nodZ at *
  go_enter Tryz.func183, Tryz.ntmps183
  go_wp2_with fail
  generalize w.alloc (.cells #[.int .i64 0, .int .i64 0, .string ⟨#[]⟩, .int .i64 0, .int .i64 0, .int .i64 0, .int .i64 0, .int .u64 0, .slice none 0 0] 27) = w0 at *
  refine (here_any H0.out).mono ?_
  rintro e w1 ⟨he, hb1⟩
  rw [HK.out] at he
  dsimp only [Tk.val] at he
  subst he
  have Z2 := hide ((Zn.start HP.out hb0.out hz0.out).bel hb1)
  clear hb1 hb0 hz0 H0 HP
  go_wp2_with fail
  clear hf1
  have hC := Z2.out.lt
  refine (HR.out _ Z2.out.pr).mono ?_
  intro e w3 hp
  rcases hp.both with ⟨kb, jb, c3, rfl, r2⟩ | ⟨kd, ps, nm, t, nz, z, ob, bi, ks, a, len, ck, j, c3, rfl, hk, r1, r2⟩
  · subst c3
    exact ⟨rfl, rfl, Z2.out.tn.trans r2⟩
  have C3 := hide c3
  have Z3 := hide (Z2.out.call r1 r2)
  clear c3 r1 r2 Z2 HR
  obtain ⟨⟨fz0, fz1, fz2, fz3, fz4, fz5, fz6, fz7, fz8⟩, bz0, bz1, bz2, bz3, bz4, bz5, bz6, bz7, bz8⟩ := Z3.out.zr.all
  obtain ⟨_, rfl, z9, v9, p9, t9⟩ := Z3.out.done (kd := kd) (ps := ps) (nm := nm) (t := t) (nz := nz) (z := z) (ob := ob) (bi := bi) hC hk
  have Z9 := hide z9
  have D9 := hide (And.intro v9 (And.intro p9 t9))
  clear z9 v9 p9 t9 hk Z3
  go_wp2_with fail
  refine ret_nod w.heap.size rfl rfl Z9.out rfl ?_
  have hw := C3.out
  subst hw
  exact ⟨_, rfl, D9.out⟩

set_option maxRecDepth 20000 in
set_option maxHeartbeats 1000000 in
theorem stmt_unlock {w : World} {p : List Addr} {g gT : Nat} {L : List Tk} {i l : Nat} (h : Ps w p g gT L i l) (hx : tx L i = ⟨#[117, 110, 108, 111, 99, 107]⟩) (r : Out) (hr : ∀ w, Ps w p g gT L i l → Calls Tryz.prog 103 #[.pointer (some ⟨g, 0, none⟩), .int .i64 15, .slice none 0 0] w fun e w' => PostN p g gT L l w e w' r) :
    Calls Tryz.prog 183 #[.pointer (some ⟨g, 0, none⟩)] w fun e w' => PostN p g gT L l w e w' r := by
  have HP := hide h
  have HR := hide hr
  have hb0 := hide (bel_new w nodZ)
  have hz0 := hide (nod_new w)
  have H0 := hide (h.below hb0.out)
  obtain ⟨tk, htk⟩ : ∃ tk, tkAt L i = tk := ⟨_, rfl⟩
  have HK := hide htk
  unfold tx at hx
  rw [htk] at hx
  clear htk h hr
  obtain ⟨kind, text, nn, bits_, pos⟩ := tk
  dsimp only at hx
  subst hx
  have hf1 := tf1 (.int .i64 kind) (.string ⟨#[117, 110, 108, 111, 99, 107]⟩) (.int .i64 nn) (.int .u64 bits_) (.int .i64 pos)
  unfold nodZ at *
  go_enter Tryz.func183, Tryz.ntmps183
  go_wp2_with fail
  generalize w.alloc (.cells #[.int .i64 0, .int .i64 0, .string ⟨#[]⟩, .int .i64 0, .int .i64 0, .int .i64 0, .int .i64 0, .int .u64 0, .slice none 0 0] 27) = w0 at *
  refine (here_any H0.out).mono ?_
  rintro e w1 ⟨he, hb1⟩
  rw [HK.out] at he
  dsimp only [Tk.val] at he
  subst he
  have Z2 := hide ((Zn.start HP.out hb0.out hz0.out).bel hb1)
  clear hb1 hb0 hz0 H0 HP
  go_wp2_with fail
  clear hf1
  have hC := Z2.out.lt
  refine (HR.out _ Z2.out.pr).mono ?_
  intro e w3 hp
  rcases hp.both with ⟨kb, jb, c3, rfl, r2⟩ | ⟨kd, ps, nm, t, nz, z, ob, bi, ks, a, len, ck, j, c3, rfl, hk, r1, r2⟩
  · subst c3
    exact ⟨rfl, rfl, Z2.out.tn.trans r2⟩
  have C3 := hide c3
  have Z3 := hide (Z2.out.call r1 r2)
  clear c3 r1 r2 Z2 HR
  obtain ⟨⟨fz0, fz1, fz2, fz3, fz4, fz5, fz6, fz7, fz8⟩, bz0, bz1, bz2, bz3, bz4, bz5, bz6, bz7, bz8⟩ := Z3.out.zr.all
  obtain ⟨_, rfl, z9, v9, p9, t9⟩ := Z3.out.done (kd := kd) (ps := ps) (nm := nm) (t := t) (nz := nz) (z := z) (ob := ob) (bi := bi) hC hk
  have Z9 := hide z9
  have D9 := hide (And.intro v9 (And.intro p9 t9))
  clear z9 v9 p9 t9 hk Z3
  go_wp2_with fail
  refine ret_nod w.heap.size rfl rfl Z9.out rfl ?_
  have hw := C3.out
  subst hw
  exact ⟨_, rfl, D9.out⟩

set_option maxRecDepth 20000 in
set_option maxHeartbeats 1000000 in
theorem stmt_send {w : World} {p : List Addr} {g gT : Nat} {L : List Tk} {i l : Nat} (h : Ps w p g gT L i l) (hx : tx L i = ⟨#[115, 101, 110, 100]⟩) (r : Out) (hr : ∀ w, Ps w p g gT L i l → Calls Tryz.prog 103 #[.pointer (some ⟨g, 0, none⟩), .int .i64 16, .slice (some ⟨w.heap.size, 0, none⟩) 1 1] (w.alloc (.cells #[.func (.func 27) #[.pointer (some ⟨g, 0, none⟩)] #[]] 50)) fun e w' => PostN p g gT L l w e w' r) :
    Calls Tryz.prog 183 #[.pointer (some ⟨g, 0, none⟩)] w fun e w' => PostN p g gT L l w e w' r := by
  have HP := hide h
  have HR := hide hr
  have hb0 := hide (bel_new w nodZ)
  have hz0 := hide (nod_new w)
  have H0 := hide (h.below hb0.out)
  obtain ⟨tk, htk⟩ : ∃ tk, tkAt L i = tk := ⟨_, rfl⟩
  have HK := hide htk
  unfold tx at hx
  rw [htk] at hx
  clear htk h hr
  obtain ⟨kind, text, nn, bits_, pos⟩ := tk
  dsimp only at hx
  subst hx
  have hf1 := tf1 (.int .i64 kind) (.string ⟨#[115, 101, 110, 100]⟩) (.int .i64 nn) (.int .u64 bits_) (.int .i64 pos)
  unfold nodZ at *
  go_enter Tryz.func183, Tryz.ntmps183
  go_wp2_with fail
  generalize w.alloc (.cells #[.int .i64 0, .int .i64 0, .string ⟨#[]⟩, .int .i64 0, .int .i64 0, .int .i64 0, .int .i64 0, .int .u64 0, .slice none 0 0] 27) = w0 at *
  refine (here_any H0.out).mono ?_
  rintro e w1 ⟨he, hb1⟩
  rw [HK.out] at he
  dsimp only [Tk.val] at he
  subst he
  have Z2 := hide ((Zn.start HP.out hb0.out hz0.out).bel hb1)
  clear hb1 hb0 hz0 H0 HP
  go_wp2_with fail
  clear hf1
  have hC := Z2.out.lt
  refine (HR.out _ Z2.out.pr).mono ?_
  intro e w3 hp
  rcases hp.both with ⟨kb, jb, c3, rfl, r2⟩ | ⟨kd, ps, nm, t, nz, z, ob, bi, ks, a, len, ck, j, c3, rfl, hk, r1, r2⟩
  · subst c3
    exact ⟨rfl, rfl, Z2.out.tn.trans r2⟩
  have C3 := hide c3
  have Z3 := hide (Z2.out.call r1 r2)
  clear c3 r1 r2 Z2 HR
  obtain ⟨⟨fz0, fz1, fz2, fz3, fz4, fz5, fz6, fz7, fz8⟩, bz0, bz1, bz2, bz3, bz4, bz5, bz6, bz7, bz8⟩ := Z3.out.zr.all
  obtain ⟨_, rfl, z9, v9, p9, t9⟩ := Z3.out.done (kd := kd) (ps := ps) (nm := nm) (t := t) (nz := nz) (z := z) (ob := ob) (bi := bi) hC hk
  have Z9 := hide z9
  have D9 := hide (And.intro v9 (And.intro p9 t9))
  clear z9 v9 p9 t9 hk Z3
  go_wp2_with fail
  refine ret_nod w.heap.size rfl rfl Z9.out rfl ?_
  have hw := C3.out
  subst hw
  exact ⟨_, rfl, D9.out⟩

set_option maxRecDepth 20000 in
set_option maxHeartbeats 1000000 in
theorem stmt_recv {w : World} {p : List Addr} {g gT : Nat} {L : List Tk} {i l : Nat} (h : Ps w p g gT L i l) (hx : tx L i = ⟨#[114, 101, 99, 118]⟩) (r : Out) (hr : ∀ w, Ps w p g gT L i l → Calls Tryz.prog 103 #[.pointer (some ⟨g, 0, none⟩), .int .i64 17, .slice (some ⟨w.heap.size, 0, none⟩) 1 1] (w.alloc (.cells #[.func (.func 202) #[.pointer (some ⟨g, 0, none⟩)] #[]] 50)) fun e w' => PostN p g gT L l w e w' r) :
    Calls Tryz.prog 183 #[.pointer (some ⟨g, 0, none⟩)] w fun e w' => PostN p g gT L l w e w' r := by
  have HP := hide h
  have HR := hide hr
  have hb0 := hide (bel_new w nodZ)
  have hz0 := hide (nod_new w)
  have H0 := hide (h.below hb0.out)
  obtain ⟨tk, htk⟩ : ∃ tk, tkAt L i = tk := ⟨_, rfl⟩
  have HK := hide htk
  unfold tx at hx
  rw [htk] at hx
  clear htk h hr
  obtain ⟨kind, text, nn, bits_, pos⟩ := tk
  dsimp only at hx
  subst hx
  have hf1 := tf1 (.int .i64 kind) (.string ⟨#[114, 101, 99, 118]⟩) (.int .i64 nn) (.int .u64 bits_) (.int .i64 pos)
  unfold nodZ at *
  go_enter Tryz.func183, Tryz.ntmps183
  go_wp2_with fail
  generalize w.alloc (.cells #[.int .i64 0, .int .i64 0, .string ⟨#[]⟩, .int .i64 0, .int .i64 0, .int .i64 0, .int .i64 0, .int .u64 0, .slice none 0 0] 27) = w0 at *
  refine (here_any H0.out).mono ?_
  rintro e w1 ⟨he, hb1⟩
  rw [HK.out] at he
  dsimp only [Tk.val] at he
  subst he
  have Z2 := hide ((Zn.start HP.out hb0.out hz0.out).bel hb1)
  clear hb1 hb0 hz0 H0 HP
  go_wp2_with fail
  clear hf1
  have hC := Z2.out.lt
  refine (HR.out _ Z2.out.pr).mono ?_
  intro e w3 hp
  rcases hp.both with ⟨kb, jb, c3, rfl, r2⟩ | ⟨kd, ps, nm, t, nz, z, ob, bi, ks, a, len, ck, j, c3, rfl, hk, r1, r2⟩
  · subst c3
    exact ⟨rfl, rfl, Z2.out.tn.trans r2⟩
  have C3 := hide c3
  have Z3 := hide (Z2.out.call r1 r2)
  clear c3 r1 r2 Z2 HR
  obtain ⟨⟨fz0, fz1, fz2, fz3, fz4, fz5, fz6, fz7, fz8⟩, bz0, bz1, bz2, bz3, bz4, bz5, bz6, bz7, bz8⟩ := Z3.out.zr.all
  obtain ⟨_, rfl, z9, v9, p9, t9⟩ := Z3.out.done (kd := kd) (ps := ps) (nm := nm) (t := t) (nz := nz) (z := z) (ob := ob) (bi := bi) hC hk
  have Z9 := hide z9
  have D9 := hide (And.intro v9 (And.intro p9 t9))
  clear z9 v9 p9 t9 hk Z3
  go_wp2_with fail
  refine ret_nod w.heap.size rfl rfl Z9.out rfl ?_
  have hw := C3.out
  subst hw
  exact ⟨_, rfl, D9.out⟩

end Go.Proofs.YtogeblmppagabaaGreatDoor.Ck

/- What statements begin with. -/
namespace Go.Proofs.YtogeblmppagabaaGreatDoor.Ck
open Go.RowKit

set_option maxRecDepth 20000 in
set_option maxHeartbeats 1000000 in
theorem stmt_add {w : World} {p : List Addr} {g gT : Nat} {L : List Tk} {i l : Nat} (h : Ps w p g gT L i l) (hx : tx L i = ⟨#[97, 100, 100]⟩) (r : Out) (hr : ∀ w, Ps w p g gT L i l → Calls Tryz.prog 103 #[.pointer (some ⟨g, 0, none⟩), .int .i64 18, .slice (some ⟨w.heap.size, 0, none⟩) 1 1] (w.alloc (.cells #[.func (.func 27) #[.pointer (some ⟨g, 0, none⟩)] #[]] 50)) fun e w' => PostN p g gT L l w e w' r) :
    Calls Tryz.prog 183 #[.pointer (some ⟨g, 0, none⟩)] w fun e w' => PostN p g gT L l w e w' r := by
  have HP := hide h
  have HR := hide hr
  have hb0 := hide (bel_new w nodZ)
  have hz0 := hide (nod_new w)
  have H0 := hide (h.below hb0.out)
  obtain ⟨tk, htk⟩ : ∃ tk, tkAt L i = tk := ⟨_, rfl⟩
  have HK := hide htk
  unfold tx at hx
  rw [htk] at hx
  clear htk h hr
  obtain ⟨kind, text, nn, bits_, pos⟩ := tk
  dsimp only at hx
  subst hx
  have hf1 := tf1 (.int .i64 kind) (.string ⟨#[97, 100, 100]⟩) (.int .i64 nn) (.int .u64 bits_) (.int .i64 pos)
  unfold nodZ at *
  go_enter Tryz.func183, Tryz.ntmps183
  go_wp2_with fail
  generalize w.alloc (.cells #[.int .i64 0, .int .i64 0, .string ⟨#[]⟩, .int .i64 0, .int .i64 0, .int .i64 0, .int .i64 0, .int .u64 0, .slice none 0 0] 27) = w0 at *
  refine (here_any H0.out).mono ?_
  rintro e w1 ⟨he, hb1⟩
  rw [HK.out] at he
  dsimp only [Tk.val] at he
  subst he
  have Z2 := hide ((Zn.start HP.out hb0.out hz0.out).bel hb1)
  clear hb1 hb0 hz0 H0 HP
  go_wp2_with fail
  clear hf1
  have hC := Z2.out.lt
  refine (HR.out _ Z2.out.pr).mono ?_
  intro e w3 hp
  rcases hp.both with ⟨kb, jb, c3, rfl, r2⟩ | ⟨kd, ps, nm, t, nz, z, ob, bi, ks, a, len, ck, j, c3, rfl, hk, r1, r2⟩
  · subst c3
    exact ⟨rfl, rfl, Z2.out.tn.trans r2⟩
  have C3 := hide c3
  have Z3 := hide (Z2.out.call r1 r2)
  clear c3 r1 r2 Z2 HR
  obtain ⟨⟨fz0, fz1, fz2, fz3, fz4, fz5, fz6, fz7, fz8⟩, bz0, bz1, bz2, bz3, bz4, bz5, bz6, bz7, bz8⟩ := Z3.out.zr.all
  obtain ⟨_, rfl, z9, v9, p9, t9⟩ := Z3.out.done (kd := kd) (ps := ps) (nm := nm) (t := t) (nz := nz) (z := z) (ob := ob) (bi := bi) hC hk
  have Z9 := hide z9
  have D9 := hide (And.intro v9 (And.intro p9 t9))
  clear z9 v9 p9 t9 hk Z3
  go_wp2_with fail
  refine ret_nod w.heap.size rfl rfl Z9.out rfl ?_
  have hw := C3.out
  subst hw
  exact ⟨_, rfl, D9.out⟩

set_option maxRecDepth 20000 in
set_option maxHeartbeats 1000000 in
theorem stmt_put {w : World} {p : List Addr} {g gT : Nat} {L : List Tk} {i l : Nat} (h : Ps w p g gT L i l) (hx : tx L i = ⟨#[112, 117, 116]⟩) (r : Out) (hr : ∀ w, Ps w p g gT L i l → Calls Tryz.prog 103 #[.pointer (some ⟨g, 0, none⟩), .int .i64 19, .slice (some ⟨w.heap.size, 0, none⟩) 1 1] (w.alloc (.cells #[.func (.func 27) #[.pointer (some ⟨g, 0, none⟩)] #[]] 50)) fun e w' => PostN p g gT L l w e w' r) :
    Calls Tryz.prog 183 #[.pointer (some ⟨g, 0, none⟩)] w fun e w' => PostN p g gT L l w e w' r := by
  have HP := hide h
  have HR := hide hr
  have hb0 := hide (bel_new w nodZ)
  have hz0 := hide (nod_new w)
  have H0 := hide (h.below hb0.out)
  obtain ⟨tk, htk⟩ : ∃ tk, tkAt L i = tk := ⟨_, rfl⟩
  have HK := hide htk
  unfold tx at hx
  rw [htk] at hx
  clear htk h hr
  obtain ⟨kind, text, nn, bits_, pos⟩ := tk
  dsimp only at hx
  subst hx
  have hf1 := tf1 (.int .i64 kind) (.string ⟨#[112, 117, 116]⟩) (.int .i64 nn) (.int .u64 bits_) (.int .i64 pos)
  unfold nodZ at *
  go_enter Tryz.func183, Tryz.ntmps183
  go_wp2_with fail
  generalize w.alloc (.cells #[.int .i64 0, .int .i64 0, .string ⟨#[]⟩, .int .i64 0, .int .i64 0, .int .i64 0, .int .i64 0, .int .u64 0, .slice none 0 0] 27) = w0 at *
  refine (here_any H0.out).mono ?_
  rintro e w1 ⟨he, hb1⟩
  rw [HK.out] at he
  dsimp only [Tk.val] at he
  subst he
  have Z2 := hide ((Zn.start HP.out hb0.out hz0.out).bel hb1)
  clear hb1 hb0 hz0 H0 HP
  go_wp2_with fail
  clear hf1
  have hC := Z2.out.lt
  refine (HR.out _ Z2.out.pr).mono ?_
  intro e w3 hp
  rcases hp.both with ⟨kb, jb, c3, rfl, r2⟩ | ⟨kd, ps, nm, t, nz, z, ob, bi, ks, a, len, ck, j, c3, rfl, hk, r1, r2⟩
  · subst c3
    exact ⟨rfl, rfl, Z2.out.tn.trans r2⟩
  have C3 := hide c3
  have Z3 := hide (Z2.out.call r1 r2)
  clear c3 r1 r2 Z2 HR
  obtain ⟨⟨fz0, fz1, fz2, fz3, fz4, fz5, fz6, fz7, fz8⟩, bz0, bz1, bz2, bz3, bz4, bz5, bz6, bz7, bz8⟩ := Z3.out.zr.all
  obtain ⟨_, rfl, z9, v9, p9, t9⟩ := Z3.out.done (kd := kd) (ps := ps) (nm := nm) (t := t) (nz := nz) (z := z) (ob := ob) (bi := bi) hC hk
  have Z9 := hide z9
  have D9 := hide (And.intro v9 (And.intro p9 t9))
  clear z9 v9 p9 t9 hk Z3
  go_wp2_with fail
  refine ret_nod w.heap.size rfl rfl Z9.out rfl ?_
  have hw := C3.out
  subst hw
  exact ⟨_, rfl, D9.out⟩

set_option maxRecDepth 20000 in
set_option maxHeartbeats 1000000 in
theorem stmt_get {w : World} {p : List Addr} {g gT : Nat} {L : List Tk} {i l : Nat} (h : Ps w p g gT L i l) (hx : tx L i = ⟨#[103, 101, 116]⟩) (r : Out) (hr : ∀ w, Ps w p g gT L i l → Calls Tryz.prog 103 #[.pointer (some ⟨g, 0, none⟩), .int .i64 20, .slice (some ⟨w.heap.size, 0, none⟩) 1 1] (w.alloc (.cells #[.func (.func 202) #[.pointer (some ⟨g, 0, none⟩)] #[]] 50)) fun e w' => PostN p g gT L l w e w' r) :
    Calls Tryz.prog 183 #[.pointer (some ⟨g, 0, none⟩)] w fun e w' => PostN p g gT L l w e w' r := by
  have HP := hide h
  have HR := hide hr
  have hb0 := hide (bel_new w nodZ)
  have hz0 := hide (nod_new w)
  have H0 := hide (h.below hb0.out)
  obtain ⟨tk, htk⟩ : ∃ tk, tkAt L i = tk := ⟨_, rfl⟩
  have HK := hide htk
  unfold tx at hx
  rw [htk] at hx
  clear htk h hr
  obtain ⟨kind, text, nn, bits_, pos⟩ := tk
  dsimp only at hx
  subst hx
  have hf1 := tf1 (.int .i64 kind) (.string ⟨#[103, 101, 116]⟩) (.int .i64 nn) (.int .u64 bits_) (.int .i64 pos)
  unfold nodZ at *
  go_enter Tryz.func183, Tryz.ntmps183
  go_wp2_with fail
  generalize w.alloc (.cells #[.int .i64 0, .int .i64 0, .string ⟨#[]⟩, .int .i64 0, .int .i64 0, .int .i64 0, .int .i64 0, .int .u64 0, .slice none 0 0] 27) = w0 at *
  refine (here_any H0.out).mono ?_
  rintro e w1 ⟨he, hb1⟩
  rw [HK.out] at he
  dsimp only [Tk.val] at he
  subst he
  have Z2 := hide ((Zn.start HP.out hb0.out hz0.out).bel hb1)
  clear hb1 hb0 hz0 H0 HP
  go_wp2_with fail
  clear hf1
  have hC := Z2.out.lt
  refine (HR.out _ Z2.out.pr).mono ?_
  intro e w3 hp
  rcases hp.both with ⟨kb, jb, c3, rfl, r2⟩ | ⟨kd, ps, nm, t, nz, z, ob, bi, ks, a, len, ck, j, c3, rfl, hk, r1, r2⟩
  · subst c3
    exact ⟨rfl, rfl, Z2.out.tn.trans r2⟩
  have C3 := hide c3
  have Z3 := hide (Z2.out.call r1 r2)
  clear c3 r1 r2 Z2 HR
  obtain ⟨⟨fz0, fz1, fz2, fz3, fz4, fz5, fz6, fz7, fz8⟩, bz0, bz1, bz2, bz3, bz4, bz5, bz6, bz7, bz8⟩ := Z3.out.zr.all
  obtain ⟨_, rfl, z9, v9, p9, t9⟩ := Z3.out.done (kd := kd) (ps := ps) (nm := nm) (t := t) (nz := nz) (z := z) (ob := ob) (bi := bi) hC hk
  have Z9 := hide z9
  have D9 := hide (And.intro v9 (And.intro p9 t9))
  clear z9 v9 p9 t9 hk Z3
  go_wp2_with fail
  refine ret_nod w.heap.size rfl rfl Z9.out rfl ?_
  have hw := C3.out
  subst hw
  exact ⟨_, rfl, D9.out⟩

set_option maxRecDepth 20000 in
set_option maxHeartbeats 1000000 in
theorem stmt_if {w : World} {p : List Addr} {g gT : Nat} {L : List Tk} {i l : Nat} (h : Ps w p g gT L i l) (hx : tx L i = ⟨#[105, 102]⟩) (r : Out) (hr : ∀ w, Ps w p g gT L i l → Calls Tryz.prog 203 #[.pointer (some ⟨g, 0, none⟩)] w fun e w' => PostN p g gT L l w e w' r) :
    Calls Tryz.prog 183 #[.pointer (some ⟨g, 0, none⟩)] w fun e w' => PostN p g gT L l w e w' r := by
  have HP := hide h
  have HR := hide hr
  have hb0 := hide (bel_new w nodZ)
  have hz0 := hide (nod_new w)
  have H0 := hide (h.below hb0.out)
  obtain ⟨tk, htk⟩ : ∃ tk, tkAt L i = tk := ⟨_, rfl⟩
  have HK := hide htk
  unfold tx at hx
  rw [htk] at hx
  clear htk h hr
  obtain ⟨kind, text, nn, bits_, pos⟩ := tk
  dsimp only at hx
  subst hx
  have hf1 := tf1 (.int .i64 kind) (.string ⟨#[105, 102]⟩) (.int .i64 nn) (.int .u64 bits_) (.int .i64 pos)
  unfold nodZ at *
  go_enter Tryz.func183, Tryz.ntmps183
  go_wp2_with fail
  generalize w.alloc (.cells #[.int .i64 0, .int .i64 0, .string ⟨#[]⟩, .int .i64 0, .int .i64 0, .int .i64 0, .int .i64 0, .int .u64 0, .slice none 0 0] 27) = w0 at *
  refine (here_any H0.out).mono ?_
  rintro e w1 ⟨he, hb1⟩
  rw [HK.out] at he
  dsimp only [Tk.val] at he
  subst he
  have Z2 := hide ((Zn.start HP.out hb0.out hz0.out).bel hb1)
  clear hb1 hb0 hz0 H0 HP
  go_wp2_with fail
  clear hf1
  have hC := Z2.out.lt
  refine (HR.out _ Z2.out.pr).mono ?_
  intro e w3 hp
  rcases hp.both with ⟨kb, jb, c3, rfl, r2⟩ | ⟨kd, ps, nm, t, nz, z, ob, bi, ks, a, len, ck, j, c3, rfl, hk, r1, r2⟩
  · subst c3
    exact ⟨rfl, rfl, Z2.out.tn.trans r2⟩
  have C3 := hide c3
  have Z3 := hide (Z2.out.call r1 r2)
  clear c3 r1 r2 Z2 HR
  obtain ⟨⟨fz0, fz1, fz2, fz3, fz4, fz5, fz6, fz7, fz8⟩, bz0, bz1, bz2, bz3, bz4, bz5, bz6, bz7, bz8⟩ := Z3.out.zr.all
  obtain ⟨_, rfl, z9, v9, p9, t9⟩ := Z3.out.done (kd := kd) (ps := ps) (nm := nm) (t := t) (nz := nz) (z := z) (ob := ob) (bi := bi) hC hk
  have Z9 := hide z9
  have D9 := hide (And.intro v9 (And.intro p9 t9))
  clear z9 v9 p9 t9 hk Z3
  go_wp2_with fail
  refine ret_nod w.heap.size rfl rfl Z9.out rfl ?_
  have hw := C3.out
  subst hw
  exact ⟨_, rfl, D9.out⟩

end Go.Proofs.YtogeblmppagabaaGreatDoor.Ck
