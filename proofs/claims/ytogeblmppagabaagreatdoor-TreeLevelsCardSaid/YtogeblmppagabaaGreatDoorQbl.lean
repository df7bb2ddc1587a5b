/- Texts of this proof, packed: contracts of the program's functions, and the plain model that they are held against. -/
import Derived.Test.YtogeblmppagabaaGreatDoorQba
/- What statements begin with. -/
namespace Go.Proofs.YtogeblmppagabaaGreatDoor.Ck
open Go.RowKit

set_option maxRecDepth 20000 in
set_option maxHeartbeats 1000000 in
theorem stmt_while {w : World} {p : List Addr} {g gT : Nat} {L : List Tk} {i l : Nat} (h : Ps w p g gT L i l) (hx : tx L i = ⟨#[119, 104, 105, 108, 101]⟩) (r : Out) (hr : ∀ w, Ps w p g gT L i l → Calls Tryz.prog 204 #[.pointer (some ⟨g, 0, none⟩)] w fun e w' => PostN p g gT L l w e w' r) :
    Calls Tryz.prog 183 #[.pointer (some ⟨g, 0, none⟩)] w fun e w' => PostN p g gT L l w e w' r := by
  have HP := hide h
  have HR := hide hr
  have hb0 := hide (bel_new w nodZ)
  have hz0 := hide (nod_new w)
  have H0 := hide (h.below hb0.out)
  obtain ⟨tk, htk⟩ : ∃ tk, tkAt L i = tk := ⟨_, rfl⟩
  have HK := hide htk
  unfold tx at hx
  rw [htk] at hx
  clear htk h hr
  obtain ⟨kind, text, nn, bits_, pos⟩ := tk
  dsimp only at hx
  subst hx
  have hf1 := tf1 (.int .i64 kind) (.string ⟨#[119, 104, 105, 108, 101]⟩) (.int .i64 nn) (.int .u64 bits_) (.int .i64 pos)
  unfold nodZ at *
  go_enter Tryz.func183, Tryz.ntmps183
  go_wp2_with fail
  generalize w.alloc (.cells #[.int .i64 0, .int .i64 0, .string ⟨#[]⟩, .int .i64 0, .int .i64 0, .int .i64 0, .int .i64 0, .int .u64 0, .slice none 0 0] 27) = w0 at *
  refine (here_any H0.out).mono ?_
  rintro e w1 ⟨he, hb1⟩
  rw [HK.out] at he
  dsimp only [Tk.val] at he
  subst he
  have Z2 := hide ((Zn.start HP.out hb0.out hz0.out).bel hb1)
  clear hb1 hb0 hz0 H0 HP
  go_wp2_with fail
  clear hf1
  have hC := Z2.out.lt
  refine (HR.out _ Z2.out.pr).mono ?_
  intro e w3 hp
  rcases hp.both with ⟨kb, jb, c3, rfl, r2⟩ | ⟨kd, ps, nm, t, nz, z, ob, bi, ks, a, len, ck, j, c3, rfl, hk, r1, r2⟩
  · subst c3
    exact ⟨rfl, rfl, Z2.out.tn.trans r2⟩
  have C3 := hide c3
  have Z3 := hide (Z2.out.call r1 r2)
  clear c3 r1 r2 Z2 HR
  obtain ⟨⟨fz0, fz1, fz2, fz3, fz4, fz5, fz6, fz7, fz8⟩, bz0, bz1, bz2, bz3, bz4, bz5, bz6, bz7, bz8⟩ := Z3.out.zr.all
  obtain ⟨_, rfl, z9, v9, p9, t9⟩ := Z3.out.done (kd := kd) (ps := ps) (nm := nm) (t := t) (nz := nz) (z := z) (ob := ob) (bi := bi) hC hk
  have Z9 := hide z9
  have D9 := hide (And.intro v9 (And.intro p9 t9))
  clear z9 v9 p9 t9 hk Z3
  go_wp2_with fail
  refine ret_nod w.heap.size rfl rfl Z9.out rfl ?_
  have hw := C3.out
  subst hw
  exact ⟨_, rfl, D9.out⟩

set_option maxRecDepth 20000 in
set_option maxHeartbeats 1000000 in
theorem stmt_return {w : World} {p : List Addr} {g gT : Nat} {L : List Tk} {i l : Nat} (h : Ps w p g gT L i l) (hx : tx L i = ⟨#[114, 101, 116, 117, 114, 110]⟩) (r : Out) (hr : ∀ w, Ps w p g gT L i l → Calls Tryz.prog 205 #[.pointer (some ⟨g, 0, none⟩), .int .i64 23, .slice none 0 0] w fun e w' => PostN p g gT L l w e w' r) :
    Calls Tryz.prog 183 #[.pointer (some ⟨g, 0, none⟩)] w fun e w' => PostN p g gT L l w e w' r := by
  have HP := hide h
  have HR := hide hr
  have hb0 := hide (bel_new w nodZ)
  have hz0 := hide (nod_new w)
  have H0 := hide (h.below hb0.out)
  obtain ⟨tk, htk⟩ : ∃ tk, tkAt L i = tk := ⟨_, rfl⟩
  have HK := hide htk
  unfold tx at hx
  rw [htk] at hx
  clear htk h hr
  obtain ⟨kind, text, nn, bits_, pos⟩ := tk
  dsimp only at hx
  subst hx
  have hf1 := tf1 (.int .i64 kind) (.string ⟨#[114, 101, 116, 117, 114, 110]⟩) (.int .i64 nn) (.int .u64 bits_) (.int .i64 pos)
  unfold nodZ at *
  go_enter Tryz.func183, Tryz.ntmps183
  go_wp2_with fail
  generalize w.alloc (.cells #[.int .i64 0, .int .i64 0, .string ⟨#[]⟩, .int .i64 0, .int .i64 0, .int .i64 0, .int .i64 0, .int .u64 0, .slice none 0 0] 27) = w0 at *
  refine (here_any H0.out).mono ?_
  rintro e w1 ⟨he, hb1⟩
  rw [HK.out] at he
  dsimp only [Tk.val] at he
  subst he
  have Z2 := hide ((Zn.start HP.out hb0.out hz0.out).bel hb1)
  clear hb1 hb0 hz0 H0 HP
  go_wp2_with fail
  clear hf1
  have hC := Z2.out.lt
  refine (HR.out _ Z2.out.pr).mono ?_
  intro e w3 hp
  rcases hp.both with ⟨kb, jb, c3, rfl, r2⟩ | ⟨kd, ps, nm, t, nz, z, ob, bi, ks, a, len, ck, j, c3, rfl, hk, r1, r2⟩
  · subst c3
    exact ⟨rfl, rfl, Z2.out.tn.trans r2⟩
  have C3 := hide c3
  have Z3 := hide (Z2.out.call r1 r2)
  clear c3 r1 r2 Z2 HR
  obtain ⟨⟨fz0, fz1, fz2, fz3, fz4, fz5, fz6, fz7, fz8⟩, bz0, bz1, bz2, bz3, bz4, bz5, bz6, bz7, bz8⟩ := Z3.out.zr.all
  obtain ⟨_, rfl, z9, v9, p9, t9⟩ := Z3.out.done (kd := kd) (ps := ps) (nm := nm) (t := t) (nz := nz) (z := z) (ob := ob) (bi := bi) hC hk
  have Z9 := hide z9
  have D9 := hide (And.intro v9 (And.intro p9 t9))
  clear z9 v9 p9 t9 hk Z3
  go_wp2_with fail
  refine ret_nod w.heap.size rfl rfl Z9.out rfl ?_
  have hw := C3.out
  subst hw
  exact ⟨_, rfl, D9.out⟩

set_option maxRecDepth 20000 in
set_option maxHeartbeats 1000000 in
theorem stmt_fail {w : World} {p : List Addr} {g gT : Nat} {L : List Tk} {i l : Nat} (h : Ps w p g gT L i l) (hx : tx L i = ⟨#[102, 97, 105, 108]⟩) (r : Out) (hr : ∀ w, Ps w p g gT L i l → Calls Tryz.prog 205 #[.pointer (some ⟨g, 0, none⟩), .int .i64 24, .slice (some ⟨w.heap.size, 0, none⟩) 1 1] (w.alloc (.cells #[.func (.func 27) #[.pointer (some ⟨g, 0, none⟩)] #[]] 50)) fun e w' => PostN p g gT L l w e w' r) :
    Calls Tryz.prog 183 #[.pointer (some ⟨g, 0, none⟩)] w fun e w' => PostN p g gT L l w e w' r := by
  have HP := hide h
  have HR := hide hr
  have hb0 := hide (bel_new w nodZ)
  have hz0 := hide (nod_new w)
  have H0 := hide (h.below hb0.out)
  obtain ⟨tk, htk⟩ : ∃ tk, tkAt L i = tk := ⟨_, rfl⟩
  have HK := hide htk
  unfold tx at hx
  rw [htk] at hx
  clear htk h hr
  obtain ⟨kind, text, nn, bits_, pos⟩ := tk
  dsimp only at hx
  subst hx
  have hf1 := tf1 (.int .i64 kind) (.string ⟨#[102, 97, 105, 108]⟩) (.int .i64 nn) (.int .u64 bits_) (.int .i64 pos)
  unfold nodZ at *
  go_enter Tryz.func183, Tryz.ntmps183
  go_wp2_with fail
  generalize w.alloc (.cells #[.int .i64 0, .int .i64 0, .string ⟨#[]⟩, .int .i64 0, .int .i64 0, .int .i64 0, .int .i64 0, .int .u64 0, .slice none 0 0] 27) = w0 at *
  refine (here_any H0.out).mono ?_
  rintro e w1 ⟨he, hb1⟩
  rw [HK.out] at he
  dsimp only [Tk.val] at he
  subst he
  have Z2 := hide ((Zn.start HP.out hb0.out hz0.out).bel hb1)
  clear hb1 hb0 hz0 H0 HP
  go_wp2_with fail
  clear hf1
  have hC := Z2.out.lt
  refine (HR.out _ Z2.out.pr).mono ?_
  intro e w3 hp
  rcases hp.both with ⟨kb, jb, c3, rfl, r2⟩ | ⟨kd, ps, nm, t, nz, z, ob, bi, ks, a, len, ck, j, c3, rfl, hk, r1, r2⟩
  · subst c3
    exact ⟨rfl, rfl, Z2.out.tn.trans r2⟩
  have C3 := hide c3
  have Z3 := hide (Z2.out.call r1 r2)
  clear c3 r1 r2 Z2 HR
  obtain ⟨⟨fz0, fz1, fz2, fz3, fz4, fz5, fz6, fz7, fz8⟩, bz0, bz1, bz2, bz3, bz4, bz5, bz6, bz7, bz8⟩ := Z3.out.zr.all
  obtain ⟨_, rfl, z9, v9, p9, t9⟩ := Z3.out.done (kd := kd) (ps := ps) (nm := nm) (t := t) (nz := nz) (z := z) (ob := ob) (bi := bi) hC hk
  have Z9 := hide z9
  have D9 := hide (And.intro v9 (And.intro p9 t9))
  clear z9 v9 p9 t9 hk Z3
  go_wp2_with fail
  refine ret_nod w.heap.size rfl rfl Z9.out rfl ?_
  have hw := C3.out
  subst hw
  exact ⟨_, rfl, D9.out⟩

set_option maxRecDepth 20000 in
set_option maxHeartbeats 1000000 in
theorem stmt_word {w : World} {p : List Addr} {g gT : Nat} {L : List Tk} {i l : Nat} (h : Ps w p g gT L i l) (hx : ∀ z ∈ ([⟨#[103, 111]⟩, ⟨#[108, 111, 99, 107]⟩, ⟨#[117, 110, 108, 111, 99, 107]⟩, ⟨#[115, 101, 110, 100]⟩, ⟨#[114, 101, 99, 118]⟩, ⟨#[97, 100, 100]⟩, ⟨#[112, 117, 116]⟩, ⟨#[103, 101, 116]⟩, ⟨#[105, 102]⟩, ⟨#[119, 104, 105, 108, 101]⟩, ⟨#[114, 101, 116, 117, 114, 110]⟩, ⟨#[102, 97, 105, 108]⟩] : List ByteArray), ¬ tx L i = z) (r : Out) (hr : ∀ w, Ps w p g gT L i l → Calls Tryz.prog 206 #[.pointer (some ⟨g, 0, none⟩)] w fun e w' => PostN p g gT L l w e w' r) :
    Calls Tryz.prog 183 #[.pointer (some ⟨g, 0, none⟩)] w fun e w' => PostN p g gT L l w e w' r := by
  have HP := hide h
  have HR := hide hr
  have hb0 := hide (bel_new w nodZ)
  have hz0 := hide (nod_new w)
  have H0 := hide (h.below hb0.out)
  obtain ⟨tk, htk⟩ : ∃ tk, tkAt L i = tk := ⟨_, rfl⟩
  have HK := hide htk
  unfold tx at hx
  rw [htk] at hx
  clear htk h hr
  obtain ⟨kind, text, nn, bits_, pos⟩ := tk
  dsimp only at hx
  have hf1 := tf1 (.int .i64 kind) (.string text) (.int .i64 nn) (.int .u64 bits_) (.int .i64 pos)
  have hx0 : (text.toList == [103, 111]) = false := ne_list (hx _ (by simp))
  have hx1 : (text.toList == [108, 111, 99, 107]) = false := ne_list (hx _ (by simp))
  have hx2 : (text.toList == [117, 110, 108, 111, 99, 107]) = false := ne_list (hx _ (by simp))
  have hx3 : (text.toList == [115, 101, 110, 100]) = false := ne_list (hx _ (by simp))
  have hx4 : (text.toList == [114, 101, 99, 118]) = false := ne_list (hx _ (by simp))
  have hx5 : (text.toList == [97, 100, 100]) = false := ne_list (hx _ (by simp))
  have hx6 : (text.toList == [112, 117, 116]) = false := ne_list (hx _ (by simp))
  have hx7 : (text.toList == [103, 101, 116]) = false := ne_list (hx _ (by simp))
  have hx8 : (text.toList == [105, 102]) = false := ne_list (hx _ (by simp))
  have hx9 : (text.toList == [119, 104, 105, 108, 101]) = false := ne_list (hx _ (by simp))
  have hx10 : (text.toList == [114, 101, 116, 117, 114, 110]) = false := ne_list (hx _ (by simp))
  have hx11 : (text.toList == [102, 97, 105, 108]) = false := ne_list (hx _ (by simp))
  clear hx
  unfold nodZ at *
  go_enter Tryz.func183, Tryz.ntmps183
  go_wp2_with fail
  generalize w.alloc (.cells #[.int .i64 0, .int .i64 0, .string ⟨#[]⟩, .int .i64 0, .int .i64 0, .int .i64 0, .int .i64 0, .int .u64 0, .slice none 0 0] 27) = w0 at *
  refine (here_any H0.out).mono ?_
  rintro e w1 ⟨he, hb1⟩
  rw [HK.out] at he
  dsimp only [Tk.val] at he
  subst he
  have Z2 := hide ((Zn.start HP.out hb0.out hz0.out).bel hb1)
  clear hb1 hb0 hz0 H0 HP
  go_wp2_with fail
  clear hf1
  have hC := Z2.out.lt
  refine (HR.out _ Z2.out.pr).mono ?_
  intro e w3 hp
  rcases hp.both with ⟨kb, jb, c3, rfl, r2⟩ | ⟨kd, ps, nm, t, nz, z, ob, bi, ks, a, len, ck, j, c3, rfl, hk, r1, r2⟩
  · subst c3
    exact ⟨rfl, rfl, Z2.out.tn.trans r2⟩
  have C3 := hide c3
  have Z3 := hide (Z2.out.call r1 r2)
  clear c3 r1 r2 Z2 HR
  obtain ⟨⟨fz0, fz1, fz2, fz3, fz4, fz5, fz6, fz7, fz8⟩, bz0, bz1, bz2, bz3, bz4, bz5, bz6, bz7, bz8⟩ := Z3.out.zr.all
  obtain ⟨_, rfl, z9, v9, p9, t9⟩ := Z3.out.done (kd := kd) (ps := ps) (nm := nm) (t := t) (nz := nz) (z := z) (ob := ob) (bi := bi) hC hk
  have Z9 := hide z9
  have D9 := hide (And.intro v9 (And.intro p9 t9))
  clear z9 v9 p9 t9 hk Z3
  go_wp2_with fail
  refine ret_nod w.heap.size rfl rfl Z9.out rfl ?_
  have hw := C3.out
  subst hw
  exact ⟨_, rfl, D9.out⟩

end Go.Proofs.YtogeblmppagabaaGreatDoor.Ck

/- What declarations begin with. -/
namespace Go.Proofs.YtogeblmppagabaaGreatDoor.Ck
open Go.RowKit

set_option maxRecDepth 20000 in
set_option maxHeartbeats 1000000 in
theorem decl_var {w : World} {p : List Addr} {g gT : Nat} {L : List Tk} {i l : Nat} (h : Ps w p g gT L i l) (hx : tx L i = ⟨#[118, 97, 114]⟩) (r : Out) (hr : ∀ w, Ps w p g gT L i l → Calls Tryz.prog 102 #[.pointer (some ⟨g, 0, none⟩)] w fun e w' => PostN p g gT L l w e w' r) :
    Calls Tryz.prog 75 #[.pointer (some ⟨g, 0, none⟩)] w fun e w' => PostN p g gT L l w e w' r := by
  have HP := hide h
  have HR := hide hr
  have hb0 := hide (bel_new w nodZ)
  have hz0 := hide (nod_new w)
  have H0 := hide (h.below hb0.out)
  obtain ⟨tk, htk⟩ : ∃ tk, tkAt L i = tk := ⟨_, rfl⟩
  have HK := hide htk
  unfold tx at hx
  rw [htk] at hx
  clear htk h hr
  obtain ⟨kind, text, nn, bits_, pos⟩ := tk
  dsimp only at hx
  subst hx
  have hf1 := tf1 (.int .i64 kind) (.string ⟨#[118, 97, 114]⟩) (.int .i64 nn) (.int .u64 bits_) (.int .i64 pos)
  unfold nodZ at *
  go_enter Tryz.func75, Tryz.ntmps75
  go_wp2_with fail
  generalize w.alloc (.cells #[.int .i64 0, .int .i64 0, .string ⟨#[]⟩, .int .i64 0, .int .i64 0, .int .i64 0, .int .i64 0, .int .u64 0, .slice none 0 0] 27) = w0 at *
  refine (here_any H0.out).mono ?_
  rintro e w1 ⟨he, hb1⟩
  rw [HK.out] at he
  dsimp only [Tk.val] at he
  subst he
  have Z2 := hide ((Zn.start HP.out hb0.out hz0.out).bel hb1)
  clear hb1 hb0 hz0 H0 HP
  go_wp2_with fail
  clear hf1
  have hC := Z2.out.lt
  refine (HR.out _ Z2.out.pr).mono ?_
  intro e w3 hp
  rcases hp.both with ⟨kb, jb, c3, rfl, r2⟩ | ⟨kd, ps, nm, t, nz, z, ob, bi, ks, a, len, ck, j, c3, rfl, hk, r1, r2⟩
  · subst c3
    exact ⟨rfl, rfl, Z2.out.tn.trans r2⟩
  have C3 := hide c3
  have Z3 := hide (Z2.out.call r1 r2)
  clear c3 r1 r2 Z2 HR
  obtain ⟨⟨fz0, fz1, fz2, fz3, fz4, fz5, fz6, fz7, fz8⟩, bz0, bz1, bz2, bz3, bz4, bz5, bz6, bz7, bz8⟩ := Z3.out.zr.all
  obtain ⟨_, rfl, z9, v9, p9, t9⟩ := Z3.out.done (kd := kd) (ps := ps) (nm := nm) (t := t) (nz := nz) (z := z) (ob := ob) (bi := bi) hC hk
  have Z9 := hide z9
  have D9 := hide (And.intro v9 (And.intro p9 t9))
  clear z9 v9 p9 t9 hk Z3
  go_wp2_with fail
  refine ret_nod w.heap.size rfl rfl Z9.out rfl ?_
  have hw := C3.out
  subst hw
  exact ⟨_, rfl, D9.out⟩

set_option maxRecDepth 20000 in
set_option maxHeartbeats 1000000 in
theorem decl_mutex {w : World} {p : List Addr} {g gT : Nat} {L : List Tk} {i l : Nat} (h : Ps w p g gT L i l) (hx : tx L i = ⟨#[109, 117, 116, 101, 120]⟩) (r : Out) (hr : ∀ w, Ps w p g gT L i l → Calls Tryz.prog 103 #[.pointer (some ⟨g, 0, none⟩), .int .i64 4, .slice none 0 0] w fun e w' => PostN p g gT L l w e w' r) :
    Calls Tryz.prog 75 #[.pointer (some ⟨g, 0, none⟩)] w fun e w' => PostN p g gT L l w e w' r := by
  have HP := hide h
  have HR := hide hr
  have hb0 := hide (bel_new w nodZ)
  have hz0 := hide (nod_new w)
  have H0 := hide (h.below hb0.out)
  obtain ⟨tk, htk⟩ : ∃ tk, tkAt L i = tk := ⟨_, rfl⟩
  have HK := hide htk
  unfold tx at hx
  rw [htk] at hx
  clear htk h hr
  obtain ⟨kind, text, nn, bits_, pos⟩ := tk
  dsimp only at hx
  subst hx
  have hf1 := tf1 (.int .i64 kind) (.string ⟨#[109, 117, 116, 101, 120]⟩) (.int .i64 nn) (.int .u64 bits_) (.int .i64 pos)
  unfold nodZ at *
  go_enter Tryz.func75, Tryz.ntmps75
  go_wp2_with fail
  generalize w.alloc (.cells #[.int .i64 0, .int .i64 0, .string ⟨#[]⟩, .int .i64 0, .int .i64 0, .int .i64 0, .int .i64 0, .int .u64 0, .slice none 0 0] 27) = w0 at *
  refine (here_any H0.out).mono ?_
  rintro e w1 ⟨he, hb1⟩
  rw [HK.out] at he
  dsimp only [Tk.val] at he
  subst he
  have Z2 := hide ((Zn.start HP.out hb0.out hz0.out).bel hb1)
  clear hb1 hb0 hz0 H0 HP
  go_wp2_with fail
  clear hf1
  have hC := Z2.out.lt
  refine (HR.out _ Z2.out.pr).mono ?_
  intro e w3 hp
  rcases hp.both with ⟨kb, jb, c3, rfl, r2⟩ | ⟨kd, ps, nm, t, nz, z, ob, bi, ks, a, len, ck, j, c3, rfl, hk, r1, r2⟩
  · subst c3
    exact ⟨rfl, rfl, Z2.out.tn.trans r2⟩
  have C3 := hide c3
  have Z3 := hide (Z2.out.call r1 r2)
  clear c3 r1 r2 Z2 HR
  obtain ⟨⟨fz0, fz1, fz2, fz3, fz4, fz5, fz6, fz7, fz8⟩, bz0, bz1, bz2, bz3, bz4, bz5, bz6, bz7, bz8⟩ := Z3.out.zr.all
  obtain ⟨_, rfl, z9, v9, p9, t9⟩ := Z3.out.done (kd := kd) (ps := ps) (nm := nm) (t := t) (nz := nz) (z := z) (ob := ob) (bi := bi) hC hk
  have Z9 := hide z9
  have D9 := hide (And.intro v9 (And.intro p9 t9))
  clear z9 v9 p9 t9 hk Z3
  go_wp2_with fail
  refine ret_nod w.heap.size rfl rfl Z9.out rfl ?_
  have hw := C3.out
  subst hw
  exact ⟨_, rfl, D9.out⟩

set_option maxRecDepth 20000 in
set_option maxHeartbeats 1000000 in
theorem decl_chan {w : World} {p : List Addr} {g gT : Nat} {L : List Tk} {i l : Nat} (h : Ps w p g gT L i l) (hx : tx L i = ⟨#[99, 104, 97, 110]⟩) (r : Out) (hr : ∀ w, Ps w p g gT L i l → Calls Tryz.prog 104 #[.pointer (some ⟨g, 0, none⟩)] w fun e w' => PostN p g gT L l w e w' r) :
    Calls Tryz.prog 75 #[.pointer (some ⟨g, 0, none⟩)] w fun e w' => PostN p g gT L l w e w' r := by
  have HP := hide h
  have HR := hide hr
  have hb0 := hide (bel_new w nodZ)
  have hz0 := hide (nod_new w)
  have H0 := hide (h.below hb0.out)
  obtain ⟨tk, htk⟩ : ∃ tk, tkAt L i = tk := ⟨_, rfl⟩
  have HK := hide htk
  unfold tx at hx
  rw [htk] at hx
  clear htk h hr
  obtain ⟨kind, text, nn, bits_, pos⟩ := tk
  dsimp only at hx
  subst hx
  have hf1 := tf1 (.int .i64 kind) (.string ⟨#[99, 104, 97, 110]⟩) (.int .i64 nn) (.int .u64 bits_) (.int .i64 pos)
  unfold nodZ at *
  go_enter Tryz.func75, Tryz.ntmps75
  go_wp2_with fail
  generalize w.alloc (.cells #[.int .i64 0, .int .i64 0, .string ⟨#[]⟩, .int .i64 0, .int .i64 0, .int .i64 0, .int .i64 0, .int .u64 0, .slice none 0 0] 27) = w0 at *
  refine (here_any H0.out).mono ?_
  rintro e w1 ⟨he, hb1⟩
  rw [HK.out] at he
  dsimp only [Tk.val] at he
  subst he
  have Z2 := hide ((Zn.start HP.out hb0.out hz0.out).bel hb1)
  clear hb1 hb0 hz0 H0 HP
  go_wp2_with fail
  clear hf1
  have hC := Z2.out.lt
  refine (HR.out _ Z2.out.pr).mono ?_
  intro e w3 hp
  rcases hp.both with ⟨kb, jb, c3, rfl, r2⟩ | ⟨kd, ps, nm, t, nz, z, ob, bi, ks, a, len, ck, j, c3, rfl, hk, r1, r2⟩
  · subst c3
    exact ⟨rfl, rfl, Z2.out.tn.trans r2⟩
  have C3 := hide c3
  have Z3 := hide (Z2.out.call r1 r2)
  clear c3 r1 r2 Z2 HR
  obtain ⟨⟨fz0, fz1, fz2, fz3, fz4, fz5, fz6, fz7, fz8⟩, bz0, bz1, bz2, bz3, bz4, bz5, bz6, bz7, bz8⟩ := Z3.out.zr.all
  obtain ⟨_, rfl, z9, v9, p9, t9⟩ := Z3.out.done (kd := kd) (ps := ps) (nm := nm) (t := t) (nz := nz) (z := z) (ob := ob) (bi := bi) hC hk
  have Z9 := hide z9
  have D9 := hide (And.intro v9 (And.intro p9 t9))
  clear z9 v9 p9 t9 hk Z3
  go_wp2_with fail
  refine ret_nod w.heap.size rfl rfl Z9.out rfl ?_
  have hw := C3.out
  subst hw
  exact ⟨_, rfl, D9.out⟩

set_option maxRecDepth 20000 in
set_option maxHeartbeats 1000000 in
theorem decl_atomic {w : World} {p : List Addr} {g gT : Nat} {L : List Tk} {i l : Nat} (h : Ps w p g gT L i l) (hx : tx L i = ⟨#[97, 116, 111, 109, 105, 99]⟩) (r : Out) (hr : ∀ w, Ps w p g gT L i l → Calls Tryz.prog 103 #[.pointer (some ⟨g, 0, none⟩), .int .i64 6, .slice none 0 0] w fun e w' => PostN p g gT L l w e w' r) :
    Calls Tryz.prog 75 #[.pointer (some ⟨g, 0, none⟩)] w fun e w' => PostN p g gT L l w e w' r := by
  have HP := hide h
  have HR := hide hr
  have hb0 := hide (bel_new w nodZ)
  have hz0 := hide (nod_new w)
  have H0 := hide (h.below hb0.out)
  obtain ⟨tk, htk⟩ : ∃ tk, tkAt L i = tk := ⟨_, rfl⟩
  have HK := hide htk
  unfold tx at hx
  rw [htk] at hx
  clear htk h hr
  obtain ⟨kind, text, nn, bits_, pos⟩ := tk
  dsimp only at hx
  subst hx
  have hf1 := tf1 (.int .i64 kind) (.string ⟨#[97, 116, 111, 109, 105, 99]⟩) (.int .i64 nn) (.int .u64 bits_) (.int .i64 pos)
  unfold nodZ at *
  go_enter Tryz.func75, Tryz.ntmps75
  go_wp2_with fail
  generalize w.alloc (.cells #[.int .i64 0, .int .i64 0, .string ⟨#[]⟩, .int .i64 0, .int .i64 0, .int .i64 0, .int .i64 0, .int .u64 0, .slice none 0 0] 27) = w0 at *
  refine (here_any H0.out).mono ?_
  rintro e w1 ⟨he, hb1⟩
  rw [HK.out] at he
  dsimp only [Tk.val] at he
  subst he
  have Z2 := hide ((Zn.start HP.out hb0.out hz0.out).bel hb1)
  clear hb1 hb0 hz0 H0 HP
  go_wp2_with fail
  clear hf1
  have hC := Z2.out.lt
  refine (HR.out _ Z2.out.pr).mono ?_
  intro e w3 hp
  rcases hp.both with ⟨kb, jb, c3, rfl, r2⟩ | ⟨kd, ps, nm, t, nz, z, ob, bi, ks, a, len, ck, j, c3, rfl, hk, r1, r2⟩
  · subst c3
    exact ⟨rfl, rfl, Z2.out.tn.trans r2⟩
  have C3 := hide c3
  have Z3 := hide (Z2.out.call r1 r2)
  clear c3 r1 r2 Z2 HR
  obtain ⟨⟨fz0, fz1, fz2, fz3, fz4, fz5, fz6, fz7, fz8⟩, bz0, bz1, bz2, bz3, bz4, bz5, bz6, bz7, bz8⟩ := Z3.out.zr.all
  obtain ⟨_, rfl, z9, v9, p9, t9⟩ := Z3.out.done (kd := kd) (ps := ps) (nm := nm) (t := t) (nz := nz) (z := z) (ob := ob) (bi := bi) hC hk
  have Z9 := hide z9
  have D9 := hide (And.intro v9 (And.intro p9 t9))
  clear z9 v9 p9 t9 hk Z3
  go_wp2_with fail
  refine ret_nod w.heap.size rfl rfl Z9.out rfl ?_
  have hw := C3.out
  subst hw
  exact ⟨_, rfl, D9.out⟩

set_option maxRecDepth 20000 in
set_option maxHeartbeats 1000000 in
theorem decl_func {w : World} {p : List Addr} {g gT : Nat} {L : List Tk} {i l : Nat} (h : Ps w p g gT L i l) (hx : ∀ z ∈ ([⟨#[118, 97, 114]⟩, ⟨#[109, 117, 116, 101, 120]⟩, ⟨#[99, 104, 97, 110]⟩, ⟨#[97, 116, 111, 109, 105, 99]⟩] : List ByteArray), ¬ tx L i = z) (r : Out) (hr : ∀ w, Ps w p g gT L i l → Calls Tryz.prog 105 #[.pointer (some ⟨g, 0, none⟩)] w fun e w' => PostN p g gT L l w e w' r) :
    Calls Tryz.prog 75 #[.pointer (some ⟨g, 0, none⟩)] w fun e w' => PostN p g gT L l w e w' r := by
  have HP := hide h
  have HR := hide hr
  have hb0 := hide (bel_new w nodZ)
  have hz0 := hide (nod_new w)
  have H0 := hide (h.below hb0.out)
  obtain ⟨tk, htk⟩ : ∃ tk, tkAt L i = tk := ⟨_, rfl⟩
  have HK := hide htk
  unfold tx at hx
  rw [htk] at hx
  clear htk h hr
  obtain ⟨kind, text, nn, bits_, pos⟩ := tk
  dsimp only at hx
  have hf1 := tf1 (.int .i64 kind) (.string text) (.int .i64 nn) (.int .u64 bits_) (.int .i64 pos)
  have hx0 : (text.toList == [118, 97, 114]) = false := ne_list (hx _ (by simp))
  have hx1 : (text.toList == [109, 117, 116, 101, 120]) = false := ne_list (hx _ (by simp))
  have hx2 : (text.toList == [99, 104, 97, 110]) = false := ne_list (hx _ (by simp))
  have hx3 : (text.toList == [97, 116, 111, 109, 105, 99]) = false := ne_list (hx _ (by simp))
  clear hx
  unfold nodZ at *
  go_enter Tryz.func75, Tryz.ntmps75
  go_wp2_with fail
  generalize w.alloc (.cells #[.int .i64 0, .int .i64 0, .string ⟨#[]⟩, .int .i64 0, .int .i64 0, .int .i64 0, .int .i64 0, .int .u64 0, .slice none 0 0] 27) = w0 at *
  refine (here_any H0.out).mono ?_
  rintro e w1 ⟨he, hb1⟩
  rw [HK.out] at he
  dsimp only [Tk.val] at he
  subst he
  have Z2 := hide ((Zn.start HP.out hb0.out hz0.out).bel hb1)
  clear hb1 hb0 hz0 H0 HP
  go_wp2_with fail
  clear hf1
  have hC := Z2.out.lt
  refine (HR.out _ Z2.out.pr).mono ?_
  intro e w3 hp
  rcases hp.both with ⟨kb, jb, c3, rfl, r2⟩ | ⟨kd, ps, nm, t, nz, z, ob, bi, ks, a, len, ck, j, c3, rfl, hk, r1, r2⟩
  · subst c3
    exact ⟨rfl, rfl, Z2.out.tn.trans r2⟩
  have C3 := hide c3
  have Z3 := hide (Z2.out.call r1 r2)
  clear c3 r1 r2 Z2 HR
  obtain ⟨⟨fz0, fz1, fz2, fz3, fz4, fz5, fz6, fz7, fz8⟩, bz0, bz1, bz2, bz3, bz4, bz5, bz6, bz7, bz8⟩ := Z3.out.zr.all
  obtain ⟨_, rfl, z9, v9, p9, t9⟩ := Z3.out.done (kd := kd) (ps := ps) (nm := nm) (t := t) (nz := nz) (z := z) (ob := ob) (bi := bi) hC hk
  have Z9 := hide z9
  have D9 := hide (And.intro v9 (And.intro p9 t9))
  clear z9 v9 p9 t9 hk Z3
  go_wp2_with fail
  refine ret_nod w.heap.size rfl rfl Z9.out rfl ?_
  have hw := C3.out
  subst hw
  exact ⟨_, rfl, D9.out⟩

end Go.Proofs.YtogeblmppagabaaGreatDoor.Ck
