/- Texts of this proof, packed: contracts of the program's functions, and the plain model that they are held against. -/
import Derived.Test.YtfnplhfjfolojaaGreatDoorQai
import Derived.Deep.RegionHeld
set_option maxRecDepth 20000
set_option maxHeartbeats 4000000
namespace Go.Proofs.YtfnplhfjfolojaaGreatDoor.Ck
open Go.RowKit
theorem stmt_add {w : World} {p : List Addr} {g gT : Nat} {L : List Tk} {i l : Nat} (h : Ps w p g gT L i l) (hx : tx L i = ⟨#[97, 100, 100]⟩) (r : Out) (hr : ∀ w, Ps w p g gT L i l -> Calls Tryz.prog 76 #[.pointer (some ⟨g, 0, none⟩), .int .i64 18, .slice (some ⟨w.heap.size, 0, none⟩) 1 1] (w.alloc (.cells #[.func (.func 32) #[.pointer (some ⟨g, 0, none⟩)] #[]] 68)) fun e w' => Zo p g gT L l w e w' r) :
 Calls Tryz.prog 201 #[.pointer (some ⟨g, 0, none⟩)] w fun e w' => Zo p g gT L l w e w' r := by
 have HP := Zb h
 have HR := Zb hr
 have hb0 := Zb (Zd w Zh)
 have hz0 := Zb (ZG w)
 have H0 := Zb (h.below hb0.out)
 obtain ⟨tk, htk⟩ : ∃ tk, Zk L i = tk := ⟨_, rfl⟩
 have HK := Zb htk
 unfold tx at hx
 rw [htk] at hx
 clear htk h hr
 obtain ⟨kind, text, nn, bits_, pos⟩ := tk
 dsimp only at hx
 subst hx
 have hf1 := tf1 (.int .i64 kind) (.string ⟨#[97, 100, 100]⟩) (.int .i64 nn) (.int .u64 bits_) (.int .i64 pos)
 unfold Zh at *
 go_enter Tryz.func201, Tryz.ntmps201
 go_wp2_with fail
 generalize w.alloc _ = w0 at *
 refine (Zp H0.out).mono ?_
 rintro e w1 ⟨he, hb1⟩
 rw [HK.out] at he
 dsimp only [Tk.val] at he
 subst he
 have Z2 := Zb ((Zn.start HP.out hb0.out hz0.out).bel hb1)
 clear hb1 hb0 hz0 H0 HP
 go_wp2_with fail
 clear hf1
 have hC := Z2.out.lt
 refine (HR.out _ Z2.out.pr).mono ?_
 intro e w3 hp
 rcases hp.both with ⟨kb, jb, c3, rfl, r2⟩ | ⟨kd, ps, nm, t, nz, z, ob, bi, ks, a, len, ck, j, c3, rfl, hk, r1, r2⟩
 · subst c3
   exact ⟨rfl, rfl, Z2.out.tn.trans r2⟩
 have C3 := Zb c3
 have Z3 := Zb (Z2.out.call r1 r2)
 clear c3 r1 r2 Z2 HR
 obtain ⟨⟨fz0, fz1, fz2, fz3, fz4, fz5, fz6, fz7, fz8⟩, bz0, bz1, bz2, bz3, bz4, bz5, bz6, bz7, bz8⟩ := Z3.out.zr.all
 obtain ⟨_, rfl, z9, v9, p9, t9⟩ := Z3.out.done (kd := kd) (ps := ps) (nm := nm) (t := t) (nz := nz) (z := z) (ob := ob) (bi := bi) hC hk
 have Z9 := Zb z9
 have D9 := Zb (And.intro v9 (And.intro p9 t9))
 clear z9 v9 p9 t9 hk Z3
 go_wp2_with fail
 refine Zg w.heap.size rfl rfl Z9.out rfl ?_
 have hw := C3.out
 subst hw
 exact ⟨_, rfl, D9.out⟩
theorem stmt_put {w : World} {p : List Addr} {g gT : Nat} {L : List Tk} {i l : Nat} (h : Ps w p g gT L i l) (hx : tx L i = ⟨#[112, 117, 116]⟩) (r : Out) (hr : ∀ w, Ps w p g gT L i l -> Calls Tryz.prog 76 #[.pointer (some ⟨g, 0, none⟩), .int .i64 19, .slice (some ⟨w.heap.size, 0, none⟩) 1 1] (w.alloc (.cells #[.func (.func 32) #[.pointer (some ⟨g, 0, none⟩)] #[]] 68)) fun e w' => Zo p g gT L l w e w' r) :
 Calls Tryz.prog 201 #[.pointer (some ⟨g, 0, none⟩)] w fun e w' => Zo p g gT L l w e w' r := by
 have HP := Zb h
 have HR := Zb hr
 have hb0 := Zb (Zd w Zh)
 have hz0 := Zb (ZG w)
 have H0 := Zb (h.below hb0.out)
 obtain ⟨tk, htk⟩ : ∃ tk, Zk L i = tk := ⟨_, rfl⟩
 have HK := Zb htk
 unfold tx at hx
 rw [htk] at hx
 clear htk h hr
 obtain ⟨kind, text, nn, bits_, pos⟩ := tk
 dsimp only at hx
 subst hx
 have hf1 := tf1 (.int .i64 kind) (.string ⟨#[112, 117, 116]⟩) (.int .i64 nn) (.int .u64 bits_) (.int .i64 pos)
 unfold Zh at *
 go_enter Tryz.func201, Tryz.ntmps201
 go_wp2_with fail
 generalize w.alloc _ = w0 at *
 refine (Zp H0.out).mono ?_
 rintro e w1 ⟨he, hb1⟩
 rw [HK.out] at he
 dsimp only [Tk.val] at he
 subst he
 have Z2 := Zb ((Zn.start HP.out hb0.out hz0.out).bel hb1)
 clear hb1 hb0 hz0 H0 HP
 go_wp2_with fail
 clear hf1
 have hC := Z2.out.lt
 refine (HR.out _ Z2.out.pr).mono ?_
 intro e w3 hp
 rcases hp.both with ⟨kb, jb, c3, rfl, r2⟩ | ⟨kd, ps, nm, t, nz, z, ob, bi, ks, a, len, ck, j, c3, rfl, hk, r1, r2⟩
 · subst c3
   exact ⟨rfl, rfl, Z2.out.tn.trans r2⟩
 have C3 := Zb c3
 have Z3 := Zb (Z2.out.call r1 r2)
 clear c3 r1 r2 Z2 HR
 obtain ⟨⟨fz0, fz1, fz2, fz3, fz4, fz5, fz6, fz7, fz8⟩, bz0, bz1, bz2, bz3, bz4, bz5, bz6, bz7, bz8⟩ := Z3.out.zr.all
 obtain ⟨_, rfl, z9, v9, p9, t9⟩ := Z3.out.done (kd := kd) (ps := ps) (nm := nm) (t := t) (nz := nz) (z := z) (ob := ob) (bi := bi) hC hk
 have Z9 := Zb z9
 have D9 := Zb (And.intro v9 (And.intro p9 t9))
 clear z9 v9 p9 t9 hk Z3
 go_wp2_with fail
 refine Zg w.heap.size rfl rfl Z9.out rfl ?_
 have hw := C3.out
 subst hw
 exact ⟨_, rfl, D9.out⟩
theorem stmt_get {w : World} {p : List Addr} {g gT : Nat} {L : List Tk} {i l : Nat} (h : Ps w p g gT L i l) (hx : tx L i = ⟨#[103, 101, 116]⟩) (r : Out) (hr : ∀ w, Ps w p g gT L i l -> Calls Tryz.prog 76 #[.pointer (some ⟨g, 0, none⟩), .int .i64 20, .slice (some ⟨w.heap.size, 0, none⟩) 1 1] (w.alloc (.cells #[.func (.func 221) #[.pointer (some ⟨g, 0, none⟩)] #[]] 68)) fun e w' => Zo p g gT L l w e w' r) :
 Calls Tryz.prog 201 #[.pointer (some ⟨g, 0, none⟩)] w fun e w' => Zo p g gT L l w e w' r := by
 have HP := Zb h
 have HR := Zb hr
 have hb0 := Zb (Zd w Zh)
 have hz0 := Zb (ZG w)
 have H0 := Zb (h.below hb0.out)
 obtain ⟨tk, htk⟩ : ∃ tk, Zk L i = tk := ⟨_, rfl⟩
 have HK := Zb htk
 unfold tx at hx
 rw [htk] at hx
 clear htk h hr
 obtain ⟨kind, text, nn, bits_, pos⟩ := tk
 dsimp only at hx
 subst hx
 have hf1 := tf1 (.int .i64 kind) (.string ⟨#[103, 101, 116]⟩) (.int .i64 nn) (.int .u64 bits_) (.int .i64 pos)
 unfold Zh at *
 go_enter Tryz.func201, Tryz.ntmps201
 go_wp2_with fail
 generalize w.alloc _ = w0 at *
 refine (Zp H0.out).mono ?_
 rintro e w1 ⟨he, hb1⟩
 rw [HK.out] at he
 dsimp only [Tk.val] at he
 subst he
 have Z2 := Zb ((Zn.start HP.out hb0.out hz0.out).bel hb1)
 clear hb1 hb0 hz0 H0 HP
 go_wp2_with fail
 clear hf1
 have hC := Z2.out.lt
 refine (HR.out _ Z2.out.pr).mono ?_
 intro e w3 hp
 rcases hp.both with ⟨kb, jb, c3, rfl, r2⟩ | ⟨kd, ps, nm, t, nz, z, ob, bi, ks, a, len, ck, j, c3, rfl, hk, r1, r2⟩
 · subst c3
   exact ⟨rfl, rfl, Z2.out.tn.trans r2⟩
 have C3 := Zb c3
 have Z3 := Zb (Z2.out.call r1 r2)
 clear c3 r1 r2 Z2 HR
 obtain ⟨⟨fz0, fz1, fz2, fz3, fz4, fz5, fz6, fz7, fz8⟩, bz0, bz1, bz2, bz3, bz4, bz5, bz6, bz7, bz8⟩ := Z3.out.zr.all
 obtain ⟨_, rfl, z9, v9, p9, t9⟩ := Z3.out.done (kd := kd) (ps := ps) (nm := nm) (t := t) (nz := nz) (z := z) (ob := ob) (bi := bi) hC hk
 have Z9 := Zb z9
 have D9 := Zb (And.intro v9 (And.intro p9 t9))
 clear z9 v9 p9 t9 hk Z3
 go_wp2_with fail
 refine Zg w.heap.size rfl rfl Z9.out rfl ?_
 have hw := C3.out
 subst hw
 exact ⟨_, rfl, D9.out⟩
theorem stmt_if {w : World} {p : List Addr} {g gT : Nat} {L : List Tk} {i l : Nat} (h : Ps w p g gT L i l) (hx : tx L i = ⟨#[105, 102]⟩) (r : Out) (hr : ∀ w, Ps w p g gT L i l -> Calls Tryz.prog 222 #[.pointer (some ⟨g, 0, none⟩)] w fun e w' => Zo p g gT L l w e w' r) :
 Calls Tryz.prog 201 #[.pointer (some ⟨g, 0, none⟩)] w fun e w' => Zo p g gT L l w e w' r := by
 have HP := Zb h
 have HR := Zb hr
 have hb0 := Zb (Zd w Zh)
 have hz0 := Zb (ZG w)
 have H0 := Zb (h.below hb0.out)
 obtain ⟨tk, htk⟩ : ∃ tk, Zk L i = tk := ⟨_, rfl⟩
 have HK := Zb htk
 unfold tx at hx
 rw [htk] at hx
 clear htk h hr
 obtain ⟨kind, text, nn, bits_, pos⟩ := tk
 dsimp only at hx
 subst hx
 have hf1 := tf1 (.int .i64 kind) (.string ⟨#[105, 102]⟩) (.int .i64 nn) (.int .u64 bits_) (.int .i64 pos)
 unfold Zh at *
 go_enter Tryz.func201, Tryz.ntmps201
 go_wp2_with fail
 generalize w.alloc _ = w0 at *
 refine (Zp H0.out).mono ?_
 rintro e w1 ⟨he, hb1⟩
 rw [HK.out] at he
 dsimp only [Tk.val] at he
 subst he
 have Z2 := Zb ((Zn.start HP.out hb0.out hz0.out).bel hb1)
 clear hb1 hb0 hz0 H0 HP
 go_wp2_with fail
 clear hf1
 have hC := Z2.out.lt
 refine (HR.out _ Z2.out.pr).mono ?_
 intro e w3 hp
 rcases hp.both with ⟨kb, jb, c3, rfl, r2⟩ | ⟨kd, ps, nm, t, nz, z, ob, bi, ks, a, len, ck, j, c3, rfl, hk, r1, r2⟩
 · subst c3
   exact ⟨rfl, rfl, Z2.out.tn.trans r2⟩
 have C3 := Zb c3
 have Z3 := Zb (Z2.out.call r1 r2)
 clear c3 r1 r2 Z2 HR
 obtain ⟨⟨fz0, fz1, fz2, fz3, fz4, fz5, fz6, fz7, fz8⟩, bz0, bz1, bz2, bz3, bz4, bz5, bz6, bz7, bz8⟩ := Z3.out.zr.all
 obtain ⟨_, rfl, z9, v9, p9, t9⟩ := Z3.out.done (kd := kd) (ps := ps) (nm := nm) (t := t) (nz := nz) (z := z) (ob := ob) (bi := bi) hC hk
 have Z9 := Zb z9
 have D9 := Zb (And.intro v9 (And.intro p9 t9))
 clear z9 v9 p9 t9 hk Z3
 go_wp2_with fail
 refine Zg w.heap.size rfl rfl Z9.out rfl ?_
 have hw := C3.out
 subst hw
 exact ⟨_, rfl, D9.out⟩
theorem stmt_while {w : World} {p : List Addr} {g gT : Nat} {L : List Tk} {i l : Nat} (h : Ps w p g gT L i l) (hx : tx L i = ⟨#[119, 104, 105, 108, 101]⟩) (r : Out) (hr : ∀ w, Ps w p g gT L i l -> Calls Tryz.prog 223 #[.pointer (some ⟨g, 0, none⟩)] w fun e w' => Zo p g gT L l w e w' r) :
 Calls Tryz.prog 201 #[.pointer (some ⟨g, 0, none⟩)] w fun e w' => Zo p g gT L l w e w' r := by
 have HP := Zb h
 have HR := Zb hr
 have hb0 := Zb (Zd w Zh)
 have hz0 := Zb (ZG w)
 have H0 := Zb (h.below hb0.out)
 obtain ⟨tk, htk⟩ : ∃ tk, Zk L i = tk := ⟨_, rfl⟩
 have HK := Zb htk
 unfold tx at hx
 rw [htk] at hx
 clear htk h hr
 obtain ⟨kind, text, nn, bits_, pos⟩ := tk
 dsimp only at hx
 subst hx
 have hf1 := tf1 (.int .i64 kind) (.string ⟨#[119, 104, 105, 108, 101]⟩) (.int .i64 nn) (.int .u64 bits_) (.int .i64 pos)
 unfold Zh at *
 go_enter Tryz.func201, Tryz.ntmps201
 go_wp2_with fail
 generalize w.alloc _ = w0 at *
 refine (Zp H0.out).mono ?_
 rintro e w1 ⟨he, hb1⟩
 rw [HK.out] at he
 dsimp only [Tk.val] at he
 subst he
 have Z2 := Zb ((Zn.start HP.out hb0.out hz0.out).bel hb1)
 clear hb1 hb0 hz0 H0 HP
 go_wp2_with fail
 clear hf1
 have hC := Z2.out.lt
 refine (HR.out _ Z2.out.pr).mono ?_
 intro e w3 hp
 rcases hp.both with ⟨kb, jb, c3, rfl, r2⟩ | ⟨kd, ps, nm, t, nz, z, ob, bi, ks, a, len, ck, j, c3, rfl, hk, r1, r2⟩
 · subst c3
   exact ⟨rfl, rfl, Z2.out.tn.trans r2⟩
 have C3 := Zb c3
 have Z3 := Zb (Z2.out.call r1 r2)
 clear c3 r1 r2 Z2 HR
 obtain ⟨⟨fz0, fz1, fz2, fz3, fz4, fz5, fz6, fz7, fz8⟩, bz0, bz1, bz2, bz3, bz4, bz5, bz6, bz7, bz8⟩ := Z3.out.zr.all
 obtain ⟨_, rfl, z9, v9, p9, t9⟩ := Z3.out.done (kd := kd) (ps := ps) (nm := nm) (t := t) (nz := nz) (z := z) (ob := ob) (bi := bi) hC hk
 have Z9 := Zb z9
 have D9 := Zb (And.intro v9 (And.intro p9 t9))
 clear z9 v9 p9 t9 hk Z3
 go_wp2_with fail
 refine Zg w.heap.size rfl rfl Z9.out rfl ?_
 have hw := C3.out
 subst hw
 exact ⟨_, rfl, D9.out⟩
theorem stmt_return {w : World} {p : List Addr} {g gT : Nat} {L : List Tk} {i l : Nat} (h : Ps w p g gT L i l) (hx : tx L i = ⟨#[114, 101, 116, 117, 114, 110]⟩) (r : Out) (hr : ∀ w, Ps w p g gT L i l -> Calls Tryz.prog 224 #[.pointer (some ⟨g, 0, none⟩), .int .i64 23, .slice none 0 0] w fun e w' => Zo p g gT L l w e w' r) :
 Calls Tryz.prog 201 #[.pointer (some ⟨g, 0, none⟩)] w fun e w' => Zo p g gT L l w e w' r := by
 have HP := Zb h
 have HR := Zb hr
 have hb0 := Zb (Zd w Zh)
 have hz0 := Zb (ZG w)
 have H0 := Zb (h.below hb0.out)
 obtain ⟨tk, htk⟩ : ∃ tk, Zk L i = tk := ⟨_, rfl⟩
 have HK := Zb htk
 unfold tx at hx
 rw [htk] at hx
 clear htk h hr
 obtain ⟨kind, text, nn, bits_, pos⟩ := tk
 dsimp only at hx
 subst hx
 have hf1 := tf1 (.int .i64 kind) (.string ⟨#[114, 101, 116, 117, 114, 110]⟩) (.int .i64 nn) (.int .u64 bits_) (.int .i64 pos)
 unfold Zh at *
 go_enter Tryz.func201, Tryz.ntmps201
 go_wp2_with fail
 generalize w.alloc _ = w0 at *
 refine (Zp H0.out).mono ?_
 rintro e w1 ⟨he, hb1⟩
 rw [HK.out] at he
 dsimp only [Tk.val] at he
 subst he
 have Z2 := Zb ((Zn.start HP.out hb0.out hz0.out).bel hb1)
 clear hb1 hb0 hz0 H0 HP
 go_wp2_with fail
 clear hf1
 have hC := Z2.out.lt
 refine (HR.out _ Z2.out.pr).mono ?_
 intro e w3 hp
 rcases hp.both with ⟨kb, jb, c3, rfl, r2⟩ | ⟨kd, ps, nm, t, nz, z, ob, bi, ks, a, len, ck, j, c3, rfl, hk, r1, r2⟩
 · subst c3
   exact ⟨rfl, rfl, Z2.out.tn.trans r2⟩
 have C3 := Zb c3
 have Z3 := Zb (Z2.out.call r1 r2)
 clear c3 r1 r2 Z2 HR
 obtain ⟨⟨fz0, fz1, fz2, fz3, fz4, fz5, fz6, fz7, fz8⟩, bz0, bz1, bz2, bz3, bz4, bz5, bz6, bz7, bz8⟩ := Z3.out.zr.all
 obtain ⟨_, rfl, z9, v9, p9, t9⟩ := Z3.out.done (kd := kd) (ps := ps) (nm := nm) (t := t) (nz := nz) (z := z) (ob := ob) (bi := bi) hC hk
 have Z9 := Zb z9
 have D9 := Zb (And.intro v9 (And.intro p9 t9))
 clear z9 v9 p9 t9 hk Z3
 go_wp2_with fail
 refine Zg w.heap.size rfl rfl Z9.out rfl ?_
 have hw := C3.out
 subst hw
 exact ⟨_, rfl, D9.out⟩
theorem stmt_fail {w : World} {p : List Addr} {g gT : Nat} {L : List Tk} {i l : Nat} (h : Ps w p g gT L i l) (hx : tx L i = ⟨#[102, 97, 105, 108]⟩) (r : Out) (hr : ∀ w, Ps w p g gT L i l -> Calls Tryz.prog 224 #[.pointer (some ⟨g, 0, none⟩), .int .i64 24, .slice (some ⟨w.heap.size, 0, none⟩) 1 1] (w.alloc (.cells #[.func (.func 32) #[.pointer (some ⟨g, 0, none⟩)] #[]] 68)) fun e w' => Zo p g gT L l w e w' r) :
 Calls Tryz.prog 201 #[.pointer (some ⟨g, 0, none⟩)] w fun e w' => Zo p g gT L l w e w' r := by
 have HP := Zb h
 have HR := Zb hr
 have hb0 := Zb (Zd w Zh)
 have hz0 := Zb (ZG w)
 have H0 := Zb (h.below hb0.out)
 obtain ⟨tk, htk⟩ : ∃ tk, Zk L i = tk := ⟨_, rfl⟩
 have HK := Zb htk
 unfold tx at hx
 rw [htk] at hx
 clear htk h hr
 obtain ⟨kind, text, nn, bits_, pos⟩ := tk
 dsimp only at hx
 subst hx
 have hf1 := tf1 (.int .i64 kind) (.string ⟨#[102, 97, 105, 108]⟩) (.int .i64 nn) (.int .u64 bits_) (.int .i64 pos)
 unfold Zh at *
 go_enter Tryz.func201, Tryz.ntmps201
 go_wp2_with fail
 generalize w.alloc _ = w0 at *
 refine (Zp H0.out).mono ?_
 rintro e w1 ⟨he, hb1⟩
 rw [HK.out] at he
 dsimp only [Tk.val] at he
 subst he
 have Z2 := Zb ((Zn.start HP.out hb0.out hz0.out).bel hb1)
 clear hb1 hb0 hz0 H0 HP
 go_wp2_with fail
 clear hf1
 have hC := Z2.out.lt
 refine (HR.out _ Z2.out.pr).mono ?_
 intro e w3 hp
 rcases hp.both with ⟨kb, jb, c3, rfl, r2⟩ | ⟨kd, ps, nm, t, nz, z, ob, bi, ks, a, len, ck, j, c3, rfl, hk, r1, r2⟩
 · subst c3
   exact ⟨rfl, rfl, Z2.out.tn.trans r2⟩
 have C3 := Zb c3
 have Z3 := Zb (Z2.out.call r1 r2)
 clear c3 r1 r2 Z2 HR
 obtain ⟨⟨fz0, fz1, fz2, fz3, fz4, fz5, fz6, fz7, fz8⟩, bz0, bz1, bz2, bz3, bz4, bz5, bz6, bz7, bz8⟩ := Z3.out.zr.all
 obtain ⟨_, rfl, z9, v9, p9, t9⟩ := Z3.out.done (kd := kd) (ps := ps) (nm := nm) (t := t) (nz := nz) (z := z) (ob := ob) (bi := bi) hC hk
 have Z9 := Zb z9
 have D9 := Zb (And.intro v9 (And.intro p9 t9))
 clear z9 v9 p9 t9 hk Z3
 go_wp2_with fail
 refine Zg w.heap.size rfl rfl Z9.out rfl ?_
 have hw := C3.out
 subst hw
 exact ⟨_, rfl, D9.out⟩
theorem stmt_word {w : World} {p : List Addr} {g gT : Nat} {L : List Tk} {i l : Nat} (h : Ps w p g gT L i l) (hx : ∀ z ∈ ([⟨#[103, 111]⟩, ⟨#[108, 111, 99, 107]⟩, ⟨#[117, 110, 108, 111, 99, 107]⟩, ⟨#[115, 101, 110, 100]⟩, ⟨#[114, 101, 99, 118]⟩, ⟨#[97, 100, 100]⟩, ⟨#[112, 117, 116]⟩, ⟨#[103, 101, 116]⟩, ⟨#[105, 102]⟩, ⟨#[119, 104, 105, 108, 101]⟩, ⟨#[114, 101, 116, 117, 114, 110]⟩, ⟨#[102, 97, 105, 108]⟩] : List ByteArray), ¬ tx L i = z) (r : Out) (hr : ∀ w, Ps w p g gT L i l -> Calls Tryz.prog 225 #[.pointer (some ⟨g, 0, none⟩)] w fun e w' => Zo p g gT L l w e w' r) :
 Calls Tryz.prog 201 #[.pointer (some ⟨g, 0, none⟩)] w fun e w' => Zo p g gT L l w e w' r := by
 have HP := Zb h
 have HR := Zb hr
 have hb0 := Zb (Zd w Zh)
 have hz0 := Zb (ZG w)
 have H0 := Zb (h.below hb0.out)
 obtain ⟨tk, htk⟩ : ∃ tk, Zk L i = tk := ⟨_, rfl⟩
 have HK := Zb htk
 unfold tx at hx
 rw [htk] at hx
 clear htk h hr
 obtain ⟨kind, text, nn, bits_, pos⟩ := tk
 dsimp only at hx
 have hf1 := tf1 (.int .i64 kind) (.string text) (.int .i64 nn) (.int .u64 bits_) (.int .i64 pos)
 have hx0 : (text.toList == [103, 111]) = false := ZY (hx _ (by simp))
 have hx1 : (text.toList == [108, 111, 99, 107]) = false := ZY (hx _ (by simp))
 have hx2 : (text.toList == [117, 110, 108, 111, 99, 107]) = false := ZY (hx _ (by simp))
 have hx3 : (text.toList == [115, 101, 110, 100]) = false := ZY (hx _ (by simp))
 have hx4 : (text.toList == [114, 101, 99, 118]) = false := ZY (hx _ (by simp))
 have hx5 : (text.toList == [97, 100, 100]) = false := ZY (hx _ (by simp))
 have hx6 : (text.toList == [112, 117, 116]) = false := ZY (hx _ (by simp))
 have hx7 : (text.toList == [103, 101, 116]) = false := ZY (hx _ (by simp))
 have hx8 : (text.toList == [105, 102]) = false := ZY (hx _ (by simp))
 have hx9 : (text.toList == [119, 104, 105, 108, 101]) = false := ZY (hx _ (by simp))
 have hx10 : (text.toList == [114, 101, 116, 117, 114, 110]) = false := ZY (hx _ (by simp))
 have hx11 : (text.toList == [102, 97, 105, 108]) = false := ZY (hx _ (by simp))
 clear hx
 unfold Zh at *
 go_enter Tryz.func201, Tryz.ntmps201
 go_wp2_with fail
 generalize w.alloc _ = w0 at *
 refine (Zp H0.out).mono ?_
 rintro e w1 ⟨he, hb1⟩
 rw [HK.out] at he
 dsimp only [Tk.val] at he
 subst he
 have Z2 := Zb ((Zn.start HP.out hb0.out hz0.out).bel hb1)
 clear hb1 hb0 hz0 H0 HP
 go_wp2_with fail
 clear hf1
 have hC := Z2.out.lt
 refine (HR.out _ Z2.out.pr).mono ?_
 intro e w3 hp
 rcases hp.both with ⟨kb, jb, c3, rfl, r2⟩ | ⟨kd, ps, nm, t, nz, z, ob, bi, ks, a, len, ck, j, c3, rfl, hk, r1, r2⟩
 · subst c3
   exact ⟨rfl, rfl, Z2.out.tn.trans r2⟩
 have C3 := Zb c3
 have Z3 := Zb (Z2.out.call r1 r2)
 clear c3 r1 r2 Z2 HR
 obtain ⟨⟨fz0, fz1, fz2, fz3, fz4, fz5, fz6, fz7, fz8⟩, bz0, bz1, bz2, bz3, bz4, bz5, bz6, bz7, bz8⟩ := Z3.out.zr.all
 obtain ⟨_, rfl, z9, v9, p9, t9⟩ := Z3.out.done (kd := kd) (ps := ps) (nm := nm) (t := t) (nz := nz) (z := z) (ob := ob) (bi := bi) hC hk
 have Z9 := Zb z9
 have D9 := Zb (And.intro v9 (And.intro p9 t9))
 clear z9 v9 p9 t9 hk Z3
 go_wp2_with fail
 refine Zg w.heap.size rfl rfl Z9.out rfl ?_
 have hw := C3.out
 subst hw
 exact ⟨_, rfl, D9.out⟩
theorem decl_var {w : World} {p : List Addr} {g gT : Nat} {L : List Tk} {i l : Nat} (h : Ps w p g gT L i l) (hx : tx L i = ⟨#[118, 97, 114]⟩) (r : Out) (hr : ∀ w, Ps w p g gT L i l -> Calls Tryz.prog 75 #[.pointer (some ⟨g, 0, none⟩)] w fun e w' => Zo p g gT L l w e w' r) :
 Calls Tryz.prog 47 #[.pointer (some ⟨g, 0, none⟩)] w fun e w' => Zo p g gT L l w e w' r := by
 have HP := Zb h
 have HR := Zb hr
 have hb0 := Zb (Zd w Zh)
 have hz0 := Zb (ZG w)
 have H0 := Zb (h.below hb0.out)
 obtain ⟨tk, htk⟩ : ∃ tk, Zk L i = tk := ⟨_, rfl⟩
 have HK := Zb htk
 unfold tx at hx
 rw [htk] at hx
 clear htk h hr
 obtain ⟨kind, text, nn, bits_, pos⟩ := tk
 dsimp only at hx
 subst hx
 have hf1 := tf1 (.int .i64 kind) (.string ⟨#[118, 97, 114]⟩) (.int .i64 nn) (.int .u64 bits_) (.int .i64 pos)
 unfold Zh at *
 go_enter Tryz.func47, Tryz.ntmps47
 go_wp2_with fail
 generalize w.alloc _ = w0 at *
 refine (Zp H0.out).mono ?_
 rintro e w1 ⟨he, hb1⟩
 rw [HK.out] at he
 dsimp only [Tk.val] at he
 subst he
 have Z2 := Zb ((Zn.start HP.out hb0.out hz0.out).bel hb1)
 clear hb1 hb0 hz0 H0 HP
 go_wp2_with fail
 clear hf1
 have hC := Z2.out.lt
 refine (HR.out _ Z2.out.pr).mono ?_
 intro e w3 hp
 rcases hp.both with ⟨kb, jb, c3, rfl, r2⟩ | ⟨kd, ps, nm, t, nz, z, ob, bi, ks, a, len, ck, j, c3, rfl, hk, r1, r2⟩
 · subst c3
   exact ⟨rfl, rfl, Z2.out.tn.trans r2⟩
 have C3 := Zb c3
 have Z3 := Zb (Z2.out.call r1 r2)
 clear c3 r1 r2 Z2 HR
 obtain ⟨⟨fz0, fz1, fz2, fz3, fz4, fz5, fz6, fz7, fz8⟩, bz0, bz1, bz2, bz3, bz4, bz5, bz6, bz7, bz8⟩ := Z3.out.zr.all
 obtain ⟨_, rfl, z9, v9, p9, t9⟩ := Z3.out.done (kd := kd) (ps := ps) (nm := nm) (t := t) (nz := nz) (z := z) (ob := ob) (bi := bi) hC hk
 have Z9 := Zb z9
 have D9 := Zb (And.intro v9 (And.intro p9 t9))
 clear z9 v9 p9 t9 hk Z3
 go_wp2_with fail
 refine Zg w.heap.size rfl rfl Z9.out rfl ?_
 have hw := C3.out
 subst hw
 exact ⟨_, rfl, D9.out⟩
theorem decl_mutex {w : World} {p : List Addr} {g gT : Nat} {L : List Tk} {i l : Nat} (h : Ps w p g gT L i l) (hx : tx L i = ⟨#[109, 117, 116, 101, 120]⟩) (r : Out) (hr : ∀ w, Ps w p g gT L i l -> Calls Tryz.prog 76 #[.pointer (some ⟨g, 0, none⟩), .int .i64 4, .slice none 0 0] w fun e w' => Zo p g gT L l w e w' r) :
 Calls Tryz.prog 47 #[.pointer (some ⟨g, 0, none⟩)] w fun e w' => Zo p g gT L l w e w' r := by
 have HP := Zb h
 have HR := Zb hr
 have hb0 := Zb (Zd w Zh)
 have hz0 := Zb (ZG w)
 have H0 := Zb (h.below hb0.out)
 obtain ⟨tk, htk⟩ : ∃ tk, Zk L i = tk := ⟨_, rfl⟩
 have HK := Zb htk
 unfold tx at hx
 rw [htk] at hx
 clear htk h hr
 obtain ⟨kind, text, nn, bits_, pos⟩ := tk
 dsimp only at hx
 subst hx
 have hf1 := tf1 (.int .i64 kind) (.string ⟨#[109, 117, 116, 101, 120]⟩) (.int .i64 nn) (.int .u64 bits_) (.int .i64 pos)
 unfold Zh at *
 go_enter Tryz.func47, Tryz.ntmps47
 go_wp2_with fail
 generalize w.alloc _ = w0 at *
 refine (Zp H0.out).mono ?_
 rintro e w1 ⟨he, hb1⟩
 rw [HK.out] at he
 dsimp only [Tk.val] at he
 subst he
 have Z2 := Zb ((Zn.start HP.out hb0.out hz0.out).bel hb1)
 clear hb1 hb0 hz0 H0 HP
 go_wp2_with fail
 clear hf1
 have hC := Z2.out.lt
 refine (HR.out _ Z2.out.pr).mono ?_
 intro e w3 hp
 rcases hp.both with ⟨kb, jb, c3, rfl, r2⟩ | ⟨kd, ps, nm, t, nz, z, ob, bi, ks, a, len, ck, j, c3, rfl, hk, r1, r2⟩
 · subst c3
   exact ⟨rfl, rfl, Z2.out.tn.trans r2⟩
 have C3 := Zb c3
 have Z3 := Zb (Z2.out.call r1 r2)
 clear c3 r1 r2 Z2 HR
 obtain ⟨⟨fz0, fz1, fz2, fz3, fz4, fz5, fz6, fz7, fz8⟩, bz0, bz1, bz2, bz3, bz4, bz5, bz6, bz7, bz8⟩ := Z3.out.zr.all
 obtain ⟨_, rfl, z9, v9, p9, t9⟩ := Z3.out.done (kd := kd) (ps := ps) (nm := nm) (t := t) (nz := nz) (z := z) (ob := ob) (bi := bi) hC hk
 have Z9 := Zb z9
 have D9 := Zb (And.intro v9 (And.intro p9 t9))
 clear z9 v9 p9 t9 hk Z3
 go_wp2_with fail
 refine Zg w.heap.size rfl rfl Z9.out rfl ?_
 have hw := C3.out
 subst hw
 exact ⟨_, rfl, D9.out⟩
theorem decl_chan {w : World} {p : List Addr} {g gT : Nat} {L : List Tk} {i l : Nat} (h : Ps w p g gT L i l) (hx : tx L i = ⟨#[99, 104, 97, 110]⟩) (r : Out) (hr : ∀ w, Ps w p g gT L i l -> Calls Tryz.prog 77 #[.pointer (some ⟨g, 0, none⟩)] w fun e w' => Zo p g gT L l w e w' r) :
 Calls Tryz.prog 47 #[.pointer (some ⟨g, 0, none⟩)] w fun e w' => Zo p g gT L l w e w' r := by
 have HP := Zb h
 have HR := Zb hr
 have hb0 := Zb (Zd w Zh)
 have hz0 := Zb (ZG w)
 have H0 := Zb (h.below hb0.out)
 obtain ⟨tk, htk⟩ : ∃ tk, Zk L i = tk := ⟨_, rfl⟩
 have HK := Zb htk
 unfold tx at hx
 rw [htk] at hx
 clear htk h hr
 obtain ⟨kind, text, nn, bits_, pos⟩ := tk
 dsimp only at hx
 subst hx
 have hf1 := tf1 (.int .i64 kind) (.string ⟨#[99, 104, 97, 110]⟩) (.int .i64 nn) (.int .u64 bits_) (.int .i64 pos)
 unfold Zh at *
 go_enter Tryz.func47, Tryz.ntmps47
 go_wp2_with fail
 generalize w.alloc _ = w0 at *
 refine (Zp H0.out).mono ?_
 rintro e w1 ⟨he, hb1⟩
 rw [HK.out] at he
 dsimp only [Tk.val] at he
 subst he
 have Z2 := Zb ((Zn.start HP.out hb0.out hz0.out).bel hb1)
 clear hb1 hb0 hz0 H0 HP
 go_wp2_with fail
 clear hf1
 have hC := Z2.out.lt
 refine (HR.out _ Z2.out.pr).mono ?_
 intro e w3 hp
 rcases hp.both with ⟨kb, jb, c3, rfl, r2⟩ | ⟨kd, ps, nm, t, nz, z, ob, bi, ks, a, len, ck, j, c3, rfl, hk, r1, r2⟩
 · subst c3
   exact ⟨rfl, rfl, Z2.out.tn.trans r2⟩
 have C3 := Zb c3
 have Z3 := Zb (Z2.out.call r1 r2)
 clear c3 r1 r2 Z2 HR
 obtain ⟨⟨fz0, fz1, fz2, fz3, fz4, fz5, fz6, fz7, fz8⟩, bz0, bz1, bz2, bz3, bz4, bz5, bz6, bz7, bz8⟩ := Z3.out.zr.all
 obtain ⟨_, rfl, z9, v9, p9, t9⟩ := Z3.out.done (kd := kd) (ps := ps) (nm := nm) (t := t) (nz := nz) (z := z) (ob := ob) (bi := bi) hC hk
 have Z9 := Zb z9
 have D9 := Zb (And.intro v9 (And.intro p9 t9))
 clear z9 v9 p9 t9 hk Z3
 go_wp2_with fail
 refine Zg w.heap.size rfl rfl Z9.out rfl ?_
 have hw := C3.out
 subst hw
 exact ⟨_, rfl, D9.out⟩
theorem decl_atomic {w : World} {p : List Addr} {g gT : Nat} {L : List Tk} {i l : Nat} (h : Ps w p g gT L i l) (hx : tx L i = ⟨#[97, 116, 111, 109, 105, 99]⟩) (r : Out) (hr : ∀ w, Ps w p g gT L i l -> Calls Tryz.prog 76 #[.pointer (some ⟨g, 0, none⟩), .int .i64 6, .slice none 0 0] w fun e w' => Zo p g gT L l w e w' r) :
 Calls Tryz.prog 47 #[.pointer (some ⟨g, 0, none⟩)] w fun e w' => Zo p g gT L l w e w' r := by
 have HP := Zb h
 have HR := Zb hr
 have hb0 := Zb (Zd w Zh)
 have hz0 := Zb (ZG w)
 have H0 := Zb (h.below hb0.out)
 obtain ⟨tk, htk⟩ : ∃ tk, Zk L i = tk := ⟨_, rfl⟩
 have HK := Zb htk
 unfold tx at hx
 rw [htk] at hx
 clear htk h hr
 obtain ⟨kind, text, nn, bits_, pos⟩ := tk
 dsimp only at hx
 subst hx
 have hf1 := tf1 (.int .i64 kind) (.string ⟨#[97, 116, 111, 109, 105, 99]⟩) (.int .i64 nn) (.int .u64 bits_) (.int .i64 pos)
 unfold Zh at *
 go_enter Tryz.func47, Tryz.ntmps47
 go_wp2_with fail
 generalize w.alloc _ = w0 at *
 refine (Zp H0.out).mono ?_
 rintro e w1 ⟨he, hb1⟩
 rw [HK.out] at he
 dsimp only [Tk.val] at he
 subst he
 have Z2 := Zb ((Zn.start HP.out hb0.out hz0.out).bel hb1)
 clear hb1 hb0 hz0 H0 HP
 go_wp2_with fail
 clear hf1
 have hC := Z2.out.lt
 refine (HR.out _ Z2.out.pr).mono ?_
 intro e w3 hp
 rcases hp.both with ⟨kb, jb, c3, rfl, r2⟩ | ⟨kd, ps, nm, t, nz, z, ob, bi, ks, a, len, ck, j, c3, rfl, hk, r1, r2⟩
 · subst c3
   exact ⟨rfl, rfl, Z2.out.tn.trans r2⟩
 have C3 := Zb c3
 have Z3 := Zb (Z2.out.call r1 r2)
 clear c3 r1 r2 Z2 HR
 obtain ⟨⟨fz0, fz1, fz2, fz3, fz4, fz5, fz6, fz7, fz8⟩, bz0, bz1, bz2, bz3, bz4, bz5, bz6, bz7, bz8⟩ := Z3.out.zr.all
 obtain ⟨_, rfl, z9, v9, p9, t9⟩ := Z3.out.done (kd := kd) (ps := ps) (nm := nm) (t := t) (nz := nz) (z := z) (ob := ob) (bi := bi) hC hk
 have Z9 := Zb z9
 have D9 := Zb (And.intro v9 (And.intro p9 t9))
 clear z9 v9 p9 t9 hk Z3
 go_wp2_with fail
 refine Zg w.heap.size rfl rfl Z9.out rfl ?_
 have hw := C3.out
 subst hw
 exact ⟨_, rfl, D9.out⟩
theorem decl_func {w : World} {p : List Addr} {g gT : Nat} {L : List Tk} {i l : Nat} (h : Ps w p g gT L i l) (hx : ∀ z ∈ ([⟨#[118, 97, 114]⟩, ⟨#[109, 117, 116, 101, 120]⟩, ⟨#[99, 104, 97, 110]⟩, ⟨#[97, 116, 111, 109, 105, 99]⟩] : List ByteArray), ¬ tx L i = z) (r : Out) (hr : ∀ w, Ps w p g gT L i l -> Calls Tryz.prog 78 #[.pointer (some ⟨g, 0, none⟩)] w fun e w' => Zo p g gT L l w e w' r) :
 Calls Tryz.prog 47 #[.pointer (some ⟨g, 0, none⟩)] w fun e w' => Zo p g gT L l w e w' r := by
 have HP := Zb h
 have HR := Zb hr
 have hb0 := Zb (Zd w Zh)
 have hz0 := Zb (ZG w)
 have H0 := Zb (h.below hb0.out)
 obtain ⟨tk, htk⟩ : ∃ tk, Zk L i = tk := ⟨_, rfl⟩
 have HK := Zb htk
 unfold tx at hx
 rw [htk] at hx
 clear htk h hr
 obtain ⟨kind, text, nn, bits_, pos⟩ := tk
 dsimp only at hx
 have hf1 := tf1 (.int .i64 kind) (.string text) (.int .i64 nn) (.int .u64 bits_) (.int .i64 pos)
 have hx0 : (text.toList == [118, 97, 114]) = false := ZY (hx _ (by simp))
 have hx1 : (text.toList == [109, 117, 116, 101, 120]) = false := ZY (hx _ (by simp))
 have hx2 : (text.toList == [99, 104, 97, 110]) = false := ZY (hx _ (by simp))
 have hx3 : (text.toList == [97, 116, 111, 109, 105, 99]) = false := ZY (hx _ (by simp))
 clear hx
 unfold Zh at *
 go_enter Tryz.func47, Tryz.ntmps47
 go_wp2_with fail
 generalize w.alloc _ = w0 at *
 refine (Zp H0.out).mono ?_
 rintro e w1 ⟨he, hb1⟩
 rw [HK.out] at he
 dsimp only [Tk.val] at he
 subst he
 have Z2 := Zb ((Zn.start HP.out hb0.out hz0.out).bel hb1)
 clear hb1 hb0 hz0 H0 HP
 go_wp2_with fail
 clear hf1
 have hC := Z2.out.lt
 refine (HR.out _ Z2.out.pr).mono ?_
 intro e w3 hp
 rcases hp.both with ⟨kb, jb, c3, rfl, r2⟩ | ⟨kd, ps, nm, t, nz, z, ob, bi, ks, a, len, ck, j, c3, rfl, hk, r1, r2⟩
 · subst c3
   exact ⟨rfl, rfl, Z2.out.tn.trans r2⟩
 have C3 := Zb c3
 have Z3 := Zb (Z2.out.call r1 r2)
 clear c3 r1 r2 Z2 HR
 obtain ⟨⟨fz0, fz1, fz2, fz3, fz4, fz5, fz6, fz7, fz8⟩, bz0, bz1, bz2, bz3, bz4, bz5, bz6, bz7, bz8⟩ := Z3.out.zr.all
 obtain ⟨_, rfl, z9, v9, p9, t9⟩ := Z3.out.done (kd := kd) (ps := ps) (nm := nm) (t := t) (nz := nz) (z := z) (ob := ob) (bi := bi) hC hk
 have Z9 := Zb z9
 have D9 := Zb (And.intro v9 (And.intro p9 t9))
 clear z9 v9 p9 t9 hk Z3
 go_wp2_with fail
 refine Zg w.heap.size rfl rfl Z9.out rfl ?_
 have hw := C3.out
 subst hw
 exact ⟨_, rfl, D9.out⟩
theorem stmt_all {w : World} {p : List Addr} {g gT : Nat} {L : List Tk} {i l : Nat} (h : Ps w p g gT L i l) (hE : Ya L) (hl : l <= 16) (ex exI tg bl : Nat -> Out) (hX : ∀ j, i <= j -> ZS 32 p g gT L l j (ex j)) (hI : l ≠ 16 -> ∀ j, i <= j -> ZS 32 p g gT L (l + 1) j (exI j)) (hT : ∀ j, i <= j -> ZS 221 p g gT L l j (tg j)) (hB : ∀ j, i + 1 <= j -> ZS 126 p g gT L l j (bl j))
 (gX : ∀ q n j, ex q = .ok n j -> q <= j) (gI : ∀ q n j, exI q = .ok n j -> q <= j) (gT' : ∀ q n j, tg q = .ok n j -> q < j) (gB : ∀ q n j, bl q = .ok n j -> q <= j) :
 Calls Tryz.prog 201 #[.pointer (some ⟨g, 0, none⟩)] w fun e w' => Zo p g gT L l w e w' (stO L l i ex exI tg bl) := by
 unfold stO
 by_cases hc : has L i [⟨#[103, 111]⟩] = true
 · rw [if_pos hc]
   have hi := ZF hE h.lt (by decide) hc
   exact stmt_go h (Yh hc) _ (fun w' hw' => goes_any hw' hE hl hi _ gI (fun a j hj => hI a j (by omega)))
 rw [if_neg hc]
 have h0 := Yd hc
 clear hc
 by_cases hc : has L i [⟨#[108, 111, 99, 107]⟩] = true
 · rw [if_pos hc]
   have hi := ZF hE h.lt (by decide) hc
   exact stmt_lock h (Yh hc) _ (fun w' hw' => named0_any hw' hE hi 14)
 rw [if_neg hc]
 have h1 := Yd hc
 clear hc
 by_cases hc : has L i [⟨#[117, 110, 108, 111, 99, 107]⟩] = true
 · rw [if_pos hc]
   have hi := ZF hE h.lt (by decide) hc
   exact stmt_unlock h (Yh hc) _ (fun w' hw' => named0_any hw' hE hi 15)
 rw [if_neg hc]
 have h2 := Yd hc
 clear hc
 by_cases hc : has L i [⟨#[115, 101, 110, 100]⟩] = true
 · rw [if_pos hc]
   have hi := ZF hE h.lt (by decide) hc
   exact stmt_send h (Yh hc) _ (fun w' hw' => (named1_expr (hw'.below (Zd w' _)) hE hi 16 w'.heap.size 1 (by have := hw'.lt_g; omega) (Zf (B_ w' _) 0 _ rfl) _ (hX (i + 1 + 1 + 1) (by omega))).mono (fun e w2 hp => hp.base (Zd w' _)))
 rw [if_neg hc]
 have h3 := Yd hc
 clear hc
 by_cases hc : has L i [⟨#[114, 101, 99, 118]⟩] = true
 · rw [if_pos hc]
   have hi := ZF hE h.lt (by decide) hc
   exact stmt_recv h (Yh hc) _ (fun w' hw' => (named1_target (hw'.below (Zd w' _)) hE hi 17 w'.heap.size 1 (by have := hw'.lt_g; omega) (Zf (B_ w' _) 0 _ rfl) _ (hT (i + 1 + 1 + 1) (by omega))).mono (fun e w2 hp => hp.base (Zd w' _)))
 rw [if_neg hc]
 have h4 := Yd hc
 clear hc
 by_cases hc : has L i [⟨#[97, 100, 100]⟩] = true
 · rw [if_pos hc]
   have hi := ZF hE h.lt (by decide) hc
   exact stmt_add h (Yh hc) _ (fun w' hw' => (named1_expr (hw'.below (Zd w' _)) hE hi 18 w'.heap.size 1 (by have := hw'.lt_g; omega) (Zf (B_ w' _) 0 _ rfl) _ (hX (i + 1 + 1 + 1) (by omega))).mono (fun e w2 hp => hp.base (Zd w' _)))
 rw [if_neg hc]
 have h5 := Yd hc
 clear hc
 by_cases hc : has L i [⟨#[112, 117, 116]⟩] = true
 · rw [if_pos hc]
   have hi := ZF hE h.lt (by decide) hc
   exact stmt_put h (Yh hc) _ (fun w' hw' => (named1_expr (hw'.below (Zd w' _)) hE hi 19 w'.heap.size 1 (by have := hw'.lt_g; omega) (Zf (B_ w' _) 0 _ rfl) _ (hX (i + 1 + 1 + 1) (by omega))).mono (fun e w2 hp => hp.base (Zd w' _)))
 rw [if_neg hc]
 have h6 := Yd hc
 clear hc
 by_cases hc : has L i [⟨#[103, 101, 116]⟩] = true
 · rw [if_pos hc]
   have hi := ZF hE h.lt (by decide) hc
   exact stmt_get h (Yh hc) _ (fun w' hw' => (named1_target (hw'.below (Zd w' _)) hE hi 20 w'.heap.size 1 (by have := hw'.lt_g; omega) (Zf (B_ w' _) 0 _ rfl) _ (hT (i + 1 + 1 + 1) (by omega))).mono (fun e w2 hp => hp.base (Zd w' _)))
 rw [if_neg hc]
 have h7 := Yd hc
 clear hc
 by_cases hc : has L i [⟨#[105, 102]⟩] = true
 · rw [if_pos hc]
   have hi := ZF hE h.lt (by decide) hc
   exact stmt_if h (Yh hc) _ (fun w' hw' => branch_any hw' hE hi _ _ (hX _ (by omega)) hB (gX _) gB)
 rw [if_neg hc]
 have h8 := Yd hc
 clear hc
 by_cases hc : has L i [⟨#[119, 104, 105, 108, 101]⟩] = true
 · rw [if_pos hc]
   have hi := ZF hE h.lt (by decide) hc
   exact stmt_while h (Yh hc) _ (fun w' hw' => loop_any hw' hE hi _ _ (hX _ (by omega)) (fun n j hq => hB j (gX _ _ _ hq)))
 rw [if_neg hc]
 have h9 := Yd hc
 clear hc
 by_cases hc : has L i [⟨#[114, 101, 116, 117, 114, 110]⟩] = true
 · rw [if_pos hc]
   have hi := ZF hE h.lt (by decide) hc
   exact stmt_return h (Yh hc) _ (fun w' hw' => leaves0_any hw' hE hi)
 rw [if_neg hc]
 have h10 := Yd hc
 clear hc
 by_cases hc : has L i [⟨#[102, 97, 105, 108]⟩] = true
 · rw [if_pos hc]
   have hi := ZF hE h.lt (by decide) hc
   exact stmt_fail h (Yh hc) _ (fun w' hw' => (leaves1_any (hw'.below (Zd w' _)) hE hi w'.heap.size 1 (by have := hw'.lt_g; omega) (Zf (B_ w' _) 0 _ rfl) _ (hX (i + 1) (by omega))).mono (fun e w2 hp => hp.base (Zd w' _)))
 rw [if_neg hc]
 have h11 := Yd hc
 clear hc
 refine stmt_word h ?_ _ (fun w' hw' => wordFirst_any hw' hE hl _ _ _ (hT i (Nat.le_refl _)) (fun n j hq => hX _ (by have := gT' _ _ _ hq; omega)) gI (fun a n j hq j' hj => hI a j' (by have := gT' _ _ _ hq; omega)))
 intro z hz
 unfold tx
 simp only [List.mem_cons, List.not_mem_nil, or_false] at hz
 rcases hz with rfl | rfl | rfl | rfl | rfl | rfl | rfl | rfl | rfl | rfl | rfl | rfl
 · exact h0 _ (by simp)
 · exact h1 _ (by simp)
 · exact h2 _ (by simp)
 · exact h3 _ (by simp)
 · exact h4 _ (by simp)
 · exact h5 _ (by simp)
 · exact h6 _ (by simp)
 · exact h7 _ (by simp)
 · exact h8 _ (by simp)
 · exact h9 _ (by simp)
 · exact h10 _ (by simp)
 · exact h11 _ (by simp)
theorem decl_all {w : World} {p : List Addr} {g gT : Nat} {L : List Tk} {i l : Nat} (h : Ps w p g gT L i l) (hE : Ya L) (bl : Nat -> Out) (hB : ∀ j, i <= j -> ZS 126 p g gT L l j (bl j)) :
 Calls Tryz.prog 47 #[.pointer (some ⟨g, 0, none⟩)] w fun e w' => Zo p g gT L l w e w' (dcO L bl i) := by
 unfold dcO
 by_cases hc : has L i [⟨#[118, 97, 114]⟩] = true
 · rw [if_pos hc]
   have hi := ZF hE h.lt (by decide) hc
   exact decl_var h (Yh hc) _ (fun w' hw' => variable_any hw' hE hi)
 rw [if_neg hc]
 have h0 := Yd hc
 clear hc
 by_cases hc : has L i [⟨#[109, 117, 116, 101, 120]⟩] = true
 · rw [if_pos hc]
   have hi := ZF hE h.lt (by decide) hc
   exact decl_mutex h (Yh hc) _ (fun w' hw' => named0_any hw' hE hi 4)
 rw [if_neg hc]
 have h1 := Yd hc
 clear hc
 by_cases hc : has L i [⟨#[99, 104, 97, 110]⟩] = true
 · rw [if_pos hc]
   have hi := ZF hE h.lt (by decide) hc
   exact decl_chan h (Yh hc) _ (fun w' hw' => channel_any hw' hE hi)
 rw [if_neg hc]
 have h2 := Yd hc
 clear hc
 by_cases hc : has L i [⟨#[97, 116, 111, 109, 105, 99]⟩] = true
 · rw [if_pos hc]
   have hi := ZF hE h.lt (by decide) hc
   exact decl_atomic h (Yh hc) _ (fun w' hw' => named0_any hw' hE hi 6)
 rw [if_neg hc]
 have h3 := Yd hc
 clear hc
 refine decl_func h ?_ _ (fun w' hw' => function_any hw' hE bl hB)
 intro z hz
 unfold tx
 simp only [List.mem_cons, List.not_mem_nil, or_false] at hz
 rcases hz with rfl | rfl | rfl | rfl
 · exact h0 _ (by simp)
 · exact h1 _ (by simp)
 · exact h2 _ (by simp)
 · exact h3 _ (by simp)
theorem rule_ex (p : List Addr) (g gT : Nat) (L : List Tk) (hE : Ya L) (l : Nat) (hl : l <= 16) (j : Nat) : ZS 32 p g gT L l j (exD L l j) :=
 (rules p g gT L hE (8 * L.length + 7)).e0 l hl j (by omega)
theorem rule_tg (p : List Addr) (g gT : Nat) (L : List Tk) (hE : Ya L) (l : Nat) (hl : l <= 16) (j : Nat) : ZS 221 p g gT L l j (tgD L l j) := fun _ hw =>
 target_any hw hE hl _ (fun a _ _ => rule_ex p g gT L hE (l + 1) (by omega) (j + 1 + 1))
theorem rule_st (p : List Addr) (g gT : Nat) (L : List Tk) (hE : Ya L) : ∀ (f l : Nat), l <= 16 -> ∀ i, L.length - i < f -> ZS 201 p g gT L l i (stF L f l i)
 | 0, _, _, _, h => by omega
 | f + 1, l, hl, i, hf => fun w h => by
  have hlt := h.lt
  unfold stF
  exact stmt_all h hE hl _ _ _ _ (fun j _ => rule_ex p g gT L hE l hl j) (fun a j _ => rule_ex p g gT L hE (l + 1) (by omega) j) (fun j _ => rule_tg p g gT L hE l hl j)
   (fun j hj w' hw' => block_any hw' hE hl _ (fun a _ w2 hw2 => stmts_any hw2 _ (fun a b c hc => stF_gt L f (l + 1) a b c hc) (fun q hq => rule_st p g gT L hE f (l + 1) (by omega) q (by omega))))
   (fun _ _ _ hh => exD_ge hh) (fun _ _ _ hh => exD_ge hh) (fun _ _ _ hh => tgD_gt hh) (fun _ _ _ hh => Nat.le_of_lt (blockO_gt (fun _ _ hq => stmtsF_ge (fun a b c hc => Nat.le_of_lt (stF_gt L f (l + 1) a b c hc)) _ _ _ _ _ hq) hh))
theorem rule_bl (p : List Addr) (g gT : Nat) (L : List Tk) (hE : Ya L) (l : Nat) (hl : l <= 16) (j : Nat) : ZS 126 p g gT L l j (blD L (L.length + 1) l j) := fun _ hw =>
 block_any hw hE hl _ (fun a _ _ hw2 => stmts_any hw2 _ (fun a b c hc => stF_gt L _ (l + 1) a b c hc) (fun q _ => rule_st p g gT L hE _ (l + 1) (by omega) q (by omega)))
theorem rule_pr (p : List Addr) (g gT : Nat) (L : List Tk) (hE : Ya L) : ZS 28 p g gT L 0 0 (prD L) := fun _ h =>
 program_any h _ (fun _ _ _ hh => dcO_gt (fun _ _ _ hh => Nat.le_of_lt (blD_gt hh)) hh) (fun j _ w' hw' => decl_all hw' hE _ (fun q _ => rule_bl p g gT L hE 0 (by omega) q))
theorem catchT_idle (a b : Addr) (w : World) :
 CallsD Tryz.prog 43 #[.pointer (some a), .pointer (some b)] .returning w fun e u' w' => e = .returned (.tuple #[]) /\ u' = .returning /\ w' = w := by
 refine callsD_of_wpS Tryz.func43 rfl fun c₀ cs hu => ?_
 apply wpS_seq
 apply wpS_region
 simp [wpOpsS, go_sem, recoverD, hu, Tryz.ntmps43, Exit.thenS]
 apply wpS_seq
 refine wpS_of_wp ?_
 go_wp2_with fail
 refine wpS_cond (t := false) (by simp [Act.eval, Array.replicate]) ?_
 simp only [Bool.false_eq_true, if_false]
 refine wpS_of_wp (wp_skip ?_)
 cases c₀
 simp_all [bodyPostS, results, Tryz.results43]
theorem blk_drew {w : World} {k : Nat} {o : Option Obj} (h : w.heap[k]? = o) : w.drew.heap[k]? = o := h
theorem catchT_stop (bT bB : Nat) (v0 v1 v2 v3 v4 v5 v6 v7 v8 z0 z1 : Value) (te : TypeId) (pe : Value) (i : Nat) (w : World) (hT : Nod w bT v0 v1 v2 v3 v4 v5 v6 v7 v8) (hB : w.heap[bB]? = some (.cells #[z0, z1] 37 (0, 0))) (hne : bT ≠ bB) :
 CallsD Tryz.prog 43 #[.pointer (some ⟨bT, 0, none⟩), .pointer (some ⟨bB, 0, none⟩)] (.panicking [{ v := badV (.iface te pe) i, recovered := false }]) w fun e u' w' =>
  e = .returned (.tuple #[]) /\ u' = .panicking [{ v := badV (.iface te pe) i, recovered := true }] /\ Nod w' bT (.int .i64 0) (.int .i64 0) (.string ⟨#[]⟩) (.int .i64 0) (.int .i64 0) (.int .i64 0) (.int .i64 0) (.int .u64 0) (.slice none 0 0) /\ w'.heap[bB]? = some (.cells #[.iface te pe, .int .i64 i] 37 (0, 0)) /\ ∀ B, B <= bT -> B <= bB -> Below B w w' := by
 obtain ⟨⟨f0, f1, f2, f3, f4, f5, f6, f7, f8⟩, c0, c1, c2, c3, c4, c5, c6, c7, c8⟩ := hT.all
 have g1 := Zi hB 0
 have g2 := Zi hB 1
 have d1 := Zf hB 0 _ rfl
 have d2 := Zf hB 1 _ rfl
 have ha := assert_bad
 unfold badV
 refine callsD_of_wpS Tryz.func43 rfl fun c₀ cs hu => ?_
 apply wpS_seq
 apply wpS_region
 simp [wpOpsS, go_sem, recoverD, hu, Tryz.ntmps43, Exit.thenS]
 apply wpS_seq
 refine wpS_of_wp ?_
 go_wp2_with fail
 refine wpS_cond (t := true) (by simp [Act.eval, Array.replicate]) ?_
 simp only [if_true]
 refine wpS_of_wp ?_
 change Code.wp _ _ _ { tmps := #[.pointer (some ⟨bT, 0, none⟩), .pointer (some ⟨bB, 0, none⟩), .iface 37 (.agg #[.iface te pe, .int .i64 i]), .iface 37 (.agg #[.iface te pe, .int .i64 i]), .iface 37 (.agg #[.iface te pe, .int .i64 i]), .bool true, undef, undef, undef], defers := [] } _
 go_region
 obtain ⟨k1, t1⟩ := Zy hT (.int .i64 0) (.int .i64 0) (.string ⟨#[]⟩) (.int .i64 0) (.int .i64 0) (.int .i64 0) (.int .i64 0) (.int .u64 0) (.slice none 0 0)
 obtain ⟨k2, t2⟩ := Zs ((t1.blk bB (Ze hB) (Ne.symm hne)).trans hB) 0 (.iface te pe)
 obtain ⟨k3, t3⟩ := Zs k2 1 (.int .i64 i)
 have hlt := Ze hT
 refine ⟨rfl, _, rfl, _, results_none rfl _ _ _, rfl, rfl, ?_, ?_, fun B h1 h2 => ?_⟩
 · have hN := (t3.blk bT (Nat.lt_of_lt_of_le (Ze k1) t2.size) hne).trans ((t2.blk bT (Ze k1) hne).trans k1)
   exact Nod.drew hN
 · exact blk_drew k3
 · have b1 := t1.bel h1 (Nat.le_trans h1 (Nat.le_of_lt hlt))
   have b2 := t2.bel h2 (Nat.le_trans h1 (Nat.le_of_lt (Nat.lt_of_lt_of_le hlt t1.size)))
   have b3 := t3.bel h2 (Nat.le_trans h1 (Nat.le_of_lt (Nat.lt_of_lt_of_le hlt (Nat.le_trans t1.size t2.size))))
   exact ((b1.trans b2).trans b3).drew
theorem results_tree {tmps : Array Value} {bT bB : Nat} {w : World} {v0 v1 v2 v3 v4 v5 v6 v7 v8 z0 z1 : Value} (h2 : tmps.getD 4 undef = .pointer (some ⟨bT, 0, none⟩)) (h3 : tmps.getD 5 undef = .pointer (some ⟨bB, 0, none⟩))
 (hT : Nod w bT v0 v1 v2 v3 v4 v5 v6 v7 v8) (hB : w.heap[bB]? = some (.cells #[z0, z1] 37 (0, 0))) :
 (results Tryz.f27 tmps).run Tryz.prog w = .ok (.tuple #[.agg #[v0, v1, v2, v3, v4, v5, v6, v7, v8], .agg #[z0, z1]]) w := by
 have h2' : tmps[4]?.getD undef = .pointer (some ⟨bT, 0, none⟩) := by simpa using h2
 have h3' : tmps[5]?.getD undef = .pointer (some ⟨bB, 0, none⟩) := by simpa using h3
 obtain ⟨_, c0, c1, c2, c3, c4, c5, c6, c7, c8⟩ := hT.all
 have d1 := Zf hB 0 _ rfl
 have d2 := Zf hB 1 _ rfl
 simp [results, Tryz.results27, h2', h3', go_sem, c0, c1, c2, c3, c4, c5, c6, c7, c8, d1, d2]
theorem doorT_stop {R : Ending -> World -> Prop} {tmps : Array Value} {bT bB : Nat} {w : World} {v0 v1 v2 v3 v4 v5 v6 v7 v8 z0 z1 : Value} {te : TypeId} {pe : Value} {i : Nat} (h2 : tmps.getD 4 undef = .pointer (some ⟨bT, 0, none⟩)) (h3 : tmps.getD 5 undef = .pointer (some ⟨bB, 0, none⟩))
 (hT : Nod w bT v0 v1 v2 v3 v4 v5 v6 v7 v8) (hB : w.heap[bB]? = some (.cells #[z0, z1] 37 (0, 0))) (hne : bT ≠ bB)
 (hR : ∀ w', (∀ B, B <= bT -> B <= bB -> Below B w w') -> R (.returned (.tuple #[.agg #[.int .i64 0, .int .i64 0, .string ⟨#[]⟩, .int .i64 0, .int .i64 0, .int .i64 0, .int .i64 0, .int .u64 0, .slice none 0 0], .agg #[.iface te pe, .int .i64 i]])) w') :
 Leaves Tryz.prog Tryz.f27 tmps R [{ target := .fn (.func 43) #[.pointer (some ⟨bT, 0, none⟩), .pointer (some ⟨bB, 0, none⟩)], args := #[] }] (.panicking [{ v := badV (.iface te pe) i, recovered := false }]) w := by
 refine leaves_cons (f := 43) (args := #[.pointer (some ⟨bT, 0, none⟩), .pointer (some ⟨bB, 0, none⟩)]) (by simp) (by simp [go_sem]) ?_
 refine (catchT_stop bT bB v0 v1 v2 v3 v4 v5 v6 v7 v8 z0 z1 te pe i w hT hB hne).mono ?_
 rintro e u' w' ⟨rfl, rfl, k1, k2, hb⟩
 exact ⟨_, results_tree h2 h3 k1 k2, hR w' hb⟩
theorem doorT_end {R : Ending -> World -> Prop} {tmps : Array Value} {bT bB : Nat} {w : World} {v0 v1 v2 v3 v4 v5 v6 v7 v8 z0 z1 : Value} (h2 : tmps.getD 4 undef = .pointer (some ⟨bT, 0, none⟩)) (h3 : tmps.getD 5 undef = .pointer (some ⟨bB, 0, none⟩))
 (hT : Nod w bT v0 v1 v2 v3 v4 v5 v6 v7 v8) (hB : w.heap[bB]? = some (.cells #[z0, z1] 37 (0, 0)))
 (hR : R (.returned (.tuple #[.agg #[v0, v1, v2, v3, v4, v5, v6, v7, v8], .agg #[z0, z1]])) w) :
 Leaves Tryz.prog Tryz.f27 tmps R [{ target := .fn (.func 43) #[.pointer (some ⟨bT, 0, none⟩), .pointer (some ⟨bB, 0, none⟩)], args := #[] }] .returning w := by
 refine leaves_cons (f := 43) (args := #[.pointer (some ⟨bT, 0, none⟩), .pointer (some ⟨bB, 0, none⟩)]) (by simp) (by simp [go_sem]) ?_
 refine (catchT_idle _ _ w).mono ?_
 rintro e u' w' ⟨rfl, rfl, rfl⟩
 exact ⟨_, results_tree h2 h3 hT hB, hR⟩
def toksF (s : ByteArray) : Ended := if s.size <= 8192 then readF s else .bad (longK s) 0
theorem tokens_all (s : ByteArray) (p : List Addr) (w : World) (he : Er w p) (hG : 23 <= w.heap.size) :
 Calls Tryz.prog 42 #[.string s] w fun e w' => Tp w p e w' (toksF s) := by
 unfold toksF
 by_cases h : s.size <= 8192
 · rw [if_pos h]
   exact tokens_any s p w he hG h
 · rw [if_neg h]
   exact tokens_long s p w he hG (by omega)
theorem readF_len {s : ByteArray} : ∀ {i : Nat} {acc ts : List Tk}, rdF s i acc = .ok ts -> acc.length <= 2000 -> ts.length <= 2000 := fun {i acc ts} h hl => by
 by_cases h1 : i < s.size
 · by_cases h2 : acc.length = 2000
   · rw [rdF_full h1 h2] at h
     cases h
   · cases hq : tokF s i with
     | bad k' j' =>
      rw [rdF_bad h1 h2 hq] at h
      cases h
     | ok t e =>
      have h3 := tokF_ok h1 hq
      have h4 := blF_ge s e
      rw [rdF_step h1 h2 hq] at h
      exact readF_len h (by rw [List.length_append, List.length_singleton]; omega)
 · rw [rdF_end h1] at h
   cases h
   exact hl
termination_by i => s.size - i
theorem toksF_len {s : ByteArray} {ts : List Tk} (h : toksF s = .ok ts) : ts.length <= 2000 := by
 unfold toksF at h
 split at h
 · exact readF_len h (Nat.zero_le _)
 · cases h
theorem OwnT.push {w : World} {B b c : Nat} {v : Value} {ts : List Tk} (h : OwnT w B v ts) (hB : B <= w.heap.size) (hl : ts.length <= 2000) (t : Tk) (hb : w.heap[b]? = some (.cells #[.int .i64 t.kind, .string t.text, .int .i64 t.n, .int .u64 t.bits, .int .i64 t.pos] 80 (0, 0))) (ty : TypeId) :
 ∃ v' w', (Builtin.append_ #[76, 76] ty #[v, .slice (some ⟨b, 0, none⟩) 1 c]).run Tryz.prog w = .ok v' w' /\ (OwnT w' B v' (ts ++ [t]) /\ Below B w w') := by
 obtain ⟨ie, hi, hz0, hz1, hz2⟩ := info_parts info_tok
 have hn : ∀ j u, (Tk.cells t)[j]? = some u -> w.cell? ((⟨b, 0, none⟩ : Addr).add j) = some u := fun j u hu => by
  have e2 : (Addr.mk b 0 none).add j = ⟨b, j, none⟩ := by unfold Addr.add; by_cases h : j = 0 <;> simp [h]
  rw [e2]
  exact Zf hb j u (by rw [← hu]; unfold Tk.cells; simp)
 obtain ⟨v', w', hr, ho, hg, _⟩ := run_append_own (P := Tryz.prog) w B 76 ty 80 ie (.agg #[.int .i64 0, .string ⟨#[]⟩, .int .i64 0, .int .u64 0, .int .i64 0]) 5 48 Tryz.underlying76 hi hz0 hz1 hz2 rfl (by decide) v ts.length (toks ts) h ⟨b, 0, none⟩ 1 c (Tk.cells t) rfl hn (fun u hu => toks_one [t] u (by unfold toks; simpa using hu)) (by unfold maxLen; omega) (by omega) hB
 refine ⟨v', w', hr, ?_, ⟨hg.os, hg.tape, hg.output, hg.size, fun k hk => hg.block k (Nat.lt_of_lt_of_le hk hB) (fun e => ?_)⟩⟩
 · unfold OwnT
   rw [List.length_append, toks_app]
   exact ho
 · rcases h.2 with ⟨rfl, _⟩ | ⟨g, cap, cur, rfl, hge, _⟩
   · cases e
   · have e' : k = g := Option.some.inj e
     omega
def endTk (n : Nat) : Tk := ⟨0, ⟨#[]⟩, 0, 0, n⟩
theorem ends_toks (ts : List Tk) (n : Nat) : Ya (ts ++ [endTk n]) := fun j hj hh => by
 rw [List.length_append, List.length_singleton] at hj ⊢
 by_cases e : j = ts.length
 · exfalso
   have : Zk (ts ++ [endTk n]) j = endTk n := by
    unfold Zk
    rw [e, List.getD_eq_getElem?_getD, List.getElem?_append_right (Nat.le_refl _)]
    simp
   rw [this] at hh
   rcases hh with h | h
   · exact h rfl
   · exact h rfl
 · omega
theorem wpList_appT {w : World} {ops : Array Oper} {rest : List Oper} {o : Oper} {a : Act} {Q : Exit -> Act -> World -> Prop} (s x : Operand) (v vx : Value) (R : Value -> World -> Prop)
 (hrun : ∀ ty, ∃ v' w', (Builtin.append_ #[76, 76] ty #[v, vx]).run Tryz.prog w = .ok v' w' /\ R v' w') (hgd : o.guard = none)
 (ho : o.op = .call { callee := .builtin .append, args := #[s, x], argTypes := #[76, 76] }) (hs : a.eval s = v) (hx : a.eval x = vx)
 (h : ∀ v' w', R v' w' -> wpList Tryz.prog ops Q rest (a.put o.dst v') w') : wpList Tryz.prog ops Q (o :: rest) a w :=
 wpList_plain hgd fun _ hK => by
  obtain ⟨v', w', hr, hR⟩ := hrun o.type
  unfold Oper.wp execOp
  simp only [ho, resolve, invoke, builtin, Sem.run_bind, Sem.run_pure, Result.andThen_ok, List.map_toArray, List.map_cons, List.map_nil, hs, hx, hr]
  exact hK _ _ (h v' w' hR)
inductive Read where
 | ok (n : Nd)
 | bad (k i : Nat)
def YJ (rule : List Tk -> Out) (s : ByteArray) : Read :=
 match toksF s with
 | .bad k i => .bad k i
 | .ok ts => match rule (ts ++ [endTk s.size]) with
  | .bad k j => .bad k (Zk (ts ++ [endTk s.size]) j).pos
  | .ok n j => if (Zk (ts ++ [endTk s.size]) j).kind = 0 then .ok n else .bad 1 (Zk (ts ++ [endTk s.size]) j).pos
def Xp (w : World) (p : List Addr) (e : Ending) (w' : World) : Read -> Prop
 | .ok n => ∃ v, e = .returned (.tuple #[v, .agg #[.nilIface, .int .i64 0]]) /\ Zj w' (Fr w.heap.size) n v /\ Below w.heap.size w w'
 | .bad k i => e = .returned (.tuple #[.agg #[.int .i64 0, .int .i64 0, .string ⟨#[]⟩, .int .i64 0, .int .i64 0, .int .i64 0, .int .i64 0, .int .u64 0, .slice none 0 0], .agg #[errV p k, .int .i64 i]]) /\ Below w.heap.size w w'
end Go.Proofs.YtfnplhfjfolojaaGreatDoor.Ck
namespace Go.Proofs.YtfnplhfjfolojaaGreatDoor.Ck.Sho
open Go.RowKit
def ZU (nm : ByteArray) : Bool := match toksF nm with | .ok [t] => (t.kind : Int) == 1 && t.text.toList == nm.toList | _ => false
theorem ZE {w : World} {p : List Addr} (h : Ev w p) : Cd w p := h.errs.c8
theorem word_any (nm : ByteArray) {p : List Addr} {w : World} (he : Ev w p) : Calls Tryz.prog 107 #[.string nm] w fun e w' => e = .returned (.bool (ZU nm)) /\ Below w.heap.size w w' := by
 have TT := Zb (tokens_all nm p w he.er he.big)
 obtain ⟨out, ho⟩ : ∃ out, ZU nm = out := ⟨_, rfl⟩
 rw [ho]
 have HO := Zb ho
 clear ho he
 unfold ZU at HO
 obtain ⟨q, hq⟩ : ∃ q, toksF nm = q := ⟨_, rfl⟩
 rw [hq] at TT HO
 clear hq
 go_enter Tryz.func107, Tryz.ntmps107
 go_wp2_with fail
 refine TT.out.mono ?_
 intro e w1 hp
 cases q with
 | bad k i =>
  obtain ⟨rfl, hb⟩ := hp
  have B1 := Zb (fun o => Zc hb (Zd w1 o))
  unfold errV at *
  have hout : out = false := HO.out.symm
  subst hout
  clear hb TT HO
  go_wp2_with fail
  go_ret
  exact ⟨rfl, B1.out _⟩
 | ok ts =>
  obtain ⟨v, rfl, hown, hb⟩ := hp
  have B1 := Zb (fun o => Zc hb (Zd w1 o))
  by_cases h1 : ts.length = 1
  · obtain ⟨t, rfl⟩ := List.length_eq_one_iff.1 h1
    obtain ⟨g, cap, rfl, hg, hge, hc1, hc2, hcell⟩ := hown.at (by simp)
    have c0 := hcell 0 _ rfl
    have c1 := hcell 1 _ rfl
    have d0 := Zb (fun o => ((Zd w1 o).cell (p := ⟨g, 0, none⟩) hg).trans c0)
    have d1 := Zb (fun o => ((Zd w1 o).cell (p := ⟨g, 1, none⟩) hg).trans c1)
    have hout : out = ((t.kind : Int) == 1 && t.text.toList == nm.toList) := HO.out.symm
    have e0 := d0.out (.cells #[.nilIface, .int .i64 0] 37)
    have e1 := d1.out (.cells #[.nilIface, .int .i64 0] 37)
    have HOUT := Zb hout
    clear hout hb TT HO hown hcell c0 c1 d0 d1
    simp only [List.length_cons, List.length_nil, Nat.zero_add] at *
    unfold maxLen at hc2
    go_wp2_with fail
    all_goals
     go_ret
     refine ⟨congrArg Ending.returned (congrArg Value.bool ?_), B1.out _⟩
     rw [HOUT.out]
     simp_all
  · obtain ⟨a, c, rfl⟩ := hown.len
    have hout : out = false := by
     rw [← HO.out]
     match ts, h1 with
     | [], _ => rfl
     | [t], h1 => exact absurd rfl h1
     | _ :: _ :: _, _ => rfl
    subst hout
    have h2 : ((ts.length : Int) == 1) = false := by simp; omega
    obtain ⟨n, hn⟩ : ∃ n, ts.length = n := ⟨_, rfl⟩
    rw [hn] at h2 h1 ⊢
    clear hb TT HO hown hn
    go_wp2_with fail
    go_ret
    exact ⟨rfl, B1.out _⟩
theorem ZN {w : World} {p : List Addr} (he : Ev w p) (kd ps : Int) (nm : ByteArray) (t nz z ob bi : Int) (oa : Option Addr) (len cap : Nat) :
 Calls Tryz.prog 68 #[.agg #[.int .i64 kd, .int .i64 ps, .string nm, .int .i64 t, .int .i64 nz, .int .i64 z, .int .i64 ob, .int .u64 bi, .slice oa len cap]] w fun e w' => Gt p w (ZU nm) (.agg #[.int .i64 kd, .int .i64 ps, .string ⟨#[]⟩, .int .i64 t, .int .i64 nz, .int .i64 z, .int .i64 ob, .int .u64 bi, .slice oa len cap]) e w' := by
 have hb1 := Zd w (.cells #[.int .i64 kd, .int .i64 ps, .string nm, .int .i64 t, .int .i64 nz, .int .i64 z, .int .i64 ob, .int .u64 bi, .slice oa len cap] 29)
 have k1 : Nod (w.alloc (.cells #[.int .i64 kd, .int .i64 ps, .string nm, .int .i64 t, .int .i64 nz, .int .i64 z, .int .i64 ob, .int .u64 bi, .slice oa len cap] 29)) w.heap.size (.int .i64 kd) (.int .i64 ps) (.string nm) (.int .i64 t) (.int .i64 nz) (.int .i64 z) (.int .i64 ob) (.int .u64 bi) (.slice oa len cap) := B_ _ _
 have s1 : (w.alloc (.cells #[.int .i64 kd, .int .i64 ps, .string nm, .int .i64 t, .int .i64 nz, .int .i64 z, .int .i64 ob, .int .u64 bi, .slice oa len cap] 29)).heap.size = w.heap.size + 1 := by simp
 have hb2 := Zd (w.alloc (.cells #[.int .i64 kd, .int .i64 ps, .string nm, .int .i64 t, .int .i64 nz, .int .i64 z, .int .i64 ob, .int .u64 bi, .slice oa len cap] 29)) Zh
 have k2 : Nod ((w.alloc (.cells #[.int .i64 kd, .int .i64 ps, .string nm, .int .i64 t, .int .i64 nz, .int .i64 z, .int .i64 ob, .int .u64 bi, .slice oa len cap] 29)).alloc Zh) (w.alloc (.cells #[.int .i64 kd, .int .i64 ps, .string nm, .int .i64 t, .int .i64 nz, .int .i64 z, .int .i64 ob, .int .u64 bi, .slice oa len cap] 29)).heap.size (.int .i64 0) (.int .i64 0) (.string ⟨#[]⟩) (.int .i64 0) (.int .i64 0) (.int .i64 0) (.int .i64 0) (.int .u64 0) (.slice none 0 0) := B_ _ _
 rw [s1] at k2
 have B0 := Zb (Zc hb1 hb2)
 have N0 := Zb (k1.bel hb2)
 have Z0 := Zb k2
 have E0 := Zb (he.bel B0.out)
 have hw0 : w.heap.size + 1 < ((w.alloc (.cells #[.int .i64 kd, .int .i64 ps, .string nm, .int .i64 t, .int .i64 nz, .int .i64 z, .int .i64 ob, .int .u64 bi, .slice oa len cap] 29)).alloc Zh).heap.size := Ze k2
 clear he hb1 k1 s1 hb2 k2
 unfold Zh at *
 obtain ⟨ok, hok⟩ : ∃ ok, ZU nm = ok := ⟨_, rfl⟩
 rw [hok]
 have HOK := Zb hok
 clear hok
 go_enter Tryz.func68, Tryz.ntmps68
 go_wp2_with fail
 generalize (w.alloc _).alloc _ = w0 at *
 refine wp_region_held_drew (S := fun w' => Nod w' w.heap.size (.int .i64 kd) (.int .i64 ps) (.string nm) (.int .i64 t) (.int .i64 nz) (.int .i64 z) (.int .i64 ob) (.int .u64 bi) (.slice oa len cap)) ZI N0.out (fun hH => ?_)
 refine H_ 0 (v := ?_) ?_ hH ?_
 rotate_left 1
 · (intro w hSw; obtain ⟨_, e0, e1, e2, e3, e4, e5, e6, e7, e8⟩ := hSw.all; clear hSw; go_simp <;> with_reducible rfl)
 simp only [Act.put, S_]
 refine H_ 1 (v := ?_) ?_ hH ?_
 rotate_left 1
 · (intro w _; go_simp <;> with_reducible rfl)
 simp only [Act.put, S_]
 refine H_ 2 (v := ?_) ?_ hH ?_
 rotate_left 1
 · (intro w hSw; obtain ⟨_, e0, e1, e2, e3, e4, e5, e6, e7, e8⟩ := hSw.all; clear hSw; go_simp <;> with_reducible rfl)
 simp only [Act.put, S_]
 refine wpAnyH_ready (rs := [3]) (by kernel_rfl) (by decide) ?_
 refine AllReadyH.cons rfl (fun K1 hK1 => ?_) AllReadyH.nil
 go_simp
 have bd : Below w0.heap.size w0 w0.drew := Zm (Below.refl _ _)
 refine (word_any nm (E0.out.bel bd)).mono ?_
 rintro e w1 ⟨rfl, hb⟩
 rw [HOK.out]
 have b1 := Zc bd hb
 refine hK1.out _ _ (hH.bel hb) (fun hH => ?_)
 clear hK1 K1
 refine wpAnyH_ready (rs := [4]) (by kernel_rfl) (by decide) ?_
 refine AllReadyH.cons rfl (fun K1 hK1 => ?_) AllReadyH.nil
 go_simp
 refine (Yw (ZE (E0.out.bel b1)) kd ps nm t nz z ob bi oa len cap ok).mono ?_
 intro e w2 hp
 rcases hp.both with ⟨h1, rfl, hb2⟩ | ⟨h1, rfl, hb2⟩
 · have b2 := Zc b1 hb2
   refine hK1.out _ _ (hH.bel hb2) (fun hH => ?_)
   clear hK1 K1
   have z2 := Z0.out.bel b2
   have bb := Zc B0.out b2
   obtain ⟨⟨g0, g1, g2, g3, g4, g5, g6, g7, g8⟩, c0, c1, c2, c3, c4, c5, c6, c7, c8⟩ := z2.all
   obtain ⟨k4, t4⟩ := Zy z2 (.int .i64 kd) (.int .i64 ps) (.string ⟨#[]⟩) (.int .i64 t) (.int .i64 nz) (.int .i64 z) (.int .i64 ob) (.int .u64 bi) (.slice oa len cap)
   have K4 := Zb k4
   have N4 := Zb (hH.tn t4 (by omega))
   have B4 := Zb (bb.trans (t4.bel (by omega) bb.size))
   clear k4 t4 z2 bb hb hb2 b1 b2 bd hp
   refine wpAnyH_ready (rs := [5]) (by kernel_rfl) (by decide) ?_
   refine AllReadyH.cons rfl (fun K1 hK1 => ?_) AllReadyH.nil
   go_simp
   refine hK1.out _ _ N4.out (fun hH => ?_)
   clear hK1 K1
   refine wpAnyH_done (by kernel_rfl) ?_ _
   go_wp2_with fail
   refine Zg (w.heap.size + 1) rfl rfl K4.out rfl ?_
   exact Gt.yes h1 B4.out
 · exact ⟨rfl, Gt.no h1 (Zc B0.out (Zc b1 hb2))⟩
end Go.Proofs.YtfnplhfjfolojaaGreatDoor.Ck.Sho
namespace Go.Proofs.YtfnplhfjfolojaaGreatDoor.Ck
open Go.RowKit
theorem read_expr (s : ByteArray) (p : List Addr) (w : World) (he : Er w p) (hd : w.cell? ⟨3, 0, none⟩ = some (errV p 2)) (hG : 23 <= w.heap.size) :
 Calls Tryz.prog 27 #[.string s, .func (.func 32) #[] #[]] w fun e w' => Xp w p e w' (YJ (fun L => exD L 0 0) s) := by
 have hmf : ∀ (fn : Fn) (first cap : Array Value) (w : World), (Instr.makeFunc fn first cap).run Tryz.prog w = .ok (.func fn first cap) w := fun _ _ _ _ => rfl
 have hb1 := Zd w Zh
 have k1 := ZG w
 have s1 : (w.alloc Zh).heap.size = w.heap.size + 1 := by simp
 have hb2 := Zd (w.alloc Zh) (.cells #[.nilIface, .int .i64 0] 37)
 have k2 : ((w.alloc Zh).alloc (.cells #[.nilIface, .int .i64 0] 37)).heap[(w.alloc Zh).heap.size]? = some (.cells #[.nilIface, .int .i64 0] 37 (0, 0)) := B_ _ _
 rw [s1] at k2
 have B0 := Zb (Zc hb1 hb2)
 have N0 := Zb (k1.bel hb2)
 have K0 := Zb k2
 have E0 := Zb (he.bel B0.out)
 have D0 := Zb ((B0.out.cell (p := ⟨3, 0, none⟩) (World.block_lt_of_cell? w _ hd)).trans hd)
 have s2 : ((w.alloc Zh).alloc (.cells #[.nilIface, .int .i64 0] 37)).heap.size = w.heap.size + 1 + 1 := by simp
 obtain ⟨out, ho⟩ : ∃ out, YJ (fun L => exD L 0 0) s = out := ⟨_, rfl⟩
 rw [ho]
 have HW := Zb ho
 clear he hd hb1 k1 s1 hb2 k2 ho
 unfold Zh at *
 go_enter_defers Tryz.func27, Tryz.ntmps27
 go_wp2_with fail
 generalize (w.alloc _).alloc _ = w0 at *
 refine (tokens_all s p w0 E0.out (by omega)).mono ?_
 intro e w1 hp
 obtain ⟨q, hq⟩ : ∃ q, toksF s = q := ⟨_, rfl⟩
 rw [hq] at hp
 cases q with
 | bad k i =>
  obtain ⟨rfl, hb⟩ := hp
  have n1 := N0.out.bel hb
  have k1 := (hb.block _ (Ze K0.out)).trans K0.out
  have c1 := Zf k1 0 _ rfl
  have c2 := Zf k1 1 _ rfl
  have f1 := Zi k1 0
  have f2 := Zi k1 1
  obtain ⟨k2, t2⟩ := Zs k1 0 (errV p k)
  obtain ⟨k3, t3⟩ := Zs k2 1 (.int .i64 i)
  have N3 := Zb ((n1.tn t2 (by omega)).tn t3 (by omega))
  have K3 := Zb k3
  have B1 := Zc B0.out hb
  have B3 := Zb ((B1.trans (t2.bel (by omega) B1.size)).trans (t3.bel (by omega) (Nat.le_trans B1.size t2.size)))
  have HQ := Zb hq
  unfold errV at *
  clear k1 k2 k3 t2 t3 n1 hb B1 hq E0 N0 K0 B0 D0
  go_wp2_with fail
  clear c1 c2 f1 f2
  generalize (w1.setCell ⟨w.heap.size + 1, 0, none⟩ (.iface 231 (.pointer (some (adr p k))))).setCell ⟨w.heap.size + 1, 1, none⟩ (.int .i64 (i : Int)) = w3 at *
  obtain ⟨⟨f0, f1, f2, f3, f4, f5, f6, f7, f8⟩, b0, b1, b2, b3, b4, b5, b6, b7, b8⟩ := N3.out.all
  have c1 := Zf K3.out 0 _ rfl
  have c2 := Zf K3.out 1 _ rfl
  have g1 := Zi K3.out 0
  have g2 := Zi K3.out 1
  go_region
  obtain ⟨k5, t5⟩ := Zy N3.out (.int .i64 0) (.int .i64 0) (.string ⟨#[]⟩) (.int .i64 0) (.int .i64 0) (.int .i64 0) (.int .i64 0) (.int .u64 0) (.slice none 0 0)
  obtain ⟨k6, t6⟩ := Zs ((t5.blk _ (Ze K3.out) (by omega)).trans K3.out) 0 (.iface 231 (.pointer (some (adr p k))))
  obtain ⟨k7, t7⟩ := Zs k6 1 (.int .i64 i)
  have N7 := Zb (Nod.drew ((k5.tn t6 (by omega)).tn t7 (by omega)))
  have K7 := Zb (blk_drew k7)
  have B7 := Zb (Zm (((B3.out.trans (t5.bel (by omega) B3.out.size)).trans (t6.bel (by omega) (Nat.le_trans B3.out.size t5.size))).trans (t7.bel (by omega) (Nat.le_trans B3.out.size (Nat.le_trans t5.size t6.size)))))
  clear k5 t5 k6 t6 k7 t7 f0 f1 f2 f3 f4 f5 f6 f7 f8 b0 b1 b2 b3 b4 b5 b6 b7 b8 c1 c2 g1 g2 N3 K3 B3
  go_wp2_with fail
  refine ⟨_, results_tree rfl rfl N7.out K7.out, ?_⟩
  have hw := HW.out
  simp only [YJ, HQ.out] at hw
  subst hw
  exact ⟨rfl, B7.out⟩
 | ok ts =>
  obtain ⟨v, rfl, hown, hb⟩ := hp
  have hl := toksF_len hq
  have n1 := N0.out.bel hb
  have k1 := (hb.block _ (Ze K0.out)).trans K0.out
  have c1 := Zf k1 0 _ rfl
  have c2 := Zf k1 1 _ rfl
  have f1 := Zi k1 0
  have f2 := Zi k1 1
  obtain ⟨k2, t2⟩ := Zs k1 0 .nilIface
  obtain ⟨k3, t3⟩ := Zs k2 1 (.int .i64 0)
  have B1 := Zc B0.out hb
  have B3 := (B1.trans (t2.bel (by omega) B1.size)).trans (t3.bel (by omega) (Nat.le_trans B1.size t2.size))
  have N3 := (n1.tn t2 (by omega)).tn t3 (by omega)
  have O3 := (hown.tn t2 (by omega)).tn t3 (by omega)
  have E3 := ((E0.out.bel hb).tn t2 (by omega)).tn t3 (by omega)
  have D3 := t3.cell (by omega) (t2.cell (by omega) ((hb.cell (p := ⟨3, 0, none⟩) (World.block_lt_of_cell? w0 _ D0.out)).trans D0.out))
  have z3 : w0.heap.size <= ((w1.setCell ⟨w.heap.size + 1, 0, none⟩ .nilIface).setCell ⟨w.heap.size + 1, 1, none⟩ (.int .i64 0)).heap.size := Nat.le_trans hb.size (Nat.le_trans t2.size t3.size)
  obtain ⟨av, cv, ev⟩ := hown.len
  obtain ⟨n, en⟩ : ∃ n, n = ts.length := ⟨_, rfl⟩
  rw [← en] at ev
  subst ev
  have hb4 := Zd ((w1.setCell ⟨w.heap.size + 1, 0, none⟩ .nilIface).setCell ⟨w.heap.size + 1, 1, none⟩ (.int .i64 0)) (.cells #[.int .i64 0, .string ⟨#[]⟩, .int .i64 0, .int .u64 0, .int .i64 s.size] 80)
  have kb : (((w1.setCell ⟨w.heap.size + 1, 0, none⟩ .nilIface).setCell ⟨w.heap.size + 1, 1, none⟩ (.int .i64 0)).alloc (.cells #[.int .i64 0, .string ⟨#[]⟩, .int .i64 0, .int .u64 0, .int .i64 s.size] 80)).heap[((w1.setCell ⟨w.heap.size + 1, 0, none⟩ .nilIface).setCell ⟨w.heap.size + 1, 1, none⟩ (.int .i64 0)).heap.size]? = some (.cells #[.int .i64 0, .string ⟨#[]⟩, .int .i64 0, .int .u64 0, .int .i64 s.size] 80 (0, 0)) := B_ _ _
  have e3 : ((w1.setCell ⟨w.heap.size + 1, 0, none⟩ .nilIface).setCell ⟨w.heap.size + 1, 1, none⟩ (.int .i64 0)).heap.size = w1.heap.size := by simp
  rw [e3] at kb
  have PU := Zb (fun ty => (O3.below hb4).push (c := 1) (Nat.le_trans z3 hb4.size) hl (endTk s.size) kb ty)
  have HQ := Zb hq
  have I4 := Zb (And.intro (N3.bel hb4) (And.intro ((hb4.block _ (Ze k3)).trans k3) (And.intro (Zc B3 hb4) (And.intro (E3.bel hb4) ((hb4.cell (p := ⟨3, 0, none⟩) (World.block_lt_of_cell? _ _ D3)).trans D3)))))
  have z4 := Zb (Nat.le_trans z3 hb4.size)
  have EN := Zb en
  have HL := Zb hl
  clear k1 k2 k3 t2 t3 n1 hb B1 hq E0 N0 K0 B0 D0 N3 O3 E3 D3 z3 hb4 B3 hown en hl kb e3
  go_wp2_with (first | (at_builtin; refine wpList_appT (.tmp 19) (.tmp 23) _ _ _ PU.out rfl rfl rfl rfl ?_; rintro v7 w7 ⟨o7, t7⟩; obtain ⟨gT, cap, e7, h7⟩ := o7.row (by simp); obtain ⟨m, hm⟩ : ∃ m, m = (ts ++ [endTk s.size]).length := ⟨_, rfl⟩; rw [← hm] at e7; subst e7; have R7 := Zb h7; have M7 := Zb hm; have T7 := Zb t7; clear o7 t7 h7 hm PU))
  clear c1 c2 f1 f2
  have hb8 := Zd w7 (.cells #[.slice (some ⟨gT, 0, none⟩) m cap, .int .i64 0, .int .i64 0] 82)
  have L0 : (ts ++ [endTk s.size]).length = ts.length + 1 := by simp
  obtain ⟨hBg, hgl, hc1, hc2, hrow⟩ := R7.out
  have hE := ends_toks ts s.size
  have hlen := HL.out
  have hm := M7.out
  obtain ⟨i1, i2, i3, i4, i5⟩ := I4.out
  have tb := T7.out
  have z7 : w0.heap.size <= w7.heap.size := Nat.le_trans z4.out tb.size
  have P8 : Ps (w7.alloc (.cells #[.slice (some ⟨gT, 0, none⟩) m cap, .int .i64 0, .int .i64 0] 82)) p w7.heap.size gT (ts ++ [endTk s.size]) 0 0 :=
   ⟨⟨cap, by rw [← hm]; exact B_ _ _, by rw [← hm]; omega, hc2⟩, hrow.bel hb8, by omega, (i4.belB tb (by omega)).bel hb8, (hb8.cell (p := ⟨3, 0, none⟩) (show 3 < w7.heap.size by omega)).trans ((tb.cell (p := ⟨3, 0, none⟩) (show 3 < w0.heap.size by omega)).trans i5), by omega, by omega, by omega⟩
  have n7 : Nod w7 w.heap.size (.int .i64 0) (.int .i64 0) (.string ⟨#[]⟩) (.int .i64 0) (.int .i64 0) (.int .i64 0) (.int .i64 0) (.int .u64 0) (.slice none 0 0) := (tb.block _ (show w.heap.size < w0.heap.size by omega)).trans i1
  have N8 := Zb (n7.bel hb8)
  have K8 := Zb ((hb8.block _ (show w.heap.size + 1 < w7.heap.size by omega)).trans ((tb.block _ (show w.heap.size + 1 < w0.heap.size by omega)).trans i2))
  have B8 := Zb ((i3.trans (tb.mono (show w.heap.size <= w0.heap.size by omega))).trans (hb8.mono (show w.heap.size <= w7.heap.size by omega)))
  have P8 := Zb P8
  have HE := Zb hE
  have Z7 := Zb (And.intro hBg (And.intro hgl z7))
  clear n7 hBg hgl hc1 hc2 hrow hE hlen hm i1 i2 i3 i4 i5 tb z7 hb8 L0 I4 z4 EN HL R7 M7 T7
  generalize w7.alloc _ = w8 at *
  have z8 : w0.heap.size <= w8.heap.size := Nat.le_of_lt (Nat.lt_of_le_of_lt Z7.out.2.2 P8.out.lt_g)
  have hg0 : w0.heap.size <= w7.heap.size := Z7.out.2.2
  have hgT : w0.heap.size <= gT := Z7.out.1
  generalize w7.heap.size = g at *
  have RU := Zb (rule_ex p _ gT _ HE.out 0 (by omega) 0 _ P8.out)
  refine RU.out.mono ?_
  intro e w9 hp
  rcases hp.both with ⟨kb, jb, c1, rfl, r2⟩ | ⟨kd, ps, nm, t, nz, z, ob, bi, ks, a, len, ck, j, c1, rfl, hk, r1, r2⟩
  · refine doorT_stop rfl rfl (N8.out.tn r2 (by omega)) ((r2.blk _ (Ze K8.out) (by omega)).trans K8.out) (by omega) (fun w' hb => ?_)
    have hw := HW.out
    simp only [YJ, HQ.out, c1] at hw
    subst hw
    exact ⟨rfl, (B8.out.trans (r2.bel (by omega) B8.out.size)).trans (hb _ (Nat.le_refl _) (by omega))⟩
  · have C1 := Zb c1
    have n9 := N8.out.tn r2 (by omega)
    have k9 := (r2.blk _ (Ze K8.out) (by omega)).trans K8.out
    have B9 := B8.out.trans (r2.bel (by omega) B8.out.size)
    obtain ⟨⟨f0, f1, f2, f3, f4, f5, f6, f7, f8⟩, b0, b1, b2, b3, b4, b5, b6, b7, b8⟩ := n9.all
    obtain ⟨x9, s9⟩ := Zy n9 (.int .i64 kd) (.int .i64 ps) (.string nm) (.int .i64 t) (.int .i64 nz) (.int .i64 z) (.int .i64 ob) (.int .u64 bi) (.slice a len ck)
    have N10 := Zb x9
    have K10 := Zb ((s9.blk _ (Ze k9) (by omega)).trans k9)
    have B10 := Zb (B9.trans (s9.bel (by omega) B9.size))
    have P10 := Zb (r1.tn s9 (by omega) (by omega) (by omega))
    have J10 := Zb (hk.tn s9 (by omega))
    clear c1 n9 k9 B9 x9 s9 r1 r2 hk RU N8 K8 B8 P8
    go_wp2_with fail
    clear f0 f1 f2 f3 f4 f5 f6 f7 f8 b0 b1 b2 b3 b4 b5 b6 b7 b8
    generalize ((((((((w9.setCell ⟨w.heap.size, 0, none⟩ (.int .i64 kd)).setCell ⟨w.heap.size, 1, none⟩ (.int .i64 ps)).setCell ⟨w.heap.size, 2, none⟩ (.string nm)).setCell ⟨w.heap.size, 3, none⟩ (.int .i64 t)).setCell ⟨w.heap.size, 4, none⟩ (.int .i64 nz)).setCell ⟨w.heap.size, 5, none⟩ (.int .i64 z)).setCell ⟨w.heap.size, 6, none⟩ (.int .i64 ob)).setCell ⟨w.heap.size, 7, none⟩ (.int .u64 bi)).setCell ⟨w.heap.size, 8, none⟩ (.slice a len ck) = w10 at *
    refine (more_both P10.out).mono ?_
    rintro e w11 (⟨c2, rfl, hb⟩ | ⟨c2, rfl, hb⟩)
    · have n11 := N10.out.bel hb
      have k11 := (hb.block _ (Ze K10.out)).trans K10.out
      have B11 := B10.out.trans (hb.mono B10.out.size)
      have j11 := J10.out.bel hb
      obtain ⟨⟨f0, f1, f2, f3, f4, f5, f6, f7, f8⟩, b0, b1, b2, b3, b4, b5, b6, b7, b8⟩ := n11.all
      obtain ⟨x12, s12⟩ := Zy n11 (.int .i64 kd) (.int .i64 ps) (.string nm) (.int .i64 t) (.int .i64 nz) (.int .i64 z) (.int .i64 ob) (.int .u64 bi) (.slice a len ck)
      have k12 := (s12.blk _ (Ze k11) (by omega)).trans k11
      have g1 := Zi k12 0
      have g2 := Zi k12 1
      have e1 := Zf k12 0 _ rfl
      have e2 := Zf k12 1 _ rfl
      obtain ⟨k13, t13⟩ := Zs k12 0 .nilIface
      obtain ⟨k14, t14⟩ := Zs k13 1 (.int .i64 0)
      have N14 := Zb ((x12.tn t13 (by omega)).tn t14 (by omega))
      have K14 := Zb k14
      have B14 := Zb (((B11.trans (s12.bel (by omega) B11.size)).trans (t13.bel (by omega) (Nat.le_trans B11.size s12.size))).trans (t14.bel (by omega) (Nat.le_trans B11.size (Nat.le_trans s12.size t13.size))))
      have J14 := Zb (((j11.tn s12 (by omega)).tn t13 (by omega)).tn t14 (by omega))
      have C2 := Zb c2
      clear c2 n11 k11 B11 j11 x12 s12 k12 k13 t13 k14 t14 hb N10 K10 B10 P10 J10
      go_wp2_with fail
      refine doorT_end rfl rfl N14.out K14.out ?_
      have hw := HW.out
      simp only [YJ, HQ.out, C1.out, if_pos C2.out] at hw
      subst hw
      refine ⟨_, rfl, ?_, B14.out⟩
      unfold Zj
      exact ⟨_, rfl, J14.out.low (by omega)⟩
    · have P11 := Zb (P10.out.below hb)
      have N11 := Zb (N10.out.bel hb)
      have K11 := Zb ((hb.block _ (Ze K10.out)).trans K10.out)
      have B11 := Zb (B10.out.trans (hb.mono B10.out.size))
      have x1 := P11.out.er.c1
      have C2 := Zb c2
      clear c2 hb N10 K10 B10 P10 J10
      go_wp2_with fail
      refine (refuse_at P11.out _ _).mono ?_
      rintro e w12 ⟨rfl, hb⟩
      refine doorT_stop rfl rfl (N11.out.bel hb) ((hb.block _ (Ze K11.out)).trans K11.out) (by omega) (fun w' hb2 => ?_)
      have hw := HW.out
      simp only [YJ, HQ.out, C1.out, if_neg C2.out] at hw
      subst hw
      exact ⟨rfl, (B11.out.trans (hb.mono B11.out.size)).trans (hb2 _ (Nat.le_refl _) (by omega))⟩
theorem results_Expr {tmps : Array Value} {bT bB : Nat} {w : World} {v0 v1 v2 v3 v4 v5 v6 v7 v8 z0 z1 : Value} (h2 : tmps.getD 2 undef = .pointer (some ⟨bT, 0, none⟩)) (h3 : tmps.getD 3 undef = .pointer (some ⟨bB, 0, none⟩))
 (hT : Nod w bT v0 v1 v2 v3 v4 v5 v6 v7 v8) (hB : w.heap[bB]? = some (.cells #[z0, z1] 37 (0, 0))) :
 (results Tryz.f20 tmps).run Tryz.prog w = .ok (.tuple #[.agg #[v0, v1, v2, v3, v4, v5, v6, v7, v8], .agg #[z0, z1]]) w := by
 have h2' : tmps[2]?.getD undef = .pointer (some ⟨bT, 0, none⟩) := by simpa using h2
 have h3' : tmps[3]?.getD undef = .pointer (some ⟨bB, 0, none⟩) := by simpa using h3
 obtain ⟨_, c0, c1, c2, c3, c4, c5, c6, c7, c8⟩ := hT.all
 have d1 := Zf hB 0 _ rfl
 have d2 := Zf hB 1 _ rfl
 simp [results, Tryz.results20, h2', h3', go_sem, c0, c1, c2, c3, c4, c5, c6, c7, c8, d1, d2]
theorem text_expr (s : ByteArray) (p : List Addr) (w : World) (he : Er w p) (hd : w.cell? ⟨3, 0, none⟩ = some (errV p 2)) (hG : 23 <= w.heap.size) :
 Calls Tryz.prog 20 #[.string s] w fun e w' => Xp w p e w' (YJ (fun L => exD L 0 0) s) := by
 have hb1 := Zd w Zh
 have k1 := ZG w
 have s1 : (w.alloc Zh).heap.size = w.heap.size + 1 := by simp
 have hb2 := Zd (w.alloc Zh) (.cells #[.nilIface, .int .i64 0] 37)
 have k2 : ((w.alloc Zh).alloc (.cells #[.nilIface, .int .i64 0] 37)).heap[(w.alloc Zh).heap.size]? = some (.cells #[.nilIface, .int .i64 0] 37 (0, 0)) := B_ _ _
 rw [s1] at k2
 have B0 := Zb (Zc hb1 hb2)
 have N0 := Zb (k1.bel hb2)
 have K0 := Zb k2
 have RD := Zb (read_expr s p _ (he.bel B0.out) ((B0.out.cell (p := ⟨3, 0, none⟩) (World.block_lt_of_cell? w _ hd)).trans hd) (Nat.le_trans hG B0.out.size))
 obtain ⟨out, ho⟩ : ∃ out, YJ (fun L => exD L 0 0) s = out := ⟨_, rfl⟩
 rw [ho] at RD ⊢
 clear he hd hb1 k1 s1 hb2 k2 ho
 unfold Zh at *
 go_enter Tryz.func20, Tryz.ntmps20
 go_wp2_with fail
 generalize (w.alloc _).alloc _ = w0 at *
 refine RD.out.mono ?_
 intro e w1 hp
 have hw0 : w.heap.size + 1 < w0.heap.size := Ze K0.out
 cases out with
 | bad k i =>
  obtain ⟨rfl, hb⟩ := hp
  have n1 := N0.out.bel hb
  have k1 := (hb.block _ (Ze K0.out)).trans K0.out
  obtain ⟨⟨f0, f1, f2, f3, f4, f5, f6, f7, f8⟩, b0, b1, b2, b3, b4, b5, b6, b7, b8⟩ := n1.all
  obtain ⟨k5, t5⟩ := Zy n1 (.int .i64 0) (.int .i64 0) (.string ⟨#[]⟩) (.int .i64 0) (.int .i64 0) (.int .i64 0) (.int .i64 0) (.int .u64 0) (.slice none 0 0)
  have k6 := (t5.blk _ (Ze k1) (by omega)).trans k1
  have c1 := Zf k6 0 _ rfl
  have c2 := Zf k6 1 _ rfl
  have g1 := Zi k6 0
  have g2 := Zi k6 1
  obtain ⟨k7, t7⟩ := Zs k6 0 (errV p k)
  obtain ⟨k8, t8⟩ := Zs k7 1 (.int .i64 i)
  have B1 := Zc B0.out hb
  have N8 := Zb ((k5.tn t7 (by omega)).tn t8 (by omega))
  have K8 := Zb k8
  have B8 := Zb (((B1.trans (t5.bel (by omega) B1.size)).trans (t7.bel (by omega) (Nat.le_trans B1.size t5.size))).trans (t8.bel (by omega) (Nat.le_trans B1.size (Nat.le_trans t5.size t7.size))))
  clear n1 k1 k5 t5 k6 k7 t7 k8 t8 B1 hb N0 K0 B0 RD
  go_wp2_with fail
  refine bodyPost_ret (results_Expr rfl rfl N8.out K8.out) rfl ?_
  exact ⟨rfl, B8.out⟩
 | ok n =>
  obtain ⟨v, rfl, hv, hb⟩ := hp
  obtain ⟨kd, ps, nm, t, nz, z, ob, bi, ks⟩ := n
  unfold Zj at hv
  obtain ⟨s', rfl, hk⟩ := hv
  obtain ⟨a, len, ck, rfl⟩ := hk.shape
  have n1 := N0.out.bel hb
  have k1 := (hb.block _ (Ze K0.out)).trans K0.out
  obtain ⟨⟨f0, f1, f2, f3, f4, f5, f6, f7, f8⟩, b0, b1, b2, b3, b4, b5, b6, b7, b8⟩ := n1.all
  obtain ⟨k5, t5⟩ := Zy n1 (.int .i64 kd) (.int .i64 ps) (.string nm) (.int .i64 t) (.int .i64 nz) (.int .i64 z) (.int .i64 ob) (.int .u64 bi) (.slice a len ck)
  have k6 := (t5.blk _ (Ze k1) (by omega)).trans k1
  have c1 := Zf k6 0 _ rfl
  have c2 := Zf k6 1 _ rfl
  have g1 := Zi k6 0
  have g2 := Zi k6 1
  obtain ⟨k7, t7⟩ := Zs k6 0 .nilIface
  obtain ⟨k8, t8⟩ := Zs k7 1 (.int .i64 0)
  have B1 := Zc B0.out hb
  have N8 := Zb ((k5.tn t7 (by omega)).tn t8 (by omega))
  have K8 := Zb k8
  have B8 := Zb (((B1.trans (t5.bel (by omega) B1.size)).trans (t7.bel (by omega) (Nat.le_trans B1.size t5.size))).trans (t8.bel (by omega) (Nat.le_trans B1.size (Nat.le_trans t5.size t7.size))))
  have J8 := Zb (((hk.tn t5 (by omega)).tn t7 (by omega)).tn t8 (by omega))
  have hwz := Zb (show w.heap.size <= w0.heap.size by omega)
  clear n1 k1 k5 t5 k6 k7 t7 k8 t8 B1 hb N0 K0 B0 RD hk
  go_wp2_with fail
  refine bodyPost_ret (results_Expr rfl rfl N8.out K8.out) rfl ?_
  refine ⟨_, rfl, ?_, B8.out⟩
  unfold Zj
  exact ⟨_, rfl, J8.out.low hwz.out⟩
def Nd.type : Nd -> Int | .mk _ _ _ t _ _ _ _ _ => t
def Nd.num : Nd -> Int | .mk _ _ _ _ n _ _ _ _ => n
def Nd.size : Nd -> Int | .mk _ _ _ _ _ z _ _ _ => z
def Nd.obj : Nd -> Int | .mk _ _ _ _ _ _ o _ _ => o
def Nd.bits : Nd -> Int | .mk _ _ _ _ _ _ _ b _ => b
structure NodAt (w : World) (g o : Nat) (n : Nd) (s : Value) : Prop where
 c0 : w.cell? ⟨g, o, none⟩ = some (.int .i64 n.kind)
 c1 : w.cell? ⟨g, o + 1, none⟩ = some (.int .i64 n.pos)
 c2 : w.cell? ⟨g, o + 2, none⟩ = some (.string n.name)
 c3 : w.cell? ⟨g, o + 3, none⟩ = some (.int .i64 n.type)
 c4 : w.cell? ⟨g, o + 4, none⟩ = some (.int .i64 n.num)
 c5 : w.cell? ⟨g, o + 5, none⟩ = some (.int .i64 n.size)
 c6 : w.cell? ⟨g, o + 6, none⟩ = some (.int .i64 n.obj)
 c7 : w.cell? ⟨g, o + 7, none⟩ = some (.int .u64 n.bits)
 c8 : w.cell? ⟨g, o + 8, none⟩ = some s
theorem Yr {w : World} {g i : Nat} {cur : Array Value} {t : TypeId} (h : w.heap[g]? = some (.cells cur t (0, 0))) (hi : i < cur.size) {v : Value} (hv : cD w g i = v) : w.cell? ⟨g, i, none⟩ = some v := by
 have h1 := Zf h i cur[i] (Array.getElem?_eq_getElem hi)
 unfold cD at hv
 rw [h1] at hv
 rw [h1, ← hv]
 rfl
theorem NodAt.of {w : World} {S : Nat -> Prop} {g o : Nat} {cur : Array Value} {t : TypeId} (h : w.heap[g]? = some (.cells cur t (0, 0))) (ho : o + 9 <= cur.size) {n : Nd} (hn : Zj w S n (Yq w g o)) : ∃ s, NodAt w g o n s /\ Zt w S n.kids s := by
 obtain ⟨kd, ps, nm, t', nz, z, ob, bi, ks⟩ := n
 unfold Zj at hn
 obtain ⟨s, h1, h2⟩ := hn
 unfold Yq at h1
 injection h1 with h1
 have hx : ∀ (j : Nat) (u : Value), (#[.int .i64 kd, .int .i64 ps, .string nm, .int .i64 t', .int .i64 nz, .int .i64 z, .int .i64 ob, .int .u64 bi, s] : Array Value)[j]? = some u -> (#[cD w g o, cD w g (o + 1), cD w g (o + 2), cD w g (o + 3), cD w g (o + 4), cD w g (o + 5), cD w g (o + 6), cD w g (o + 7), cD w g (o + 8)] : Array Value)[j]? = some u := fun j u hu => by rw [h1]; exact hu
 have g0 := Option.some.inj (hx 0 _ rfl)
 have g1 := Option.some.inj (hx 1 _ rfl)
 have g2 := Option.some.inj (hx 2 _ rfl)
 have g3 := Option.some.inj (hx 3 _ rfl)
 have g4 := Option.some.inj (hx 4 _ rfl)
 have g5 := Option.some.inj (hx 5 _ rfl)
 have g6 := Option.some.inj (hx 6 _ rfl)
 have g7 := Option.some.inj (hx 7 _ rfl)
 have g8 := Option.some.inj (hx 8 _ rfl)
 exact ⟨s, ⟨Yr h (by omega) g0, Yr h (by omega) g1, Yr h (by omega) g2, Yr h (by omega) g3, Yr h (by omega) g4, Yr h (by omega) g5, Yr h (by omega) g6, Yr h (by omega) g7, Yr h (by omega) g8⟩, h2⟩
def exprF (s : ByteArray) : Read := YJ (fun L => exD L 0 0) s
theorem expr_ev (s : ByteArray) (p : List Addr) (w : World) (he : Ev w p) : Calls Tryz.prog 20 #[.string s] w fun e w' => Xp w p e w' (exprF s) :=
 text_expr s p w he.er (he.errs.c2) he.big
mutual
/-- the nine cells from a + o on are a node -/
def ZD (w : World) (a : Addr) (o : Nat) : Nd -> Prop
 | .mk k p nm t n z ob b ks => ∃ s, w.cell? (a.add o) = some (.int .i64 k) /\ w.cell? (a.add (o + 1)) = some (.int .i64 p) /\ w.cell? (a.add (o + 2)) = some (.string nm) /\ w.cell? (a.add (o + 3)) = some (.int .i64 t) /\ w.cell? (a.add (o + 4)) = some (.int .i64 n) /\ w.cell? (a.add (o + 5)) = some (.int .i64 z) /\ w.cell? (a.add (o + 6)) = some (.int .i64 ob) /\ w.cell? (a.add (o + 7)) = some (.int .u64 b) /\ w.cell? (a.add (o + 8)) = some s /\ Zr w ks s
def Zr (w : World) : List Nd -> Value -> Prop
 | [], s => ∃ a c, s = .slice a 0 c
 | n :: ks, s => ∃ a c, s = .slice (some a) (ks.length + 1) c /\ ks.length + 1 <= c /\ c <= maxLen /\ ZD w a 0 n /\ RowA w a 9 ks
def RowA (w : World) (a : Addr) (o : Nat) : List Nd -> Prop
 | [] => True
 | n :: ks => ZD w a o n /\ RowA w a (o + 9) ks
end
def Zq (w : World) : Nd -> Value -> Prop
 | .mk k p nm t n z ob b ks, v => ∃ s, v = .agg #[.int .i64 k, .int .i64 p, .string nm, .int .i64 t, .int .i64 n, .int .i64 z, .int .i64 ob, .int .u64 b, s] /\ Zr w ks s
mutual
theorem ZD.bel {w w' : World} (hb : Below w.heap.size w w') (a : Addr) (o : Nat) : ∀ (n : Nd), ZD w a o n -> ZD w' a o n
 | .mk _ _ _ _ _ _ _ _ ks, h => by
  unfold ZD at h ⊢
  obtain ⟨s, c0, c1, c2, c3, c4, c5, c6, c7, c8, hk⟩ := h
  have hc : ∀ {q : Addr} {u : Value}, w.cell? q = some u -> w'.cell? q = some u := fun hu => (hb.cell (World.block_lt_of_cell? w _ hu)).trans hu
  exact ⟨s, hc c0, hc c1, hc c2, hc c3, hc c4, hc c5, hc c6, hc c7, hc c8, Zr.bel hb ks s hk⟩
theorem Zr.bel {w w' : World} (hb : Below w.heap.size w w') : ∀ (ks : List Nd) (s : Value), Zr w ks s -> Zr w' ks s
 | [], _, h => by
  unfold Zr at h ⊢
  exact h
 | n :: ks, s, h => by
  unfold Zr at h ⊢
  obtain ⟨a, c, h1, h2, h3, h4, h5⟩ := h
  exact ⟨a, c, h1, h2, h3, ZD.bel hb a 0 n h4, RowA.bel hb a 9 ks h5⟩
theorem RowA.bel {w w' : World} (hb : Below w.heap.size w w') (a : Addr) (o : Nat) : ∀ (ks : List Nd), RowA w a o ks -> RowA w' a o ks
 | [], _ => by
  unfold RowA
  trivial
 | n :: ks, h => by
  unfold RowA at h ⊢
  exact ⟨ZD.bel hb a o n h.1, RowA.bel hb a (o + 9) ks h.2⟩
end
theorem own_add (g j : Nat) : (Addr.mk g 0 none).add j = ⟨g, j, none⟩ := by unfold Addr.add; by_cases h : j = 0 <;> simp [h]
mutual
theorem ZD.own {w : World} {S : Nat -> Prop} {g o : Nat} {cur : Array Value} (hg : w.heap[g]? = some (.cells cur 29 (0, 0))) (ho : o + 9 <= cur.size) : ∀ (n : Nd), Zj w S n (Yq w g o) -> ZD w ⟨g, 0, none⟩ o n
 | .mk kd ps nm t nz z ob bi ks, hn => by
  obtain ⟨s, hc, _⟩ := NodAt.of hg ho hn
  unfold Zj at hn
  obtain ⟨s2, h1, h2⟩ := hn
  have e : s2 = s := by
   have g8 := hc.c8
   unfold Yq at h1
   injection h1 with h1
   have hx : (#[cD w g o, cD w g (o + 1), cD w g (o + 2), cD w g (o + 3), cD w g (o + 4), cD w g (o + 5), cD w g (o + 6), cD w g (o + 7), cD w g (o + 8)] : Array Value)[8]? = some s2 := by rw [h1]; rfl
   have hx : cD w g (o + 8) = s2 := Option.some.inj hx
   unfold cD at hx
   rw [g8] at hx
   exact hx.symm
  subst e
  unfold ZD
  simp only [own_add]
  exact ⟨s2, hc.c0, hc.c1, hc.c2, hc.c3, hc.c4, hc.c5, hc.c6, hc.c7, hc.c8, Zt.rd ks s2 h2⟩
theorem Zt.rd {w : World} {S : Nat -> Prop} : ∀ (ks : List Nd) (s : Value), Zt w S ks s -> Zr w ks s
 | [], _, h => by
  unfold Zt at h
  unfold Zr
  exact ⟨none, 0, h⟩
 | n :: ks, s, h => by
  unfold Zt at h
  obtain ⟨g, cap, cur, h1, h2, h3, h4, h5, h6, h7, h8⟩ := h
  unfold Zr
  have := Nat.mul_le_mul_right 9 h4
  exact ⟨⟨g, 0, none⟩, cap, h1, h4, h5, ZD.own h3 (by omega) n h7, ZW.rd h3 ks 9 (by omega) h8⟩
theorem ZW.rd {w : World} {S : Nat -> Prop} {g : Nat} {cur : Array Value} (hg : w.heap[g]? = some (.cells cur 29 (0, 0))) : ∀ (ks : List Nd) (o : Nat), o + 9 * ks.length <= cur.size -> ZW w S g o ks -> RowA w ⟨g, 0, none⟩ o ks
 | [], _, _, _ => by
  unfold RowA
  trivial
 | n :: ks, o, ho, h => by
  have hl : (n :: ks).length = ks.length + 1 := rfl
  unfold ZW at h
  unfold RowA
  exact ⟨ZD.own hg (by omega) n h.1, ZW.rd hg ks (o + 9) (by omega) h.2⟩
end
theorem Zj.rd {w : World} {S : Nat -> Prop} {n : Nd} {v : Value} (h : Zj w S n v) : Zq w n v := by
 obtain ⟨kd, ps, nm, t, nz, z, ob, bi, ks⟩ := n
 unfold Zj at h
 unfold Zq
 obtain ⟨s, h1, h2⟩ := h
 exact ⟨s, h1, Zt.rd ks s h2⟩
theorem Zq.bel {w w' : World} {n : Nd} {v : Value} (h : Zq w n v) (hb : Below w.heap.size w w') : Zq w' n v := by
 obtain ⟨kd, ps, nm, t, nz, z, ob, bi, ks⟩ := n
 unfold Zq at h ⊢
 obtain ⟨s, h1, h2⟩ := h
 exact ⟨s, h1, Zr.bel hb ks s h2⟩
theorem RowA.at {w : World} {a : Addr} : ∀ {ks : List Nd} {o : Nat} (_ : RowA w a o ks) (j : Nat) (n : Nd), ks[j]? = some n -> ZD w a (o + 9 * j) n
 | [], _, _, _, _, h => by simp at h
 | m :: ks, o, h, 0, n, hn => by
  unfold RowA at h
  simp at hn
  subst hn
  simpa using h.1
 | m :: ks, o, h, j + 1, n, hn => by
  unfold RowA at h
  have := RowA.at h.2 j n (by simpa using hn)
  rw [show o + 9 * (j + 1) = o + 9 + 9 * j by omega]
  exact this
theorem Zr.kid {w : World} {ks : List Nd} {s : Value} (h : Zr w ks s) :
 ∃ oa cap, s = .slice oa ks.length cap /\ (ks = [] ∨ ∃ a, oa = some a /\ ks.length <= cap /\ cap <= maxLen /\ ∀ j n, ks[j]? = some n -> ZD w a (9 * j) n) := by
 cases ks with
 | nil =>
  unfold Zr at h
  obtain ⟨a, c, rfl⟩ := h
  exact ⟨a, c, rfl, .inl rfl⟩
 | cons m ks =>
  unfold Zr at h
  obtain ⟨a, c, rfl, h1, h2, h3, h4⟩ := h
  refine ⟨some a, c, rfl, .inr ⟨a, rfl, h1, h2, fun j n hn => ?_⟩⟩
  have := RowA.at (ks := m :: ks) (o := 0) (by unfold RowA; exact ⟨h3, h4⟩) j n hn
  rwa [Nat.zero_add] at this
theorem add_off (a : Addr) (o k : Nat) (hk : k ≠ 0) : a.add (o + k) = ⟨(a.add o).block, (a.add o).off + k, none⟩ := by
 unfold Addr.add
 rw [if_neg (by omega)]
 by_cases h : o = 0
 · subst h
   simp
 · rw [if_neg h]
   simp [Nat.add_assoc]
theorem ZD.cells {w : World} {a : Addr} {j : Nat} {kd ps : Int} {nm : ByteArray} {t nz z ob bi : Int} {ks : List Nd} (h : ZD w a (9 * j) (.mk kd ps nm t nz z ob bi ks)) :
 ∃ oa cap, w.cell? (a.add (j * 9)) = some (.int .i64 kd) /\ w.cell? ⟨(a.add (j * 9)).block, (a.add (j * 9)).off + 1, none⟩ = some (.int .i64 ps) /\ w.cell? ⟨(a.add (j * 9)).block, (a.add (j * 9)).off + 2, none⟩ = some (.string nm) /\ w.cell? ⟨(a.add (j * 9)).block, (a.add (j * 9)).off + 3, none⟩ = some (.int .i64 t) /\ w.cell? ⟨(a.add (j * 9)).block, (a.add (j * 9)).off + 4, none⟩ = some (.int .i64 nz) /\ w.cell? ⟨(a.add (j * 9)).block, (a.add (j * 9)).off + 5, none⟩ = some (.int .i64 z) /\ w.cell? ⟨(a.add (j * 9)).block, (a.add (j * 9)).off + 6, none⟩ = some (.int .i64 ob) /\ w.cell? ⟨(a.add (j * 9)).block, (a.add (j * 9)).off + 7, none⟩ = some (.int .u64 bi) /\ w.cell? ⟨(a.add (j * 9)).block, (a.add (j * 9)).off + 8, none⟩ = some (.slice oa ks.length cap) /\ Zr w ks (.slice oa ks.length cap) := by
 unfold ZD at h
 obtain ⟨s, c0, c1, c2, c3, c4, c5, c6, c7, c8, hk⟩ := h
 obtain ⟨oa, cap, rfl, _⟩ := hk.kid
 rw [Nat.mul_comm 9 j] at c0 c1 c2 c3 c4 c5 c6 c7 c8
 rw [add_off a (j * 9) 1 (by omega)] at c1
 rw [add_off a (j * 9) 2 (by omega)] at c2
 rw [add_off a (j * 9) 3 (by omega)] at c3
 rw [add_off a (j * 9) 4 (by omega)] at c4
 rw [add_off a (j * 9) 5 (by omega)] at c5
 rw [add_off a (j * 9) 6 (by omega)] at c6
 rw [add_off a (j * 9) 7 (by omega)] at c7
 rw [add_off a (j * 9) 8 (by omega)] at c8
 exact ⟨oa, cap, c0, c1, c2, c3, c4, c5, c6, c7, c8, hk⟩
mutual
def szN : Nd -> Nat
 | .mk _ _ _ _ _ _ _ _ ks => szK ks + 1
def szK : List Nd -> Nat
 | [] => 0
 | n :: ks => szN n + szK ks + 1
end
theorem szK_at : ∀ {ks : List Nd} {j : Nat} {n : Nd}, ks[j]? = some n -> szN n < szK ks + 1
 | [], _, _, h => by simp at h
 | m :: ks, 0, n, h => by
  simp at h
  subst h
  simp only [szK]
  omega
 | m :: ks, j + 1, n, h => by
  have := szK_at (ks := ks) (j := j) (n := n) (by simpa using h)
  simp only [szK]
  omega
theorem YI {ks : List Nd} {j : Nat} {n : Nd} (h : ks[j]? = some n) : ks.take (j + 1) = ks.take j ++ [n] := by
 rw [List.take_add_one, h]
 rfl
end Go.Proofs.YtfnplhfjfolojaaGreatDoor.Ck
