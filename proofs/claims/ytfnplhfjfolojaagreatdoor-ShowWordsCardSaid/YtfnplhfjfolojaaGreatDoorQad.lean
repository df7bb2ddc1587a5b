/- Texts of this proof, packed: contracts of the program's functions, and the plain model that they are held against. -/
import Derived.Test.YtfnplhfjfolojaaGreatDoorQac
import Derived.Deep.CutRange
set_option maxRecDepth 20000
set_option maxHeartbeats 4000000
namespace Go.Proofs.YtfnplhfjfolojaaGreatDoor.Ck
open Go.RowKit
theorem Zt.shape {w : World} {B : Nat -> Prop} : ∀ {ks : List Nd} {s : Value}, Zt w B ks s -> ∃ a len ck, s = .slice a len ck
 | [], _, h => by
  unfold Zt at h
  exact ⟨none, 0, 0, h⟩
 | _ :: ks, _, h => by
  unfold Zt at h
  obtain ⟨gk, ck, _, h1, _⟩ := h
  exact ⟨_, _, ck, h1⟩
def text_ (t : Tk) : ByteArray := t.text
def unT : List ByteArray := [⟨#[45]⟩, ⟨#[33]⟩]
def unO (L : List Tk) (l i : Nat) (r : Out) : Out :=
 if l = 16 then .bad 2 i else match r with | .ok n j => .ok (nd 30 (Zk L i).pos (tx L i) [n]) j | .bad k j => .bad k j
theorem unary_prim {w : World} {p : List Addr} {g gT : Nat} {L : List Tk} {i l : Nat} (h : Ps w p g gT L i l) (hu : has L i unT = false) (r : Out) (hr : ZS 227 p g gT L l i r) :
 Calls Tryz.prog 205 #[.pointer (some ⟨g, 0, none⟩)] w fun e w' => Zo p g gT L l w e w' r := by
 have hgl := h.lt_g
 have hT := h.row.lt
 have hb0 := Zb (Zd w Zh)
 have hz0 : Hid (Nod (w.alloc Zh) w.heap.size (.int .i64 0) (.int .i64 0) (.string ⟨#[]⟩) (.int .i64 0) (.int .i64 0) (.int .i64 0) (.int .i64 0) (.int .u64 0) (.slice none 0 0)) := B_ _ _
 have H0 := Zb (h.below hb0.out)
 have HR := Zb hr
 clear h hr
 unfold Zh at *
 go_enter Tryz.func205, Tryz.ntmps205
 go_wp2_with fail
 generalize hg0 : w.alloc _ = w0 at *
 have e0 : w0.heap.size = w.heap.size + 1 := by rw [← hg0]; simp
 clear hg0
 rw [← e0]
 refine (Ys H0.out unT 2 _ rfl rfl (by omega)).mono ?_
 rw [hu]
 rintro e w1 ⟨rfl, hb1⟩
 have H1 := Zb (H0.out.below hb1)
 have T1 := Zb (Zc hb0.out hb1)
 have Z1 := Zb (hz0.out.bel hb1)
 clear hb1 H0 hb0 hz0 hu e0
 go_wp2_with fail
 cases r with
 | bad k j =>
  refine (HR.out _ H1.out).mono ?_
  rintro e w2 ⟨rfl, r2⟩
  exact ⟨rfl, rfl, (Tn.of_bel T1.out).trans r2⟩
 | ok n j =>
  refine (HR.out _ H1.out).mono ?_
  rintro e w2 ⟨v, rfl, hv, r1, r2⟩
  obtain ⟨kd, ps, nm, t, nn, z, o, bi, ks⟩ := n
  unfold Zj at hv
  obtain ⟨s, rfl, hk⟩ := hv
  obtain ⟨a, len, ck, rfl⟩ := hk.shape
  have hw1 : w.heap.size < w1.heap.size := Ze Z1.out
  have H2 := Zb r1
  have T2 := Zb ((Tn.of_bel T1.out).trans r2)
  have Z2 := Zb (Z1.out.tn r2 (by omega))
  have K2 := Zb hk
  obtain ⟨⟨f0, f1, f2, f3, f4, f5, f6, f7, f8⟩, b0, b1, b2, b3, b4, b5, b6, b7, b8⟩ := Z2.out.all
  obtain ⟨z9, s9⟩ := Zy Z2.out (.int .i64 kd) (.int .i64 ps) (.string nm) (.int .i64 t) (.int .i64 nn) (.int .i64 z) (.int .i64 o) (.int .u64 bi) (.slice a len ck)
  have Z9 := Zb z9
  have S9 := Zb s9
  clear z9 s9 Z2 r1 r2 hk HR H1 T1 Z1
  go_wp2_with fail
  refine Zg w.heap.size rfl rfl Z9.out rfl ?_
  refine ⟨_, rfl, ?_, H2.out.tn S9.out (by have := H2.out.big; omega) (by omega) (by omega), T2.out.own S9.out (Nat.le_refl _)⟩
  unfold Zj
  exact ⟨_, rfl, (K2.out.tn S9.out hw1).low (Nat.le_of_lt hw1)⟩
theorem unary_op {w : World} {p : List Addr} {g gT : Nat} {L : List Tk} {i l : Nat} (h : Ps w p g gT L i l) (hE : Ya L) (hl : l <= 16) (hu : has L i unT = true) (r : Out) (hr : l ≠ 16 -> ZS 205 p g gT L (l + 1) (i + 1) r) :
 Calls Tryz.prog 205 #[.pointer (some ⟨g, 0, none⟩)] w fun e w' => Zo p g gT L l w e w' (unO L l i r) := by
 have hi := ZF hE h.lt (by decide) hu
 have hgl := h.lt_g
 have hT := h.row.lt
 have hb0 := Zb (Zd w Zh)
 have hz0 : Hid (Nod (w.alloc Zh) w.heap.size (.int .i64 0) (.int .i64 0) (.string ⟨#[]⟩) (.int .i64 0) (.int .i64 0) (.int .i64 0) (.int .i64 0) (.int .u64 0) (.slice none 0 0)) := B_ _ _
 have H0 := Zb (h.below hb0.out)
 have HH := Zb (fun w (h : Ps w p g gT L i l) => Zp h)
 have HR := Zb hr
 have hself : Hid (has L i [tx L i] = true) := (Lib.containsS_iff _ _).2 (by simp)
 generalize hw : unO L l i r = out
 unfold unO at hw
 have HW := Zb hw
 clear h hr hE hw
 unfold Zh at *
 obtain ⟨tk, htk⟩ : ∃ tk, Zk L i = tk := ⟨_, rfl⟩
 rw [htk] at HH
 have hself : Hid (has L i [text_ tk] = true) := by unfold tx at hself; rw [htk] at hself; exact hself
 have HK := Zb htk
 clear htk
 obtain ⟨kind, text, nn, bits_, pos⟩ := tk
 dsimp only [Tk.val, text_] at HH hself
 have hf1 := tf1 (.int .i64 kind) (.string text) (.int .i64 nn) (.int .u64 bits_) (.int .i64 pos)
 have hf4 := tf4 (.int .i64 kind) (.string text) (.int .i64 nn) (.int .u64 bits_) (.int .i64 pos)
 go_enter Tryz.func205, Tryz.ntmps205
 go_wp2_with fail
 generalize hg0 : w.alloc _ = w0 at *
 have e0 : w0.heap.size = w.heap.size + 1 := by rw [← hg0]; simp
 clear hg0
 rw [← e0]
 refine (Ys H0.out unT 2 _ rfl rfl (by omega)).mono ?_
 rw [hu]
 rintro e wa ⟨rfl, hba⟩
 have Ha := Zb (H0.out.below hba)
 have hba' := Zb (Zc hb0.out hba)
 have Za := Zb (hz0.out.bel hba)
 clear hba H0 hb0 hz0 hu e0
 go_wp2_with fail
 refine (HH.out _ Ha.out).mono ?_
 rintro e w1 ⟨rfl, hb1⟩
 have H1 := Zb (Ha.out.below hb1)
 have T1 := Zb (Zc hba'.out hb1)
 have Z1 := Zb (Za.out.bel hb1)
 clear hb1 Ha hba' Za
 go_wp2_with fail
 refine (HH.out _ H1.out).mono ?_
 rintro e w2 ⟨rfl, hb2⟩
 have hw2 : w.heap.size < w2.heap.size := Nat.lt_of_lt_of_le (Ze Z1.out) hb2.size
 have hb3 := Zd w2 (.cells #[.int .i64 30, .int .i64 pos, .string text, .int .i64 0, .int .i64 0, .int .i64 0, .int .i64 0, .int .u64 0, .slice none 0 0] 29)
 have X3 : Hid (Nod (w2.alloc (.cells #[.int .i64 30, .int .i64 pos, .string text, .int .i64 0, .int .i64 0, .int .i64 0, .int .i64 0, .int .u64 0, .slice none 0 0] 29)) w2.heap.size (.int .i64 30) (.int .i64 pos) (.string text) (.int .i64 0) (.int .i64 0) (.int .i64 0) (.int .i64 0) (.int .u64 0) (.slice none 0 0)) := B_ _ _
 have H3 := Zb (H1.out.below (Zc hb2 hb3))
 have T3 := Zb (Tn.of_bel (g := g) (Zc T1.out (Zc hb2 hb3)))
 have Z3 := Zb ((Z1.out.bel hb2).bel hb3)
 clear hb2 hb3 H1 T1 Z1 HH
 go_wp2_with fail
 clear hf1 hf4
 generalize w2.alloc _ = w3 at *
 generalize w2.heap.size = n2 at *
 by_cases h2 : l = 16
 · have hw := HW.out
   rw [if_pos h2] at hw
   subst hw
   refine (begin_deep H3.out text hself.out h2).mono ?_
   rintro e w4 ⟨rfl, r2⟩
   exact ⟨rfl, rfl, T3.out.trans r2⟩
 · refine (begin_yes H3.out text hself.out hi (by omega)).mono ?_
   rintro e w5 ⟨rfl, r1, r2⟩
   have H5 := Zb r1
   have T5 := Zb (T3.out.trans r2)
   have X5 := Zb (X3.out.tn r2 (by omega))
   have Z5 := Zb (Z3.out.tn r2 (by omega))
   have hw := HW.out
   rw [if_neg h2] at hw
   have HW := Zb hw
   have HA := Zb (alln_treeparserunary r1 r (HR.out h2))
   have hl2 : l < 16 := by omega
   clear hw r1 r2 H3 T3 X3 Z3 HR hself h2
   go_wp2_with fail
   cases r with
   | bad k j =>
    have hw := HW.out
    subst hw
    refine HA.out.mono ?_
    rintro e w7 ⟨rfl, r2⟩
    exact ⟨rfl, rfl, T5.out.trans r2⟩
   | ok n j =>
    have hw := HW.out
    subst hw
    refine HA.out.mono ?_
    rintro e w7 ⟨s, rfl, hk, r1, r2⟩
    obtain ⟨gk, ck, rfl⟩ := hk.form
    have hn6 : n2 < w5.heap.size := Ze X5.out
    have hw6 : w.heap.size <= w5.heap.size := T5.out.size
    have T7 := Zb (T5.out.trans r2)
    have x7 := X5.out.tn r2 (by omega)
    have Z7 := Zb (Z5.out.tn r2 (by omega))
    obtain ⟨⟨_, _, _, _, _, _, _, _, f8⟩, _, _, _, _, _, _, _, _, c8⟩ := x7.all
    obtain ⟨x8, s8⟩ := Zs x7 8 (.slice (some ⟨gk, 0, none⟩) 1 ck)
    have x8 : Nod _ n2 (.int .i64 30) (.int .i64 pos) (.string text) (.int .i64 0) (.int .i64 0) (.int .i64 0) (.int .i64 0) (.int .u64 0) (.slice (some ⟨gk, 0, none⟩) 1 ck) := x8
    have H8 := Zb (r1.tn s8 (by have := r1.big; omega) (by omega) (by omega))
    have T8 := Zb (T7.out.own s8 (by omega))
    have Z8 := Zb (Z7.out.tn s8 (by omega))
    have K8 := Zb (hk.tn s8 hn6)
    have hgo := Zb (show w.heap.size < w5.heap.size by omega)
    have X8 := Zb x8
    have hn5 := Zb hn6
    clear HA HW hk r1 r2 s8 x7 x8 T7 Z7 X5 H5 T5 Z5 hn6
    go_wp2_with fail
    clear f8 c8
    generalize w7.setCell ⟨n2, 8, none⟩ (.slice (some ⟨gk, 0, none⟩) 1 ck) = w8 at *
    refine (end_any H8.out (by omega) (by omega)).mono ?_
    rintro e w9 ⟨rfl, r1, r2⟩
    rw [Nat.add_sub_cancel] at r1
    have hg5 : g < w5.heap.size := by omega
    have x8 := X8.out.tn r2 (by omega)
    have Z8 := Zb (Z8.out.tn r2 (by omega))
    have T8 := Zb (T8.out.trans r2)
    have H8 := Zb r1
    have K8 := Zb (K8.out.tn r2 hg5)
    clear r1 r2 X8
    obtain ⟨_, d0, d1, d2, d3, d4, d5, d6, d7, d8⟩ := x8.all
    obtain ⟨⟨f0, f1, f2, f3, f4, f5, f6, f7, f8'⟩, b0, b1, b2, b3, b4, b5, b6, b7, b8⟩ := Z8.out.all
    obtain ⟨z9, s9⟩ := Zy Z8.out (.int .i64 30) (.int .i64 pos) (.string text) (.int .i64 0) (.int .i64 0) (.int .i64 0) (.int .i64 0) (.int .u64 0) (.slice (some ⟨gk, 0, none⟩) 1 ck)
    have Z9 := Zb z9
    have S9 := Zb s9
    clear x8 z9 s9 Z8
    go_wp2_with fail
    refine Zg w.heap.size rfl rfl Z9.out rfl ?_
    refine ⟨_, rfl, ?_, H8.out.tn S9.out (by have := H8.out.big; omega) (by omega) (by omega), T8.out.own S9.out (Nat.le_refl _)⟩
    unfold nd Zj
    refine ⟨_, ?_, (K8.out.tn S9.out hgo.out).low (Nat.le_of_lt hgo.out)⟩
    unfold tx
    rw [HK.out]
theorem prim_int {w : World} {p : List Addr} {g gT : Nat} {L : List Tk} {i l : Nat} (h : Ps w p g gT L i l) (r : Out) (hk : (Zk L i).kind = 3) (hr : ∀ w, Ps w p g gT L i l -> Calls Tryz.prog 246 #[.pointer (some ⟨g, 0, none⟩), .int .i64 25] w fun e w' => Zo p g gT L l w e w' r) :
 Calls Tryz.prog 227 #[.pointer (some ⟨g, 0, none⟩)] w fun e w' => Zo p g gT L l w e w' r := by
 have hgl := h.lt_g
 have hT := h.row.lt
 have hb0 := Zb (Zd w Zh)
 have hz0 : Hid (Nod (w.alloc Zh) w.heap.size (.int .i64 0) (.int .i64 0) (.string ⟨#[]⟩) (.int .i64 0) (.int .i64 0) (.int .i64 0) (.int .i64 0) (.int .u64 0) (.slice none 0 0)) := B_ _ _
 have H0 := Zb (h.below hb0.out)
 have HH := Zb (fun w (h : Ps w p g gT L i l) => Zp h)
 have HR := Zb hr
 clear h hr
 unfold Zh at *
 generalize Zk L i = tk at *
 obtain ⟨kind, text, nn, bits_, pos⟩ := tk
 dsimp only [Tk.val] at *
 have hf0 := tf0 (.int .i64 kind) (.string text) (.int .i64 nn) (.int .u64 bits_) (.int .i64 pos)
 subst hk
 have hg0 := tf0 (.int .i64 3) (.string text) (.int .i64 nn) (.int .u64 bits_) (.int .i64 pos)
 go_enter Tryz.func227, Tryz.ntmps227
 go_wp2_with fail
 generalize w.alloc _ = w0 at *
 refine (HH.out _ H0.out).mono ?_
 rintro e w1 ⟨rfl, hb1⟩
 have H1 := Zb (H0.out.below hb1)
 have T1 := Zb (Zc hb0.out hb1)
 have Z1 := Zb (hz0.out.bel hb1)
 clear hb1 H0 hb0 hz0
 go_wp2_with fail
 cases r with
 | bad k j =>
  refine (HR.out _ H1.out).mono ?_
  rintro e w2 ⟨rfl, r2⟩
  exact ⟨rfl, rfl, (Tn.of_bel T1.out).trans r2⟩
 | ok n j =>
  refine (HR.out _ H1.out).mono ?_
  rintro e w2 ⟨v, rfl, hv, r1, r2⟩
  obtain ⟨kd, ps, nm, t, nz, z, o, bi, ks⟩ := n
  unfold Zj at hv
  obtain ⟨s, rfl, hk⟩ := hv
  obtain ⟨a, len, ck, rfl⟩ := hk.shape
  have hw1 : w.heap.size < w1.heap.size := Ze Z1.out
  have H2 := Zb r1
  have T2 := Zb ((Tn.of_bel T1.out).trans r2)
  have Z2 := Zb (Z1.out.tn r2 (by omega))
  have K2 := Zb hk
  obtain ⟨⟨f0, f1, f2, f3, f4, f5, f6, f7, f8⟩, b0, b1, b2, b3, b4, b5, b6, b7, b8⟩ := Z2.out.all
  obtain ⟨z9, s9⟩ := Zy Z2.out (.int .i64 kd) (.int .i64 ps) (.string nm) (.int .i64 t) (.int .i64 nz) (.int .i64 z) (.int .i64 o) (.int .u64 bi) (.slice a len ck)
  have Z9 := Zb z9
  have S9 := Zb s9
  clear z9 s9 Z2 r1 r2 hk HR H1 T1 Z1
  go_wp2_with fail
  refine Zg w.heap.size rfl rfl Z9.out rfl ?_
  refine ⟨_, rfl, ?_, H2.out.tn S9.out (by have := H2.out.big; omega) (by omega) (by omega), T2.out.own S9.out (Nat.le_refl _)⟩
  unfold Zj
  exact ⟨_, rfl, (K2.out.tn S9.out hw1).low (Nat.le_of_lt hw1)⟩
theorem prim_float {w : World} {p : List Addr} {g gT : Nat} {L : List Tk} {i l : Nat} (h : Ps w p g gT L i l) (r : Out) (hk : (Zk L i).kind = 4) (hr : ∀ w, Ps w p g gT L i l -> Calls Tryz.prog 246 #[.pointer (some ⟨g, 0, none⟩), .int .i64 26] w fun e w' => Zo p g gT L l w e w' r) :
 Calls Tryz.prog 227 #[.pointer (some ⟨g, 0, none⟩)] w fun e w' => Zo p g gT L l w e w' r := by
 have hgl := h.lt_g
 have hT := h.row.lt
 have hb0 := Zb (Zd w Zh)
 have hz0 : Hid (Nod (w.alloc Zh) w.heap.size (.int .i64 0) (.int .i64 0) (.string ⟨#[]⟩) (.int .i64 0) (.int .i64 0) (.int .i64 0) (.int .i64 0) (.int .u64 0) (.slice none 0 0)) := B_ _ _
 have H0 := Zb (h.below hb0.out)
 have HH := Zb (fun w (h : Ps w p g gT L i l) => Zp h)
 have HR := Zb hr
 clear h hr
 unfold Zh at *
 generalize Zk L i = tk at *
 obtain ⟨kind, text, nn, bits_, pos⟩ := tk
 dsimp only [Tk.val] at *
 have hf0 := tf0 (.int .i64 kind) (.string text) (.int .i64 nn) (.int .u64 bits_) (.int .i64 pos)
 subst hk
 have hg0 := tf0 (.int .i64 4) (.string text) (.int .i64 nn) (.int .u64 bits_) (.int .i64 pos)
 go_enter Tryz.func227, Tryz.ntmps227
 go_wp2_with fail
 generalize w.alloc _ = w0 at *
 refine (HH.out _ H0.out).mono ?_
 rintro e w1 ⟨rfl, hb1⟩
 have H1 := Zb (H0.out.below hb1)
 have T1 := Zb (Zc hb0.out hb1)
 have Z1 := Zb (hz0.out.bel hb1)
 clear hb1 H0 hb0 hz0
 go_wp2_with fail
 cases r with
 | bad k j =>
  refine (HR.out _ H1.out).mono ?_
  rintro e w2 ⟨rfl, r2⟩
  exact ⟨rfl, rfl, (Tn.of_bel T1.out).trans r2⟩
 | ok n j =>
  refine (HR.out _ H1.out).mono ?_
  rintro e w2 ⟨v, rfl, hv, r1, r2⟩
  obtain ⟨kd, ps, nm, t, nz, z, o, bi, ks⟩ := n
  unfold Zj at hv
  obtain ⟨s, rfl, hk⟩ := hv
  obtain ⟨a, len, ck, rfl⟩ := hk.shape
  have hw1 : w.heap.size < w1.heap.size := Ze Z1.out
  have H2 := Zb r1
  have T2 := Zb ((Tn.of_bel T1.out).trans r2)
  have Z2 := Zb (Z1.out.tn r2 (by omega))
  have K2 := Zb hk
  obtain ⟨⟨f0, f1, f2, f3, f4, f5, f6, f7, f8⟩, b0, b1, b2, b3, b4, b5, b6, b7, b8⟩ := Z2.out.all
  obtain ⟨z9, s9⟩ := Zy Z2.out (.int .i64 kd) (.int .i64 ps) (.string nm) (.int .i64 t) (.int .i64 nz) (.int .i64 z) (.int .i64 o) (.int .u64 bi) (.slice a len ck)
  have Z9 := Zb z9
  have S9 := Zb s9
  clear z9 s9 Z2 r1 r2 hk HR H1 T1 Z1
  go_wp2_with fail
  refine Zg w.heap.size rfl rfl Z9.out rfl ?_
  refine ⟨_, rfl, ?_, H2.out.tn S9.out (by have := H2.out.big; omega) (by omega) (by omega), T2.out.own S9.out (Nat.le_refl _)⟩
  unfold Zj
  exact ⟨_, rfl, (K2.out.tn S9.out hw1).low (Nat.le_of_lt hw1)⟩
theorem prim_word {w : World} {p : List Addr} {g gT : Nat} {L : List Tk} {i l : Nat} (h : Ps w p g gT L i l) (r : Out) (hk : (Zk L i).kind = 1) (hr : ∀ w, Ps w p g gT L i l -> Calls Tryz.prog 221 #[.pointer (some ⟨g, 0, none⟩)] w fun e w' => Zo p g gT L l w e w' r) :
 Calls Tryz.prog 227 #[.pointer (some ⟨g, 0, none⟩)] w fun e w' => Zo p g gT L l w e w' r := by
 have hgl := h.lt_g
 have hT := h.row.lt
 have hb0 := Zb (Zd w Zh)
 have hz0 : Hid (Nod (w.alloc Zh) w.heap.size (.int .i64 0) (.int .i64 0) (.string ⟨#[]⟩) (.int .i64 0) (.int .i64 0) (.int .i64 0) (.int .i64 0) (.int .u64 0) (.slice none 0 0)) := B_ _ _
 have H0 := Zb (h.below hb0.out)
 have HH := Zb (fun w (h : Ps w p g gT L i l) => Zp h)
 have HR := Zb hr
 clear h hr
 unfold Zh at *
 generalize Zk L i = tk at *
 obtain ⟨kind, text, nn, bits_, pos⟩ := tk
 dsimp only [Tk.val] at *
 have hf0 := tf0 (.int .i64 kind) (.string text) (.int .i64 nn) (.int .u64 bits_) (.int .i64 pos)
 subst hk
 have hg0 := tf0 (.int .i64 1) (.string text) (.int .i64 nn) (.int .u64 bits_) (.int .i64 pos)
 go_enter Tryz.func227, Tryz.ntmps227
 go_wp2_with fail
 generalize w.alloc _ = w0 at *
 refine (HH.out _ H0.out).mono ?_
 rintro e w1 ⟨rfl, hb1⟩
 have H1 := Zb (H0.out.below hb1)
 have T1 := Zb (Zc hb0.out hb1)
 have Z1 := Zb (hz0.out.bel hb1)
 clear hb1 H0 hb0 hz0
 go_wp2_with fail
 cases r with
 | bad k j =>
  refine (HR.out _ H1.out).mono ?_
  rintro e w2 ⟨rfl, r2⟩
  exact ⟨rfl, rfl, (Tn.of_bel T1.out).trans r2⟩
 | ok n j =>
  refine (HR.out _ H1.out).mono ?_
  rintro e w2 ⟨v, rfl, hv, r1, r2⟩
  obtain ⟨kd, ps, nm, t, nz, z, o, bi, ks⟩ := n
  unfold Zj at hv
  obtain ⟨s, rfl, hk⟩ := hv
  obtain ⟨a, len, ck, rfl⟩ := hk.shape
  have hw1 : w.heap.size < w1.heap.size := Ze Z1.out
  have H2 := Zb r1
  have T2 := Zb ((Tn.of_bel T1.out).trans r2)
  have Z2 := Zb (Z1.out.tn r2 (by omega))
  have K2 := Zb hk
  obtain ⟨⟨f0, f1, f2, f3, f4, f5, f6, f7, f8⟩, b0, b1, b2, b3, b4, b5, b6, b7, b8⟩ := Z2.out.all
  obtain ⟨z9, s9⟩ := Zy Z2.out (.int .i64 kd) (.int .i64 ps) (.string nm) (.int .i64 t) (.int .i64 nz) (.int .i64 z) (.int .i64 o) (.int .u64 bi) (.slice a len ck)
  have Z9 := Zb z9
  have S9 := Zb s9
  clear z9 s9 Z2 r1 r2 hk HR H1 T1 Z1
  go_wp2_with fail
  refine Zg w.heap.size rfl rfl Z9.out rfl ?_
  refine ⟨_, rfl, ?_, H2.out.tn S9.out (by have := H2.out.big; omega) (by omega) (by omega), T2.out.own S9.out (Nat.le_refl _)⟩
  unfold Zj
  exact ⟨_, rfl, (K2.out.tn S9.out hw1).low (Nat.le_of_lt hw1)⟩
theorem prim_true {w : World} {p : List Addr} {g gT : Nat} {L : List Tk} {i l : Nat} (h : Ps w p g gT L i l) (r : Out) (hk : (Zk L i).kind ≠ 3 /\ (Zk L i).kind ≠ 4 /\ (Zk L i).kind ≠ 1) (hx : (Zk L i).text = ⟨#[116, 114, 117, 101]⟩) (hr : ∀ w, Ps w p g gT L i l -> Calls Tryz.prog 247 #[.pointer (some ⟨g, 0, none⟩), .int .i64 1] w fun e w' => Zo p g gT L l w e w' r) :
 Calls Tryz.prog 227 #[.pointer (some ⟨g, 0, none⟩)] w fun e w' => Zo p g gT L l w e w' r := by
 have hgl := h.lt_g
 have hT := h.row.lt
 have hb0 := Zb (Zd w Zh)
 have hz0 : Hid (Nod (w.alloc Zh) w.heap.size (.int .i64 0) (.int .i64 0) (.string ⟨#[]⟩) (.int .i64 0) (.int .i64 0) (.int .i64 0) (.int .i64 0) (.int .u64 0) (.slice none 0 0)) := B_ _ _
 have H0 := Zb (h.below hb0.out)
 have HH := Zb (fun w (h : Ps w p g gT L i l) => Zp h)
 have HR := Zb hr
 clear h hr
 unfold Zh at *
 generalize Zk L i = tk at *
 obtain ⟨kind, text, nn, bits_, pos⟩ := tk
 dsimp only [Tk.val] at *
 have hf0 := tf0 (.int .i64 kind) (.string text) (.int .i64 nn) (.int .u64 bits_) (.int .i64 pos)
 subst hx
 have hf1 := tf1 (.int .i64 kind) (.string ⟨#[116, 114, 117, 101]⟩) (.int .i64 nn) (.int .u64 bits_) (.int .i64 pos)
 have k3 : ((kind : Int) == 3) = false := by simp; omega
 have k4 : ((kind : Int) == 4) = false := by simp; omega
 have k1 : ((kind : Int) == 1) = false := by simp; omega
 clear hk
 go_enter Tryz.func227, Tryz.ntmps227
 go_wp2_with fail
 generalize w.alloc _ = w0 at *
 refine (HH.out _ H0.out).mono ?_
 rintro e w1 ⟨rfl, hb1⟩
 have H1 := Zb (H0.out.below hb1)
 have T1 := Zb (Zc hb0.out hb1)
 have Z1 := Zb (hz0.out.bel hb1)
 clear hb1 H0 hb0 hz0
 go_wp2_with fail
 refine (HH.out _ H1.out).mono ?_
 rintro e w1' ⟨rfl, hb1⟩
 have H1 := Zb (H1.out.below hb1)
 have T1 := Zb (Zc T1.out hb1)
 have Z1 := Zb (Z1.out.bel hb1)
 clear hb1 HH
 go_wp2_with fail
 cases r with
 | bad k j =>
  refine (HR.out _ H1.out).mono ?_
  rintro e w2 ⟨rfl, r2⟩
  exact ⟨rfl, rfl, (Tn.of_bel T1.out).trans r2⟩
 | ok n j =>
  refine (HR.out _ H1.out).mono ?_
  rintro e w2 ⟨v, rfl, hv, r1, r2⟩
  obtain ⟨kd, ps, nm, t, nz, z, o, bi, ks⟩ := n
  unfold Zj at hv
  obtain ⟨s, rfl, hk⟩ := hv
  obtain ⟨a, len, ck, rfl⟩ := hk.shape
  have hw1 : w.heap.size < w1'.heap.size := Ze Z1.out
  have H2 := Zb r1
  have T2 := Zb ((Tn.of_bel T1.out).trans r2)
  have Z2 := Zb (Z1.out.tn r2 (by omega))
  have K2 := Zb hk
  obtain ⟨⟨f0, f1, f2, f3, f4, f5, f6, f7, f8⟩, b0, b1, b2, b3, b4, b5, b6, b7, b8⟩ := Z2.out.all
  obtain ⟨z9, s9⟩ := Zy Z2.out (.int .i64 kd) (.int .i64 ps) (.string nm) (.int .i64 t) (.int .i64 nz) (.int .i64 z) (.int .i64 o) (.int .u64 bi) (.slice a len ck)
  have Z9 := Zb z9
  have S9 := Zb s9
  clear z9 s9 Z2 r1 r2 hk HR H1 T1 Z1
  go_wp2_with fail
  refine Zg w.heap.size rfl rfl Z9.out rfl ?_
  refine ⟨_, rfl, ?_, H2.out.tn S9.out (by have := H2.out.big; omega) (by omega) (by omega), T2.out.own S9.out (Nat.le_refl _)⟩
  unfold Zj
  exact ⟨_, rfl, (K2.out.tn S9.out hw1).low (Nat.le_of_lt hw1)⟩
theorem prim_false {w : World} {p : List Addr} {g gT : Nat} {L : List Tk} {i l : Nat} (h : Ps w p g gT L i l) (r : Out) (hk : (Zk L i).kind ≠ 3 /\ (Zk L i).kind ≠ 4 /\ (Zk L i).kind ≠ 1) (hx : (Zk L i).text = ⟨#[102, 97, 108, 115, 101]⟩) (hr : ∀ w, Ps w p g gT L i l -> Calls Tryz.prog 247 #[.pointer (some ⟨g, 0, none⟩), .int .i64 0] w fun e w' => Zo p g gT L l w e w' r) :
 Calls Tryz.prog 227 #[.pointer (some ⟨g, 0, none⟩)] w fun e w' => Zo p g gT L l w e w' r := by
 have hgl := h.lt_g
 have hT := h.row.lt
 have hb0 := Zb (Zd w Zh)
 have hz0 : Hid (Nod (w.alloc Zh) w.heap.size (.int .i64 0) (.int .i64 0) (.string ⟨#[]⟩) (.int .i64 0) (.int .i64 0) (.int .i64 0) (.int .i64 0) (.int .u64 0) (.slice none 0 0)) := B_ _ _
 have H0 := Zb (h.below hb0.out)
 have HH := Zb (fun w (h : Ps w p g gT L i l) => Zp h)
 have HR := Zb hr
 clear h hr
 unfold Zh at *
 generalize Zk L i = tk at *
 obtain ⟨kind, text, nn, bits_, pos⟩ := tk
 dsimp only [Tk.val] at *
 have hf0 := tf0 (.int .i64 kind) (.string text) (.int .i64 nn) (.int .u64 bits_) (.int .i64 pos)
 subst hx
 have hf1 := tf1 (.int .i64 kind) (.string ⟨#[102, 97, 108, 115, 101]⟩) (.int .i64 nn) (.int .u64 bits_) (.int .i64 pos)
 have k3 : ((kind : Int) == 3) = false := by simp; omega
 have k4 : ((kind : Int) == 4) = false := by simp; omega
 have k1 : ((kind : Int) == 1) = false := by simp; omega
 clear hk
 go_enter Tryz.func227, Tryz.ntmps227
 go_wp2_with fail
 generalize w.alloc _ = w0 at *
 refine (HH.out _ H0.out).mono ?_
 rintro e w1 ⟨rfl, hb1⟩
 have H1 := Zb (H0.out.below hb1)
 have T1 := Zb (Zc hb0.out hb1)
 have Z1 := Zb (hz0.out.bel hb1)
 clear hb1 H0 hb0 hz0
 go_wp2_with fail
 refine (HH.out _ H1.out).mono ?_
 rintro e w1' ⟨rfl, hb1⟩
 have H1 := Zb (H1.out.below hb1)
 have T1 := Zb (Zc T1.out hb1)
 have Z1 := Zb (Z1.out.bel hb1)
 clear hb1 HH
 go_wp2_with fail
 cases r with
 | bad k j =>
  refine (HR.out _ H1.out).mono ?_
  rintro e w2 ⟨rfl, r2⟩
  exact ⟨rfl, rfl, (Tn.of_bel T1.out).trans r2⟩
 | ok n j =>
  refine (HR.out _ H1.out).mono ?_
  rintro e w2 ⟨v, rfl, hv, r1, r2⟩
  obtain ⟨kd, ps, nm, t, nz, z, o, bi, ks⟩ := n
  unfold Zj at hv
  obtain ⟨s, rfl, hk⟩ := hv
  obtain ⟨a, len, ck, rfl⟩ := hk.shape
  have hw1 : w.heap.size < w1'.heap.size := Ze Z1.out
  have H2 := Zb r1
  have T2 := Zb ((Tn.of_bel T1.out).trans r2)
  have Z2 := Zb (Z1.out.tn r2 (by omega))
  have K2 := Zb hk
  obtain ⟨⟨f0, f1, f2, f3, f4, f5, f6, f7, f8⟩, b0, b1, b2, b3, b4, b5, b6, b7, b8⟩ := Z2.out.all
  obtain ⟨z9, s9⟩ := Zy Z2.out (.int .i64 kd) (.int .i64 ps) (.string nm) (.int .i64 t) (.int .i64 nz) (.int .i64 z) (.int .i64 o) (.int .u64 bi) (.slice a len ck)
  have Z9 := Zb z9
  have S9 := Zb s9
  clear z9 s9 Z2 r1 r2 hk HR H1 T1 Z1
  go_wp2_with fail
  refine Zg w.heap.size rfl rfl Z9.out rfl ?_
  refine ⟨_, rfl, ?_, H2.out.tn S9.out (by have := H2.out.big; omega) (by omega) (by omega), T2.out.own S9.out (Nat.le_refl _)⟩
  unfold Zj
  exact ⟨_, rfl, (K2.out.tn S9.out hw1).low (Nat.le_of_lt hw1)⟩
theorem prim_toint {w : World} {p : List Addr} {g gT : Nat} {L : List Tk} {i l : Nat} (h : Ps w p g gT L i l) (r : Out) (hk : (Zk L i).kind ≠ 3 /\ (Zk L i).kind ≠ 4 /\ (Zk L i).kind ≠ 1) (hx : (Zk L i).text = ⟨#[105, 110, 116]⟩) (hr : ∀ w, Ps w p g gT L i l -> Calls Tryz.prog 248 #[.pointer (some ⟨g, 0, none⟩)] w fun e w' => Zo p g gT L l w e w' r) :
 Calls Tryz.prog 227 #[.pointer (some ⟨g, 0, none⟩)] w fun e w' => Zo p g gT L l w e w' r := by
 have hgl := h.lt_g
 have hT := h.row.lt
 have hb0 := Zb (Zd w Zh)
 have hz0 : Hid (Nod (w.alloc Zh) w.heap.size (.int .i64 0) (.int .i64 0) (.string ⟨#[]⟩) (.int .i64 0) (.int .i64 0) (.int .i64 0) (.int .i64 0) (.int .u64 0) (.slice none 0 0)) := B_ _ _
 have H0 := Zb (h.below hb0.out)
 have HH := Zb (fun w (h : Ps w p g gT L i l) => Zp h)
 have HR := Zb hr
 clear h hr
 unfold Zh at *
 generalize Zk L i = tk at *
 obtain ⟨kind, text, nn, bits_, pos⟩ := tk
 dsimp only [Tk.val] at *
 have hf0 := tf0 (.int .i64 kind) (.string text) (.int .i64 nn) (.int .u64 bits_) (.int .i64 pos)
 subst hx
 have hf1 := tf1 (.int .i64 kind) (.string ⟨#[105, 110, 116]⟩) (.int .i64 nn) (.int .u64 bits_) (.int .i64 pos)
 have k3 : ((kind : Int) == 3) = false := by simp; omega
 have k4 : ((kind : Int) == 4) = false := by simp; omega
 have k1 : ((kind : Int) == 1) = false := by simp; omega
 clear hk
 go_enter Tryz.func227, Tryz.ntmps227
 go_wp2_with fail
 generalize w.alloc _ = w0 at *
 refine (HH.out _ H0.out).mono ?_
 rintro e w1 ⟨rfl, hb1⟩
 have H1 := Zb (H0.out.below hb1)
 have T1 := Zb (Zc hb0.out hb1)
 have Z1 := Zb (hz0.out.bel hb1)
 clear hb1 H0 hb0 hz0
 go_wp2_with fail
 refine (HH.out _ H1.out).mono ?_
 rintro e w1' ⟨rfl, hb1⟩
 have H1 := Zb (H1.out.below hb1)
 have T1 := Zb (Zc T1.out hb1)
 have Z1 := Zb (Z1.out.bel hb1)
 clear hb1 HH
 go_wp2_with fail
 cases r with
 | bad k j =>
  refine (HR.out _ H1.out).mono ?_
  rintro e w2 ⟨rfl, r2⟩
  exact ⟨rfl, rfl, (Tn.of_bel T1.out).trans r2⟩
 | ok n j =>
  refine (HR.out _ H1.out).mono ?_
  rintro e w2 ⟨v, rfl, hv, r1, r2⟩
  obtain ⟨kd, ps, nm, t, nz, z, o, bi, ks⟩ := n
  unfold Zj at hv
  obtain ⟨s, rfl, hk⟩ := hv
  obtain ⟨a, len, ck, rfl⟩ := hk.shape
  have hw1 : w.heap.size < w1'.heap.size := Ze Z1.out
  have H2 := Zb r1
  have T2 := Zb ((Tn.of_bel T1.out).trans r2)
  have Z2 := Zb (Z1.out.tn r2 (by omega))
  have K2 := Zb hk
  obtain ⟨⟨f0, f1, f2, f3, f4, f5, f6, f7, f8⟩, b0, b1, b2, b3, b4, b5, b6, b7, b8⟩ := Z2.out.all
  obtain ⟨z9, s9⟩ := Zy Z2.out (.int .i64 kd) (.int .i64 ps) (.string nm) (.int .i64 t) (.int .i64 nz) (.int .i64 z) (.int .i64 o) (.int .u64 bi) (.slice a len ck)
  have Z9 := Zb z9
  have S9 := Zb s9
  clear z9 s9 Z2 r1 r2 hk HR H1 T1 Z1
  go_wp2_with fail
  refine Zg w.heap.size rfl rfl Z9.out rfl ?_
  refine ⟨_, rfl, ?_, H2.out.tn S9.out (by have := H2.out.big; omega) (by omega) (by omega), T2.out.own S9.out (Nat.le_refl _)⟩
  unfold Zj
  exact ⟨_, rfl, (K2.out.tn S9.out hw1).low (Nat.le_of_lt hw1)⟩
theorem prim_tofloat {w : World} {p : List Addr} {g gT : Nat} {L : List Tk} {i l : Nat} (h : Ps w p g gT L i l) (r : Out) (hk : (Zk L i).kind ≠ 3 /\ (Zk L i).kind ≠ 4 /\ (Zk L i).kind ≠ 1) (hx : (Zk L i).text = ⟨#[102, 108, 111, 97, 116]⟩) (hr : ∀ w, Ps w p g gT L i l -> Calls Tryz.prog 248 #[.pointer (some ⟨g, 0, none⟩)] w fun e w' => Zo p g gT L l w e w' r) :
 Calls Tryz.prog 227 #[.pointer (some ⟨g, 0, none⟩)] w fun e w' => Zo p g gT L l w e w' r := by
 have hgl := h.lt_g
 have hT := h.row.lt
 have hb0 := Zb (Zd w Zh)
 have hz0 : Hid (Nod (w.alloc Zh) w.heap.size (.int .i64 0) (.int .i64 0) (.string ⟨#[]⟩) (.int .i64 0) (.int .i64 0) (.int .i64 0) (.int .i64 0) (.int .u64 0) (.slice none 0 0)) := B_ _ _
 have H0 := Zb (h.below hb0.out)
 have HH := Zb (fun w (h : Ps w p g gT L i l) => Zp h)
 have HR := Zb hr
 clear h hr
 unfold Zh at *
 generalize Zk L i = tk at *
 obtain ⟨kind, text, nn, bits_, pos⟩ := tk
 dsimp only [Tk.val] at *
 have hf0 := tf0 (.int .i64 kind) (.string text) (.int .i64 nn) (.int .u64 bits_) (.int .i64 pos)
 subst hx
 have hf1 := tf1 (.int .i64 kind) (.string ⟨#[102, 108, 111, 97, 116]⟩) (.int .i64 nn) (.int .u64 bits_) (.int .i64 pos)
 have k3 : ((kind : Int) == 3) = false := by simp; omega
 have k4 : ((kind : Int) == 4) = false := by simp; omega
 have k1 : ((kind : Int) == 1) = false := by simp; omega
 clear hk
 go_enter Tryz.func227, Tryz.ntmps227
 go_wp2_with fail
 generalize w.alloc _ = w0 at *
 refine (HH.out _ H0.out).mono ?_
 rintro e w1 ⟨rfl, hb1⟩
 have H1 := Zb (H0.out.below hb1)
 have T1 := Zb (Zc hb0.out hb1)
 have Z1 := Zb (hz0.out.bel hb1)
 clear hb1 H0 hb0 hz0
 go_wp2_with fail
 refine (HH.out _ H1.out).mono ?_
 rintro e w1' ⟨rfl, hb1⟩
 have H1 := Zb (H1.out.below hb1)
 have T1 := Zb (Zc T1.out hb1)
 have Z1 := Zb (Z1.out.bel hb1)
 clear hb1 HH
 go_wp2_with fail
 cases r with
 | bad k j =>
  refine (HR.out _ H1.out).mono ?_
  rintro e w2 ⟨rfl, r2⟩
  exact ⟨rfl, rfl, (Tn.of_bel T1.out).trans r2⟩
 | ok n j =>
  refine (HR.out _ H1.out).mono ?_
  rintro e w2 ⟨v, rfl, hv, r1, r2⟩
  obtain ⟨kd, ps, nm, t, nz, z, o, bi, ks⟩ := n
  unfold Zj at hv
  obtain ⟨s, rfl, hk⟩ := hv
  obtain ⟨a, len, ck, rfl⟩ := hk.shape
  have hw1 : w.heap.size < w1'.heap.size := Ze Z1.out
  have H2 := Zb r1
  have T2 := Zb ((Tn.of_bel T1.out).trans r2)
  have Z2 := Zb (Z1.out.tn r2 (by omega))
  have K2 := Zb hk
  obtain ⟨⟨f0, f1, f2, f3, f4, f5, f6, f7, f8⟩, b0, b1, b2, b3, b4, b5, b6, b7, b8⟩ := Z2.out.all
  obtain ⟨z9, s9⟩ := Zy Z2.out (.int .i64 kd) (.int .i64 ps) (.string nm) (.int .i64 t) (.int .i64 nz) (.int .i64 z) (.int .i64 o) (.int .u64 bi) (.slice a len ck)
  have Z9 := Zb z9
  have S9 := Zb s9
  clear z9 s9 Z2 r1 r2 hk HR H1 T1 Z1
  go_wp2_with fail
  refine Zg w.heap.size rfl rfl Z9.out rfl ?_
  refine ⟨_, rfl, ?_, H2.out.tn S9.out (by have := H2.out.big; omega) (by omega) (by omega), T2.out.own S9.out (Nat.le_refl _)⟩
  unfold Zj
  exact ⟨_, rfl, (K2.out.tn S9.out hw1).low (Nat.le_of_lt hw1)⟩
theorem cD_some {w : World} {g i : Nat} {v : Value} (h : cD w g i = v) (hv : v ≠ undef) : w.cell? ⟨g, i, none⟩ = some v := by
 unfold cD at h
 cases hc : w.cell? ⟨g, i, none⟩ with
 | none => rw [hc] at h; exact absurd h.symm hv
 | some u => rw [hc] at h; exact congrArg some h
theorem ZY {t : ByteArray} {l : List UInt8} (h : ¬ t = ⟨l.toArray⟩) : (t.toList == l) = false := by
 rw [beq_eq_false_iff_ne]
 intro e
 apply h
 rw [ByteArray.toList_eq] at e
 cases t with
 | mk d =>
  subst e
  simp
def priT : List ByteArray := [⟨#[116, 114, 117, 101]⟩, ⟨#[102, 97, 108, 115, 101]⟩, ⟨#[105, 110, 116]⟩, ⟨#[102, 108, 111, 97, 116]⟩]
theorem prim_wrap {w : World} {p : List Addr} {g gT : Nat} {L : List Tk} {i l : Nat} (h : Ps w p g gT L i l) (r : Out) (hk : (Zk L i).kind ≠ 3 /\ (Zk L i).kind ≠ 4 /\ (Zk L i).kind ≠ 1) (hx : has L i priT = false)
 (hr : ∀ w, Ps w p g gT L i l -> Calls Tryz.prog 162 #[.pointer (some ⟨g, 0, none⟩), .string ⟨#[40]⟩, .func (.func 245) #[.pointer (some ⟨g, 0, none⟩)] #[], .string ⟨#[41]⟩] w fun e w' => PostK p g gT L l w e w' r) :
 Calls Tryz.prog 227 #[.pointer (some ⟨g, 0, none⟩)] w fun e w' => Zo p g gT L l w e w' r := by
 have hx : ∀ z ∈ priT, ¬ (Zk L i).text = z := fun z hz h => by
  have := (Lib.containsS_iff priT (tx L i)).2 (by unfold tx; rw [h]; exact hz)
  unfold has at hx
  rw [this] at hx
  cases hx
 have hgl := h.lt_g
 have hT := h.row.lt
 have hb0 := Zb (Zd w Zh)
 have hz0 : Hid (Nod (w.alloc Zh) w.heap.size (.int .i64 0) (.int .i64 0) (.string ⟨#[]⟩) (.int .i64 0) (.int .i64 0) (.int .i64 0) (.int .i64 0) (.int .u64 0) (.slice none 0 0)) := B_ _ _
 have H0 := Zb (h.below hb0.out)
 have HH := Zb (fun w (h : Ps w p g gT L i l) => Zp h)
 have HR := Zb hr
 clear h hr
 unfold Zh at *
 generalize Zk L i = tk at *
 obtain ⟨kind, text, nn, bits_, pos⟩ := tk
 dsimp only [Tk.val] at *
 have hf0 := tf0 (.int .i64 kind) (.string text) (.int .i64 nn) (.int .u64 bits_) (.int .i64 pos)
 have hf1 := tf1 (.int .i64 kind) (.string text) (.int .i64 nn) (.int .u64 bits_) (.int .i64 pos)
 have k3 : ((kind : Int) == 3) = false := by simp; omega
 have k4 : ((kind : Int) == 4) = false := by simp; omega
 have k1 : ((kind : Int) == 1) = false := by simp; omega
 have hx1 : (text.toList == [116, 114, 117, 101]) = false := ZY (hx _ (by simp [priT]))
 have hx2 : (text.toList == [102, 97, 108, 115, 101]) = false := ZY (hx _ (by simp [priT]))
 have hx3 : (text.toList == [105, 110, 116]) = false := ZY (hx _ (by simp [priT]))
 have hx4 : (text.toList == [102, 108, 111, 97, 116]) = false := ZY (hx _ (by simp [priT]))
 clear hk hx
 go_enter Tryz.func227, Tryz.ntmps227
 go_wp2_with fail
 generalize w.alloc _ = w0 at *
 refine (HH.out _ H0.out).mono ?_
 rintro e w1 ⟨rfl, hb1⟩
 have H1 := Zb (H0.out.below hb1)
 have T1 := Zb (Zc hb0.out hb1)
 have Z1 := Zb (hz0.out.bel hb1)
 clear hb1 H0 hb0 hz0
 go_wp2_with fail
 refine (HH.out _ H1.out).mono ?_
 rintro e w1' ⟨rfl, hb1⟩
 have H1 := Zb (H1.out.below hb1)
 have T1 := Zb (Zc T1.out hb1)
 have Z1 := Zb (Z1.out.bel hb1)
 clear hb1 HH
 go_wp2_with fail
 cases r with
 | bad k j =>
  refine (HR.out _ H1.out).mono ?_
  rintro e w2 ⟨rfl, r2⟩
  exact ⟨rfl, rfl, (Tn.of_bel T1.out).trans r2⟩
 | ok n j =>
  refine (HR.out _ H1.out).mono ?_
  rintro e w2 ⟨s, rfl, hks, r1, r2⟩
  unfold Zt at hks
  obtain ⟨gk, cap, cur, rfl, hgk, hcur, hcap, hmax, _, hn, _⟩ := hks
  obtain ⟨kd, ps, nm, t, nz, z, o, bi, ks⟩ := n
  unfold Zj at hn
  obtain ⟨s, hv, hk⟩ := hn
  obtain ⟨a, len, ck, rfl⟩ := hk.shape
  unfold Yq at hv
  injection hv with hv
  have hv := congrArg Array.toList hv
  simp only [Nat.zero_add, List.cons.injEq, and_true] at hv
  obtain ⟨v0, v1, v2, v3, v4, v5, v6, v7, v8⟩ := hv
  have q0 := cD_some v0 (fun h => by cases h)
  have q1 := cD_some v1 (fun h => by cases h)
  have q2 := cD_some v2 (fun h => by cases h)
  have q3 := cD_some v3 (fun h => by cases h)
  have q4 := cD_some v4 (fun h => by cases h)
  have q5 := cD_some v5 (fun h => by cases h)
  have q6 := cD_some v6 (fun h => by cases h)
  have q7 := cD_some v7 (fun h => by cases h)
  have q8 := cD_some v8 (fun h => by cases h)
  have hw1 : w.heap.size < w1'.heap.size := Ze Z1.out
  have H2 := Zb r1
  have T2 := Zb ((Tn.of_bel T1.out).trans r2)
  have Z2 := Zb (Z1.out.tn r2 (by omega))
  have K2 := Zb hk
  obtain ⟨⟨f0, f1, f2, f3, f4, f5, f6, f7, f8⟩, b0, b1, b2, b3, b4, b5, b6, b7, b8⟩ := Z2.out.all
  obtain ⟨z9, s9⟩ := Zy Z2.out (.int .i64 kd) (.int .i64 ps) (.string nm) (.int .i64 t) (.int .i64 nz) (.int .i64 z) (.int .i64 o) (.int .u64 bi) (.slice a len ck)
  have Z9 := Zb z9
  have S9 := Zb s9
  have hcl : (cap : Nat) <= 9223372036854775807 := by unfold maxLen at hmax; omega
  clear z9 s9 Z2 r1 r2 hk HR H1 T1 Z1 hgk hcur hmax hx1 hx2 hx3 hx4 v0 v1 v2 v3 v4 v5 v6 v7 v8
  go_wp2_with fail
  refine Zg w.heap.size rfl rfl Z9.out rfl ?_
  refine ⟨_, rfl, ?_, H2.out.tn S9.out (by have := H2.out.big; omega) (by omega) (by omega), T2.out.own S9.out (Nat.le_refl _)⟩
  unfold Zj
  exact ⟨_, rfl, (K2.out.tn S9.out hw1).low (Nat.le_of_lt hw1)⟩
def binN (n : Nd) (op : ByteArray) (m : Nd) : Nd := nd 31 n.pos op [n, m]
def PostB (B : Nat -> Prop) (p : List Addr) (g gT : Nat) (L : List Tk) (l : Nat) (w : World) (e : Ending) (w' : World) : Out -> Prop
 | .ok n j => ∃ v, e = .returned v /\ Zj w' B n v /\ Ps w' p g gT L j l /\ Tn g w w'
 | .bad k j => e = stop (errV p k) (Zk L j).pos /\ Tn g w w'
def binO (n : Nd) (op : ByteArray) : Out -> Out
 | .ok m j => .ok (binN n op m) j
 | .bad k j => .bad k j
theorem Yj {W : World} {B : Nat -> Prop} {bk : Nat} {kd ps : Int} {nm : ByteArray} {t nz z o bi : Int} {ks : List Nd} {a : Option Addr} {len ck : Nat} {kd' ps' : Int} {nm' : ByteArray} {t' nz' z' o' bi' : Int} {ks' : List Nd} {a' : Option Addr} {len' ck' : Nat}
 (kb : W.heap[bk]? = some (.cells #[.int .i64 kd, .int .i64 ps, .string nm, .int .i64 t, .int .i64 nz, .int .i64 z, .int .i64 o, .int .u64 bi, .slice a len ck, .int .i64 kd', .int .i64 ps', .string nm', .int .i64 t', .int .i64 nz', .int .i64 z', .int .i64 o', .int .u64 bi', .slice a' len' ck'] 29 (0, 0))) (h1 : Zt W B ks (.slice a len ck)) (h2 : Zt W B ks' (.slice a' len' ck')) (hB : B bk) :
 Zt W B [.mk kd ps nm t nz z o bi ks, .mk kd' ps' nm' t' nz' z' o' bi' ks'] (.slice (some ⟨bk, 0, none⟩) 2 2) := by
 have hc : ∀ j u, (#[.int .i64 kd, .int .i64 ps, .string nm, .int .i64 t, .int .i64 nz, .int .i64 z, .int .i64 o, .int .u64 bi, .slice a len ck, .int .i64 kd', .int .i64 ps', .string nm', .int .i64 t', .int .i64 nz', .int .i64 z', .int .i64 o', .int .u64 bi', .slice a' len' ck'] : Array Value)[j]? = some u -> cD W bk j = u := fun j u hu => by
  unfold cD
  rw [Zf kb j u hu]
  rfl
 unfold Zt
 refine ⟨bk, 2, _, rfl, hB, kb, Nat.le_refl 2, by decide, rfl, ?_, ?_⟩
 · unfold Zj
   refine ⟨_, ?_, h1⟩
   unfold Yq
   rw [hc 0 _ rfl, hc (0 + 1) _ rfl, hc (0 + 2) _ rfl, hc (0 + 3) _ rfl, hc (0 + 4) _ rfl, hc (0 + 5) _ rfl, hc (0 + 6) _ rfl, hc (0 + 7) _ rfl, hc (0 + 8) _ rfl]
   rfl
 · unfold ZW
   refine ⟨?_, by unfold ZW; trivial⟩
   unfold Zj
   refine ⟨_, ?_, h2⟩
   unfold Yq
   rw [hc 9 _ rfl, hc (9 + 1) _ rfl, hc (9 + 2) _ rfl, hc (9 + 3) _ rfl, hc (9 + 4) _ rfl, hc (9 + 5) _ rfl, hc (9 + 6) _ rfl, hc (9 + 7) _ rfl, hc (9 + 8) _ rfl]
   rfl
def rowF (rule : Nat -> Out) (zs : List ByteArray) (L : List Tk) : Nat -> Nat -> Nd -> Out
 | 0, j, _ => .bad 0 j
 | f + 1, j, n => if has L j zs then (match rule (j + 1) with | .ok m j' => rowF rule zs L f j' (binN n (tx L j) m) | .bad k j' => .bad k j') else .ok n j
def Yx (rule : Nat -> Out) (zs : List ByteArray) (L : List Tk) (f i : Nat) : Out :=
 match rule i with | .ok n j => rowF rule zs L f j n | .bad k j => .bad k j
def nextAt (w : World) (g : Nat) : Nat := match w.cell? ⟨g, 1, none⟩ with | some (.int _ z) => z.toNat | _ => 0
theorem Ps.next {w : World} {p : List Addr} {g gT : Nat} {L : List Tk} {i l : Nat} (h : Ps w p g gT L i l) : nextAt w g = i := by
 obtain ⟨cap, _, c1, _⟩ := h.cells
 unfold nextAt
 rw [c1]
 simp
mutual
theorem Zj.within {w : World} {S : Nat -> Prop} : ∀ {n : Nd} {v : Value}, Zj w S n v -> Zj w (fun k => S k /\ k < w.heap.size) n v
 | .mk _ _ _ _ _ _ _ _ ks, v, hn => by
  unfold Zj at hn ⊢
  obtain ⟨s, h1, h2⟩ := hn
  exact ⟨s, h1, Zt.within h2⟩
theorem Zt.within {w : World} {S : Nat -> Prop} : ∀ {ks : List Nd} {s : Value}, Zt w S ks s -> Zt w (fun k => S k /\ k < w.heap.size) ks s
 | [], _, hn => by
  unfold Zt at hn ⊢
  exact hn
 | n :: ks, s, hn => by
  unfold Zt at hn ⊢
  obtain ⟨g, cap, cur, h1, h2, h3, h4, h5, h6, h7, h8⟩ := hn
  exact ⟨g, cap, cur, h1, ⟨h2, Ze h3⟩, h3, h4, h5, h6, Zj.within h7, ZW.within h8⟩
theorem ZW.within {w : World} {S : Nat -> Prop} {g o : Nat} : ∀ {ks : List Nd}, ZW w S g o ks -> ZW w (fun k => S k /\ k < w.heap.size) g o ks
 | [], _ => by
  unfold ZW
  trivial
 | n :: ks, hn => by
  unfold ZW at hn ⊢
  exact ⟨Zj.within hn.1, ZW.within hn.2⟩
end
def Of (B b k : Nat) : Prop := B <= k /\ k ≠ b
structure Rr (w wr : World) (p : List Addr) (g gT : Nat) (L : List Tk) (l j b : Nat) (kd ps : Int) (nm : ByteArray) (t nz z o bi : Int) (ks : List Nd) (a : Option Addr) (len ck : Nat) : Prop where
 pr : Ps wr p g gT L j l
 tn : Tn g w wr
 zr : Nod wr w.heap.size (.int .i64 0) (.int .i64 0) (.string ⟨#[]⟩) (.int .i64 0) (.int .i64 0) (.int .i64 0) (.int .i64 0) (.int .u64 0) (.slice none 0 0)
 vr : Nod wr b (.int .i64 kd) (.int .i64 ps) (.string nm) (.int .i64 t) (.int .i64 nz) (.int .i64 z) (.int .i64 o) (.int .u64 bi) (.slice a len ck)
 kv : Zt wr (Of (w.heap.size + 1) b) ks (.slice a len ck)
theorem binary_treeparserand {w : World} {p : List Addr} {g gT : Nat} {L : List Tk} {i l : Nat} (h : Ps w p g gT L i l) (B : Nat -> Prop) (hB : ∀ k, w.heap.size <= k -> B k) (hgB : ¬ B g) (n : Nd) (v : Value) (hn : Zj w B n v) (hi : i + 1 < L.length) (r : Out) (hr : ZS 56 p g gT L l (i + 1) r) :
 Calls Tryz.prog 93 #[.pointer (some ⟨g, 0, none⟩), v, .func (.func 56) #[.pointer (some ⟨g, 0, none⟩)] #[]] w fun e w' => PostB B p g gT L l w e w' (binO n (tx L i) r) := by
 obtain ⟨kd, ps, nm, t, nz, z, o, bi, ks⟩ := n
 unfold Zj at hn
 obtain ⟨s, rfl, hk⟩ := hn
 obtain ⟨a, len, ck, rfl⟩ := hk.shape
 have HKL := Zb hk
 have hgl := h.lt_g
 have hT := h.row.lt
 have hb0 := Zd w (.cells #[.int .i64 kd, .int .i64 ps, .string nm, .int .i64 t, .int .i64 nz, .int .i64 z, .int .i64 o, .int .u64 bi, .slice a len ck] 29)
 have y0 : Nod (w.alloc (.cells #[.int .i64 kd, .int .i64 ps, .string nm, .int .i64 t, .int .i64 nz, .int .i64 z, .int .i64 o, .int .u64 bi, .slice a len ck] 29)) w.heap.size (.int .i64 kd) (.int .i64 ps) (.string nm) (.int .i64 t) (.int .i64 nz) (.int .i64 z) (.int .i64 o) (.int .u64 bi) (.slice a len ck) := B_ _ _
 have s0 : (w.alloc (.cells #[.int .i64 kd, .int .i64 ps, .string nm, .int .i64 t, .int .i64 nz, .int .i64 z, .int .i64 o, .int .u64 bi, .slice a len ck] 29)).heap.size = w.heap.size + 1 := by simp
 have H0 := h.below hb0
 have K0 := hk.bel hb0
 generalize hw1 : w.alloc _ = w1 at *
 have hb1 := Zd w1 (.cells #[.int .i64 0, .int .i64 0, .string ⟨#[]⟩, .int .i64 0, .int .i64 0, .int .i64 0, .int .i64 0, .int .u64 0, .slice none 0 0] 29)
 have z1 : Nod (w1.alloc (.cells #[.int .i64 0, .int .i64 0, .string ⟨#[]⟩, .int .i64 0, .int .i64 0, .int .i64 0, .int .i64 0, .int .u64 0, .slice none 0 0] 29)) w1.heap.size (.int .i64 0) (.int .i64 0) (.string ⟨#[]⟩) (.int .i64 0) (.int .i64 0) (.int .i64 0) (.int .i64 0) (.int .u64 0) (.slice none 0 0) := B_ _ _
 have s1 : (w1.alloc (.cells #[.int .i64 0, .int .i64 0, .string ⟨#[]⟩, .int .i64 0, .int .i64 0, .int .i64 0, .int .i64 0, .int .u64 0, .slice none 0 0] 29)).heap.size = w.heap.size + 1 + 1 := by simp [s0]
 rw [s0] at z1
 have y1 := y0.bel hb1
 have H1 := Zb (H0.below hb1)
 have K1 := Zb (K0.bel hb1)
 have B1 := Zb (Zc hb0 hb1)
 subst hw1
 have HH := Zb (fun w (h : Ps w p g gT L i l) => Zp h)
 have HR := Zb hr
 clear h hr hk H0 K0 hb0 hb1 y0 s0
 unfold tx at *
 generalize Zk L i = tk at *
 obtain ⟨kind, text, nn, bits_, pos⟩ := tk
 dsimp only [Tk.val] at *
 have hf1 := tf1 (.int .i64 kind) (.string text) (.int .i64 nn) (.int .u64 bits_) (.int .i64 pos)
 go_enter Tryz.func93, Tryz.ntmps93
 go_wp2_with fail
 generalize (w.alloc _).alloc _ = w2 at *
 obtain ⟨_, y00, y01, _⟩ := y1.all
 have Y1 := Zb y1
 have Z1 := Zb z1
 clear y1 z1
 go_cut [7] from 8 to 13 (fun x wc => ∃ b, x = .pointer (some ⟨b, 0, none⟩) /\ Hid (Nod wc b (.int .i64 31) (.int .i64 ps) (.string text) (.int .i64 0) (.int .i64 0) (.int .i64 0) (.int .i64 0) (.int .u64 0) (.slice none 0 0) /\ Below w2.heap.size w2 wc /\ w2.heap.size <= b))
 case first =>
  refine wp_region_any ZI ?_
  change wpAny _ _ _ _ _ _ _ (World.drew _)
  have H0 := Zb H1.out.drew
  have Y0 : Hid (Nod w2.drew w.heap.size (.int .i64 kd) (.int .i64 ps) (.string nm) (.int .i64 t) (.int .i64 nz) (.int .i64 z) (.int .i64 o) (.int .u64 bi) (.slice a len ck)) := Y1.out.drew
  have B0 : Hid (Below w2.heap.size w2 w2.drew) := Zm (Below.refl _ _)
  generalize World.drew w2 = W0 at *
  refine T_ 0 (v := ?_) (fun w => ?_) ?_
  rotate_left 1
  · (go_simp <;> with_reducible rfl)
  simp only [Act.put, S_]
  refine T_ 2 (v := ?_) (fun w => ?_) ?_
  rotate_left 1
  · (go_simp <;> with_reducible rfl)
  simp only [Act.put, S_]
  refine wpAny_ready (rs := [1, 3, 6]) (by kernel_rfl) (by decide) ?_
  refine AllReady.cons rfl (fun K1 hK1 => ?_) (AllReady.cons rfl (fun K1 hK1 => ?_) (AllReady.cons rfl (fun K1 hK1 => ?_) AllReady.nil))
  · obtain ⟨_, _, yq, _⟩ := Y0.out.all
    go_simp
    refine hK1 _ _ ?_
    clear hK1 K1 yq
    refine wpAny_ready (rs := [3, 6]) (by kernel_rfl) (by decide) ?_
    refine AllReady.cons rfl (fun K1 hK1 => ?_) (AllReady.cons rfl (fun K1 hK1 => ?_) AllReady.nil)
    · go_simp
      refine (HH.out _ H0.out).mono ?_
      rintro e W1 ⟨rfl, hb⟩
      have H1 := Zb (H0.out.below hb)
      have Y1 := Zb (Y0.out.bel hb)
      have B1 := Zb (Zc B0.out hb)
      clear hb
      refine hK1 _ _ ?_
      clear hK1 K1
      refine T_ 4 (v := ?_) (fun w => ?_) ?_
      rotate_left 1
      · (go_simp <;> with_reducible rfl)
      simp only [Act.put, S_]
      refine T_ 5 (v := ?_) (fun w => ?_) ?_
      rotate_left 1
      · (go_simp <;> with_reducible rfl)
      simp only [Act.put, S_]
      refine R_ 6 (fun K1 hK1 => ?_)
      go_simp
      have hb := Zd W1 (.cells #[.int .i64 0, .int .i64 0, .string ⟨#[]⟩, .int .i64 0, .int .i64 0, .int .i64 0, .int .i64 0, .int .u64 0, .slice none 0 0] 29)
      have X2 : Hid (Nod (W1.alloc (.cells #[.int .i64 0, .int .i64 0, .string ⟨#[]⟩, .int .i64 0, .int .i64 0, .int .i64 0, .int .i64 0, .int .u64 0, .slice none 0 0] 29)) W1.heap.size (.int .i64 0) (.int .i64 0) (.string ⟨#[]⟩) (.int .i64 0) (.int .i64 0) (.int .i64 0) (.int .i64 0) (.int .u64 0) (.slice none 0 0)) := B_ _ _
      have H2 := Zb (H1.out.below hb)
      have Y2 := Zb (Y1.out.bel hb)
      have B2 := Zb (Zc B1.out hb)
      have LE : Hid (w2.heap.size <= W1.heap.size) := B1.out.size
      clear hb
      generalize W1.alloc _ = W2 at *
      generalize W1.heap.size = b at *
      refine hK1 _ _ ?_
      clear hK1 K1
      refine R_ 7 (fun K1 hK1 => ?_)
      obtain ⟨⟨p0, p1, p2, p3, p4, p5, p6, p7, p8⟩, q0, q1, q2, q3, q4, q5, q6, q7, q8⟩ := X2.out.all
      go_simp
      refine hK1 _ _ ?_
      clear hK1 K1 p0 p1 p2 p3 p4 p5 p6 p7 p8 q0 q1 q2 q3 q4 q5 q6 q7 q8
      refine wpAny_done (by kernel_rfl) ?_ _
      go_wp2_with fail
      go_meet
      case rel =>
       obtain ⟨z9, s9⟩ := Zy X2.out (.int .i64 31) (.int .i64 ps) (.string text) (.int .i64 0) (.int .i64 0) (.int .i64 0) (.int .i64 0) (.int .u64 0) (.slice none 0 0)
       exact ⟨_, rfl, z9, B2.out.trans (s9.bel LE.out B2.out.size), LE.out⟩
    · go_simp
      have hb := Zd W0 (.cells #[.int .i64 0, .int .i64 0, .string ⟨#[]⟩, .int .i64 0, .int .i64 0, .int .i64 0, .int .i64 0, .int .u64 0, .slice none 0 0] 29)
      have X1 : Hid (Nod (W0.alloc (.cells #[.int .i64 0, .int .i64 0, .string ⟨#[]⟩, .int .i64 0, .int .i64 0, .int .i64 0, .int .i64 0, .int .u64 0, .slice none 0 0] 29)) W0.heap.size (.int .i64 0) (.int .i64 0) (.string ⟨#[]⟩) (.int .i64 0) (.int .i64 0) (.int .i64 0) (.int .i64 0) (.int .u64 0) (.slice none 0 0)) := B_ _ _
      have H1 := Zb (H0.out.below hb)
      have Y1 := Zb (Y0.out.bel hb)
      have B1 := Zb (Zc B0.out hb)
      have LE : Hid (w2.heap.size <= W0.heap.size) := B0.out.size
      clear hb
      generalize W0.alloc _ = W1 at *
      generalize W0.heap.size = b at *
      refine hK1 _ _ ?_
      clear hK1 K1
      refine R_ 3 (fun K1 hK1 => ?_)
      go_simp
      refine (HH.out _ H1.out).mono ?_
      rintro e W2 ⟨rfl, hb⟩
      have H2 := Zb (H1.out.below hb)
      have Y2 := Zb (Y1.out.bel hb)
      have B2 := Zb (Zc B1.out hb)
      have X2 := Zb (X1.out.bel hb)
      clear hb
      refine hK1 _ _ ?_
      clear hK1 K1
      refine T_ 4 (v := ?_) (fun w => ?_) ?_
      rotate_left 1
      · (go_simp <;> with_reducible rfl)
      simp only [Act.put, S_]
      refine T_ 5 (v := ?_) (fun w => ?_) ?_
      rotate_left 1
      · (go_simp <;> with_reducible rfl)
      simp only [Act.put, S_]
      refine R_ 7 (fun K1 hK1 => ?_)
      obtain ⟨⟨p0, p1, p2, p3, p4, p5, p6, p7, p8⟩, q0, q1, q2, q3, q4, q5, q6, q7, q8⟩ := X2.out.all
      go_simp
      refine hK1 _ _ ?_
      clear hK1 K1 p0 p1 p2 p3 p4 p5 p6 p7 p8 q0 q1 q2 q3 q4 q5 q6 q7 q8
      refine wpAny_done (by kernel_rfl) ?_ _
      go_wp2_with fail
      go_meet
      case rel =>
       obtain ⟨z9, s9⟩ := Zy X2.out (.int .i64 31) (.int .i64 ps) (.string text) (.int .i64 0) (.int .i64 0) (.int .i64 0) (.int .i64 0) (.int .u64 0) (.slice none 0 0)
       exact ⟨_, rfl, z9, B2.out.trans (s9.bel LE.out B2.out.size), LE.out⟩
  · go_simp
    refine (HH.out _ H0.out).mono ?_
    rintro e W1 ⟨rfl, hb⟩
    have H1 := Zb (H0.out.below hb)
    have Y1 := Zb (Y0.out.bel hb)
    have B1 := Zb (Zc B0.out hb)
    clear hb
    refine hK1 _ _ ?_
    clear hK1 K1
    refine T_ 4 (v := ?_) (fun w => ?_) ?_
    rotate_left 1
    · (go_simp <;> with_reducible rfl)
    simp only [Act.put, S_]
    refine wpAny_ready (rs := [1, 6]) (by kernel_rfl) (by decide) ?_
    refine AllReady.cons rfl (fun K1 hK1 => ?_) (AllReady.cons rfl (fun K1 hK1 => ?_) AllReady.nil)
    · obtain ⟨_, _, yq, _⟩ := Y1.out.all
      go_simp
      refine hK1 _ _ ?_
      clear hK1 K1 yq
      refine T_ 5 (v := ?_) (fun w => ?_) ?_
      rotate_left 1
      · (go_simp <;> with_reducible rfl)
      simp only [Act.put, S_]
      refine R_ 6 (fun K1 hK1 => ?_)
      go_simp
      have hb := Zd W1 (.cells #[.int .i64 0, .int .i64 0, .string ⟨#[]⟩, .int .i64 0, .int .i64 0, .int .i64 0, .int .i64 0, .int .u64 0, .slice none 0 0] 29)
      have X2 : Hid (Nod (W1.alloc (.cells #[.int .i64 0, .int .i64 0, .string ⟨#[]⟩, .int .i64 0, .int .i64 0, .int .i64 0, .int .i64 0, .int .u64 0, .slice none 0 0] 29)) W1.heap.size (.int .i64 0) (.int .i64 0) (.string ⟨#[]⟩) (.int .i64 0) (.int .i64 0) (.int .i64 0) (.int .i64 0) (.int .u64 0) (.slice none 0 0)) := B_ _ _
      have H2 := Zb (H1.out.below hb)
      have Y2 := Zb (Y1.out.bel hb)
      have B2 := Zb (Zc B1.out hb)
      have LE : Hid (w2.heap.size <= W1.heap.size) := B1.out.size
      clear hb
      generalize W1.alloc _ = W2 at *
      generalize W1.heap.size = b at *
      refine hK1 _ _ ?_
      clear hK1 K1
      refine R_ 7 (fun K1 hK1 => ?_)
      obtain ⟨⟨p0, p1, p2, p3, p4, p5, p6, p7, p8⟩, q0, q1, q2, q3, q4, q5, q6, q7, q8⟩ := X2.out.all
      go_simp
      refine hK1 _ _ ?_
      clear hK1 K1 p0 p1 p2 p3 p4 p5 p6 p7 p8 q0 q1 q2 q3 q4 q5 q6 q7 q8
      refine wpAny_done (by kernel_rfl) ?_ _
      go_wp2_with fail
      go_meet
      case rel =>
       obtain ⟨z9, s9⟩ := Zy X2.out (.int .i64 31) (.int .i64 ps) (.string text) (.int .i64 0) (.int .i64 0) (.int .i64 0) (.int .i64 0) (.int .u64 0) (.slice none 0 0)
       exact ⟨_, rfl, z9, B2.out.trans (s9.bel LE.out B2.out.size), LE.out⟩
    · go_simp
      have hb := Zd W1 (.cells #[.int .i64 0, .int .i64 0, .string ⟨#[]⟩, .int .i64 0, .int .i64 0, .int .i64 0, .int .i64 0, .int .u64 0, .slice none 0 0] 29)
      have X2 : Hid (Nod (W1.alloc (.cells #[.int .i64 0, .int .i64 0, .string ⟨#[]⟩, .int .i64 0, .int .i64 0, .int .i64 0, .int .i64 0, .int .u64 0, .slice none 0 0] 29)) W1.heap.size (.int .i64 0) (.int .i64 0) (.string ⟨#[]⟩) (.int .i64 0) (.int .i64 0) (.int .i64 0) (.int .i64 0) (.int .u64 0) (.slice none 0 0)) := B_ _ _
      have H2 := Zb (H1.out.below hb)
      have Y2 := Zb (Y1.out.bel hb)
      have B2 := Zb (Zc B1.out hb)
      have LE : Hid (w2.heap.size <= W1.heap.size) := B1.out.size
      clear hb
      generalize W1.alloc _ = W2 at *
      generalize W1.heap.size = b at *
      refine hK1 _ _ ?_
      clear hK1 K1
      refine R_ 1 (fun K1 hK1 => ?_)
      obtain ⟨_, _, yq, _⟩ := Y2.out.all
      go_simp
      refine hK1 _ _ ?_
      clear hK1 K1 yq
      refine T_ 5 (v := ?_) (fun w => ?_) ?_
      rotate_left 1
      · (go_simp <;> with_reducible rfl)
      simp only [Act.put, S_]
      refine R_ 7 (fun K1 hK1 => ?_)
      obtain ⟨⟨p0, p1, p2, p3, p4, p5, p6, p7, p8⟩, q0, q1, q2, q3, q4, q5, q6, q7, q8⟩ := X2.out.all
      go_simp
      refine hK1 _ _ ?_
      clear hK1 K1 p0 p1 p2 p3 p4 p5 p6 p7 p8 q0 q1 q2 q3 q4 q5 q6 q7 q8
      refine wpAny_done (by kernel_rfl) ?_ _
      go_wp2_with fail
      go_meet
      case rel =>
       obtain ⟨z9, s9⟩ := Zy X2.out (.int .i64 31) (.int .i64 ps) (.string text) (.int .i64 0) (.int .i64 0) (.int .i64 0) (.int .i64 0) (.int .u64 0) (.slice none 0 0)
       exact ⟨_, rfl, z9, B2.out.trans (s9.bel LE.out B2.out.size), LE.out⟩
  · go_simp
    have hb := Zd W0 (.cells #[.int .i64 0, .int .i64 0, .string ⟨#[]⟩, .int .i64 0, .int .i64 0, .int .i64 0, .int .i64 0, .int .u64 0, .slice none 0 0] 29)
    have X1 : Hid (Nod (W0.alloc (.cells #[.int .i64 0, .int .i64 0, .string ⟨#[]⟩, .int .i64 0, .int .i64 0, .int .i64 0, .int .i64 0, .int .u64 0, .slice none 0 0] 29)) W0.heap.size (.int .i64 0) (.int .i64 0) (.string ⟨#[]⟩) (.int .i64 0) (.int .i64 0) (.int .i64 0) (.int .i64 0) (.int .u64 0) (.slice none 0 0)) := B_ _ _
    have H1 := Zb (H0.out.below hb)
    have Y1 := Zb (Y0.out.bel hb)
    have B1 := Zb (Zc B0.out hb)
    have LE : Hid (w2.heap.size <= W0.heap.size) := B0.out.size
    clear hb
    generalize W0.alloc _ = W1 at *
    generalize W0.heap.size = b at *
    refine hK1 _ _ ?_
    clear hK1 K1
    refine wpAny_ready (rs := [1, 3]) (by kernel_rfl) (by decide) ?_
    refine AllReady.cons rfl (fun K1 hK1 => ?_) (AllReady.cons rfl (fun K1 hK1 => ?_) AllReady.nil)
    · obtain ⟨_, _, yq, _⟩ := Y1.out.all
      go_simp
      refine hK1 _ _ ?_
      clear hK1 K1 yq
      refine R_ 3 (fun K1 hK1 => ?_)
      go_simp
      refine (HH.out _ H1.out).mono ?_
      rintro e W2 ⟨rfl, hb⟩
      have H2 := Zb (H1.out.below hb)
      have Y2 := Zb (Y1.out.bel hb)
      have B2 := Zb (Zc B1.out hb)
      have X2 := Zb (X1.out.bel hb)
      clear hb
      refine hK1 _ _ ?_
      clear hK1 K1
      refine T_ 4 (v := ?_) (fun w => ?_) ?_
      rotate_left 1
      · (go_simp <;> with_reducible rfl)
      simp only [Act.put, S_]
      refine T_ 5 (v := ?_) (fun w => ?_) ?_
      rotate_left 1
      · (go_simp <;> with_reducible rfl)
      simp only [Act.put, S_]
      refine R_ 7 (fun K1 hK1 => ?_)
      obtain ⟨⟨p0, p1, p2, p3, p4, p5, p6, p7, p8⟩, q0, q1, q2, q3, q4, q5, q6, q7, q8⟩ := X2.out.all
      go_simp
      refine hK1 _ _ ?_
      clear hK1 K1 p0 p1 p2 p3 p4 p5 p6 p7 p8 q0 q1 q2 q3 q4 q5 q6 q7 q8
      refine wpAny_done (by kernel_rfl) ?_ _
      go_wp2_with fail
      go_meet
      case rel =>
       obtain ⟨z9, s9⟩ := Zy X2.out (.int .i64 31) (.int .i64 ps) (.string text) (.int .i64 0) (.int .i64 0) (.int .i64 0) (.int .i64 0) (.int .u64 0) (.slice none 0 0)
       exact ⟨_, rfl, z9, B2.out.trans (s9.bel LE.out B2.out.size), LE.out⟩
    · go_simp
      refine (HH.out _ H1.out).mono ?_
      rintro e W2 ⟨rfl, hb⟩
      have H2 := Zb (H1.out.below hb)
      have Y2 := Zb (Y1.out.bel hb)
      have B2 := Zb (Zc B1.out hb)
      have X2 := Zb (X1.out.bel hb)
      clear hb
      refine hK1 _ _ ?_
      clear hK1 K1
      refine T_ 4 (v := ?_) (fun w => ?_) ?_
      rotate_left 1
      · (go_simp <;> with_reducible rfl)
      simp only [Act.put, S_]
      refine R_ 1 (fun K1 hK1 => ?_)
      obtain ⟨_, _, yq, _⟩ := Y2.out.all
      go_simp
      refine hK1 _ _ ?_
      clear hK1 K1 yq
      refine T_ 5 (v := ?_) (fun w => ?_) ?_
      rotate_left 1
      · (go_simp <;> with_reducible rfl)
      simp only [Act.put, S_]
      refine R_ 7 (fun K1 hK1 => ?_)
      obtain ⟨⟨p0, p1, p2, p3, p4, p5, p6, p7, p8⟩, q0, q1, q2, q3, q4, q5, q6, q7, q8⟩ := X2.out.all
      go_simp
      refine hK1 _ _ ?_
      clear hK1 K1 p0 p1 p2 p3 p4 p5 p6 p7 p8 q0 q1 q2 q3 q4 q5 q6 q7 q8
      refine wpAny_done (by kernel_rfl) ?_ _
      go_wp2_with fail
      go_meet
      case rel =>
       obtain ⟨z9, s9⟩ := Zy X2.out (.int .i64 31) (.int .i64 ps) (.string text) (.int .i64 0) (.int .i64 0) (.int .i64 0) (.int .i64 0) (.int .u64 0) (.slice none 0 0)
       exact ⟨_, rfl, z9, B2.out.trans (s9.bel LE.out B2.out.size), LE.out⟩
 case rest =>
  obtain ⟨b, rfl, hX⟩ := hcut
  have H2 := Zb (H1.out.below hX.out.2.1)
  have Y2 := Zb (Y1.out.bel hX.out.2.1)
  have Z2 := Zb (Z1.out.bel hX.out.2.1)
  have K2 := Zb (K1.out.bel hX.out.2.1)
  have T2 := Zb (Tn.of_bel (g := g) (Zc B1.out hX.out.2.1))
  have X2 := Zb hX.out.1
  have hb : w.heap.size + 1 + 1 <= b := by have := hX.out.2.2; omega
  obtain ⟨r1, r2⟩ := H2.out.set (i + 1) hi ((i : Int) + 1) (by omega)
  have H3 := Zb r1
  have T3 := Zb (T2.out.trans r2)
  have Y3 := Zb (Y2.out.tn r2 (by omega))
  have Z3 := Zb (Z2.out.tn r2 (by omega))
  have X3 := Zb (X2.out.tn r2 (by omega))
  obtain ⟨cap, _, c1, _, cf, _, _⟩ := H2.out.cells
  have fc1 := cf 1
  have hL := H2.out.len
  obtain ⟨_, d0, d1, d2, d3, d4, d5, d6, d7, d8⟩ := Y3.out.all
  clear cf r1 r2 H2 T2 Z2 X2 Y2 K2 hX H1 Y1 Z1 K1 B1 HH hf1 y00 y01
  go_wp2_with fail
  clear c1 fc1 hL d0 d1 d2 d3 d4 d5 d6 d7 d8
  generalize wc.setCell ⟨g, 1, none⟩ (.int .i64 ((i : Int) + 1)) = w3 at *
  have H0 := Zb H3.out.drew
  have T0 := Zb T3.out.drew
  have Y0 := Zb Y3.out.drew
  have Z0 := Zb Z3.out.drew
  have X0 := Zb X3.out.drew
  clear H3 T3 Y3 Z3 X3
  cases r with
  | bad k j =>
   refine wp_region_any ZI ?_
   change wpAny _ _ _ _ _ _ _ (World.drew _)
   generalize World.drew w3 = W0 at *
   refine T_ 1 (v := ?_) (fun w => ?_) ?_
   rotate_left 1
   · (go_simp <;> with_reducible rfl)
   simp only [Act.put, S_]
   refine wpAny_ready (rs := [0, 2]) (by kernel_rfl) (by decide) ?_
   refine AllReady.cons rfl (fun K1 hK1 => ?_) (AllReady.cons rfl (fun K1 hK1 => ?_) AllReady.nil)
   · obtain ⟨_, d0, d1, d2, d3, d4, d5, d6, d7, d8⟩ := Y0.out.all
     go_simp
     refine hK1 _ _ ?_
     clear hK1 K1 d0 d1 d2 d3 d4 d5 d6 d7 d8
     refine R_ 2 (fun K1 hK1 => ?_)
     go_simp
     refine (HR.out _ H0.out).mono ?_
     rintro e W1 ⟨rfl, t1⟩
     exact ⟨rfl, rfl, T0.out.trans t1⟩
   · go_simp
     refine (HR.out _ H0.out).mono ?_
     rintro e W1 ⟨rfl, t1⟩
     exact ⟨rfl, rfl, T0.out.trans t1⟩
  | ok m j =>
   obtain ⟨kd', ps', nm', t', nz', z', o', bi', ks'⟩ := m
   refine wp_region_any ZI ?_
   change wpAny _ _ _ _ _ _ _ (World.drew _)
   generalize World.drew w3 = W0 at *
   refine T_ 1 (v := ?_) (fun w => ?_) ?_
   rotate_left 1
   · (go_simp <;> with_reducible rfl)
   simp only [Act.put, S_]
   refine wpAny_ready (rs := [0, 2]) (by kernel_rfl) (by decide) ?_
   refine AllReady.cons rfl (fun K1 hK1 => ?_) (AllReady.cons rfl (fun K1 hK1 => ?_) AllReady.nil)
   · obtain ⟨_, d0, d1, d2, d3, d4, d5, d6, d7, d8⟩ := Y0.out.all
     go_simp
     refine hK1 _ _ ?_
     clear hK1 K1 d0 d1 d2 d3 d4 d5 d6 d7 d8
     refine R_ 2 (fun K1 hK1 => ?_)
     go_simp
     refine (HR.out _ H0.out).mono ?_
     rintro e W1 ⟨v, rfl, hv, h1, t1⟩
     unfold Zj at hv
     obtain ⟨s', rfl, hk'⟩ := hv
     obtain ⟨a', len', ck', rfl⟩ := hk'.shape
     have hwz : W0.heap.size <= W1.heap.size := t1.size
     have hbW : b < W0.heap.size := Ze X0.out
     have H1 := Zb h1
     have T1 := Zb (T0.out.trans t1)
     have Y1 := Zb (Y0.out.tn t1 (by omega))
     have Z1 := Zb (Z0.out.tn t1 (by omega))
     have X1 := Zb (X0.out.tn t1 (by omega))
     have J1 := Zb hk'
     clear h1 t1 hk'
     refine hK1 _ _ ?_
     clear hK1 K1
     refine R_ 3 (fun K1 hK1 => ?_)
     go_simp
     have hb5 := Zd W1 (.cells #[.int .i64 kd, .int .i64 ps, .string nm, .int .i64 t, .int .i64 nz, .int .i64 z, .int .i64 o, .int .u64 bi, .slice a len ck, .int .i64 kd', .int .i64 ps', .string nm', .int .i64 t', .int .i64 nz', .int .i64 z', .int .i64 o', .int .u64 bi', .slice a' len' ck'] 29)
     have kb : (W1.alloc (.cells #[.int .i64 kd, .int .i64 ps, .string nm, .int .i64 t, .int .i64 nz, .int .i64 z, .int .i64 o, .int .u64 bi, .slice a len ck, .int .i64 kd', .int .i64 ps', .string nm', .int .i64 t', .int .i64 nz', .int .i64 z', .int .i64 o', .int .u64 bi', .slice a' len' ck'] 29)).heap[W1.heap.size]? = some (.cells #[.int .i64 kd, .int .i64 ps, .string nm, .int .i64 t, .int .i64 nz, .int .i64 z, .int .i64 o, .int .u64 bi, .slice a len ck, .int .i64 kd', .int .i64 ps', .string nm', .int .i64 t', .int .i64 nz', .int .i64 z', .int .i64 o', .int .u64 bi', .slice a' len' ck'] 29 (0, 0)) := B_ _ _
     have H5 := Zb (H1.out.below hb5)
     have T5 := Zb (T1.out.trans (Tn.of_bel hb5))
     have Z5 := Zb (Z1.out.bel hb5)
     have x5 := X1.out.bel hb5
     have KB := Zb kb
     have J5 := Zb (J1.out.bel hb5)
     obtain ⟨⟨_, _, _, _, _, _, _, _, f8⟩, _, _, _, _, _, _, _, _, c8⟩ := x5.all
     obtain ⟨x6, s6⟩ := Zs x5 8 (.slice (some ⟨W1.heap.size, 0, none⟩) 2 2)
     have x6 : Nod _ b (.int .i64 31) (.int .i64 ps) (.string text) (.int .i64 0) (.int .i64 0) (.int .i64 0) (.int .i64 0) (.int .u64 0) (.slice (some ⟨W1.heap.size, 0, none⟩) 2 2) := x6
     clear kb hb5 x5 J1 H1 T1 Z1 X1 Y1
     refine hK1 _ _ ?_
     clear hK1 K1
     refine T_ 4 (v := ?_) (fun w => ?_) ?_
     rotate_left 1
     · (go_simp <;> with_reducible rfl)
     simp only [Act.put, S_]
     refine R_ 5 (fun K1 hK1 => ?_)
     go_simp
     refine hK1 _ _ ?_
     clear hK1 K1 f8 c8
     refine wpAny_done (by kernel_rfl) ?_ _
     have X6 := Zb x6
     have T6 := Zb (T5.out.own s6 (by omega))
     have H6 := Zb (H5.out.tn s6 (by have := H5.out.big; omega) (by omega) (by omega))
     have Z6 := Zb (Z5.out.tn s6 (by omega))
     have KB6 := Zb ((s6.blk W1.heap.size (Ze KB.out) (by omega)).trans KB.out)
     have J6 := Zb (J5.out.tn s6 hbW)
     clear x6 s6 H5 T5 Z5 KB J5
     generalize hw6 : (W1.alloc _).setCell ⟨b, 8, none⟩ (.slice (some ⟨W1.heap.size, 0, none⟩) 2 2) = w6 at *
     clear hw6
     have hbk := Zb (show w.heap.size + 1 < W1.heap.size by omega)
     generalize W1.heap.size = bk at *
     obtain ⟨_, e0, e1, e2, e3, e4, e5, e6, e7, e8⟩ := X6.out.all
     obtain ⟨⟨p0, p1, p2, p3, p4, p5, p6, p7, p8⟩, q0, q1, q2, q3, q4, q5, q6, q7, q8⟩ := Z6.out.all
     obtain ⟨z9, s9⟩ := Zy Z6.out (.int .i64 31) (.int .i64 ps) (.string text) (.int .i64 0) (.int .i64 0) (.int .i64 0) (.int .i64 0) (.int .u64 0) (.slice (some ⟨bk, 0, none⟩) 2 2)
     have Z9 := Zb z9
     have S9 := Zb s9
     clear z9 s9 Z6 X6
     go_wp2_with fail
     refine Zg (w.heap.size + 1) rfl rfl Z9.out rfl ?_
     refine ⟨_, rfl, ?_, H6.out.tn S9.out (by have := H6.out.big; omega) (by omega) (by omega), T6.out.own S9.out (by omega)⟩
     unfold binN nd Zj
     refine ⟨_, rfl, Yj ((S9.out.blk bk (Ze KB6.out) (by have := hbk.out; omega)).trans KB6.out) (HKL.out.tnS (T6.out.own S9.out (by omega)) hgB) ((J6.out.tn S9.out (by omega)).lowS (fun k hk => hB k (Nat.le_trans (Nat.le_of_lt (show w.heap.size < W0.heap.size by omega)) hk))) (hB _ (by have := hbk.out; omega))⟩
   · go_simp
     refine (HR.out _ H0.out).mono ?_
     rintro e W1 ⟨v, rfl, hv, h1, t1⟩
     unfold Zj at hv
     obtain ⟨s', rfl, hk'⟩ := hv
     obtain ⟨a', len', ck', rfl⟩ := hk'.shape
     have hwz : W0.heap.size <= W1.heap.size := t1.size
     have hbW : b < W0.heap.size := Ze X0.out
     have H1 := Zb h1
     have T1 := Zb (T0.out.trans t1)
     have Y1 := Zb (Y0.out.tn t1 (by omega))
     have Z1 := Zb (Z0.out.tn t1 (by omega))
     have X1 := Zb (X0.out.tn t1 (by omega))
     have J1 := Zb hk'
     clear h1 t1 hk'
     refine hK1 _ _ ?_
     clear hK1 K1
     refine R_ 0 (fun K1 hK1 => ?_)
     obtain ⟨_, d0, d1, d2, d3, d4, d5, d6, d7, d8⟩ := Y1.out.all
     go_simp
     refine hK1 _ _ ?_
     clear hK1 K1 d0 d1 d2 d3 d4 d5 d6 d7 d8
     refine R_ 3 (fun K1 hK1 => ?_)
     go_simp
     have hb5 := Zd W1 (.cells #[.int .i64 kd, .int .i64 ps, .string nm, .int .i64 t, .int .i64 nz, .int .i64 z, .int .i64 o, .int .u64 bi, .slice a len ck, .int .i64 kd', .int .i64 ps', .string nm', .int .i64 t', .int .i64 nz', .int .i64 z', .int .i64 o', .int .u64 bi', .slice a' len' ck'] 29)
     have kb : (W1.alloc (.cells #[.int .i64 kd, .int .i64 ps, .string nm, .int .i64 t, .int .i64 nz, .int .i64 z, .int .i64 o, .int .u64 bi, .slice a len ck, .int .i64 kd', .int .i64 ps', .string nm', .int .i64 t', .int .i64 nz', .int .i64 z', .int .i64 o', .int .u64 bi', .slice a' len' ck'] 29)).heap[W1.heap.size]? = some (.cells #[.int .i64 kd, .int .i64 ps, .string nm, .int .i64 t, .int .i64 nz, .int .i64 z, .int .i64 o, .int .u64 bi, .slice a len ck, .int .i64 kd', .int .i64 ps', .string nm', .int .i64 t', .int .i64 nz', .int .i64 z', .int .i64 o', .int .u64 bi', .slice a' len' ck'] 29 (0, 0)) := B_ _ _
     have H5 := Zb (H1.out.below hb5)
     have T5 := Zb (T1.out.trans (Tn.of_bel hb5))
     have Z5 := Zb (Z1.out.bel hb5)
     have x5 := X1.out.bel hb5
     have KB := Zb kb
     have J5 := Zb (J1.out.bel hb5)
     obtain ⟨⟨_, _, _, _, _, _, _, _, f8⟩, _, _, _, _, _, _, _, _, c8⟩ := x5.all
     obtain ⟨x6, s6⟩ := Zs x5 8 (.slice (some ⟨W1.heap.size, 0, none⟩) 2 2)
     have x6 : Nod _ b (.int .i64 31) (.int .i64 ps) (.string text) (.int .i64 0) (.int .i64 0) (.int .i64 0) (.int .i64 0) (.int .u64 0) (.slice (some ⟨W1.heap.size, 0, none⟩) 2 2) := x6
     clear kb hb5 x5 J1 H1 T1 Z1 X1 Y1
     refine hK1 _ _ ?_
     clear hK1 K1
     refine T_ 4 (v := ?_) (fun w => ?_) ?_
     rotate_left 1
     · (go_simp <;> with_reducible rfl)
     simp only [Act.put, S_]
     refine R_ 5 (fun K1 hK1 => ?_)
     go_simp
     refine hK1 _ _ ?_
     clear hK1 K1 f8 c8
     refine wpAny_done (by kernel_rfl) ?_ _
     have X6 := Zb x6
     have T6 := Zb (T5.out.own s6 (by omega))
     have H6 := Zb (H5.out.tn s6 (by have := H5.out.big; omega) (by omega) (by omega))
     have Z6 := Zb (Z5.out.tn s6 (by omega))
     have KB6 := Zb ((s6.blk W1.heap.size (Ze KB.out) (by omega)).trans KB.out)
     have J6 := Zb (J5.out.tn s6 hbW)
     clear x6 s6 H5 T5 Z5 KB J5
     generalize hw6 : (W1.alloc _).setCell ⟨b, 8, none⟩ (.slice (some ⟨W1.heap.size, 0, none⟩) 2 2) = w6 at *
     clear hw6
     have hbk := Zb (show w.heap.size + 1 < W1.heap.size by omega)
     generalize W1.heap.size = bk at *
     obtain ⟨_, e0, e1, e2, e3, e4, e5, e6, e7, e8⟩ := X6.out.all
     obtain ⟨⟨p0, p1, p2, p3, p4, p5, p6, p7, p8⟩, q0, q1, q2, q3, q4, q5, q6, q7, q8⟩ := Z6.out.all
     obtain ⟨z9, s9⟩ := Zy Z6.out (.int .i64 31) (.int .i64 ps) (.string text) (.int .i64 0) (.int .i64 0) (.int .i64 0) (.int .i64 0) (.int .u64 0) (.slice (some ⟨bk, 0, none⟩) 2 2)
     have Z9 := Zb z9
     have S9 := Zb s9
     clear z9 s9 Z6 X6
     go_wp2_with fail
     refine Zg (w.heap.size + 1) rfl rfl Z9.out rfl ?_
     refine ⟨_, rfl, ?_, H6.out.tn S9.out (by have := H6.out.big; omega) (by omega) (by omega), T6.out.own S9.out (by omega)⟩
     unfold binN nd Zj
     refine ⟨_, rfl, Yj ((S9.out.blk bk (Ze KB6.out) (by have := hbk.out; omega)).trans KB6.out) (HKL.out.tnS (T6.out.own S9.out (by omega)) hgB) ((J6.out.tn S9.out (by omega)).lowS (fun k hk => hB k (Nat.le_trans (Nat.le_of_lt (show w.heap.size < W0.heap.size by omega)) hk))) (hB _ (by have := hbk.out; omega))⟩
theorem row_treeparserand {w : World} {p : List Addr} {g gT : Nat} {L : List Tk} {i l : Nat} (h : Ps w p g gT L i l) (hE : Ya L) (b c : Nat) (zs : List ByteArray) (hbg : b ≠ g) (hz : ∀ z ∈ zs, z.size ≠ 0) (hn : zs.length <= 100) (hc : ∀ j, j < zs.length -> w.cell? ⟨b, j, none⟩ = some (.string (zs.getD j ByteArray.empty)))
 (rule : Nat -> Out) (f : Nat) (hf : L.length - i <= f) (hge : ∀ j m j', rule j = .ok m j' -> j <= j') (hr : ∀ j, i <= j -> ZS 56 p g gT L l j (rule j)) :
 Calls Tryz.prog 55 #[.pointer (some ⟨g, 0, none⟩), .func (.func 56) #[.pointer (some ⟨g, 0, none⟩)] #[], .slice (some ⟨b, 0, none⟩) zs.length c] w fun e w' => Zo p g gT L l w e w' (Yx rule zs L f i) := by
 have hgl := h.lt_g
 have hT := h.row.lt
 have hb0 := Zb (Zd w Zh)
 have hz0 : Hid (Nod (w.alloc Zh) w.heap.size (.int .i64 0) (.int .i64 0) (.string ⟨#[]⟩) (.int .i64 0) (.int .i64 0) (.int .i64 0) (.int .i64 0) (.int .u64 0) (.slice none 0 0)) := B_ _ _
 have H0 := Zb (h.below hb0.out)
 have HR := Zb hr
 have HC := Zb hc
 have HE := Zb hE
 have HZ := Zb hz
 have HG := Zb hge
 generalize hw : Yx rule zs L f i = out
 unfold Yx at hw
 generalize hq : rule i = q at hw
 have HQ := Zb hq
 have HW := Zb hw
 have hR0 := HR.out i (Nat.le_refl _)
 rw [hq] at hR0
 have HR0 := Zb hR0
 have hf := Zb hf
 clear h hr hc hE hz hge hw hq hR0
 unfold Zh at *
 obtain ⟨nz0, hnz⟩ : ∃ nz0, zs.length = nz0 := ⟨_, rfl⟩
 rw [hnz]
 have HN := Zb hnz
 rw [hnz] at hn
 clear hnz
 go_enter Tryz.func55, Tryz.ntmps55
 go_wp2_with fail
 generalize w.alloc _ = w0 at *
 cases q with
 | bad k j =>
  have hw := HW.out
  subst hw
  refine (HR0.out _ H0.out).mono ?_
  rintro e w1 ⟨rfl, r2⟩
  exact ⟨rfl, rfl, (Tn.of_bel hb0.out).trans r2⟩
 | ok n j0 =>
  refine (HR0.out _ H0.out).mono ?_
  rintro e w1 ⟨v, rfl, hv, r1, r2⟩
  obtain ⟨kd, ps, nm, t, nz, z, o, bi, ks⟩ := n
  unfold Zj at hv
  obtain ⟨s, rfl, hk⟩ := hv
  obtain ⟨a, len, ck, rfl⟩ := hk.shape
  have hw0 : w.heap.size < w0.heap.size := Ze hz0.out
  have hw1 : w0.heap.size <= w1.heap.size := r2.size
  have hb2 := Zd w1 (.cells #[.int .i64 kd, .int .i64 ps, .string nm, .int .i64 t, .int .i64 nz, .int .i64 z, .int .i64 o, .int .u64 bi, .slice a len ck] 29)
  have I0 : Hid (Rr w (w1.alloc (.cells #[.int .i64 kd, .int .i64 ps, .string nm, .int .i64 t, .int .i64 nz, .int .i64 z, .int .i64 o, .int .u64 bi, .slice a len ck] 29)) p g gT L l j0 w1.heap.size kd ps nm t nz z o bi ks a len ck) :=
   ⟨r1.below hb2, ((Tn.of_bel hb0.out).trans r2).trans (Tn.of_bel hb2), (hz0.out.tn r2 (by omega)).bel hb2, B_ _ _, Zt.keep (S := fun k => Fr w0.heap.size k /\ k < w1.heap.size) (fun k hk => ⟨Nat.le_trans hw0 hk.1, Nat.ne_of_lt hk.2⟩) (fun k _ h2 => hb2.block k h2) _ _ (hk.within)⟩
  clear hk r1 r2 hb2 hb0 hz0 H0 HR0
  go_wp2_with fail
  generalize w1.alloc _ = w2 at *
  generalize w1.heap.size = b1 at *
  have hj0 := HG.out i _ j0 HQ.out
  have S0 : Hid (∃ f', L.length - j0 <= f' /\ rowF rule zs L f' j0 (.mk kd ps nm t nz z o bi ks) = out) := ⟨f, Nat.le_trans (by omega) hf.out, HW.out⟩
  have hb1 : Hid (w.heap.size < b1) := by show _ < _; omega
  clear HW HQ hf hw0 hw1
  go_loopw [] (fun wr => ∃ (j : Nat) (kd ps : Int) (nm : ByteArray) (t nz z o bi : Int) (ks : List Nd) (a : Option Addr) (len ck : Nat), i <= j /\ Hid (Rr w wr p g gT L l j b1 kd ps nm t nz z o bi ks a len ck /\ ∃ f', L.length - j <= f' /\ rowF rule zs L f' j (.mk kd ps nm t nz z o bi ks) = out)) (fun wr => L.length - nextAt wr g)
  case atStart => exact ⟨j0, kd, ps, nm, t, nz, z, o, bi, ks, a, len, ck, hj0, I0.out, S0.out⟩
  case round =>
   clear I0 S0 hj0
   obtain ⟨j, kd, ps, nm, t, nz, z, o, bi, ks, a, len, ck, hij, I⟩ := hrel
   have hB1 := hb1.out
   go_wp2_with fail
   refine (sees_any I.out.1.pr b nz0 c zs HN.out hn (fun q hq => I.out.1.tn.cell hbg (HC.out q hq))).mono ?_
   rintro e w3 ⟨rfl, hb3⟩
   have H3 := Zb (I.out.1.pr.below hb3)
   have T3 := Zb (I.out.1.tn.trans (Tn.of_bel hb3))
   have Z3 := Zb (I.out.1.zr.bel hb3)
   have X3 := Zb (I.out.1.vr.bel hb3)
   have K3 := Zb (I.out.1.kv.bel hb3)
   have F3 := Zb I.out.2
   have N3 := Zb I.out.1.pr.next
   clear hb3 I
   by_cases hs : has L j zs = true
   · rw [show Lib.containsS zs (Zk L j).text = true from hs]
     have hj1 := ZF HE.out H3.out.lt HZ.out hs
     obtain ⟨f', hf1, hf2⟩ := F3.out
     have hlt := H3.out.lt
     obtain ⟨f2, rfl⟩ : ∃ f2, f' = f2 + 1 := ⟨f' - 1, by omega⟩
     unfold rowF at hf2
     rw [if_pos hs] at hf2
     obtain ⟨q, hq⟩ : ∃ q, rule (j + 1) = q := ⟨_, rfl⟩
     rw [hq] at hf2
     have hb3 : b1 < w3.heap.size := Ze X3.out
     have hw3 := T3.out.size
     have HB := Zb (binary_treeparserand H3.out (Of (w.heap.size + 1) b1) (fun k hk => ⟨by omega, by omega⟩) (fun h => by have := h.1; omega) (.mk kd ps nm t nz z o bi ks) _ (by unfold Zj; exact ⟨_, rfl, K3.out⟩) hj1 q (by rw [← hq]; exact HR.out (j + 1) (by omega)))
     have HF := Zb (And.intro hf1 hf2)
     have HQ := Zb hq
     obtain ⟨_, d0, d1, d2, d3, d4, d5, d6, d7, d8⟩ := X3.out.all
     clear hs hf1 hf2 hq F3 K3
     go_wp2_with fail
     cases q with
     | bad k j' =>
      have hw := HF.out.2
      subst hw
      refine HB.out.mono ?_
      rintro e w4 ⟨rfl, r2⟩
      exact ⟨rfl, rfl, T3.out.trans r2⟩
     | ok m j' =>
      refine HB.out.mono ?_
      rintro e w4 ⟨v, rfl, hv, r1, r2⟩
      unfold binN nd Zj at hv
      obtain ⟨s, rfl, hk⟩ := hv
      obtain ⟨a', len', ck', rfl⟩ := hk.shape
      unfold Nd.pos
      have hw4 := r2.size
      have x4 := X3.out.tn r2 (by omega)
      have Z4 := Zb (Z3.out.tn r2 (by omega))
      have T4 := Zb (T3.out.trans r2)
      obtain ⟨⟨p0, p1, p2, p3, p4, p5, p6, p7, p8⟩, q0, q1, q2, q3, q4, q5, q6, q7, q8⟩ := x4.all
      obtain ⟨x5, s5⟩ := Zy x4 (.int .i64 31) (.int .i64 ps) (.string (tx L j)) (.int .i64 0) (.int .i64 0) (.int .i64 0) (.int .i64 0) (.int .u64 0) (.slice a' len' ck')
      have J5 : Hid (Rr w _ p g gT L l j' b1 31 ps (tx L j) 0 0 0 0 0 [.mk kd ps nm t nz z o bi ks, m] a' len' ck') :=
       ⟨r1.tn s5 (by have := r1.big; omega) (by omega) (by have := r1.row.lt; omega), T4.out.own s5 (by omega), Z4.out.tn s5 (by omega), x5, hk.tnS s5 (fun h => h.2 rfl)⟩
      have hjj := HG.out _ _ _ HQ.out
      clear d0 d1 d2 d3 d4 d5 d6 d7 d8 x4 x5 s5 r1 r2 hk HB Z4 T4 H3 T3 Z3 X3
      go_wp2_with fail
      go_roundw
      case rel => exact ⟨j', 31, ps, tx L j, 0, 0, 0, 0, 0, _, a', len', ck', by omega, J5.out, f2, by have := HF.out.1; omega, HF.out.2⟩
      case measure =>
       rw [J5.out.pr.next, N3.out]
       omega
   · have hs : has L j zs = false := by simpa using hs
     rw [show Lib.containsS zs (Zk L j).text = false from hs]
     obtain ⟨f', hf1, hf2⟩ := F3.out
     have hlt := H3.out.lt
     obtain ⟨f2, rfl⟩ : ∃ f2, f' = f2 + 1 := ⟨f' - 1, by omega⟩
     unfold rowF at hf2
     rw [hs, if_neg (by decide)] at hf2
     subst hf2
     obtain ⟨_, d0, d1, d2, d3, d4, d5, d6, d7, d8⟩ := X3.out.all
     obtain ⟨⟨p0, p1, p2, p3, p4, p5, p6, p7, p8⟩, q0, q1, q2, q3, q4, q5, q6, q7, q8⟩ := Z3.out.all
     obtain ⟨z9, s9⟩ := Zy Z3.out (.int .i64 kd) (.int .i64 ps) (.string nm) (.int .i64 t) (.int .i64 nz) (.int .i64 z) (.int .i64 o) (.int .u64 bi) (.slice a len ck)
     have Z9 := Zb z9
     have S9 := Zb s9
     clear z9 s9 Z3 X3 hs hf1 F3
     go_wp2_with fail
     refine Zg w.heap.size rfl rfl Z9.out rfl ?_
     refine ⟨_, rfl, ?_, H3.out.tn S9.out (by have := H3.out.big; omega) (by omega) (by omega), T3.out.own S9.out (Nat.le_refl _)⟩
     unfold Zj
     exact ⟨_, rfl, (K3.out.tnS S9.out (fun h => by have := h.1; omega)).lowS (fun k hk => Nat.le_trans (Nat.le_succ _) hk.1)⟩
def orT : List ByteArray := [⟨#[124, 124]⟩]
theorem expr_row {w : World} {p : List Addr} {g gT : Nat} {L : List Tk} {i l : Nat} (h : Ps w p g gT L i l) (hE : Ya L) (rule : Nat -> Out) (f : Nat) (hf : L.length - i <= f) (hge : ∀ j m j', rule j = .ok m j' -> j <= j') (hr : ∀ j, i <= j -> ZS 56 p g gT L l j (rule j)) :
    Calls Tryz.prog 32 #[.pointer (some ⟨g, 0, none⟩)] w fun e w' => Zo p g gT L l w e w' (Yx rule orT L f i) := by
  have hgl := h.lt_g
  have hT := h.row.lt
  have hb0 := Zb (Zd w Zh)
  have hz0 : Hid (Nod (w.alloc Zh) w.heap.size (.int .i64 0) (.int .i64 0) (.string ⟨#[]⟩) (.int .i64 0) (.int .i64 0) (.int .i64 0) (.int .i64 0) (.int .u64 0) (.slice none 0 0)) := B_ _ _
  have H0 := Zb (h.below hb0.out)
  have HR : Hid (∀ w0, Ps w0 p g gT L i l -> Calls Tryz.prog 55 #[.pointer (some ⟨g, 0, none⟩), .func (.func 56) #[.pointer (some ⟨g, 0, none⟩)] #[], .slice (some ⟨w0.heap.size, 0, none⟩) 1 1] (w0.alloc (.cells #[.string ⟨#[124, 124]⟩] 9)) fun e w' => Zo p g gT L l (w0.alloc (.cells #[.string ⟨#[124, 124]⟩] 9)) e w' (Yx rule orT L f i)) := fun w0 h0 =>
    row_treeparserand (h0.below (Zd w0 _)) hE w0.heap.size 1 orT (Nat.ne_of_gt h0.lt_g) (by decide) (by decide) (fun j hj => by
      refine Zf (B_ w0 _) j _ ?_
      have hj : j < 1 := hj
      have : j = 0 := by omega
      subst this; rfl) rule f hf hge hr
  generalize Yx rule orT L f i = r at *
  clear h hr hE hge
  unfold Zh at *
  go_enter Tryz.func32, Tryz.ntmps32
  go_wp2_with fail
  generalize hg0 : w.alloc _ = w0 at *
  have e0 : w0.heap.size = w.heap.size + 1 := by rw [← hg0]; simp
  clear hg0
  rw [← e0]
  have hb1 := Zb (Zd w0 (.cells #[.string ⟨#[124, 124]⟩] 9))
  cases r with
  | bad k j =>
    refine (HR.out _ H0.out).mono ?_
    rintro e w2 ⟨rfl, r2⟩
    exact ⟨rfl, rfl, (Tn.of_bel (Zc hb0.out hb1.out)).trans r2⟩
  | ok n j =>
    refine (HR.out _ H0.out).mono ?_
    rintro e w2 ⟨v, rfl, hv, r1, r2⟩
    obtain ⟨kd, ps, nm, t, nz, z, o, bi, ks⟩ := n
    unfold Zj at hv
    obtain ⟨s, rfl, hk⟩ := hv
    obtain ⟨a, len, ck, rfl⟩ := hk.shape
    have hw1 := Nat.lt_of_lt_of_le (Ze hz0.out) hb1.out.size
    have H2 := Zb r1
    have T2 := Zb ((Tn.of_bel (Zc hb0.out hb1.out)).trans r2)
    have Z2 := Zb ((hz0.out.bel hb1.out).tn r2 (by omega))
    have K2 := Zb hk
    have hw2 := Zb hw1
    obtain ⟨⟨f0, f1, f2, f3, f4, f5, f6, f7, f8⟩, b0, b1, b2, b3, b4, b5, b6, b7, b8⟩ := Z2.out.all
    obtain ⟨z9, s9⟩ := Zy Z2.out (.int .i64 kd) (.int .i64 ps) (.string nm) (.int .i64 t) (.int .i64 nz) (.int .i64 z) (.int .i64 o) (.int .u64 bi) (.slice a len ck)
    have Z9 := Zb z9
    have S9 := Zb s9
    clear z9 s9 Z2 r1 r2 hk HR H0 hb0 hb1 hz0 e0 hw1
    go_wp2_with fail
    refine Zg w.heap.size rfl rfl Z9.out rfl ?_
    refine ⟨_, rfl, ?_, H2.out.tn S9.out (by have := H2.out.big; omega) (by omega) (by omega), T2.out.own S9.out (Nat.le_refl _)⟩
    unfold Zj
    exact ⟨_, rfl, (K2.out.tn S9.out hw2.out).low (Nat.le_of_lt hw2.out)⟩
end Go.Proofs.YtfnplhfjfolojaaGreatDoor.Ck
