/- Texts of this proof, packed: contracts of the program's functions, and the plain model that they are held against. -/
import Derived.Test.YtogeblmppagabaaGreatDoorQal
/- Names and elements. -/
namespace Go.Proofs.YtogeblmppagabaaGreatDoor.Ck
open Go.RowKit

theorem KidsV.form {w : World} {B : Nat → Prop} {n : Nd} {s : Value} (h : KidsV w B [n] s) : ∃ gk ck, s = .slice (some ⟨gk, 0, none⟩) 1 ck := by
  unfold KidsV at h
  obtain ⟨gk, ck, _, h1, _⟩ := h
  exact ⟨gk, ck, h1⟩
def nd (k : Int) (pos : Int) (name : ByteArray) (kids : List Nd) : Nd := .mk k pos name 0 0 0 0 0 kids
def bOpen : ByteArray := ⟨#[40]⟩
def bShut : ByteArray := ⟨#[41]⟩
def bOpn : ByteArray := ⟨#[91]⟩
def bSht : ByteArray := ⟨#[93]⟩
/-- a name, or an element, whose inner comes out so -/
def targetO (L : List Tk) (l i : Nat) (r : Out) : Out :=
  if (tkAt L i).kind = 1 then
    if has L (i + 1) [bOpn] then match wrapO L l (i + 1) bOpn bSht r with | .ok n j => .ok (nd 29 (tkAt L i).pos (tx L i) [n]) j | .bad k j => .bad k j
    else .ok (nd 28 (tkAt L i).pos (tx L i) []) (i + 1)
  else .bad 1 i

set_option maxRecDepth 20000 in
set_option maxHeartbeats 1000000 in
theorem target_any {w : World} {p : List Addr} {g gT : Nat} {L : List Tk} {i l : Nat} (h : Ps w p g gT L i l) (hE : Ends L) (hl : l ≤ 16) (r : Out) (hr : l ≠ 16 → (tkAt L i).kind = 1 → has L (i + 1) [bOpn] = true → Rule 27 p g gT L (l + 1) (i + 1 + 1) r) :
    Calls Tryz.prog 202 #[.pointer (some ⟨g, 0, none⟩)] w fun e w' => PostN p g gT L l w e w' (targetO L l i r) := by
  generalize hw : targetO L l i r = out
  unfold targetO at hw
  have HW := hide hw
  clear hw
  have hi := h.lt
  have hgl := h.lt_g
  have hT := h.row.lt
  have hb0 := hide (bel_new w nodZ)
  have hz0 : Hid (Nod (w.alloc nodZ) w.heap.size (.int .i64 0) (.int .i64 0) (.string ⟨#[]⟩) (.int .i64 0) (.int .i64 0) (.int .i64 0) (.int .i64 0) (.int .u64 0) (.slice none 0 0)) := Go.Deep.blk_alloc_new _ _
  have H0 := hide (h.below hb0.out)
  have HH := hide (here_any H0.out)
  have HR := hide hr
  have HE := hide hE
  clear h hr hE
  unfold nodZ at *
  obtain ⟨tk, htk⟩ : ∃ tk, tkAt L i = tk := ⟨_, rfl⟩
  rw [htk] at HH
  have HK := hide htk
  clear htk
  obtain ⟨kind, text, nn, bits_, pos⟩ := tk
  dsimp only [Tk.val] at HH
  have hf4 := tf4 (.int .i64 kind) (.string text) (.int .i64 nn) (.int .u64 bits_) (.int .i64 pos)
  go_enter Tryz.func202, Tryz.ntmps202
  go_wp2_with fail
  generalize w.alloc (.cells #[.int .i64 0, .int .i64 0, .string ⟨#[]⟩, .int .i64 0, .int .i64 0, .int .i64 0, .int .i64 0, .int .u64 0, .slice none 0 0] 27) = w0 at *
  refine HH.out.mono ?_
  rintro e w1 ⟨rfl, hb1⟩
  have hw1 : w.heap.size < w1.heap.size := Nat.lt_of_lt_of_le (lt_of_blk hz0.out) hb1.size
  have hb2 := bel_new w1 (.cells #[.int .i64 28, .int .i64 pos, .string ⟨#[]⟩, .int .i64 0, .int .i64 0, .int .i64 0, .int .i64 0, .int .u64 0, .slice none 0 0] 27)
  have X2 : Hid (Nod (w1.alloc (.cells #[.int .i64 28, .int .i64 pos, .string ⟨#[]⟩, .int .i64 0, .int .i64 0, .int .i64 0, .int .i64 0, .int .u64 0, .slice none 0 0] 27)) w1.heap.size (.int .i64 28) (.int .i64 pos) (.string ⟨#[]⟩) (.int .i64 0) (.int .i64 0) (.int .i64 0) (.int .i64 0) (.int .u64 0) (.slice none 0 0)) := Go.Deep.blk_alloc_new _ _
  have H2 := hide (H0.out.below (bel_trans hb1 hb2))
  have T2 := hide (Tn.of_bel (g := g) (bel_trans hb0.out (bel_trans hb1 hb2)))
  have Z2 := hide ((hz0.out.bel hb1).bel hb2)
  clear HH hb0 hz0 H0 hb1 hb2
  go_wp2_with fail
  clear hf4
  generalize w1.alloc (.cells #[.int .i64 28, .int .i64 pos, .string ⟨#[]⟩, .int .i64 0, .int .i64 0, .int .i64 0, .int .i64 0, .int .u64 0, .slice none 0 0] 27) = w2 at *
  generalize w1.heap.size = n1 at *
  by_cases h1 : (tkAt L i).kind = 1
  · have hi1 := HE.out i hi (.inr (by omega))
    refine (word_yes H2.out h1 hi1).mono ?_
    rw [show tx L i = text by unfold tx; rw [HK.out]]
    rintro e w3 ⟨rfl, r1, r2⟩
    have H3 := hide r1
    have T3 := hide (T2.out.trans r2)
    have x3 := X2.out.tn r2 (by omega)
    have Z3 := hide (Z2.out.tn r2 (by omega))
    obtain ⟨⟨_, _, f2, _, _, _, _, _, _⟩, _, _, c2, _, _, _, _, _, _⟩ := x3.all
    obtain ⟨x4, s4⟩ := set1 x3 2 (.string text)
    have x4 : Nod _ n1 (.int .i64 28) (.int .i64 pos) (.string text) (.int .i64 0) (.int .i64 0) (.int .i64 0) (.int .i64 0) (.int .u64 0) (.slice none 0 0) := x4
    have H4 := hide (H3.out.tn s4 (by have := H3.out.big; omega) (by omega) (by omega))
    have T4 := hide (T3.out.own s4 (by omega))
    have Z4 := hide (Z3.out.tn s4 (by omega))
    have X4 := hide x4
    have K1 := hide h1
    clear x3 x4 s4 r1 r2 X2 H2 T2 Z2 H3 T3 Z3 h1
    go_wp2_with fail
    have e4 : (w3.setCell ⟨n1, 2, none⟩ (.string text)).heap.size = w3.heap.size := by simp
    generalize w3.setCell ⟨n1, 2, none⟩ (.string text) = w4 at *
    rw [← e4]
    refine (sees_new H4.out [bOpn] 1 _ rfl rfl (by omega)).mono ?_
    rintro e w5 ⟨rfl, hb5⟩
    have H5 := hide (H4.out.below hb5)
    have T5 := hide (T4.out.trans (Tn.of_bel hb5))
    have Z5 := hide (Z4.out.bel hb5)
    have X5 := hide (X4.out.bel hb5)
    clear hb5 H4 T4 Z4 X4 f2 c2 e4
    by_cases h2 : has L (i + 1) [bOpn] = true
    · rw [h2]
      obtain ⟨⟨f0, _, _, _, _, _, _, _, _⟩, c0, _, _, _, _, _, _, _, _⟩ := X5.out.all
      obtain ⟨x6, s6⟩ := set1 X5.out 0 (.int .i64 29)
      have x6 : Nod _ n1 (.int .i64 29) (.int .i64 pos) (.string text) (.int .i64 0) (.int .i64 0) (.int .i64 0) (.int .i64 0) (.int .u64 0) (.slice none 0 0) := x6
      have H6 := hide (H5.out.tn s6 (by have := H5.out.big; omega) (by omega) (by omega))
      have T6 := hide (T5.out.own s6 (by omega))
      have Z6 := hide (Z5.out.tn s6 (by omega))
      have X6 := hide x6
      have hw := HW.out
      rw [if_pos K1.out, if_pos h2] at hw
      have hq : ∃ q, wrapO L l (i + 1) bOpn bSht r = q := ⟨_, rfl⟩
      obtain ⟨q, hq⟩ := hq
      rw [hq] at hw
      have HW := hide hw
      have WI := hide (fun w (h : Ps w p g gT L (i + 1) l) => within_any h HE.out hl bOpn bSht (by decide) (by decide) r (fun a b => HR.out a K1.out b))
      rw [hq] at WI
      clear hw hq h2 x6 s6 X5 H5 T5 Z5 HR
      go_wp2_with fail
      generalize w5.setCell ⟨n1, 0, none⟩ (.int .i64 29) = w6 at *
      cases q with
      | bad k j =>
        have hw := HW.out
        subst hw
        refine (WI.out _ H6.out).mono ?_
        rintro e w7 ⟨rfl, r2⟩
        exact ⟨rfl, rfl, T6.out.trans r2⟩
      | ok n j =>
        have hw := HW.out
        subst hw
        refine (WI.out _ H6.out).mono ?_
        rintro e w7 ⟨s, rfl, hk, r1, r2⟩
        obtain ⟨gk, ck, rfl⟩ := hk.form
        have hn6 : n1 < w6.heap.size := lt_of_blk X6.out
        have hw6 : w.heap.size ≤ w6.heap.size := T6.out.size
        have T7 := hide (T6.out.trans r2)
        have x7 := X6.out.tn r2 (by omega)
        have Z7 := hide (Z6.out.tn r2 (by omega))
        obtain ⟨⟨_, _, _, _, _, _, _, _, f8⟩, _, _, _, _, _, _, _, _, c8⟩ := x7.all
        obtain ⟨x8, s8⟩ := set1 x7 8 (.slice (some ⟨gk, 0, none⟩) 1 ck)
        have x8 : Nod _ n1 (.int .i64 29) (.int .i64 pos) (.string text) (.int .i64 0) (.int .i64 0) (.int .i64 0) (.int .i64 0) (.int .u64 0) (.slice (some ⟨gk, 0, none⟩) 1 ck) := x8
        have H8 := hide (r1.tn s8 (by have := r1.big; omega) (by omega) (by omega))
        have T8 := hide (T7.out.own s8 (by omega))
        have Z8 := hide (Z7.out.tn s8 (by omega))
        have K8 := hide (hk.tn s8 hn6)
        have hgo := hide (show w.heap.size < w6.heap.size by omega)
        clear WI HW HE c0 f0 hk r1 r2 s8 x7 T7 Z7 X6 H6 T6 Z6
        obtain ⟨_, d0, d1, d2, d3, d4, d5, d6, d7, d8⟩ := x8.all
        obtain ⟨⟨f0, f1, f2, f3, f4, f5, f6, f7, f8'⟩, b0, b1, b2, b3, b4, b5, b6, b7, b8⟩ := Z8.out.all
        obtain ⟨z9, s9⟩ := set9 Z8.out (.int .i64 29) (.int .i64 pos) (.string text) (.int .i64 0) (.int .i64 0) (.int .i64 0) (.int .i64 0) (.int .u64 0) (.slice (some ⟨gk, 0, none⟩) 1 ck)
        have Z9 := hide z9
        have S9 := hide s9
        clear x8 z9 s9 Z8
        go_wp2_with fail
        refine ret_nod w.heap.size rfl rfl Z9.out rfl ?_
        refine ⟨_, rfl, ?_, H8.out.tn S9.out (by have := H8.out.big; omega) (by omega) (by omega), T8.out.own S9.out (Nat.le_refl _)⟩
        unfold nd NodeV
        refine ⟨_, ?_, (K8.out.tn S9.out hgo.out).low (Nat.le_of_lt hgo.out)⟩
        unfold tx
        rw [HK.out]
    · have h2 : has L (i + 1) [bOpn] = false := by simpa using h2
      rw [h2]
      have hw := HW.out
      rw [if_pos K1.out, h2, if_neg (by decide)] at hw
      subst hw
      obtain ⟨⟨f0, f1, f2, f3, f4, f5, f6, f7, f8⟩, b0, b1, b2, b3, b4, b5, b6, b7, b8⟩ := Z5.out.all
      obtain ⟨_, d0, d1, d2, d3, d4, d5, d6, d7, d8⟩ := X5.out.all
      obtain ⟨z6, s6⟩ := set9 Z5.out (.int .i64 28) (.int .i64 pos) (.string text) (.int .i64 0) (.int .i64 0) (.int .i64 0) (.int .i64 0) (.int .u64 0) (.slice none 0 0)
      have Z6 := hide z6
      have S6 := hide s6
      clear z6 s6 h2 X5 Z5
      go_wp2_with fail
      refine ret_nod w.heap.size rfl rfl Z6.out rfl ?_
      refine ⟨_, rfl, ?_, H5.out.tn S6.out (by have := H5.out.big; omega) (by omega) (by omega), T5.out.own S6.out (Nat.le_refl _)⟩
      unfold nd NodeV
      refine ⟨.slice none 0 0, ?_, by unfold KidsV; rfl⟩
      unfold tx
      rw [HK.out]
  · have hw := HW.out
    rw [if_neg h1] at hw
    subst hw
    refine (word_no H2.out h1).mono ?_
    rintro e w3 ⟨rfl, r2⟩
    exact ⟨rfl, rfl, T2.out.trans r2⟩

end Go.Proofs.YtogeblmppagabaaGreatDoor.Ck

/- Operators of one operand. -/
namespace Go.Proofs.YtogeblmppagabaaGreatDoor.Ck
open Go.RowKit

def convO (L : List Tk) (l i : Nat) (r : Out) : Out :=
  match wrapO L l (i + 1) bOpen bShut r with | .ok n j => .ok (nd 30 (tkAt L i).pos (tx L i) [n]) j | .bad k j => .bad k j

set_option maxRecDepth 20000 in
set_option maxHeartbeats 1000000 in
theorem converted_any {w : World} {p : List Addr} {g gT : Nat} {L : List Tk} {i l : Nat} (h : Ps w p g gT L i l) (hE : Ends L) (hl : l ≤ 16) (hi : i + 1 < L.length) (r : Out) (hr : l ≠ 16 → has L (i + 1) [bOpen] = true → Rule 27 p g gT L (l + 1) (i + 1 + 1) r) :
    Calls Tryz.prog 211 #[.pointer (some ⟨g, 0, none⟩)] w fun e w' => PostN p g gT L l w e w' (convO L l i r) := by
  generalize hw : convO L l i r = out
  unfold convO at hw
  obtain ⟨q, hq⟩ : ∃ q, wrapO L l (i + 1) bOpen bShut r = q := ⟨_, rfl⟩
  rw [hq] at hw
  have HW := hide hw
  clear hw
  have hgl := h.lt_g
  have hT := h.row.lt
  have hb0 := hide (bel_new w nodZ)
  have hz0 : Hid (Nod (w.alloc nodZ) w.heap.size (.int .i64 0) (.int .i64 0) (.string ⟨#[]⟩) (.int .i64 0) (.int .i64 0) (.int .i64 0) (.int .i64 0) (.int .u64 0) (.slice none 0 0)) := Go.Deep.blk_alloc_new _ _
  have H0 := hide (h.below hb0.out)
  have HH := hide (fun w (h : Ps w p g gT L i l) => here_any h)
  have WI := hide (fun w (h : Ps w p g gT L (i + 1) l) => within_any h hE hl bOpen bShut (by decide) (by decide) r hr)
  rw [hq] at WI
  clear h hr hE hq hl
  unfold nodZ at *
  obtain ⟨tk, htk⟩ : ∃ tk, tkAt L i = tk := ⟨_, rfl⟩
  rw [htk] at HH
  have HK := hide htk
  clear htk
  obtain ⟨kind, text, nn, bits_, pos⟩ := tk
  dsimp only [Tk.val] at HH
  have hf1 := tf1 (.int .i64 kind) (.string text) (.int .i64 nn) (.int .u64 bits_) (.int .i64 pos)
  have hf4 := tf4 (.int .i64 kind) (.string text) (.int .i64 nn) (.int .u64 bits_) (.int .i64 pos)
  go_enter Tryz.func211, Tryz.ntmps211
  go_wp2_with fail
  generalize w.alloc (.cells #[.int .i64 0, .int .i64 0, .string ⟨#[]⟩, .int .i64 0, .int .i64 0, .int .i64 0, .int .i64 0, .int .u64 0, .slice none 0 0] 27) = w0 at *
  refine (HH.out _ H0.out).mono ?_
  rintro e w1 ⟨rfl, hb1⟩
  have H1 := hide (H0.out.below hb1)
  have T1 := hide (bel_trans hb0.out hb1)
  have Z1 := hide (hz0.out.bel hb1)
  clear hb1 H0 hb0 hz0
  go_wp2_with fail
  refine (HH.out _ H1.out).mono ?_
  rintro e w2 ⟨rfl, hb2⟩
  have hw2 : w.heap.size < w2.heap.size := Nat.lt_of_lt_of_le (lt_of_blk Z1.out) hb2.size
  have hb3 := bel_new w2 (.cells #[.int .i64 30, .int .i64 pos, .string text, .int .i64 0, .int .i64 0, .int .i64 0, .int .i64 0, .int .u64 0, .slice none 0 0] 27)
  have X3 : Hid (Nod (w2.alloc (.cells #[.int .i64 30, .int .i64 pos, .string text, .int .i64 0, .int .i64 0, .int .i64 0, .int .i64 0, .int .u64 0, .slice none 0 0] 27)) w2.heap.size (.int .i64 30) (.int .i64 pos) (.string text) (.int .i64 0) (.int .i64 0) (.int .i64 0) (.int .i64 0) (.int .u64 0) (.slice none 0 0)) := Go.Deep.blk_alloc_new _ _
  have H3 := hide (H1.out.below (bel_trans hb2 hb3))
  have T3 := hide (Tn.of_bel (g := g) (bel_trans T1.out (bel_trans hb2 hb3)))
  have Z3 := hide ((Z1.out.bel hb2).bel hb3)
  clear hb2 hb3 H1 T1 Z1 HH
  obtain ⟨r1, r2⟩ := H3.out.set (i + 1) hi ((i : Int) + 1) (by omega)
  have H4 := hide r1
  have T4 := hide (T3.out.trans r2)
  have Z4 := hide (Z3.out.tn r2 (by omega))
  have X4 := hide (X3.out.tn r2 (by omega))
  obtain ⟨cap, _, c1, _, cf, _, _⟩ := H3.out.cells
  have fc1 := cf 1
  have hL := H3.out.len
  clear cf r1 r2 H3 T3 Z3 X3
  go_wp2_with fail
  clear hf1 hf4 c1 fc1 hL
  generalize (w2.alloc (.cells #[.int .i64 30, .int .i64 pos, .string text, .int .i64 0, .int .i64 0, .int .i64 0, .int .i64 0, .int .u64 0, .slice none 0 0] 27)).setCell ⟨g, 1, none⟩ (.int .i64 ((i : Int) + 1)) = w5 at *
  generalize w2.heap.size = n2 at *
  have X5 := X4
  have Z5 := Z4
  have T5 := T4
  clear X4 Z4 T4
  cases q with
  | bad k j =>
    have hw := HW.out
    subst hw
    refine (WI.out _ H4.out).mono ?_
    rintro e w7 ⟨rfl, r2⟩
    exact ⟨rfl, rfl, T5.out.trans r2⟩
  | ok n j =>
    have hw := HW.out
    subst hw
    refine (WI.out _ H4.out).mono ?_
    rintro e w7 ⟨s, rfl, hk, r1, r2⟩
    obtain ⟨gk, ck, rfl⟩ := hk.form
    have hn6 : n2 < w5.heap.size := lt_of_blk X5.out
    have hw6 : w.heap.size ≤ w5.heap.size := T5.out.size
    have T7 := hide (T5.out.trans r2)
    have x7 := X5.out.tn r2 (by omega)
    have Z7 := hide (Z5.out.tn r2 (by omega))
    obtain ⟨⟨_, _, _, _, _, _, _, _, f8⟩, _, _, _, _, _, _, _, _, c8⟩ := x7.all
    obtain ⟨x8, s8⟩ := set1 x7 8 (.slice (some ⟨gk, 0, none⟩) 1 ck)
    have x8 : Nod _ n2 (.int .i64 30) (.int .i64 pos) (.string text) (.int .i64 0) (.int .i64 0) (.int .i64 0) (.int .i64 0) (.int .u64 0) (.slice (some ⟨gk, 0, none⟩) 1 ck) := x8
    have H8 := hide (r1.tn s8 (by have := r1.big; omega) (by omega) (by omega))
    have T8 := hide (T7.out.own s8 (by omega))
    have Z8 := hide (Z7.out.tn s8 (by omega))
    have K8 := hide (hk.tn s8 hn6)
    have hgo := hide (show w.heap.size < w5.heap.size by omega)
    clear WI HW hk r1 r2 s8 x7 T7 Z7 X5 H4 T5 Z5
    obtain ⟨_, d0, d1, d2, d3, d4, d5, d6, d7, d8⟩ := x8.all
    obtain ⟨⟨f0, f1, f2, f3, f4, f5, f6, f7, f8'⟩, b0, b1, b2, b3, b4, b5, b6, b7, b8⟩ := Z8.out.all
    obtain ⟨z9, s9⟩ := set9 Z8.out (.int .i64 30) (.int .i64 pos) (.string text) (.int .i64 0) (.int .i64 0) (.int .i64 0) (.int .i64 0) (.int .u64 0) (.slice (some ⟨gk, 0, none⟩) 1 ck)
    have Z9 := hide z9
    have S9 := hide s9
    clear x8 z9 s9 Z8
    go_wp2_with fail
    refine ret_nod w.heap.size rfl rfl Z9.out rfl ?_
    refine ⟨_, rfl, ?_, H8.out.tn S9.out (by have := H8.out.big; omega) (by omega) (by omega), T8.out.own S9.out (Nat.le_refl _)⟩
    unfold nd NodeV
    refine ⟨_, ?_, (K8.out.tn S9.out hgo.out).low (Nat.le_of_lt hgo.out)⟩
    unfold tx
    rw [HK.out]

end Go.Proofs.YtogeblmppagabaaGreatDoor.Ck

/- Operators of one operand. -/
namespace Go.Proofs.YtogeblmppagabaaGreatDoor.Ck
open Go.RowKit

theorem KidsV.shape {w : World} {B : Nat → Prop} : ∀ {ks : List Nd} {s : Value}, KidsV w B ks s → ∃ a len ck, s = .slice a len ck
  | [], _, h => by
    unfold KidsV at h
    exact ⟨none, 0, 0, h⟩
  | _ :: ks, _, h => by
    unfold KidsV at h
    obtain ⟨gk, ck, _, h1, _⟩ := h
    exact ⟨_, _, ck, h1⟩
def text_ (t : Tk) : ByteArray := t.text
def unT : List ByteArray := [⟨#[45]⟩, ⟨#[33]⟩]
def unO (L : List Tk) (l i : Nat) (r : Out) : Out :=
  if l = 16 then .bad 2 i else match r with | .ok n j => .ok (nd 30 (tkAt L i).pos (tx L i) [n]) j | .bad k j => .bad k j

set_option maxRecDepth 20000 in
set_option maxHeartbeats 1000000 in
theorem unary_prim {w : World} {p : List Addr} {g gT : Nat} {L : List Tk} {i l : Nat} (h : Ps w p g gT L i l) (hu : has L i unT = false) (r : Out) (hr : Rule 193 p g gT L l i r) :
    Calls Tryz.prog 169 #[.pointer (some ⟨g, 0, none⟩)] w fun e w' => PostN p g gT L l w e w' r := by
  have hgl := h.lt_g
  have hT := h.row.lt
  have hb0 := hide (bel_new w nodZ)
  have hz0 : Hid (Nod (w.alloc nodZ) w.heap.size (.int .i64 0) (.int .i64 0) (.string ⟨#[]⟩) (.int .i64 0) (.int .i64 0) (.int .i64 0) (.int .i64 0) (.int .u64 0) (.slice none 0 0)) := Go.Deep.blk_alloc_new _ _
  have H0 := hide (h.below hb0.out)
  have HR := hide hr
  clear h hr
  unfold nodZ at *
  go_enter Tryz.func169, Tryz.ntmps169
  go_wp2_with fail
  generalize hg0 : w.alloc (.cells #[.int .i64 0, .int .i64 0, .string ⟨#[]⟩, .int .i64 0, .int .i64 0, .int .i64 0, .int .i64 0, .int .u64 0, .slice none 0 0] 27) = w0 at *
  have e0 : w0.heap.size = w.heap.size + 1 := by rw [← hg0]; simp
  clear hg0
  rw [← e0]
  refine (sees_new H0.out unT 2 _ rfl rfl (by omega)).mono ?_
  rw [hu]
  rintro e w1 ⟨rfl, hb1⟩
  have H1 := hide (H0.out.below hb1)
  have T1 := hide (bel_trans hb0.out hb1)
  have Z1 := hide (hz0.out.bel hb1)
  clear hb1 H0 hb0 hz0 hu e0
  go_wp2_with fail
  cases r with
  | bad k j =>
    refine (HR.out _ H1.out).mono ?_
    rintro e w2 ⟨rfl, r2⟩
    exact ⟨rfl, rfl, (Tn.of_bel T1.out).trans r2⟩
  | ok n j =>
    refine (HR.out _ H1.out).mono ?_
    rintro e w2 ⟨v, rfl, hv, r1, r2⟩
    obtain ⟨kd, ps, nm, t, nn, z, o, bi, ks⟩ := n
    unfold NodeV at hv
    obtain ⟨s, rfl, hk⟩ := hv
    obtain ⟨a, len, ck, rfl⟩ := hk.shape
    have hw1 : w.heap.size < w1.heap.size := lt_of_blk Z1.out
    have H2 := hide r1
    have T2 := hide ((Tn.of_bel T1.out).trans r2)
    have Z2 := hide (Z1.out.tn r2 (by omega))
    have K2 := hide hk
    obtain ⟨⟨f0, f1, f2, f3, f4, f5, f6, f7, f8⟩, b0, b1, b2, b3, b4, b5, b6, b7, b8⟩ := Z2.out.all
    obtain ⟨z9, s9⟩ := set9 Z2.out (.int .i64 kd) (.int .i64 ps) (.string nm) (.int .i64 t) (.int .i64 nn) (.int .i64 z) (.int .i64 o) (.int .u64 bi) (.slice a len ck)
    have Z9 := hide z9
    have S9 := hide s9
    clear z9 s9 Z2 r1 r2 hk HR H1 T1 Z1
    go_wp2_with fail
    refine ret_nod w.heap.size rfl rfl Z9.out rfl ?_
    refine ⟨_, rfl, ?_, H2.out.tn S9.out (by have := H2.out.big; omega) (by omega) (by omega), T2.out.own S9.out (Nat.le_refl _)⟩
    unfold NodeV
    exact ⟨_, rfl, (K2.out.tn S9.out hw1).low (Nat.le_of_lt hw1)⟩

set_option maxRecDepth 20000 in
set_option maxHeartbeats 1000000 in
theorem unary_op {w : World} {p : List Addr} {g gT : Nat} {L : List Tk} {i l : Nat} (h : Ps w p g gT L i l) (hE : Ends L) (hl : l ≤ 16) (hu : has L i unT = true) (r : Out) (hr : l ≠ 16 → Rule 169 p g gT L (l + 1) (i + 1) r) :
    Calls Tryz.prog 169 #[.pointer (some ⟨g, 0, none⟩)] w fun e w' => PostN p g gT L l w e w' (unO L l i r) := by
  have hi := has_next hE h.lt (by decide) hu
  have hgl := h.lt_g
  have hT := h.row.lt
  have hb0 := hide (bel_new w nodZ)
  have hz0 : Hid (Nod (w.alloc nodZ) w.heap.size (.int .i64 0) (.int .i64 0) (.string ⟨#[]⟩) (.int .i64 0) (.int .i64 0) (.int .i64 0) (.int .i64 0) (.int .u64 0) (.slice none 0 0)) := Go.Deep.blk_alloc_new _ _
  have H0 := hide (h.below hb0.out)
  have HH := hide (fun w (h : Ps w p g gT L i l) => here_any h)
  have HR := hide hr
  have hself : Hid (has L i [tx L i] = true) := (Lib.containsS_iff _ _).2 (by simp)
  generalize hw : unO L l i r = out
  unfold unO at hw
  have HW := hide hw
  clear h hr hE hw
  unfold nodZ at *
  obtain ⟨tk, htk⟩ : ∃ tk, tkAt L i = tk := ⟨_, rfl⟩
  rw [htk] at HH
  have hself : Hid (has L i [text_ tk] = true) := by unfold tx at hself; rw [htk] at hself; exact hself
  have HK := hide htk
  clear htk
  obtain ⟨kind, text, nn, bits_, pos⟩ := tk
  dsimp only [Tk.val, text_] at HH hself
  have hf1 := tf1 (.int .i64 kind) (.string text) (.int .i64 nn) (.int .u64 bits_) (.int .i64 pos)
  have hf4 := tf4 (.int .i64 kind) (.string text) (.int .i64 nn) (.int .u64 bits_) (.int .i64 pos)
  go_enter Tryz.func169, Tryz.ntmps169
  go_wp2_with fail
  generalize hg0 : w.alloc (.cells #[.int .i64 0, .int .i64 0, .string ⟨#[]⟩, .int .i64 0, .int .i64 0, .int .i64 0, .int .i64 0, .int .u64 0, .slice none 0 0] 27) = w0 at *
  have e0 : w0.heap.size = w.heap.size + 1 := by rw [← hg0]; simp
  clear hg0
  rw [← e0]
  refine (sees_new H0.out unT 2 _ rfl rfl (by omega)).mono ?_
  rw [hu]
  rintro e wa ⟨rfl, hba⟩
  have Ha := hide (H0.out.below hba)
  have hba' := hide (bel_trans hb0.out hba)
  have Za := hide (hz0.out.bel hba)
  clear hba H0 hb0 hz0 hu e0
  go_wp2_with fail
  refine (HH.out _ Ha.out).mono ?_
  rintro e w1 ⟨rfl, hb1⟩
  have H1 := hide (Ha.out.below hb1)
  have T1 := hide (bel_trans hba'.out hb1)
  have Z1 := hide (Za.out.bel hb1)
  clear hb1 Ha hba' Za
  go_wp2_with fail
  refine (HH.out _ H1.out).mono ?_
  rintro e w2 ⟨rfl, hb2⟩
  have hw2 : w.heap.size < w2.heap.size := Nat.lt_of_lt_of_le (lt_of_blk Z1.out) hb2.size
  have hb3 := bel_new w2 (.cells #[.int .i64 30, .int .i64 pos, .string text, .int .i64 0, .int .i64 0, .int .i64 0, .int .i64 0, .int .u64 0, .slice none 0 0] 27)
  have X3 : Hid (Nod (w2.alloc (.cells #[.int .i64 30, .int .i64 pos, .string text, .int .i64 0, .int .i64 0, .int .i64 0, .int .i64 0, .int .u64 0, .slice none 0 0] 27)) w2.heap.size (.int .i64 30) (.int .i64 pos) (.string text) (.int .i64 0) (.int .i64 0) (.int .i64 0) (.int .i64 0) (.int .u64 0) (.slice none 0 0)) := Go.Deep.blk_alloc_new _ _
  have H3 := hide (H1.out.below (bel_trans hb2 hb3))
  have T3 := hide (Tn.of_bel (g := g) (bel_trans T1.out (bel_trans hb2 hb3)))
  have Z3 := hide ((Z1.out.bel hb2).bel hb3)
  clear hb2 hb3 H1 T1 Z1 HH
  go_wp2_with fail
  clear hf1 hf4
  generalize w2.alloc (.cells #[.int .i64 30, .int .i64 pos, .string text, .int .i64 0, .int .i64 0, .int .i64 0, .int .i64 0, .int .u64 0, .slice none 0 0] 27) = w3 at *
  generalize w2.heap.size = n2 at *
  by_cases h2 : l = 16
  · have hw := HW.out
    rw [if_pos h2] at hw
    subst hw
    refine (begin_deep H3.out text hself.out h2).mono ?_
    rintro e w4 ⟨rfl, r2⟩
    exact ⟨rfl, rfl, T3.out.trans r2⟩
  · refine (begin_yes H3.out text hself.out hi (by omega)).mono ?_
    rintro e w5 ⟨rfl, r1, r2⟩
    have H5 := hide r1
    have T5 := hide (T3.out.trans r2)
    have X5 := hide (X3.out.tn r2 (by omega))
    have Z5 := hide (Z3.out.tn r2 (by omega))
    have hw := HW.out
    rw [if_neg h2] at hw
    have HW := hide hw
    have HA := hide (alln_treeparserunary r1 r (HR.out h2))
    have hl2 : l < 16 := by omega
    clear hw r1 r2 H3 T3 X3 Z3 HR hself h2
    go_wp2_with fail
    cases r with
    | bad k j =>
      have hw := HW.out
      subst hw
      refine HA.out.mono ?_
      rintro e w7 ⟨rfl, r2⟩
      exact ⟨rfl, rfl, T5.out.trans r2⟩
    | ok n j =>
      have hw := HW.out
      subst hw
      refine HA.out.mono ?_
      rintro e w7 ⟨s, rfl, hk, r1, r2⟩
      obtain ⟨gk, ck, rfl⟩ := hk.form
      have hn6 : n2 < w5.heap.size := lt_of_blk X5.out
      have hw6 : w.heap.size ≤ w5.heap.size := T5.out.size
      have T7 := hide (T5.out.trans r2)
      have x7 := X5.out.tn r2 (by omega)
      have Z7 := hide (Z5.out.tn r2 (by omega))
      obtain ⟨⟨_, _, _, _, _, _, _, _, f8⟩, _, _, _, _, _, _, _, _, c8⟩ := x7.all
      obtain ⟨x8, s8⟩ := set1 x7 8 (.slice (some ⟨gk, 0, none⟩) 1 ck)
      have x8 : Nod _ n2 (.int .i64 30) (.int .i64 pos) (.string text) (.int .i64 0) (.int .i64 0) (.int .i64 0) (.int .i64 0) (.int .u64 0) (.slice (some ⟨gk, 0, none⟩) 1 ck) := x8
      have H8 := hide (r1.tn s8 (by have := r1.big; omega) (by omega) (by omega))
      have T8 := hide (T7.out.own s8 (by omega))
      have Z8 := hide (Z7.out.tn s8 (by omega))
      have K8 := hide (hk.tn s8 hn6)
      have hgo := hide (show w.heap.size < w5.heap.size by omega)
      have X8 := hide x8
      have hn5 := hide hn6
      clear HA HW hk r1 r2 s8 x7 x8 T7 Z7 X5 H5 T5 Z5 hn6
      go_wp2_with fail
      clear f8 c8
      generalize w7.setCell ⟨n2, 8, none⟩ (.slice (some ⟨gk, 0, none⟩) 1 ck) = w8 at *
      refine (end_any H8.out (by omega) (by omega)).mono ?_
      rintro e w9 ⟨rfl, r1, r2⟩
      rw [Nat.add_sub_cancel] at r1
      have hg5 : g < w5.heap.size := by omega
      have x8 := X8.out.tn r2 (by omega)
      have Z8 := hide (Z8.out.tn r2 (by omega))
      have T8 := hide (T8.out.trans r2)
      have H8 := hide r1
      have K8 := hide (K8.out.tn r2 hg5)
      clear r1 r2 X8
      obtain ⟨_, d0, d1, d2, d3, d4, d5, d6, d7, d8⟩ := x8.all
      obtain ⟨⟨f0, f1, f2, f3, f4, f5, f6, f7, f8'⟩, b0, b1, b2, b3, b4, b5, b6, b7, b8⟩ := Z8.out.all
      obtain ⟨z9, s9⟩ := set9 Z8.out (.int .i64 30) (.int .i64 pos) (.string text) (.int .i64 0) (.int .i64 0) (.int .i64 0) (.int .i64 0) (.int .u64 0) (.slice (some ⟨gk, 0, none⟩) 1 ck)
      have Z9 := hide z9
      have S9 := hide s9
      clear x8 z9 s9 Z8
      go_wp2_with fail
      refine ret_nod w.heap.size rfl rfl Z9.out rfl ?_
      refine ⟨_, rfl, ?_, H8.out.tn S9.out (by have := H8.out.big; omega) (by omega) (by omega), T8.out.own S9.out (Nat.le_refl _)⟩
      unfold nd NodeV
      refine ⟨_, ?_, (K8.out.tn S9.out hgo.out).low (Nat.le_of_lt hgo.out)⟩
      unfold tx
      rw [HK.out]

end Go.Proofs.YtogeblmppagabaaGreatDoor.Ck
