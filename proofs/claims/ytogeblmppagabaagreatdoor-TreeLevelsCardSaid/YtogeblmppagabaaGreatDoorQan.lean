/- Texts of this proof, packed: contracts of the program's functions, and the plain model that they are held against. -/
import Derived.Test.YtogeblmppagabaaGreatDoorQam
/- What an expression ends in. -/
namespace Go.Proofs.YtogeblmppagabaaGreatDoor.Ck
open Go.RowKit

set_option maxRecDepth 20000 in
set_option maxHeartbeats 1000000 in
theorem prim_int {w : World} {p : List Addr} {g gT : Nat} {L : List Tk} {i l : Nat} (h : Ps w p g gT L i l) (r : Out) (hk : (tkAt L i).kind = 3) (hr : ∀ w, Ps w p g gT L i l → Calls Tryz.prog 209 #[.pointer (some ⟨g, 0, none⟩), .int .i64 25] w fun e w' => PostN p g gT L l w e w' r) :
    Calls Tryz.prog 193 #[.pointer (some ⟨g, 0, none⟩)] w fun e w' => PostN p g gT L l w e w' r := by
  have hgl := h.lt_g
  have hT := h.row.lt
  have hb0 := hide (bel_new w nodZ)
  have hz0 : Hid (Nod (w.alloc nodZ) w.heap.size (.int .i64 0) (.int .i64 0) (.string ⟨#[]⟩) (.int .i64 0) (.int .i64 0) (.int .i64 0) (.int .i64 0) (.int .u64 0) (.slice none 0 0)) := Go.Deep.blk_alloc_new _ _
  have H0 := hide (h.below hb0.out)
  have HH := hide (fun w (h : Ps w p g gT L i l) => here_any h)
  have HR := hide hr
  clear h hr
  unfold nodZ at *
  generalize tkAt L i = tk at *
  obtain ⟨kind, text, nn, bits_, pos⟩ := tk
  dsimp only [Tk.val] at *
  have hf0 := tf0 (.int .i64 kind) (.string text) (.int .i64 nn) (.int .u64 bits_) (.int .i64 pos)
  subst hk
  have hg0 := tf0 (.int .i64 3) (.string text) (.int .i64 nn) (.int .u64 bits_) (.int .i64 pos)
  go_enter Tryz.func193, Tryz.ntmps193
  go_wp2_with fail
  generalize w.alloc (.cells #[.int .i64 0, .int .i64 0, .string ⟨#[]⟩, .int .i64 0, .int .i64 0, .int .i64 0, .int .i64 0, .int .u64 0, .slice none 0 0] 27) = w0 at *
  refine (HH.out _ H0.out).mono ?_
  rintro e w1 ⟨rfl, hb1⟩
  have H1 := hide (H0.out.below hb1)
  have T1 := hide (bel_trans hb0.out hb1)
  have Z1 := hide (hz0.out.bel hb1)
  clear hb1 H0 hb0 hz0
  go_wp2_with fail
  cases r with
  | bad k j =>
    refine (HR.out _ H1.out).mono ?_
    rintro e w2 ⟨rfl, r2⟩
    exact ⟨rfl, rfl, (Tn.of_bel T1.out).trans r2⟩
  | ok n j =>
    refine (HR.out _ H1.out).mono ?_
    rintro e w2 ⟨v, rfl, hv, r1, r2⟩
    obtain ⟨kd, ps, nm, t, nz, z, o, bi, ks⟩ := n
    unfold NodeV at hv
    obtain ⟨s, rfl, hk⟩ := hv
    obtain ⟨a, len, ck, rfl⟩ := hk.shape
    have hw1 : w.heap.size < w1.heap.size := lt_of_blk Z1.out
    have H2 := hide r1
    have T2 := hide ((Tn.of_bel T1.out).trans r2)
    have Z2 := hide (Z1.out.tn r2 (by omega))
    have K2 := hide hk
    obtain ⟨⟨f0, f1, f2, f3, f4, f5, f6, f7, f8⟩, b0, b1, b2, b3, b4, b5, b6, b7, b8⟩ := Z2.out.all
    obtain ⟨z9, s9⟩ := set9 Z2.out (.int .i64 kd) (.int .i64 ps) (.string nm) (.int .i64 t) (.int .i64 nz) (.int .i64 z) (.int .i64 o) (.int .u64 bi) (.slice a len ck)
    have Z9 := hide z9
    have S9 := hide s9
    clear z9 s9 Z2 r1 r2 hk HR H1 T1 Z1
    go_wp2_with fail
    refine ret_nod w.heap.size rfl rfl Z9.out rfl ?_
    refine ⟨_, rfl, ?_, H2.out.tn S9.out (by have := H2.out.big; omega) (by omega) (by omega), T2.out.own S9.out (Nat.le_refl _)⟩
    unfold NodeV
    exact ⟨_, rfl, (K2.out.tn S9.out hw1).low (Nat.le_of_lt hw1)⟩

set_option maxRecDepth 20000 in
set_option maxHeartbeats 1000000 in
theorem prim_float {w : World} {p : List Addr} {g gT : Nat} {L : List Tk} {i l : Nat} (h : Ps w p g gT L i l) (r : Out) (hk : (tkAt L i).kind = 4) (hr : ∀ w, Ps w p g gT L i l → Calls Tryz.prog 209 #[.pointer (some ⟨g, 0, none⟩), .int .i64 26] w fun e w' => PostN p g gT L l w e w' r) :
    Calls Tryz.prog 193 #[.pointer (some ⟨g, 0, none⟩)] w fun e w' => PostN p g gT L l w e w' r := by
  have hgl := h.lt_g
  have hT := h.row.lt
  have hb0 := hide (bel_new w nodZ)
  have hz0 : Hid (Nod (w.alloc nodZ) w.heap.size (.int .i64 0) (.int .i64 0) (.string ⟨#[]⟩) (.int .i64 0) (.int .i64 0) (.int .i64 0) (.int .i64 0) (.int .u64 0) (.slice none 0 0)) := Go.Deep.blk_alloc_new _ _
  have H0 := hide (h.below hb0.out)
  have HH := hide (fun w (h : Ps w p g gT L i l) => here_any h)
  have HR := hide hr
  clear h hr
  unfold nodZ at *
  generalize tkAt L i = tk at *
  obtain ⟨kind, text, nn, bits_, pos⟩ := tk
  dsimp only [Tk.val] at *
  have hf0 := tf0 (.int .i64 kind) (.string text) (.int .i64 nn) (.int .u64 bits_) (.int .i64 pos)
  subst hk
  have hg0 := tf0 (.int .i64 4) (.string text) (.int .i64 nn) (.int .u64 bits_) (.int .i64 pos)
  go_enter Tryz.func193, Tryz.ntmps193
  go_wp2_with fail
  generalize w.alloc (.cells #[.int .i64 0, .int .i64 0, .string ⟨#[]⟩, .int .i64 0, .int .i64 0, .int .i64 0, .int .i64 0, .int .u64 0, .slice none 0 0] 27) = w0 at *
  refine (HH.out _ H0.out).mono ?_
  rintro e w1 ⟨rfl, hb1⟩
  have H1 := hide (H0.out.below hb1)
  have T1 := hide (bel_trans hb0.out hb1)
  have Z1 := hide (hz0.out.bel hb1)
  clear hb1 H0 hb0 hz0
  go_wp2_with fail
  cases r with
  | bad k j =>
    refine (HR.out _ H1.out).mono ?_
    rintro e w2 ⟨rfl, r2⟩
    exact ⟨rfl, rfl, (Tn.of_bel T1.out).trans r2⟩
  | ok n j =>
    refine (HR.out _ H1.out).mono ?_
    rintro e w2 ⟨v, rfl, hv, r1, r2⟩
    obtain ⟨kd, ps, nm, t, nz, z, o, bi, ks⟩ := n
    unfold NodeV at hv
    obtain ⟨s, rfl, hk⟩ := hv
    obtain ⟨a, len, ck, rfl⟩ := hk.shape
    have hw1 : w.heap.size < w1.heap.size := lt_of_blk Z1.out
    have H2 := hide r1
    have T2 := hide ((Tn.of_bel T1.out).trans r2)
    have Z2 := hide (Z1.out.tn r2 (by omega))
    have K2 := hide hk
    obtain ⟨⟨f0, f1, f2, f3, f4, f5, f6, f7, f8⟩, b0, b1, b2, b3, b4, b5, b6, b7, b8⟩ := Z2.out.all
    obtain ⟨z9, s9⟩ := set9 Z2.out (.int .i64 kd) (.int .i64 ps) (.string nm) (.int .i64 t) (.int .i64 nz) (.int .i64 z) (.int .i64 o) (.int .u64 bi) (.slice a len ck)
    have Z9 := hide z9
    have S9 := hide s9
    clear z9 s9 Z2 r1 r2 hk HR H1 T1 Z1
    go_wp2_with fail
    refine ret_nod w.heap.size rfl rfl Z9.out rfl ?_
    refine ⟨_, rfl, ?_, H2.out.tn S9.out (by have := H2.out.big; omega) (by omega) (by omega), T2.out.own S9.out (Nat.le_refl _)⟩
    unfold NodeV
    exact ⟨_, rfl, (K2.out.tn S9.out hw1).low (Nat.le_of_lt hw1)⟩

set_option maxRecDepth 20000 in
set_option maxHeartbeats 1000000 in
theorem prim_word {w : World} {p : List Addr} {g gT : Nat} {L : List Tk} {i l : Nat} (h : Ps w p g gT L i l) (r : Out) (hk : (tkAt L i).kind = 1) (hr : ∀ w, Ps w p g gT L i l → Calls Tryz.prog 202 #[.pointer (some ⟨g, 0, none⟩)] w fun e w' => PostN p g gT L l w e w' r) :
    Calls Tryz.prog 193 #[.pointer (some ⟨g, 0, none⟩)] w fun e w' => PostN p g gT L l w e w' r := by
  have hgl := h.lt_g
  have hT := h.row.lt
  have hb0 := hide (bel_new w nodZ)
  have hz0 : Hid (Nod (w.alloc nodZ) w.heap.size (.int .i64 0) (.int .i64 0) (.string ⟨#[]⟩) (.int .i64 0) (.int .i64 0) (.int .i64 0) (.int .i64 0) (.int .u64 0) (.slice none 0 0)) := Go.Deep.blk_alloc_new _ _
  have H0 := hide (h.below hb0.out)
  have HH := hide (fun w (h : Ps w p g gT L i l) => here_any h)
  have HR := hide hr
  clear h hr
  unfold nodZ at *
  generalize tkAt L i = tk at *
  obtain ⟨kind, text, nn, bits_, pos⟩ := tk
  dsimp only [Tk.val] at *
  have hf0 := tf0 (.int .i64 kind) (.string text) (.int .i64 nn) (.int .u64 bits_) (.int .i64 pos)
  subst hk
  have hg0 := tf0 (.int .i64 1) (.string text) (.int .i64 nn) (.int .u64 bits_) (.int .i64 pos)
  go_enter Tryz.func193, Tryz.ntmps193
  go_wp2_with fail
  generalize w.alloc (.cells #[.int .i64 0, .int .i64 0, .string ⟨#[]⟩, .int .i64 0, .int .i64 0, .int .i64 0, .int .i64 0, .int .u64 0, .slice none 0 0] 27) = w0 at *
  refine (HH.out _ H0.out).mono ?_
  rintro e w1 ⟨rfl, hb1⟩
  have H1 := hide (H0.out.below hb1)
  have T1 := hide (bel_trans hb0.out hb1)
  have Z1 := hide (hz0.out.bel hb1)
  clear hb1 H0 hb0 hz0
  go_wp2_with fail
  cases r with
  | bad k j =>
    refine (HR.out _ H1.out).mono ?_
    rintro e w2 ⟨rfl, r2⟩
    exact ⟨rfl, rfl, (Tn.of_bel T1.out).trans r2⟩
  | ok n j =>
    refine (HR.out _ H1.out).mono ?_
    rintro e w2 ⟨v, rfl, hv, r1, r2⟩
    obtain ⟨kd, ps, nm, t, nz, z, o, bi, ks⟩ := n
    unfold NodeV at hv
    obtain ⟨s, rfl, hk⟩ := hv
    obtain ⟨a, len, ck, rfl⟩ := hk.shape
    have hw1 : w.heap.size < w1.heap.size := lt_of_blk Z1.out
    have H2 := hide r1
    have T2 := hide ((Tn.of_bel T1.out).trans r2)
    have Z2 := hide (Z1.out.tn r2 (by omega))
    have K2 := hide hk
    obtain ⟨⟨f0, f1, f2, f3, f4, f5, f6, f7, f8⟩, b0, b1, b2, b3, b4, b5, b6, b7, b8⟩ := Z2.out.all
    obtain ⟨z9, s9⟩ := set9 Z2.out (.int .i64 kd) (.int .i64 ps) (.string nm) (.int .i64 t) (.int .i64 nz) (.int .i64 z) (.int .i64 o) (.int .u64 bi) (.slice a len ck)
    have Z9 := hide z9
    have S9 := hide s9
    clear z9 s9 Z2 r1 r2 hk HR H1 T1 Z1
    go_wp2_with fail
    refine ret_nod w.heap.size rfl rfl Z9.out rfl ?_
    refine ⟨_, rfl, ?_, H2.out.tn S9.out (by have := H2.out.big; omega) (by omega) (by omega), T2.out.own S9.out (Nat.le_refl _)⟩
    unfold NodeV
    exact ⟨_, rfl, (K2.out.tn S9.out hw1).low (Nat.le_of_lt hw1)⟩

set_option maxRecDepth 20000 in
set_option maxHeartbeats 1000000 in
theorem prim_true {w : World} {p : List Addr} {g gT : Nat} {L : List Tk} {i l : Nat} (h : Ps w p g gT L i l) (r : Out) (hk : (tkAt L i).kind ≠ 3 ∧ (tkAt L i).kind ≠ 4 ∧ (tkAt L i).kind ≠ 1) (hx : (tkAt L i).text = ⟨#[116, 114, 117, 101]⟩) (hr : ∀ w, Ps w p g gT L i l → Calls Tryz.prog 210 #[.pointer (some ⟨g, 0, none⟩), .int .i64 1] w fun e w' => PostN p g gT L l w e w' r) :
    Calls Tryz.prog 193 #[.pointer (some ⟨g, 0, none⟩)] w fun e w' => PostN p g gT L l w e w' r := by
  have hgl := h.lt_g
  have hT := h.row.lt
  have hb0 := hide (bel_new w nodZ)
  have hz0 : Hid (Nod (w.alloc nodZ) w.heap.size (.int .i64 0) (.int .i64 0) (.string ⟨#[]⟩) (.int .i64 0) (.int .i64 0) (.int .i64 0) (.int .i64 0) (.int .u64 0) (.slice none 0 0)) := Go.Deep.blk_alloc_new _ _
  have H0 := hide (h.below hb0.out)
  have HH := hide (fun w (h : Ps w p g gT L i l) => here_any h)
  have HR := hide hr
  clear h hr
  unfold nodZ at *
  generalize tkAt L i = tk at *
  obtain ⟨kind, text, nn, bits_, pos⟩ := tk
  dsimp only [Tk.val] at *
  have hf0 := tf0 (.int .i64 kind) (.string text) (.int .i64 nn) (.int .u64 bits_) (.int .i64 pos)
  subst hx
  have hf1 := tf1 (.int .i64 kind) (.string ⟨#[116, 114, 117, 101]⟩) (.int .i64 nn) (.int .u64 bits_) (.int .i64 pos)
  have k3 : ((kind : Int) == 3) = false := by simp; omega
  have k4 : ((kind : Int) == 4) = false := by simp; omega
  have k1 : ((kind : Int) == 1) = false := by simp; omega
  clear hk
  go_enter Tryz.func193, Tryz.ntmps193
  go_wp2_with fail
  generalize w.alloc (.cells #[.int .i64 0, .int .i64 0, .string ⟨#[]⟩, .int .i64 0, .int .i64 0, .int .i64 0, .int .i64 0, .int .u64 0, .slice none 0 0] 27) = w0 at *
  refine (HH.out _ H0.out).mono ?_
  rintro e w1 ⟨rfl, hb1⟩
  have H1 := hide (H0.out.below hb1)
  have T1 := hide (bel_trans hb0.out hb1)
  have Z1 := hide (hz0.out.bel hb1)
  clear hb1 H0 hb0 hz0
  go_wp2_with fail
  refine (HH.out _ H1.out).mono ?_
  rintro e w1' ⟨rfl, hb1⟩
  have H1 := hide (H1.out.below hb1)
  have T1 := hide (bel_trans T1.out hb1)
  have Z1 := hide (Z1.out.bel hb1)
  clear hb1 HH
  go_wp2_with fail
  cases r with
  | bad k j =>
    refine (HR.out _ H1.out).mono ?_
    rintro e w2 ⟨rfl, r2⟩
    exact ⟨rfl, rfl, (Tn.of_bel T1.out).trans r2⟩
  | ok n j =>
    refine (HR.out _ H1.out).mono ?_
    rintro e w2 ⟨v, rfl, hv, r1, r2⟩
    obtain ⟨kd, ps, nm, t, nz, z, o, bi, ks⟩ := n
    unfold NodeV at hv
    obtain ⟨s, rfl, hk⟩ := hv
    obtain ⟨a, len, ck, rfl⟩ := hk.shape
    have hw1 : w.heap.size < w1'.heap.size := lt_of_blk Z1.out
    have H2 := hide r1
    have T2 := hide ((Tn.of_bel T1.out).trans r2)
    have Z2 := hide (Z1.out.tn r2 (by omega))
    have K2 := hide hk
    obtain ⟨⟨f0, f1, f2, f3, f4, f5, f6, f7, f8⟩, b0, b1, b2, b3, b4, b5, b6, b7, b8⟩ := Z2.out.all
    obtain ⟨z9, s9⟩ := set9 Z2.out (.int .i64 kd) (.int .i64 ps) (.string nm) (.int .i64 t) (.int .i64 nz) (.int .i64 z) (.int .i64 o) (.int .u64 bi) (.slice a len ck)
    have Z9 := hide z9
    have S9 := hide s9
    clear z9 s9 Z2 r1 r2 hk HR H1 T1 Z1
    go_wp2_with fail
    refine ret_nod w.heap.size rfl rfl Z9.out rfl ?_
    refine ⟨_, rfl, ?_, H2.out.tn S9.out (by have := H2.out.big; omega) (by omega) (by omega), T2.out.own S9.out (Nat.le_refl _)⟩
    unfold NodeV
    exact ⟨_, rfl, (K2.out.tn S9.out hw1).low (Nat.le_of_lt hw1)⟩

set_option maxRecDepth 20000 in
set_option maxHeartbeats 1000000 in
theorem prim_false {w : World} {p : List Addr} {g gT : Nat} {L : List Tk} {i l : Nat} (h : Ps w p g gT L i l) (r : Out) (hk : (tkAt L i).kind ≠ 3 ∧ (tkAt L i).kind ≠ 4 ∧ (tkAt L i).kind ≠ 1) (hx : (tkAt L i).text = ⟨#[102, 97, 108, 115, 101]⟩) (hr : ∀ w, Ps w p g gT L i l → Calls Tryz.prog 210 #[.pointer (some ⟨g, 0, none⟩), .int .i64 0] w fun e w' => PostN p g gT L l w e w' r) :
    Calls Tryz.prog 193 #[.pointer (some ⟨g, 0, none⟩)] w fun e w' => PostN p g gT L l w e w' r := by
  have hgl := h.lt_g
  have hT := h.row.lt
  have hb0 := hide (bel_new w nodZ)
  have hz0 : Hid (Nod (w.alloc nodZ) w.heap.size (.int .i64 0) (.int .i64 0) (.string ⟨#[]⟩) (.int .i64 0) (.int .i64 0) (.int .i64 0) (.int .i64 0) (.int .u64 0) (.slice none 0 0)) := Go.Deep.blk_alloc_new _ _
  have H0 := hide (h.below hb0.out)
  have HH := hide (fun w (h : Ps w p g gT L i l) => here_any h)
  have HR := hide hr
  clear h hr
  unfold nodZ at *
  generalize tkAt L i = tk at *
  obtain ⟨kind, text, nn, bits_, pos⟩ := tk
  dsimp only [Tk.val] at *
  have hf0 := tf0 (.int .i64 kind) (.string text) (.int .i64 nn) (.int .u64 bits_) (.int .i64 pos)
  subst hx
  have hf1 := tf1 (.int .i64 kind) (.string ⟨#[102, 97, 108, 115, 101]⟩) (.int .i64 nn) (.int .u64 bits_) (.int .i64 pos)
  have k3 : ((kind : Int) == 3) = false := by simp; omega
  have k4 : ((kind : Int) == 4) = false := by simp; omega
  have k1 : ((kind : Int) == 1) = false := by simp; omega
  clear hk
  go_enter Tryz.func193, Tryz.ntmps193
  go_wp2_with fail
  generalize w.alloc (.cells #[.int .i64 0, .int .i64 0, .string ⟨#[]⟩, .int .i64 0, .int .i64 0, .int .i64 0, .int .i64 0, .int .u64 0, .slice none 0 0] 27) = w0 at *
  refine (HH.out _ H0.out).mono ?_
  rintro e w1 ⟨rfl, hb1⟩
  have H1 := hide (H0.out.below hb1)
  have T1 := hide (bel_trans hb0.out hb1)
  have Z1 := hide (hz0.out.bel hb1)
  clear hb1 H0 hb0 hz0
  go_wp2_with fail
  refine (HH.out _ H1.out).mono ?_
  rintro e w1' ⟨rfl, hb1⟩
  have H1 := hide (H1.out.below hb1)
  have T1 := hide (bel_trans T1.out hb1)
  have Z1 := hide (Z1.out.bel hb1)
  clear hb1 HH
  go_wp2_with fail
  cases r with
  | bad k j =>
    refine (HR.out _ H1.out).mono ?_
    rintro e w2 ⟨rfl, r2⟩
    exact ⟨rfl, rfl, (Tn.of_bel T1.out).trans r2⟩
  | ok n j =>
    refine (HR.out _ H1.out).mono ?_
    rintro e w2 ⟨v, rfl, hv, r1, r2⟩
    obtain ⟨kd, ps, nm, t, nz, z, o, bi, ks⟩ := n
    unfold NodeV at hv
    obtain ⟨s, rfl, hk⟩ := hv
    obtain ⟨a, len, ck, rfl⟩ := hk.shape
    have hw1 : w.heap.size < w1'.heap.size := lt_of_blk Z1.out
    have H2 := hide r1
    have T2 := hide ((Tn.of_bel T1.out).trans r2)
    have Z2 := hide (Z1.out.tn r2 (by omega))
    have K2 := hide hk
    obtain ⟨⟨f0, f1, f2, f3, f4, f5, f6, f7, f8⟩, b0, b1, b2, b3, b4, b5, b6, b7, b8⟩ := Z2.out.all
    obtain ⟨z9, s9⟩ := set9 Z2.out (.int .i64 kd) (.int .i64 ps) (.string nm) (.int .i64 t) (.int .i64 nz) (.int .i64 z) (.int .i64 o) (.int .u64 bi) (.slice a len ck)
    have Z9 := hide z9
    have S9 := hide s9
    clear z9 s9 Z2 r1 r2 hk HR H1 T1 Z1
    go_wp2_with fail
    refine ret_nod w.heap.size rfl rfl Z9.out rfl ?_
    refine ⟨_, rfl, ?_, H2.out.tn S9.out (by have := H2.out.big; omega) (by omega) (by omega), T2.out.own S9.out (Nat.le_refl _)⟩
    unfold NodeV
    exact ⟨_, rfl, (K2.out.tn S9.out hw1).low (Nat.le_of_lt hw1)⟩

set_option maxRecDepth 20000 in
set_option maxHeartbeats 1000000 in
theorem prim_toint {w : World} {p : List Addr} {g gT : Nat} {L : List Tk} {i l : Nat} (h : Ps w p g gT L i l) (r : Out) (hk : (tkAt L i).kind ≠ 3 ∧ (tkAt L i).kind ≠ 4 ∧ (tkAt L i).kind ≠ 1) (hx : (tkAt L i).text = ⟨#[105, 110, 116]⟩) (hr : ∀ w, Ps w p g gT L i l → Calls Tryz.prog 211 #[.pointer (some ⟨g, 0, none⟩)] w fun e w' => PostN p g gT L l w e w' r) :
    Calls Tryz.prog 193 #[.pointer (some ⟨g, 0, none⟩)] w fun e w' => PostN p g gT L l w e w' r := by
  have hgl := h.lt_g
  have hT := h.row.lt
  have hb0 := hide (bel_new w nodZ)
  have hz0 : Hid (Nod (w.alloc nodZ) w.heap.size (.int .i64 0) (.int .i64 0) (.string ⟨#[]⟩) (.int .i64 0) (.int .i64 0) (.int .i64 0) (.int .i64 0) (.int .u64 0) (.slice none 0 0)) := Go.Deep.blk_alloc_new _ _
  have H0 := hide (h.below hb0.out)
  have HH := hide (fun w (h : Ps w p g gT L i l) => here_any h)
  have HR := hide hr
  clear h hr
  unfold nodZ at *
  generalize tkAt L i = tk at *
  obtain ⟨kind, text, nn, bits_, pos⟩ := tk
  dsimp only [Tk.val] at *
  have hf0 := tf0 (.int .i64 kind) (.string text) (.int .i64 nn) (.int .u64 bits_) (.int .i64 pos)
  subst hx
  have hf1 := tf1 (.int .i64 kind) (.string ⟨#[105, 110, 116]⟩) (.int .i64 nn) (.int .u64 bits_) (.int .i64 pos)
  have k3 : ((kind : Int) == 3) = false := by simp; omega
  have k4 : ((kind : Int) == 4) = false := by simp; omega
  have k1 : ((kind : Int) == 1) = false := by simp; omega
  clear hk
  go_enter Tryz.func193, Tryz.ntmps193
  go_wp2_with fail
  generalize w.alloc (.cells #[.int .i64 0, .int .i64 0, .string ⟨#[]⟩, .int .i64 0, .int .i64 0, .int .i64 0, .int .i64 0, .int .u64 0, .slice none 0 0] 27) = w0 at *
  refine (HH.out _ H0.out).mono ?_
  rintro e w1 ⟨rfl, hb1⟩
  have H1 := hide (H0.out.below hb1)
  have T1 := hide (bel_trans hb0.out hb1)
  have Z1 := hide (hz0.out.bel hb1)
  clear hb1 H0 hb0 hz0
  go_wp2_with fail
  refine (HH.out _ H1.out).mono ?_
  rintro e w1' ⟨rfl, hb1⟩
  have H1 := hide (H1.out.below hb1)
  have T1 := hide (bel_trans T1.out hb1)
  have Z1 := hide (Z1.out.bel hb1)
  clear hb1 HH
  go_wp2_with fail
  cases r with
  | bad k j =>
    refine (HR.out _ H1.out).mono ?_
    rintro e w2 ⟨rfl, r2⟩
    exact ⟨rfl, rfl, (Tn.of_bel T1.out).trans r2⟩
  | ok n j =>
    refine (HR.out _ H1.out).mono ?_
    rintro e w2 ⟨v, rfl, hv, r1, r2⟩
    obtain ⟨kd, ps, nm, t, nz, z, o, bi, ks⟩ := n
    unfold NodeV at hv
    obtain ⟨s, rfl, hk⟩ := hv
    obtain ⟨a, len, ck, rfl⟩ := hk.shape
    have hw1 : w.heap.size < w1'.heap.size := lt_of_blk Z1.out
    have H2 := hide r1
    have T2 := hide ((Tn.of_bel T1.out).trans r2)
    have Z2 := hide (Z1.out.tn r2 (by omega))
    have K2 := hide hk
    obtain ⟨⟨f0, f1, f2, f3, f4, f5, f6, f7, f8⟩, b0, b1, b2, b3, b4, b5, b6, b7, b8⟩ := Z2.out.all
    obtain ⟨z9, s9⟩ := set9 Z2.out (.int .i64 kd) (.int .i64 ps) (.string nm) (.int .i64 t) (.int .i64 nz) (.int .i64 z) (.int .i64 o) (.int .u64 bi) (.slice a len ck)
    have Z9 := hide z9
    have S9 := hide s9
    clear z9 s9 Z2 r1 r2 hk HR H1 T1 Z1
    go_wp2_with fail
    refine ret_nod w.heap.size rfl rfl Z9.out rfl ?_
    refine ⟨_, rfl, ?_, H2.out.tn S9.out (by have := H2.out.big; omega) (by omega) (by omega), T2.out.own S9.out (Nat.le_refl _)⟩
    unfold NodeV
    exact ⟨_, rfl, (K2.out.tn S9.out hw1).low (Nat.le_of_lt hw1)⟩

set_option maxRecDepth 20000 in
set_option maxHeartbeats 1000000 in
theorem prim_tofloat {w : World} {p : List Addr} {g gT : Nat} {L : List Tk} {i l : Nat} (h : Ps w p g gT L i l) (r : Out) (hk : (tkAt L i).kind ≠ 3 ∧ (tkAt L i).kind ≠ 4 ∧ (tkAt L i).kind ≠ 1) (hx : (tkAt L i).text = ⟨#[102, 108, 111, 97, 116]⟩) (hr : ∀ w, Ps w p g gT L i l → Calls Tryz.prog 211 #[.pointer (some ⟨g, 0, none⟩)] w fun e w' => PostN p g gT L l w e w' r) :
    Calls Tryz.prog 193 #[.pointer (some ⟨g, 0, none⟩)] w fun e w' => PostN p g gT L l w e w' r := by
  have hgl := h.lt_g
  have hT := h.row.lt
  have hb0 := hide (bel_new w nodZ)
  have hz0 : Hid (Nod (w.alloc nodZ) w.heap.size (.int .i64 0) (.int .i64 0) (.string ⟨#[]⟩) (.int .i64 0) (.int .i64 0) (.int .i64 0) (.int .i64 0) (.int .u64 0) (.slice none 0 0)) := Go.Deep.blk_alloc_new _ _
  have H0 := hide (h.below hb0.out)
  have HH := hide (fun w (h : Ps w p g gT L i l) => here_any h)
  have HR := hide hr
  clear h hr
  unfold nodZ at *
  generalize tkAt L i = tk at *
  obtain ⟨kind, text, nn, bits_, pos⟩ := tk
  dsimp only [Tk.val] at *
  have hf0 := tf0 (.int .i64 kind) (.string text) (.int .i64 nn) (.int .u64 bits_) (.int .i64 pos)
  subst hx
  have hf1 := tf1 (.int .i64 kind) (.string ⟨#[102, 108, 111, 97, 116]⟩) (.int .i64 nn) (.int .u64 bits_) (.int .i64 pos)
  have k3 : ((kind : Int) == 3) = false := by simp; omega
  have k4 : ((kind : Int) == 4) = false := by simp; omega
  have k1 : ((kind : Int) == 1) = false := by simp; omega
  clear hk
  go_enter Tryz.func193, Tryz.ntmps193
  go_wp2_with fail
  generalize w.alloc (.cells #[.int .i64 0, .int .i64 0, .string ⟨#[]⟩, .int .i64 0, .int .i64 0, .int .i64 0, .int .i64 0, .int .u64 0, .slice none 0 0] 27) = w0 at *
  refine (HH.out _ H0.out).mono ?_
  rintro e w1 ⟨rfl, hb1⟩
  have H1 := hide (H0.out.below hb1)
  have T1 := hide (bel_trans hb0.out hb1)
  have Z1 := hide (hz0.out.bel hb1)
  clear hb1 H0 hb0 hz0
  go_wp2_with fail
  refine (HH.out _ H1.out).mono ?_
  rintro e w1' ⟨rfl, hb1⟩
  have H1 := hide (H1.out.below hb1)
  have T1 := hide (bel_trans T1.out hb1)
  have Z1 := hide (Z1.out.bel hb1)
  clear hb1 HH
  go_wp2_with fail
  cases r with
  | bad k j =>
    refine (HR.out _ H1.out).mono ?_
    rintro e w2 ⟨rfl, r2⟩
    exact ⟨rfl, rfl, (Tn.of_bel T1.out).trans r2⟩
  | ok n j =>
    refine (HR.out _ H1.out).mono ?_
    rintro e w2 ⟨v, rfl, hv, r1, r2⟩
    obtain ⟨kd, ps, nm, t, nz, z, o, bi, ks⟩ := n
    unfold NodeV at hv
    obtain ⟨s, rfl, hk⟩ := hv
    obtain ⟨a, len, ck, rfl⟩ := hk.shape
    have hw1 : w.heap.size < w1'.heap.size := lt_of_blk Z1.out
    have H2 := hide r1
    have T2 := hide ((Tn.of_bel T1.out).trans r2)
    have Z2 := hide (Z1.out.tn r2 (by omega))
    have K2 := hide hk
    obtain ⟨⟨f0, f1, f2, f3, f4, f5, f6, f7, f8⟩, b0, b1, b2, b3, b4, b5, b6, b7, b8⟩ := Z2.out.all
    obtain ⟨z9, s9⟩ := set9 Z2.out (.int .i64 kd) (.int .i64 ps) (.string nm) (.int .i64 t) (.int .i64 nz) (.int .i64 z) (.int .i64 o) (.int .u64 bi) (.slice a len ck)
    have Z9 := hide z9
    have S9 := hide s9
    clear z9 s9 Z2 r1 r2 hk HR H1 T1 Z1
    go_wp2_with fail
    refine ret_nod w.heap.size rfl rfl Z9.out rfl ?_
    refine ⟨_, rfl, ?_, H2.out.tn S9.out (by have := H2.out.big; omega) (by omega) (by omega), T2.out.own S9.out (Nat.le_refl _)⟩
    unfold NodeV
    exact ⟨_, rfl, (K2.out.tn S9.out hw1).low (Nat.le_of_lt hw1)⟩

end Go.Proofs.YtogeblmppagabaaGreatDoor.Ck

/- An expression in brackets. -/
namespace Go.Proofs.YtogeblmppagabaaGreatDoor.Ck
open Go.RowKit

theorem cD_some {w : World} {g i : Nat} {v : Value} (h : cD w g i = v) (hv : v ≠ undef) : w.cell? ⟨g, i, none⟩ = some v := by
  unfold cD at h
  cases hc : w.cell? ⟨g, i, none⟩ with
  | none => rw [hc] at h; exact absurd h.symm hv
  | some u => rw [hc] at h; exact congrArg some h
theorem ne_list {t : ByteArray} {l : List UInt8} (h : ¬ t = ⟨l.toArray⟩) : (t.toList == l) = false := by
  rw [beq_eq_false_iff_ne]
  intro e
  apply h
  rw [ByteArray.toList_eq] at e
  cases t with
  | mk d =>
    subst e
    simp
def priT : List ByteArray := [⟨#[116, 114, 117, 101]⟩, ⟨#[102, 97, 108, 115, 101]⟩, ⟨#[105, 110, 116]⟩, ⟨#[102, 108, 111, 97, 116]⟩]

set_option maxRecDepth 20000 in
set_option maxHeartbeats 1000000 in
theorem prim_wrap {w : World} {p : List Addr} {g gT : Nat} {L : List Tk} {i l : Nat} (h : Ps w p g gT L i l) (r : Out) (hk : (tkAt L i).kind ≠ 3 ∧ (tkAt L i).kind ≠ 4 ∧ (tkAt L i).kind ≠ 1) (hx : has L i priT = false)
    (hr : ∀ w, Ps w p g gT L i l → Calls Tryz.prog 162 #[.pointer (some ⟨g, 0, none⟩), .string ⟨#[40]⟩, .func (.func 212) #[.pointer (some ⟨g, 0, none⟩)] #[], .string ⟨#[41]⟩] w fun e w' => PostK p g gT L l w e w' r) :
    Calls Tryz.prog 193 #[.pointer (some ⟨g, 0, none⟩)] w fun e w' => PostN p g gT L l w e w' r := by
  have hx : ∀ z ∈ priT, ¬ (tkAt L i).text = z := fun z hz h => by
    have := (Lib.containsS_iff priT (tx L i)).2 (by unfold tx; rw [h]; exact hz)
    unfold has at hx
    rw [this] at hx
    cases hx
  have hgl := h.lt_g
  have hT := h.row.lt
  have hb0 := hide (bel_new w nodZ)
  have hz0 : Hid (Nod (w.alloc nodZ) w.heap.size (.int .i64 0) (.int .i64 0) (.string ⟨#[]⟩) (.int .i64 0) (.int .i64 0) (.int .i64 0) (.int .i64 0) (.int .u64 0) (.slice none 0 0)) := Go.Deep.blk_alloc_new _ _
  have H0 := hide (h.below hb0.out)
  have HH := hide (fun w (h : Ps w p g gT L i l) => here_any h)
  have HR := hide hr
  clear h hr
  unfold nodZ at *
  generalize tkAt L i = tk at *
  obtain ⟨kind, text, nn, bits_, pos⟩ := tk
  dsimp only [Tk.val] at *
  have hf0 := tf0 (.int .i64 kind) (.string text) (.int .i64 nn) (.int .u64 bits_) (.int .i64 pos)
  have hf1 := tf1 (.int .i64 kind) (.string text) (.int .i64 nn) (.int .u64 bits_) (.int .i64 pos)
  have k3 : ((kind : Int) == 3) = false := by simp; omega
  have k4 : ((kind : Int) == 4) = false := by simp; omega
  have k1 : ((kind : Int) == 1) = false := by simp; omega
  have hx1 : (text.toList == [116, 114, 117, 101]) = false := ne_list (hx _ (by simp [priT]))
  have hx2 : (text.toList == [102, 97, 108, 115, 101]) = false := ne_list (hx _ (by simp [priT]))
  have hx3 : (text.toList == [105, 110, 116]) = false := ne_list (hx _ (by simp [priT]))
  have hx4 : (text.toList == [102, 108, 111, 97, 116]) = false := ne_list (hx _ (by simp [priT]))
  clear hk hx
  go_enter Tryz.func193, Tryz.ntmps193
  go_wp2_with fail
  generalize w.alloc (.cells #[.int .i64 0, .int .i64 0, .string ⟨#[]⟩, .int .i64 0, .int .i64 0, .int .i64 0, .int .i64 0, .int .u64 0, .slice none 0 0] 27) = w0 at *
  refine (HH.out _ H0.out).mono ?_
  rintro e w1 ⟨rfl, hb1⟩
  have H1 := hide (H0.out.below hb1)
  have T1 := hide (bel_trans hb0.out hb1)
  have Z1 := hide (hz0.out.bel hb1)
  clear hb1 H0 hb0 hz0
  go_wp2_with fail
  refine (HH.out _ H1.out).mono ?_
  rintro e w1' ⟨rfl, hb1⟩
  have H1 := hide (H1.out.below hb1)
  have T1 := hide (bel_trans T1.out hb1)
  have Z1 := hide (Z1.out.bel hb1)
  clear hb1 HH
  go_wp2_with fail
  cases r with
  | bad k j =>
    refine (HR.out _ H1.out).mono ?_
    rintro e w2 ⟨rfl, r2⟩
    exact ⟨rfl, rfl, (Tn.of_bel T1.out).trans r2⟩
  | ok n j =>
    refine (HR.out _ H1.out).mono ?_
    rintro e w2 ⟨s, rfl, hks, r1, r2⟩
    unfold KidsV at hks
    obtain ⟨gk, cap, cur, rfl, hgk, hcur, hcap, hmax, _, hn, _⟩ := hks
    obtain ⟨kd, ps, nm, t, nz, z, o, bi, ks⟩ := n
    unfold NodeV at hn
    obtain ⟨s, hv, hk⟩ := hn
    obtain ⟨a, len, ck, rfl⟩ := hk.shape
    unfold nodeAt at hv
    injection hv with hv
    have hv := congrArg Array.toList hv
    simp only [Nat.zero_add, List.cons.injEq, and_true] at hv
    obtain ⟨v0, v1, v2, v3, v4, v5, v6, v7, v8⟩ := hv
    have q0 := cD_some v0 (fun h => by cases h)
    have q1 := cD_some v1 (fun h => by cases h)
    have q2 := cD_some v2 (fun h => by cases h)
    have q3 := cD_some v3 (fun h => by cases h)
    have q4 := cD_some v4 (fun h => by cases h)
    have q5 := cD_some v5 (fun h => by cases h)
    have q6 := cD_some v6 (fun h => by cases h)
    have q7 := cD_some v7 (fun h => by cases h)
    have q8 := cD_some v8 (fun h => by cases h)
    have hw1 : w.heap.size < w1'.heap.size := lt_of_blk Z1.out
    have H2 := hide r1
    have T2 := hide ((Tn.of_bel T1.out).trans r2)
    have Z2 := hide (Z1.out.tn r2 (by omega))
    have K2 := hide hk
    obtain ⟨⟨f0, f1, f2, f3, f4, f5, f6, f7, f8⟩, b0, b1, b2, b3, b4, b5, b6, b7, b8⟩ := Z2.out.all
    obtain ⟨z9, s9⟩ := set9 Z2.out (.int .i64 kd) (.int .i64 ps) (.string nm) (.int .i64 t) (.int .i64 nz) (.int .i64 z) (.int .i64 o) (.int .u64 bi) (.slice a len ck)
    have Z9 := hide z9
    have S9 := hide s9
    have hcl : (cap : Nat) ≤ 9223372036854775807 := by unfold maxLen at hmax; omega
    clear z9 s9 Z2 r1 r2 hk HR H1 T1 Z1 hgk hcur hmax hx1 hx2 hx3 hx4 v0 v1 v2 v3 v4 v5 v6 v7 v8
    go_wp2_with fail
    refine ret_nod w.heap.size rfl rfl Z9.out rfl ?_
    refine ⟨_, rfl, ?_, H2.out.tn S9.out (by have := H2.out.big; omega) (by omega) (by omega), T2.out.own S9.out (Nat.le_refl _)⟩
    unfold NodeV
    exact ⟨_, rfl, (K2.out.tn S9.out hw1).low (Nat.le_of_lt hw1)⟩

end Go.Proofs.YtogeblmppagabaaGreatDoor.Ck
