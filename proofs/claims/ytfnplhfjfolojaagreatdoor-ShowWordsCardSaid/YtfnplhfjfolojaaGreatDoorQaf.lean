/- Texts of this proof, packed: contracts of the program's functions, and the plain model that they are held against. -/
import Derived.Test.YtfnplhfjfolojaaGreatDoorQae
set_option maxRecDepth 20000
set_option maxHeartbeats 4000000
namespace Go.Proofs.YtfnplhfjfolojaaGreatDoor.Ck
open Go.RowKit
theorem binary_treeparserunary {w : World} {p : List Addr} {g gT : Nat} {L : List Tk} {i l : Nat} (h : Ps w p g gT L i l) (B : Nat -> Prop) (hB : ∀ k, w.heap.size <= k -> B k) (hgB : ¬ B g) (n : Nd) (v : Value) (hn : Zj w B n v) (hi : i + 1 < L.length) (r : Out) (hr : ZS 205 p g gT L l (i + 1) r) :
 Calls Tryz.prog 93 #[.pointer (some ⟨g, 0, none⟩), v, .func (.func 205) #[.pointer (some ⟨g, 0, none⟩)] #[]] w fun e w' => PostB B p g gT L l w e w' (binO n (tx L i) r) := by
 obtain ⟨kd, ps, nm, t, nz, z, o, bi, ks⟩ := n
 unfold Zj at hn
 obtain ⟨s, rfl, hk⟩ := hn
 obtain ⟨a, len, ck, rfl⟩ := hk.shape
 have HKL := Zb hk
 have hgl := h.lt_g
 have hT := h.row.lt
 have hb0 := Zd w (.cells #[.int .i64 kd, .int .i64 ps, .string nm, .int .i64 t, .int .i64 nz, .int .i64 z, .int .i64 o, .int .u64 bi, .slice a len ck] 29)
 have y0 : Nod (w.alloc (.cells #[.int .i64 kd, .int .i64 ps, .string nm, .int .i64 t, .int .i64 nz, .int .i64 z, .int .i64 o, .int .u64 bi, .slice a len ck] 29)) w.heap.size (.int .i64 kd) (.int .i64 ps) (.string nm) (.int .i64 t) (.int .i64 nz) (.int .i64 z) (.int .i64 o) (.int .u64 bi) (.slice a len ck) := B_ _ _
 have s0 : (w.alloc (.cells #[.int .i64 kd, .int .i64 ps, .string nm, .int .i64 t, .int .i64 nz, .int .i64 z, .int .i64 o, .int .u64 bi, .slice a len ck] 29)).heap.size = w.heap.size + 1 := by simp
 have H0 := h.below hb0
 have K0 := hk.bel hb0
 generalize hw1 : w.alloc _ = w1 at *
 have hb1 := Zd w1 (.cells #[.int .i64 0, .int .i64 0, .string ⟨#[]⟩, .int .i64 0, .int .i64 0, .int .i64 0, .int .i64 0, .int .u64 0, .slice none 0 0] 29)
 have z1 : Nod (w1.alloc (.cells #[.int .i64 0, .int .i64 0, .string ⟨#[]⟩, .int .i64 0, .int .i64 0, .int .i64 0, .int .i64 0, .int .u64 0, .slice none 0 0] 29)) w1.heap.size (.int .i64 0) (.int .i64 0) (.string ⟨#[]⟩) (.int .i64 0) (.int .i64 0) (.int .i64 0) (.int .i64 0) (.int .u64 0) (.slice none 0 0) := B_ _ _
 have s1 : (w1.alloc (.cells #[.int .i64 0, .int .i64 0, .string ⟨#[]⟩, .int .i64 0, .int .i64 0, .int .i64 0, .int .i64 0, .int .u64 0, .slice none 0 0] 29)).heap.size = w.heap.size + 1 + 1 := by simp [s0]
 rw [s0] at z1
 have y1 := y0.bel hb1
 have H1 := Zb (H0.below hb1)
 have K1 := Zb (K0.bel hb1)
 have B1 := Zb (Zc hb0 hb1)
 subst hw1
 have HH := Zb (fun w (h : Ps w p g gT L i l) => Zp h)
 have HR := Zb hr
 clear h hr hk H0 K0 hb0 hb1 y0 s0
 unfold tx at *
 generalize Zk L i = tk at *
 obtain ⟨kind, text, nn, bits_, pos⟩ := tk
 dsimp only [Tk.val] at *
 have hf1 := tf1 (.int .i64 kind) (.string text) (.int .i64 nn) (.int .u64 bits_) (.int .i64 pos)
 go_enter Tryz.func93, Tryz.ntmps93
 go_wp2_with fail
 generalize (w.alloc _).alloc _ = w2 at *
 obtain ⟨_, y00, y01, _⟩ := y1.all
 have Y1 := Zb y1
 have Z1 := Zb z1
 clear y1 z1
 go_cut [7] from 8 to 13 (fun x wc => ∃ b, x = .pointer (some ⟨b, 0, none⟩) /\ Hid (Nod wc b (.int .i64 31) (.int .i64 ps) (.string text) (.int .i64 0) (.int .i64 0) (.int .i64 0) (.int .i64 0) (.int .u64 0) (.slice none 0 0) /\ Below w2.heap.size w2 wc /\ w2.heap.size <= b))
 case first =>
  refine wp_region_any ZI ?_
  change wpAny _ _ _ _ _ _ _ (World.drew _)
  have H0 := Zb H1.out.drew
  have Y0 : Hid (Nod w2.drew w.heap.size (.int .i64 kd) (.int .i64 ps) (.string nm) (.int .i64 t) (.int .i64 nz) (.int .i64 z) (.int .i64 o) (.int .u64 bi) (.slice a len ck)) := Y1.out.drew
  have B0 : Hid (Below w2.heap.size w2 w2.drew) := Zm (Below.refl _ _)
  generalize World.drew w2 = W0 at *
  refine T_ 0 (v := ?_) (fun w => ?_) ?_
  rotate_left 1
  · (go_simp <;> with_reducible rfl)
  simp only [Act.put, S_]
  refine T_ 2 (v := ?_) (fun w => ?_) ?_
  rotate_left 1
  · (go_simp <;> with_reducible rfl)
  simp only [Act.put, S_]
  refine wpAny_ready (rs := [1, 3, 6]) (by kernel_rfl) (by decide) ?_
  refine AllReady.cons rfl (fun K1 hK1 => ?_) (AllReady.cons rfl (fun K1 hK1 => ?_) (AllReady.cons rfl (fun K1 hK1 => ?_) AllReady.nil))
  · obtain ⟨_, _, yq, _⟩ := Y0.out.all
    go_simp
    refine hK1 _ _ ?_
    clear hK1 K1 yq
    refine wpAny_ready (rs := [3, 6]) (by kernel_rfl) (by decide) ?_
    refine AllReady.cons rfl (fun K1 hK1 => ?_) (AllReady.cons rfl (fun K1 hK1 => ?_) AllReady.nil)
    · go_simp
      refine (HH.out _ H0.out).mono ?_
      rintro e W1 ⟨rfl, hb⟩
      have H1 := Zb (H0.out.below hb)
      have Y1 := Zb (Y0.out.bel hb)
      have B1 := Zb (Zc B0.out hb)
      clear hb
      refine hK1 _ _ ?_
      clear hK1 K1
      refine T_ 4 (v := ?_) (fun w => ?_) ?_
      rotate_left 1
      · (go_simp <;> with_reducible rfl)
      simp only [Act.put, S_]
      refine T_ 5 (v := ?_) (fun w => ?_) ?_
      rotate_left 1
      · (go_simp <;> with_reducible rfl)
      simp only [Act.put, S_]
      refine R_ 6 (fun K1 hK1 => ?_)
      go_simp
      have hb := Zd W1 (.cells #[.int .i64 0, .int .i64 0, .string ⟨#[]⟩, .int .i64 0, .int .i64 0, .int .i64 0, .int .i64 0, .int .u64 0, .slice none 0 0] 29)
      have X2 : Hid (Nod (W1.alloc (.cells #[.int .i64 0, .int .i64 0, .string ⟨#[]⟩, .int .i64 0, .int .i64 0, .int .i64 0, .int .i64 0, .int .u64 0, .slice none 0 0] 29)) W1.heap.size (.int .i64 0) (.int .i64 0) (.string ⟨#[]⟩) (.int .i64 0) (.int .i64 0) (.int .i64 0) (.int .i64 0) (.int .u64 0) (.slice none 0 0)) := B_ _ _
      have H2 := Zb (H1.out.below hb)
      have Y2 := Zb (Y1.out.bel hb)
      have B2 := Zb (Zc B1.out hb)
      have LE : Hid (w2.heap.size <= W1.heap.size) := B1.out.size
      clear hb
      generalize W1.alloc _ = W2 at *
      generalize W1.heap.size = b at *
      refine hK1 _ _ ?_
      clear hK1 K1
      refine R_ 7 (fun K1 hK1 => ?_)
      obtain ⟨⟨p0, p1, p2, p3, p4, p5, p6, p7, p8⟩, q0, q1, q2, q3, q4, q5, q6, q7, q8⟩ := X2.out.all
      go_simp
      refine hK1 _ _ ?_
      clear hK1 K1 p0 p1 p2 p3 p4 p5 p6 p7 p8 q0 q1 q2 q3 q4 q5 q6 q7 q8
      refine wpAny_done (by kernel_rfl) ?_ _
      go_wp2_with fail
      go_meet
      case rel =>
       obtain ⟨z9, s9⟩ := Zy X2.out (.int .i64 31) (.int .i64 ps) (.string text) (.int .i64 0) (.int .i64 0) (.int .i64 0) (.int .i64 0) (.int .u64 0) (.slice none 0 0)
       exact ⟨_, rfl, z9, B2.out.trans (s9.bel LE.out B2.out.size), LE.out⟩
    · go_simp
      have hb := Zd W0 (.cells #[.int .i64 0, .int .i64 0, .string ⟨#[]⟩, .int .i64 0, .int .i64 0, .int .i64 0, .int .i64 0, .int .u64 0, .slice none 0 0] 29)
      have X1 : Hid (Nod (W0.alloc (.cells #[.int .i64 0, .int .i64 0, .string ⟨#[]⟩, .int .i64 0, .int .i64 0, .int .i64 0, .int .i64 0, .int .u64 0, .slice none 0 0] 29)) W0.heap.size (.int .i64 0) (.int .i64 0) (.string ⟨#[]⟩) (.int .i64 0) (.int .i64 0) (.int .i64 0) (.int .i64 0) (.int .u64 0) (.slice none 0 0)) := B_ _ _
      have H1 := Zb (H0.out.below hb)
      have Y1 := Zb (Y0.out.bel hb)
      have B1 := Zb (Zc B0.out hb)
      have LE : Hid (w2.heap.size <= W0.heap.size) := B0.out.size
      clear hb
      generalize W0.alloc _ = W1 at *
      generalize W0.heap.size = b at *
      refine hK1 _ _ ?_
      clear hK1 K1
      refine R_ 3 (fun K1 hK1 => ?_)
      go_simp
      refine (HH.out _ H1.out).mono ?_
      rintro e W2 ⟨rfl, hb⟩
      have H2 := Zb (H1.out.below hb)
      have Y2 := Zb (Y1.out.bel hb)
      have B2 := Zb (Zc B1.out hb)
      have X2 := Zb (X1.out.bel hb)
      clear hb
      refine hK1 _ _ ?_
      clear hK1 K1
      refine T_ 4 (v := ?_) (fun w => ?_) ?_
      rotate_left 1
      · (go_simp <;> with_reducible rfl)
      simp only [Act.put, S_]
      refine T_ 5 (v := ?_) (fun w => ?_) ?_
      rotate_left 1
      · (go_simp <;> with_reducible rfl)
      simp only [Act.put, S_]
      refine R_ 7 (fun K1 hK1 => ?_)
      obtain ⟨⟨p0, p1, p2, p3, p4, p5, p6, p7, p8⟩, q0, q1, q2, q3, q4, q5, q6, q7, q8⟩ := X2.out.all
      go_simp
      refine hK1 _ _ ?_
      clear hK1 K1 p0 p1 p2 p3 p4 p5 p6 p7 p8 q0 q1 q2 q3 q4 q5 q6 q7 q8
      refine wpAny_done (by kernel_rfl) ?_ _
      go_wp2_with fail
      go_meet
      case rel =>
       obtain ⟨z9, s9⟩ := Zy X2.out (.int .i64 31) (.int .i64 ps) (.string text) (.int .i64 0) (.int .i64 0) (.int .i64 0) (.int .i64 0) (.int .u64 0) (.slice none 0 0)
       exact ⟨_, rfl, z9, B2.out.trans (s9.bel LE.out B2.out.size), LE.out⟩
  · go_simp
    refine (HH.out _ H0.out).mono ?_
    rintro e W1 ⟨rfl, hb⟩
    have H1 := Zb (H0.out.below hb)
    have Y1 := Zb (Y0.out.bel hb)
    have B1 := Zb (Zc B0.out hb)
    clear hb
    refine hK1 _ _ ?_
    clear hK1 K1
    refine T_ 4 (v := ?_) (fun w => ?_) ?_
    rotate_left 1
    · (go_simp <;> with_reducible rfl)
    simp only [Act.put, S_]
    refine wpAny_ready (rs := [1, 6]) (by kernel_rfl) (by decide) ?_
    refine AllReady.cons rfl (fun K1 hK1 => ?_) (AllReady.cons rfl (fun K1 hK1 => ?_) AllReady.nil)
    · obtain ⟨_, _, yq, _⟩ := Y1.out.all
      go_simp
      refine hK1 _ _ ?_
      clear hK1 K1 yq
      refine T_ 5 (v := ?_) (fun w => ?_) ?_
      rotate_left 1
      · (go_simp <;> with_reducible rfl)
      simp only [Act.put, S_]
      refine R_ 6 (fun K1 hK1 => ?_)
      go_simp
      have hb := Zd W1 (.cells #[.int .i64 0, .int .i64 0, .string ⟨#[]⟩, .int .i64 0, .int .i64 0, .int .i64 0, .int .i64 0, .int .u64 0, .slice none 0 0] 29)
      have X2 : Hid (Nod (W1.alloc (.cells #[.int .i64 0, .int .i64 0, .string ⟨#[]⟩, .int .i64 0, .int .i64 0, .int .i64 0, .int .i64 0, .int .u64 0, .slice none 0 0] 29)) W1.heap.size (.int .i64 0) (.int .i64 0) (.string ⟨#[]⟩) (.int .i64 0) (.int .i64 0) (.int .i64 0) (.int .i64 0) (.int .u64 0) (.slice none 0 0)) := B_ _ _
      have H2 := Zb (H1.out.below hb)
      have Y2 := Zb (Y1.out.bel hb)
      have B2 := Zb (Zc B1.out hb)
      have LE : Hid (w2.heap.size <= W1.heap.size) := B1.out.size
      clear hb
      generalize W1.alloc _ = W2 at *
      generalize W1.heap.size = b at *
      refine hK1 _ _ ?_
      clear hK1 K1
      refine R_ 7 (fun K1 hK1 => ?_)
      obtain ⟨⟨p0, p1, p2, p3, p4, p5, p6, p7, p8⟩, q0, q1, q2, q3, q4, q5, q6, q7, q8⟩ := X2.out.all
      go_simp
      refine hK1 _ _ ?_
      clear hK1 K1 p0 p1 p2 p3 p4 p5 p6 p7 p8 q0 q1 q2 q3 q4 q5 q6 q7 q8
      refine wpAny_done (by kernel_rfl) ?_ _
      go_wp2_with fail
      go_meet
      case rel =>
       obtain ⟨z9, s9⟩ := Zy X2.out (.int .i64 31) (.int .i64 ps) (.string text) (.int .i64 0) (.int .i64 0) (.int .i64 0) (.int .i64 0) (.int .u64 0) (.slice none 0 0)
       exact ⟨_, rfl, z9, B2.out.trans (s9.bel LE.out B2.out.size), LE.out⟩
    · go_simp
      have hb := Zd W1 (.cells #[.int .i64 0, .int .i64 0, .string ⟨#[]⟩, .int .i64 0, .int .i64 0, .int .i64 0, .int .i64 0, .int .u64 0, .slice none 0 0] 29)
      have X2 : Hid (Nod (W1.alloc (.cells #[.int .i64 0, .int .i64 0, .string ⟨#[]⟩, .int .i64 0, .int .i64 0, .int .i64 0, .int .i64 0, .int .u64 0, .slice none 0 0] 29)) W1.heap.size (.int .i64 0) (.int .i64 0) (.string ⟨#[]⟩) (.int .i64 0) (.int .i64 0) (.int .i64 0) (.int .i64 0) (.int .u64 0) (.slice none 0 0)) := B_ _ _
      have H2 := Zb (H1.out.below hb)
      have Y2 := Zb (Y1.out.bel hb)
      have B2 := Zb (Zc B1.out hb)
      have LE : Hid (w2.heap.size <= W1.heap.size) := B1.out.size
      clear hb
      generalize W1.alloc _ = W2 at *
      generalize W1.heap.size = b at *
      refine hK1 _ _ ?_
      clear hK1 K1
      refine R_ 1 (fun K1 hK1 => ?_)
      obtain ⟨_, _, yq, _⟩ := Y2.out.all
      go_simp
      refine hK1 _ _ ?_
      clear hK1 K1 yq
      refine T_ 5 (v := ?_) (fun w => ?_) ?_
      rotate_left 1
      · (go_simp <;> with_reducible rfl)
      simp only [Act.put, S_]
      refine R_ 7 (fun K1 hK1 => ?_)
      obtain ⟨⟨p0, p1, p2, p3, p4, p5, p6, p7, p8⟩, q0, q1, q2, q3, q4, q5, q6, q7, q8⟩ := X2.out.all
      go_simp
      refine hK1 _ _ ?_
      clear hK1 K1 p0 p1 p2 p3 p4 p5 p6 p7 p8 q0 q1 q2 q3 q4 q5 q6 q7 q8
      refine wpAny_done (by kernel_rfl) ?_ _
      go_wp2_with fail
      go_meet
      case rel =>
       obtain ⟨z9, s9⟩ := Zy X2.out (.int .i64 31) (.int .i64 ps) (.string text) (.int .i64 0) (.int .i64 0) (.int .i64 0) (.int .i64 0) (.int .u64 0) (.slice none 0 0)
       exact ⟨_, rfl, z9, B2.out.trans (s9.bel LE.out B2.out.size), LE.out⟩
  · go_simp
    have hb := Zd W0 (.cells #[.int .i64 0, .int .i64 0, .string ⟨#[]⟩, .int .i64 0, .int .i64 0, .int .i64 0, .int .i64 0, .int .u64 0, .slice none 0 0] 29)
    have X1 : Hid (Nod (W0.alloc (.cells #[.int .i64 0, .int .i64 0, .string ⟨#[]⟩, .int .i64 0, .int .i64 0, .int .i64 0, .int .i64 0, .int .u64 0, .slice none 0 0] 29)) W0.heap.size (.int .i64 0) (.int .i64 0) (.string ⟨#[]⟩) (.int .i64 0) (.int .i64 0) (.int .i64 0) (.int .i64 0) (.int .u64 0) (.slice none 0 0)) := B_ _ _
    have H1 := Zb (H0.out.below hb)
    have Y1 := Zb (Y0.out.bel hb)
    have B1 := Zb (Zc B0.out hb)
    have LE : Hid (w2.heap.size <= W0.heap.size) := B0.out.size
    clear hb
    generalize W0.alloc _ = W1 at *
    generalize W0.heap.size = b at *
    refine hK1 _ _ ?_
    clear hK1 K1
    refine wpAny_ready (rs := [1, 3]) (by kernel_rfl) (by decide) ?_
    refine AllReady.cons rfl (fun K1 hK1 => ?_) (AllReady.cons rfl (fun K1 hK1 => ?_) AllReady.nil)
    · obtain ⟨_, _, yq, _⟩ := Y1.out.all
      go_simp
      refine hK1 _ _ ?_
      clear hK1 K1 yq
      refine R_ 3 (fun K1 hK1 => ?_)
      go_simp
      refine (HH.out _ H1.out).mono ?_
      rintro e W2 ⟨rfl, hb⟩
      have H2 := Zb (H1.out.below hb)
      have Y2 := Zb (Y1.out.bel hb)
      have B2 := Zb (Zc B1.out hb)
      have X2 := Zb (X1.out.bel hb)
      clear hb
      refine hK1 _ _ ?_
      clear hK1 K1
      refine T_ 4 (v := ?_) (fun w => ?_) ?_
      rotate_left 1
      · (go_simp <;> with_reducible rfl)
      simp only [Act.put, S_]
      refine T_ 5 (v := ?_) (fun w => ?_) ?_
      rotate_left 1
      · (go_simp <;> with_reducible rfl)
      simp only [Act.put, S_]
      refine R_ 7 (fun K1 hK1 => ?_)
      obtain ⟨⟨p0, p1, p2, p3, p4, p5, p6, p7, p8⟩, q0, q1, q2, q3, q4, q5, q6, q7, q8⟩ := X2.out.all
      go_simp
      refine hK1 _ _ ?_
      clear hK1 K1 p0 p1 p2 p3 p4 p5 p6 p7 p8 q0 q1 q2 q3 q4 q5 q6 q7 q8
      refine wpAny_done (by kernel_rfl) ?_ _
      go_wp2_with fail
      go_meet
      case rel =>
       obtain ⟨z9, s9⟩ := Zy X2.out (.int .i64 31) (.int .i64 ps) (.string text) (.int .i64 0) (.int .i64 0) (.int .i64 0) (.int .i64 0) (.int .u64 0) (.slice none 0 0)
       exact ⟨_, rfl, z9, B2.out.trans (s9.bel LE.out B2.out.size), LE.out⟩
    · go_simp
      refine (HH.out _ H1.out).mono ?_
      rintro e W2 ⟨rfl, hb⟩
      have H2 := Zb (H1.out.below hb)
      have Y2 := Zb (Y1.out.bel hb)
      have B2 := Zb (Zc B1.out hb)
      have X2 := Zb (X1.out.bel hb)
      clear hb
      refine hK1 _ _ ?_
      clear hK1 K1
      refine T_ 4 (v := ?_) (fun w => ?_) ?_
      rotate_left 1
      · (go_simp <;> with_reducible rfl)
      simp only [Act.put, S_]
      refine R_ 1 (fun K1 hK1 => ?_)
      obtain ⟨_, _, yq, _⟩ := Y2.out.all
      go_simp
      refine hK1 _ _ ?_
      clear hK1 K1 yq
      refine T_ 5 (v := ?_) (fun w => ?_) ?_
      rotate_left 1
      · (go_simp <;> with_reducible rfl)
      simp only [Act.put, S_]
      refine R_ 7 (fun K1 hK1 => ?_)
      obtain ⟨⟨p0, p1, p2, p3, p4, p5, p6, p7, p8⟩, q0, q1, q2, q3, q4, q5, q6, q7, q8⟩ := X2.out.all
      go_simp
      refine hK1 _ _ ?_
      clear hK1 K1 p0 p1 p2 p3 p4 p5 p6 p7 p8 q0 q1 q2 q3 q4 q5 q6 q7 q8
      refine wpAny_done (by kernel_rfl) ?_ _
      go_wp2_with fail
      go_meet
      case rel =>
       obtain ⟨z9, s9⟩ := Zy X2.out (.int .i64 31) (.int .i64 ps) (.string text) (.int .i64 0) (.int .i64 0) (.int .i64 0) (.int .i64 0) (.int .u64 0) (.slice none 0 0)
       exact ⟨_, rfl, z9, B2.out.trans (s9.bel LE.out B2.out.size), LE.out⟩
 case rest =>
  obtain ⟨b, rfl, hX⟩ := hcut
  have H2 := Zb (H1.out.below hX.out.2.1)
  have Y2 := Zb (Y1.out.bel hX.out.2.1)
  have Z2 := Zb (Z1.out.bel hX.out.2.1)
  have K2 := Zb (K1.out.bel hX.out.2.1)
  have T2 := Zb (Tn.of_bel (g := g) (Zc B1.out hX.out.2.1))
  have X2 := Zb hX.out.1
  have hb : w.heap.size + 1 + 1 <= b := by have := hX.out.2.2; omega
  obtain ⟨r1, r2⟩ := H2.out.set (i + 1) hi ((i : Int) + 1) (by omega)
  have H3 := Zb r1
  have T3 := Zb (T2.out.trans r2)
  have Y3 := Zb (Y2.out.tn r2 (by omega))
  have Z3 := Zb (Z2.out.tn r2 (by omega))
  have X3 := Zb (X2.out.tn r2 (by omega))
  obtain ⟨cap, _, c1, _, cf, _, _⟩ := H2.out.cells
  have fc1 := cf 1
  have hL := H2.out.len
  obtain ⟨_, d0, d1, d2, d3, d4, d5, d6, d7, d8⟩ := Y3.out.all
  clear cf r1 r2 H2 T2 Z2 X2 Y2 K2 hX H1 Y1 Z1 K1 B1 HH hf1 y00 y01
  go_wp2_with fail
  clear c1 fc1 hL d0 d1 d2 d3 d4 d5 d6 d7 d8
  generalize wc.setCell ⟨g, 1, none⟩ (.int .i64 ((i : Int) + 1)) = w3 at *
  have H0 := Zb H3.out.drew
  have T0 := Zb T3.out.drew
  have Y0 := Zb Y3.out.drew
  have Z0 := Zb Z3.out.drew
  have X0 := Zb X3.out.drew
  clear H3 T3 Y3 Z3 X3
  cases r with
  | bad k j =>
   refine wp_region_any ZI ?_
   change wpAny _ _ _ _ _ _ _ (World.drew _)
   generalize World.drew w3 = W0 at *
   refine T_ 1 (v := ?_) (fun w => ?_) ?_
   rotate_left 1
   · (go_simp <;> with_reducible rfl)
   simp only [Act.put, S_]
   refine wpAny_ready (rs := [0, 2]) (by kernel_rfl) (by decide) ?_
   refine AllReady.cons rfl (fun K1 hK1 => ?_) (AllReady.cons rfl (fun K1 hK1 => ?_) AllReady.nil)
   · obtain ⟨_, d0, d1, d2, d3, d4, d5, d6, d7, d8⟩ := Y0.out.all
     go_simp
     refine hK1 _ _ ?_
     clear hK1 K1 d0 d1 d2 d3 d4 d5 d6 d7 d8
     refine R_ 2 (fun K1 hK1 => ?_)
     go_simp
     refine (HR.out _ H0.out).mono ?_
     rintro e W1 ⟨rfl, t1⟩
     exact ⟨rfl, rfl, T0.out.trans t1⟩
   · go_simp
     refine (HR.out _ H0.out).mono ?_
     rintro e W1 ⟨rfl, t1⟩
     exact ⟨rfl, rfl, T0.out.trans t1⟩
  | ok m j =>
   obtain ⟨kd', ps', nm', t', nz', z', o', bi', ks'⟩ := m
   refine wp_region_any ZI ?_
   change wpAny _ _ _ _ _ _ _ (World.drew _)
   generalize World.drew w3 = W0 at *
   refine T_ 1 (v := ?_) (fun w => ?_) ?_
   rotate_left 1
   · (go_simp <;> with_reducible rfl)
   simp only [Act.put, S_]
   refine wpAny_ready (rs := [0, 2]) (by kernel_rfl) (by decide) ?_
   refine AllReady.cons rfl (fun K1 hK1 => ?_) (AllReady.cons rfl (fun K1 hK1 => ?_) AllReady.nil)
   · obtain ⟨_, d0, d1, d2, d3, d4, d5, d6, d7, d8⟩ := Y0.out.all
     go_simp
     refine hK1 _ _ ?_
     clear hK1 K1 d0 d1 d2 d3 d4 d5 d6 d7 d8
     refine R_ 2 (fun K1 hK1 => ?_)
     go_simp
     refine (HR.out _ H0.out).mono ?_
     rintro e W1 ⟨v, rfl, hv, h1, t1⟩
     unfold Zj at hv
     obtain ⟨s', rfl, hk'⟩ := hv
     obtain ⟨a', len', ck', rfl⟩ := hk'.shape
     have hwz : W0.heap.size <= W1.heap.size := t1.size
     have hbW : b < W0.heap.size := Ze X0.out
     have H1 := Zb h1
     have T1 := Zb (T0.out.trans t1)
     have Y1 := Zb (Y0.out.tn t1 (by omega))
     have Z1 := Zb (Z0.out.tn t1 (by omega))
     have X1 := Zb (X0.out.tn t1 (by omega))
     have J1 := Zb hk'
     clear h1 t1 hk'
     refine hK1 _ _ ?_
     clear hK1 K1
     refine R_ 3 (fun K1 hK1 => ?_)
     go_simp
     have hb5 := Zd W1 (.cells #[.int .i64 kd, .int .i64 ps, .string nm, .int .i64 t, .int .i64 nz, .int .i64 z, .int .i64 o, .int .u64 bi, .slice a len ck, .int .i64 kd', .int .i64 ps', .string nm', .int .i64 t', .int .i64 nz', .int .i64 z', .int .i64 o', .int .u64 bi', .slice a' len' ck'] 29)
     have kb : (W1.alloc (.cells #[.int .i64 kd, .int .i64 ps, .string nm, .int .i64 t, .int .i64 nz, .int .i64 z, .int .i64 o, .int .u64 bi, .slice a len ck, .int .i64 kd', .int .i64 ps', .string nm', .int .i64 t', .int .i64 nz', .int .i64 z', .int .i64 o', .int .u64 bi', .slice a' len' ck'] 29)).heap[W1.heap.size]? = some (.cells #[.int .i64 kd, .int .i64 ps, .string nm, .int .i64 t, .int .i64 nz, .int .i64 z, .int .i64 o, .int .u64 bi, .slice a len ck, .int .i64 kd', .int .i64 ps', .string nm', .int .i64 t', .int .i64 nz', .int .i64 z', .int .i64 o', .int .u64 bi', .slice a' len' ck'] 29 (0, 0)) := B_ _ _
     have H5 := Zb (H1.out.below hb5)
     have T5 := Zb (T1.out.trans (Tn.of_bel hb5))
     have Z5 := Zb (Z1.out.bel hb5)
     have x5 := X1.out.bel hb5
     have KB := Zb kb
     have J5 := Zb (J1.out.bel hb5)
     obtain ⟨⟨_, _, _, _, _, _, _, _, f8⟩, _, _, _, _, _, _, _, _, c8⟩ := x5.all
     obtain ⟨x6, s6⟩ := Zs x5 8 (.slice (some ⟨W1.heap.size, 0, none⟩) 2 2)
     have x6 : Nod _ b (.int .i64 31) (.int .i64 ps) (.string text) (.int .i64 0) (.int .i64 0) (.int .i64 0) (.int .i64 0) (.int .u64 0) (.slice (some ⟨W1.heap.size, 0, none⟩) 2 2) := x6
     clear kb hb5 x5 J1 H1 T1 Z1 X1 Y1
     refine hK1 _ _ ?_
     clear hK1 K1
     refine T_ 4 (v := ?_) (fun w => ?_) ?_
     rotate_left 1
     · (go_simp <;> with_reducible rfl)
     simp only [Act.put, S_]
     refine R_ 5 (fun K1 hK1 => ?_)
     go_simp
     refine hK1 _ _ ?_
     clear hK1 K1 f8 c8
     refine wpAny_done (by kernel_rfl) ?_ _
     have X6 := Zb x6
     have T6 := Zb (T5.out.own s6 (by omega))
     have H6 := Zb (H5.out.tn s6 (by have := H5.out.big; omega) (by omega) (by omega))
     have Z6 := Zb (Z5.out.tn s6 (by omega))
     have KB6 := Zb ((s6.blk W1.heap.size (Ze KB.out) (by omega)).trans KB.out)
     have J6 := Zb (J5.out.tn s6 hbW)
     clear x6 s6 H5 T5 Z5 KB J5
     generalize hw6 : (W1.alloc _).setCell ⟨b, 8, none⟩ (.slice (some ⟨W1.heap.size, 0, none⟩) 2 2) = w6 at *
     clear hw6
     have hbk := Zb (show w.heap.size + 1 < W1.heap.size by omega)
     generalize W1.heap.size = bk at *
     obtain ⟨_, e0, e1, e2, e3, e4, e5, e6, e7, e8⟩ := X6.out.all
     obtain ⟨⟨p0, p1, p2, p3, p4, p5, p6, p7, p8⟩, q0, q1, q2, q3, q4, q5, q6, q7, q8⟩ := Z6.out.all
     obtain ⟨z9, s9⟩ := Zy Z6.out (.int .i64 31) (.int .i64 ps) (.string text) (.int .i64 0) (.int .i64 0) (.int .i64 0) (.int .i64 0) (.int .u64 0) (.slice (some ⟨bk, 0, none⟩) 2 2)
     have Z9 := Zb z9
     have S9 := Zb s9
     clear z9 s9 Z6 X6
     go_wp2_with fail
     refine Zg (w.heap.size + 1) rfl rfl Z9.out rfl ?_
     refine ⟨_, rfl, ?_, H6.out.tn S9.out (by have := H6.out.big; omega) (by omega) (by omega), T6.out.own S9.out (by omega)⟩
     unfold binN nd Zj
     refine ⟨_, rfl, Yj ((S9.out.blk bk (Ze KB6.out) (by have := hbk.out; omega)).trans KB6.out) (HKL.out.tnS (T6.out.own S9.out (by omega)) hgB) ((J6.out.tn S9.out (by omega)).lowS (fun k hk => hB k (Nat.le_trans (Nat.le_of_lt (show w.heap.size < W0.heap.size by omega)) hk))) (hB _ (by have := hbk.out; omega))⟩
   · go_simp
     refine (HR.out _ H0.out).mono ?_
     rintro e W1 ⟨v, rfl, hv, h1, t1⟩
     unfold Zj at hv
     obtain ⟨s', rfl, hk'⟩ := hv
     obtain ⟨a', len', ck', rfl⟩ := hk'.shape
     have hwz : W0.heap.size <= W1.heap.size := t1.size
     have hbW : b < W0.heap.size := Ze X0.out
     have H1 := Zb h1
     have T1 := Zb (T0.out.trans t1)
     have Y1 := Zb (Y0.out.tn t1 (by omega))
     have Z1 := Zb (Z0.out.tn t1 (by omega))
     have X1 := Zb (X0.out.tn t1 (by omega))
     have J1 := Zb hk'
     clear h1 t1 hk'
     refine hK1 _ _ ?_
     clear hK1 K1
     refine R_ 0 (fun K1 hK1 => ?_)
     obtain ⟨_, d0, d1, d2, d3, d4, d5, d6, d7, d8⟩ := Y1.out.all
     go_simp
     refine hK1 _ _ ?_
     clear hK1 K1 d0 d1 d2 d3 d4 d5 d6 d7 d8
     refine R_ 3 (fun K1 hK1 => ?_)
     go_simp
     have hb5 := Zd W1 (.cells #[.int .i64 kd, .int .i64 ps, .string nm, .int .i64 t, .int .i64 nz, .int .i64 z, .int .i64 o, .int .u64 bi, .slice a len ck, .int .i64 kd', .int .i64 ps', .string nm', .int .i64 t', .int .i64 nz', .int .i64 z', .int .i64 o', .int .u64 bi', .slice a' len' ck'] 29)
     have kb : (W1.alloc (.cells #[.int .i64 kd, .int .i64 ps, .string nm, .int .i64 t, .int .i64 nz, .int .i64 z, .int .i64 o, .int .u64 bi, .slice a len ck, .int .i64 kd', .int .i64 ps', .string nm', .int .i64 t', .int .i64 nz', .int .i64 z', .int .i64 o', .int .u64 bi', .slice a' len' ck'] 29)).heap[W1.heap.size]? = some (.cells #[.int .i64 kd, .int .i64 ps, .string nm, .int .i64 t, .int .i64 nz, .int .i64 z, .int .i64 o, .int .u64 bi, .slice a len ck, .int .i64 kd', .int .i64 ps', .string nm', .int .i64 t', .int .i64 nz', .int .i64 z', .int .i64 o', .int .u64 bi', .slice a' len' ck'] 29 (0, 0)) := B_ _ _
     have H5 := Zb (H1.out.below hb5)
     have T5 := Zb (T1.out.trans (Tn.of_bel hb5))
     have Z5 := Zb (Z1.out.bel hb5)
     have x5 := X1.out.bel hb5
     have KB := Zb kb
     have J5 := Zb (J1.out.bel hb5)
     obtain ⟨⟨_, _, _, _, _, _, _, _, f8⟩, _, _, _, _, _, _, _, _, c8⟩ := x5.all
     obtain ⟨x6, s6⟩ := Zs x5 8 (.slice (some ⟨W1.heap.size, 0, none⟩) 2 2)
     have x6 : Nod _ b (.int .i64 31) (.int .i64 ps) (.string text) (.int .i64 0) (.int .i64 0) (.int .i64 0) (.int .i64 0) (.int .u64 0) (.slice (some ⟨W1.heap.size, 0, none⟩) 2 2) := x6
     clear kb hb5 x5 J1 H1 T1 Z1 X1 Y1
     refine hK1 _ _ ?_
     clear hK1 K1
     refine T_ 4 (v := ?_) (fun w => ?_) ?_
     rotate_left 1
     · (go_simp <;> with_reducible rfl)
     simp only [Act.put, S_]
     refine R_ 5 (fun K1 hK1 => ?_)
     go_simp
     refine hK1 _ _ ?_
     clear hK1 K1 f8 c8
     refine wpAny_done (by kernel_rfl) ?_ _
     have X6 := Zb x6
     have T6 := Zb (T5.out.own s6 (by omega))
     have H6 := Zb (H5.out.tn s6 (by have := H5.out.big; omega) (by omega) (by omega))
     have Z6 := Zb (Z5.out.tn s6 (by omega))
     have KB6 := Zb ((s6.blk W1.heap.size (Ze KB.out) (by omega)).trans KB.out)
     have J6 := Zb (J5.out.tn s6 hbW)
     clear x6 s6 H5 T5 Z5 KB J5
     generalize hw6 : (W1.alloc _).setCell ⟨b, 8, none⟩ (.slice (some ⟨W1.heap.size, 0, none⟩) 2 2) = w6 at *
     clear hw6
     have hbk := Zb (show w.heap.size + 1 < W1.heap.size by omega)
     generalize W1.heap.size = bk at *
     obtain ⟨_, e0, e1, e2, e3, e4, e5, e6, e7, e8⟩ := X6.out.all
     obtain ⟨⟨p0, p1, p2, p3, p4, p5, p6, p7, p8⟩, q0, q1, q2, q3, q4, q5, q6, q7, q8⟩ := Z6.out.all
     obtain ⟨z9, s9⟩ := Zy Z6.out (.int .i64 31) (.int .i64 ps) (.string text) (.int .i64 0) (.int .i64 0) (.int .i64 0) (.int .i64 0) (.int .u64 0) (.slice (some ⟨bk, 0, none⟩) 2 2)
     have Z9 := Zb z9
     have S9 := Zb s9
     clear z9 s9 Z6 X6
     go_wp2_with fail
     refine Zg (w.heap.size + 1) rfl rfl Z9.out rfl ?_
     refine ⟨_, rfl, ?_, H6.out.tn S9.out (by have := H6.out.big; omega) (by omega) (by omega), T6.out.own S9.out (by omega)⟩
     unfold binN nd Zj
     refine ⟨_, rfl, Yj ((S9.out.blk bk (Ze KB6.out) (by have := hbk.out; omega)).trans KB6.out) (HKL.out.tnS (T6.out.own S9.out (by omega)) hgB) ((J6.out.tn S9.out (by omega)).lowS (fun k hk => hB k (Nat.le_trans (Nat.le_of_lt (show w.heap.size < W0.heap.size by omega)) hk))) (hB _ (by have := hbk.out; omega))⟩
theorem row_treeparserunary {w : World} {p : List Addr} {g gT : Nat} {L : List Tk} {i l : Nat} (h : Ps w p g gT L i l) (hE : Ya L) (b c : Nat) (zs : List ByteArray) (hbg : b ≠ g) (hz : ∀ z ∈ zs, z.size ≠ 0) (hn : zs.length <= 100) (hc : ∀ j, j < zs.length -> w.cell? ⟨b, j, none⟩ = some (.string (zs.getD j ByteArray.empty)))
 (rule : Nat -> Out) (f : Nat) (hf : L.length - i <= f) (hge : ∀ j m j', rule j = .ok m j' -> j <= j') (hr : ∀ j, i <= j -> ZS 205 p g gT L l j (rule j)) :
 Calls Tryz.prog 55 #[.pointer (some ⟨g, 0, none⟩), .func (.func 205) #[.pointer (some ⟨g, 0, none⟩)] #[], .slice (some ⟨b, 0, none⟩) zs.length c] w fun e w' => Zo p g gT L l w e w' (Yx rule zs L f i) := by
 have hgl := h.lt_g
 have hT := h.row.lt
 have hb0 := Zb (Zd w Zh)
 have hz0 : Hid (Nod (w.alloc Zh) w.heap.size (.int .i64 0) (.int .i64 0) (.string ⟨#[]⟩) (.int .i64 0) (.int .i64 0) (.int .i64 0) (.int .i64 0) (.int .u64 0) (.slice none 0 0)) := B_ _ _
 have H0 := Zb (h.below hb0.out)
 have HR := Zb hr
 have HC := Zb hc
 have HE := Zb hE
 have HZ := Zb hz
 have HG := Zb hge
 generalize hw : Yx rule zs L f i = out
 unfold Yx at hw
 generalize hq : rule i = q at hw
 have HQ := Zb hq
 have HW := Zb hw
 have hR0 := HR.out i (Nat.le_refl _)
 rw [hq] at hR0
 have HR0 := Zb hR0
 have hf := Zb hf
 clear h hr hc hE hz hge hw hq hR0
 unfold Zh at *
 obtain ⟨nz0, hnz⟩ : ∃ nz0, zs.length = nz0 := ⟨_, rfl⟩
 rw [hnz]
 have HN := Zb hnz
 rw [hnz] at hn
 clear hnz
 go_enter Tryz.func55, Tryz.ntmps55
 go_wp2_with fail
 generalize w.alloc _ = w0 at *
 cases q with
 | bad k j =>
  have hw := HW.out
  subst hw
  refine (HR0.out _ H0.out).mono ?_
  rintro e w1 ⟨rfl, r2⟩
  exact ⟨rfl, rfl, (Tn.of_bel hb0.out).trans r2⟩
 | ok n j0 =>
  refine (HR0.out _ H0.out).mono ?_
  rintro e w1 ⟨v, rfl, hv, r1, r2⟩
  obtain ⟨kd, ps, nm, t, nz, z, o, bi, ks⟩ := n
  unfold Zj at hv
  obtain ⟨s, rfl, hk⟩ := hv
  obtain ⟨a, len, ck, rfl⟩ := hk.shape
  have hw0 : w.heap.size < w0.heap.size := Ze hz0.out
  have hw1 : w0.heap.size <= w1.heap.size := r2.size
  have hb2 := Zd w1 (.cells #[.int .i64 kd, .int .i64 ps, .string nm, .int .i64 t, .int .i64 nz, .int .i64 z, .int .i64 o, .int .u64 bi, .slice a len ck] 29)
  have I0 : Hid (Rr w (w1.alloc (.cells #[.int .i64 kd, .int .i64 ps, .string nm, .int .i64 t, .int .i64 nz, .int .i64 z, .int .i64 o, .int .u64 bi, .slice a len ck] 29)) p g gT L l j0 w1.heap.size kd ps nm t nz z o bi ks a len ck) :=
   ⟨r1.below hb2, ((Tn.of_bel hb0.out).trans r2).trans (Tn.of_bel hb2), (hz0.out.tn r2 (by omega)).bel hb2, B_ _ _, Zt.keep (S := fun k => Fr w0.heap.size k /\ k < w1.heap.size) (fun k hk => ⟨Nat.le_trans hw0 hk.1, Nat.ne_of_lt hk.2⟩) (fun k _ h2 => hb2.block k h2) _ _ (hk.within)⟩
  clear hk r1 r2 hb2 hb0 hz0 H0 HR0
  go_wp2_with fail
  generalize w1.alloc _ = w2 at *
  generalize w1.heap.size = b1 at *
  have hj0 := HG.out i _ j0 HQ.out
  have S0 : Hid (∃ f', L.length - j0 <= f' /\ rowF rule zs L f' j0 (.mk kd ps nm t nz z o bi ks) = out) := ⟨f, Nat.le_trans (by omega) hf.out, HW.out⟩
  have hb1 : Hid (w.heap.size < b1) := by show _ < _; omega
  clear HW HQ hf hw0 hw1
  go_loopw [] (fun wr => ∃ (j : Nat) (kd ps : Int) (nm : ByteArray) (t nz z o bi : Int) (ks : List Nd) (a : Option Addr) (len ck : Nat), i <= j /\ Hid (Rr w wr p g gT L l j b1 kd ps nm t nz z o bi ks a len ck /\ ∃ f', L.length - j <= f' /\ rowF rule zs L f' j (.mk kd ps nm t nz z o bi ks) = out)) (fun wr => L.length - nextAt wr g)
  case atStart => exact ⟨j0, kd, ps, nm, t, nz, z, o, bi, ks, a, len, ck, hj0, I0.out, S0.out⟩
  case round =>
   clear I0 S0 hj0
   obtain ⟨j, kd, ps, nm, t, nz, z, o, bi, ks, a, len, ck, hij, I⟩ := hrel
   have hB1 := hb1.out
   go_wp2_with fail
   refine (sees_any I.out.1.pr b nz0 c zs HN.out hn (fun q hq => I.out.1.tn.cell hbg (HC.out q hq))).mono ?_
   rintro e w3 ⟨rfl, hb3⟩
   have H3 := Zb (I.out.1.pr.below hb3)
   have T3 := Zb (I.out.1.tn.trans (Tn.of_bel hb3))
   have Z3 := Zb (I.out.1.zr.bel hb3)
   have X3 := Zb (I.out.1.vr.bel hb3)
   have K3 := Zb (I.out.1.kv.bel hb3)
   have F3 := Zb I.out.2
   have N3 := Zb I.out.1.pr.next
   clear hb3 I
   by_cases hs : has L j zs = true
   · rw [show Lib.containsS zs (Zk L j).text = true from hs]
     have hj1 := ZF HE.out H3.out.lt HZ.out hs
     obtain ⟨f', hf1, hf2⟩ := F3.out
     have hlt := H3.out.lt
     obtain ⟨f2, rfl⟩ : ∃ f2, f' = f2 + 1 := ⟨f' - 1, by omega⟩
     unfold rowF at hf2
     rw [if_pos hs] at hf2
     obtain ⟨q, hq⟩ : ∃ q, rule (j + 1) = q := ⟨_, rfl⟩
     rw [hq] at hf2
     have hb3 : b1 < w3.heap.size := Ze X3.out
     have hw3 := T3.out.size
     have HB := Zb (binary_treeparserunary H3.out (Of (w.heap.size + 1) b1) (fun k hk => ⟨by omega, by omega⟩) (fun h => by have := h.1; omega) (.mk kd ps nm t nz z o bi ks) _ (by unfold Zj; exact ⟨_, rfl, K3.out⟩) hj1 q (by rw [← hq]; exact HR.out (j + 1) (by omega)))
     have HF := Zb (And.intro hf1 hf2)
     have HQ := Zb hq
     obtain ⟨_, d0, d1, d2, d3, d4, d5, d6, d7, d8⟩ := X3.out.all
     clear hs hf1 hf2 hq F3 K3
     go_wp2_with fail
     cases q with
     | bad k j' =>
      have hw := HF.out.2
      subst hw
      refine HB.out.mono ?_
      rintro e w4 ⟨rfl, r2⟩
      exact ⟨rfl, rfl, T3.out.trans r2⟩
     | ok m j' =>
      refine HB.out.mono ?_
      rintro e w4 ⟨v, rfl, hv, r1, r2⟩
      unfold binN nd Zj at hv
      obtain ⟨s, rfl, hk⟩ := hv
      obtain ⟨a', len', ck', rfl⟩ := hk.shape
      unfold Nd.pos
      have hw4 := r2.size
      have x4 := X3.out.tn r2 (by omega)
      have Z4 := Zb (Z3.out.tn r2 (by omega))
      have T4 := Zb (T3.out.trans r2)
      obtain ⟨⟨p0, p1, p2, p3, p4, p5, p6, p7, p8⟩, q0, q1, q2, q3, q4, q5, q6, q7, q8⟩ := x4.all
      obtain ⟨x5, s5⟩ := Zy x4 (.int .i64 31) (.int .i64 ps) (.string (tx L j)) (.int .i64 0) (.int .i64 0) (.int .i64 0) (.int .i64 0) (.int .u64 0) (.slice a' len' ck')
      have J5 : Hid (Rr w _ p g gT L l j' b1 31 ps (tx L j) 0 0 0 0 0 [.mk kd ps nm t nz z o bi ks, m] a' len' ck') :=
       ⟨r1.tn s5 (by have := r1.big; omega) (by omega) (by have := r1.row.lt; omega), T4.out.own s5 (by omega), Z4.out.tn s5 (by omega), x5, hk.tnS s5 (fun h => h.2 rfl)⟩
      have hjj := HG.out _ _ _ HQ.out
      clear d0 d1 d2 d3 d4 d5 d6 d7 d8 x4 x5 s5 r1 r2 hk HB Z4 T4 H3 T3 Z3 X3
      go_wp2_with fail
      go_roundw
      case rel => exact ⟨j', 31, ps, tx L j, 0, 0, 0, 0, 0, _, a', len', ck', by omega, J5.out, f2, by have := HF.out.1; omega, HF.out.2⟩
      case measure =>
       rw [J5.out.pr.next, N3.out]
       omega
   · have hs : has L j zs = false := by simpa using hs
     rw [show Lib.containsS zs (Zk L j).text = false from hs]
     obtain ⟨f', hf1, hf2⟩ := F3.out
     have hlt := H3.out.lt
     obtain ⟨f2, rfl⟩ : ∃ f2, f' = f2 + 1 := ⟨f' - 1, by omega⟩
     unfold rowF at hf2
     rw [hs, if_neg (by decide)] at hf2
     subst hf2
     obtain ⟨_, d0, d1, d2, d3, d4, d5, d6, d7, d8⟩ := X3.out.all
     obtain ⟨⟨p0, p1, p2, p3, p4, p5, p6, p7, p8⟩, q0, q1, q2, q3, q4, q5, q6, q7, q8⟩ := Z3.out.all
     obtain ⟨z9, s9⟩ := Zy Z3.out (.int .i64 kd) (.int .i64 ps) (.string nm) (.int .i64 t) (.int .i64 nz) (.int .i64 z) (.int .i64 o) (.int .u64 bi) (.slice a len ck)
     have Z9 := Zb z9
     have S9 := Zb s9
     clear z9 s9 Z3 X3 hs hf1 F3
     go_wp2_with fail
     refine Zg w.heap.size rfl rfl Z9.out rfl ?_
     refine ⟨_, rfl, ?_, H3.out.tn S9.out (by have := H3.out.big; omega) (by omega) (by omega), T3.out.own S9.out (Nat.le_refl _)⟩
     unfold Zj
     exact ⟨_, rfl, (K3.out.tnS S9.out (fun h => by have := h.1; omega)).lowS (fun k hk => Nat.le_trans (Nat.le_succ _) hk.1)⟩
def prodT : List ByteArray := [⟨#[42]⟩, ⟨#[47]⟩, ⟨#[37]⟩]
theorem prod_row {w : World} {p : List Addr} {g gT : Nat} {L : List Tk} {i l : Nat} (h : Ps w p g gT L i l) (hE : Ya L) (rule : Nat -> Out) (f : Nat) (hf : L.length - i <= f) (hge : ∀ j m j', rule j = .ok m j' -> j <= j') (hr : ∀ j, i <= j -> ZS 205 p g gT L l j (rule j)) :
    Calls Tryz.prog 174 #[.pointer (some ⟨g, 0, none⟩)] w fun e w' => Zo p g gT L l w e w' (Yx rule prodT L f i) := by
  have hgl := h.lt_g
  have hT := h.row.lt
  have hb0 := Zb (Zd w Zh)
  have hz0 : Hid (Nod (w.alloc Zh) w.heap.size (.int .i64 0) (.int .i64 0) (.string ⟨#[]⟩) (.int .i64 0) (.int .i64 0) (.int .i64 0) (.int .i64 0) (.int .u64 0) (.slice none 0 0)) := B_ _ _
  have H0 := Zb (h.below hb0.out)
  have HR : Hid (∀ w0, Ps w0 p g gT L i l -> Calls Tryz.prog 55 #[.pointer (some ⟨g, 0, none⟩), .func (.func 205) #[.pointer (some ⟨g, 0, none⟩)] #[], .slice (some ⟨w0.heap.size, 0, none⟩) 3 3] (w0.alloc (.cells #[.string ⟨#[42]⟩, .string ⟨#[47]⟩, .string ⟨#[37]⟩] 9)) fun e w' => Zo p g gT L l (w0.alloc (.cells #[.string ⟨#[42]⟩, .string ⟨#[47]⟩, .string ⟨#[37]⟩] 9)) e w' (Yx rule prodT L f i)) := fun w0 h0 =>
    row_treeparserunary (h0.below (Zd w0 _)) hE w0.heap.size 3 prodT (Nat.ne_of_gt h0.lt_g) (by decide) (by decide) (fun j hj => by
      refine Zf (B_ w0 _) j _ ?_
      have hj : j < 3 := hj
      have : j = 0 ∨ j = 1 ∨ j = 2 := by omega
      rcases this with rfl | rfl | rfl <;> rfl) rule f hf hge hr
  generalize Yx rule prodT L f i = r at *
  clear h hr hE hge
  unfold Zh at *
  go_enter Tryz.func174, Tryz.ntmps174
  go_wp2_with fail
  generalize hg0 : w.alloc _ = w0 at *
  have e0 : w0.heap.size = w.heap.size + 1 := by rw [← hg0]; simp
  clear hg0
  rw [← e0]
  have hb1 := Zb (Zd w0 (.cells #[.string ⟨#[42]⟩, .string ⟨#[47]⟩, .string ⟨#[37]⟩] 9))
  cases r with
  | bad k j =>
    refine (HR.out _ H0.out).mono ?_
    rintro e w2 ⟨rfl, r2⟩
    exact ⟨rfl, rfl, (Tn.of_bel (Zc hb0.out hb1.out)).trans r2⟩
  | ok n j =>
    refine (HR.out _ H0.out).mono ?_
    rintro e w2 ⟨v, rfl, hv, r1, r2⟩
    obtain ⟨kd, ps, nm, t, nz, z, o, bi, ks⟩ := n
    unfold Zj at hv
    obtain ⟨s, rfl, hk⟩ := hv
    obtain ⟨a, len, ck, rfl⟩ := hk.shape
    have hw1 := Nat.lt_of_lt_of_le (Ze hz0.out) hb1.out.size
    have H2 := Zb r1
    have T2 := Zb ((Tn.of_bel (Zc hb0.out hb1.out)).trans r2)
    have Z2 := Zb ((hz0.out.bel hb1.out).tn r2 (by omega))
    have K2 := Zb hk
    have hw2 := Zb hw1
    obtain ⟨⟨f0, f1, f2, f3, f4, f5, f6, f7, f8⟩, b0, b1, b2, b3, b4, b5, b6, b7, b8⟩ := Z2.out.all
    obtain ⟨z9, s9⟩ := Zy Z2.out (.int .i64 kd) (.int .i64 ps) (.string nm) (.int .i64 t) (.int .i64 nz) (.int .i64 z) (.int .i64 o) (.int .u64 bi) (.slice a len ck)
    have Z9 := Zb z9
    have S9 := Zb s9
    clear z9 s9 Z2 r1 r2 hk HR H0 hb0 hb1 hz0 e0 hw1
    go_wp2_with fail
    refine Zg w.heap.size rfl rfl Z9.out rfl ?_
    refine ⟨_, rfl, ?_, H2.out.tn S9.out (by have := H2.out.big; omega) (by omega) (by omega), T2.out.own S9.out (Nat.le_refl _)⟩
    unfold Zj
    exact ⟨_, rfl, (K2.out.tn S9.out hw2.out).low (Nat.le_of_lt hw2.out)⟩
theorem binary_treeparsersum {w : World} {p : List Addr} {g gT : Nat} {L : List Tk} {i l : Nat} (h : Ps w p g gT L i l) (B : Nat -> Prop) (hB : ∀ k, w.heap.size <= k -> B k) (hgB : ¬ B g) (n : Nd) (v : Value) (hn : Zj w B n v) (hi : i + 1 < L.length) (r : Out) (hr : ZS 135 p g gT L l (i + 1) r) :
 Calls Tryz.prog 93 #[.pointer (some ⟨g, 0, none⟩), v, .func (.func 135) #[.pointer (some ⟨g, 0, none⟩)] #[]] w fun e w' => PostB B p g gT L l w e w' (binO n (tx L i) r) := by
 obtain ⟨kd, ps, nm, t, nz, z, o, bi, ks⟩ := n
 unfold Zj at hn
 obtain ⟨s, rfl, hk⟩ := hn
 obtain ⟨a, len, ck, rfl⟩ := hk.shape
 have HKL := Zb hk
 have hgl := h.lt_g
 have hT := h.row.lt
 have hb0 := Zd w (.cells #[.int .i64 kd, .int .i64 ps, .string nm, .int .i64 t, .int .i64 nz, .int .i64 z, .int .i64 o, .int .u64 bi, .slice a len ck] 29)
 have y0 : Nod (w.alloc (.cells #[.int .i64 kd, .int .i64 ps, .string nm, .int .i64 t, .int .i64 nz, .int .i64 z, .int .i64 o, .int .u64 bi, .slice a len ck] 29)) w.heap.size (.int .i64 kd) (.int .i64 ps) (.string nm) (.int .i64 t) (.int .i64 nz) (.int .i64 z) (.int .i64 o) (.int .u64 bi) (.slice a len ck) := B_ _ _
 have s0 : (w.alloc (.cells #[.int .i64 kd, .int .i64 ps, .string nm, .int .i64 t, .int .i64 nz, .int .i64 z, .int .i64 o, .int .u64 bi, .slice a len ck] 29)).heap.size = w.heap.size + 1 := by simp
 have H0 := h.below hb0
 have K0 := hk.bel hb0
 generalize hw1 : w.alloc _ = w1 at *
 have hb1 := Zd w1 (.cells #[.int .i64 0, .int .i64 0, .string ⟨#[]⟩, .int .i64 0, .int .i64 0, .int .i64 0, .int .i64 0, .int .u64 0, .slice none 0 0] 29)
 have z1 : Nod (w1.alloc (.cells #[.int .i64 0, .int .i64 0, .string ⟨#[]⟩, .int .i64 0, .int .i64 0, .int .i64 0, .int .i64 0, .int .u64 0, .slice none 0 0] 29)) w1.heap.size (.int .i64 0) (.int .i64 0) (.string ⟨#[]⟩) (.int .i64 0) (.int .i64 0) (.int .i64 0) (.int .i64 0) (.int .u64 0) (.slice none 0 0) := B_ _ _
 have s1 : (w1.alloc (.cells #[.int .i64 0, .int .i64 0, .string ⟨#[]⟩, .int .i64 0, .int .i64 0, .int .i64 0, .int .i64 0, .int .u64 0, .slice none 0 0] 29)).heap.size = w.heap.size + 1 + 1 := by simp [s0]
 rw [s0] at z1
 have y1 := y0.bel hb1
 have H1 := Zb (H0.below hb1)
 have K1 := Zb (K0.bel hb1)
 have B1 := Zb (Zc hb0 hb1)
 subst hw1
 have HH := Zb (fun w (h : Ps w p g gT L i l) => Zp h)
 have HR := Zb hr
 clear h hr hk H0 K0 hb0 hb1 y0 s0
 unfold tx at *
 generalize Zk L i = tk at *
 obtain ⟨kind, text, nn, bits_, pos⟩ := tk
 dsimp only [Tk.val] at *
 have hf1 := tf1 (.int .i64 kind) (.string text) (.int .i64 nn) (.int .u64 bits_) (.int .i64 pos)
 go_enter Tryz.func93, Tryz.ntmps93
 go_wp2_with fail
 generalize (w.alloc _).alloc _ = w2 at *
 obtain ⟨_, y00, y01, _⟩ := y1.all
 have Y1 := Zb y1
 have Z1 := Zb z1
 clear y1 z1
 go_cut [7] from 8 to 13 (fun x wc => ∃ b, x = .pointer (some ⟨b, 0, none⟩) /\ Hid (Nod wc b (.int .i64 31) (.int .i64 ps) (.string text) (.int .i64 0) (.int .i64 0) (.int .i64 0) (.int .i64 0) (.int .u64 0) (.slice none 0 0) /\ Below w2.heap.size w2 wc /\ w2.heap.size <= b))
 case first =>
  refine wp_region_any ZI ?_
  change wpAny _ _ _ _ _ _ _ (World.drew _)
  have H0 := Zb H1.out.drew
  have Y0 : Hid (Nod w2.drew w.heap.size (.int .i64 kd) (.int .i64 ps) (.string nm) (.int .i64 t) (.int .i64 nz) (.int .i64 z) (.int .i64 o) (.int .u64 bi) (.slice a len ck)) := Y1.out.drew
  have B0 : Hid (Below w2.heap.size w2 w2.drew) := Zm (Below.refl _ _)
  generalize World.drew w2 = W0 at *
  refine T_ 0 (v := ?_) (fun w => ?_) ?_
  rotate_left 1
  · (go_simp <;> with_reducible rfl)
  simp only [Act.put, S_]
  refine T_ 2 (v := ?_) (fun w => ?_) ?_
  rotate_left 1
  · (go_simp <;> with_reducible rfl)
  simp only [Act.put, S_]
  refine wpAny_ready (rs := [1, 3, 6]) (by kernel_rfl) (by decide) ?_
  refine AllReady.cons rfl (fun K1 hK1 => ?_) (AllReady.cons rfl (fun K1 hK1 => ?_) (AllReady.cons rfl (fun K1 hK1 => ?_) AllReady.nil))
  · obtain ⟨_, _, yq, _⟩ := Y0.out.all
    go_simp
    refine hK1 _ _ ?_
    clear hK1 K1 yq
    refine wpAny_ready (rs := [3, 6]) (by kernel_rfl) (by decide) ?_
    refine AllReady.cons rfl (fun K1 hK1 => ?_) (AllReady.cons rfl (fun K1 hK1 => ?_) AllReady.nil)
    · go_simp
      refine (HH.out _ H0.out).mono ?_
      rintro e W1 ⟨rfl, hb⟩
      have H1 := Zb (H0.out.below hb)
      have Y1 := Zb (Y0.out.bel hb)
      have B1 := Zb (Zc B0.out hb)
      clear hb
      refine hK1 _ _ ?_
      clear hK1 K1
      refine T_ 4 (v := ?_) (fun w => ?_) ?_
      rotate_left 1
      · (go_simp <;> with_reducible rfl)
      simp only [Act.put, S_]
      refine T_ 5 (v := ?_) (fun w => ?_) ?_
      rotate_left 1
      · (go_simp <;> with_reducible rfl)
      simp only [Act.put, S_]
      refine R_ 6 (fun K1 hK1 => ?_)
      go_simp
      have hb := Zd W1 (.cells #[.int .i64 0, .int .i64 0, .string ⟨#[]⟩, .int .i64 0, .int .i64 0, .int .i64 0, .int .i64 0, .int .u64 0, .slice none 0 0] 29)
      have X2 : Hid (Nod (W1.alloc (.cells #[.int .i64 0, .int .i64 0, .string ⟨#[]⟩, .int .i64 0, .int .i64 0, .int .i64 0, .int .i64 0, .int .u64 0, .slice none 0 0] 29)) W1.heap.size (.int .i64 0) (.int .i64 0) (.string ⟨#[]⟩) (.int .i64 0) (.int .i64 0) (.int .i64 0) (.int .i64 0) (.int .u64 0) (.slice none 0 0)) := B_ _ _
      have H2 := Zb (H1.out.below hb)
      have Y2 := Zb (Y1.out.bel hb)
      have B2 := Zb (Zc B1.out hb)
      have LE : Hid (w2.heap.size <= W1.heap.size) := B1.out.size
      clear hb
      generalize W1.alloc _ = W2 at *
      generalize W1.heap.size = b at *
      refine hK1 _ _ ?_
      clear hK1 K1
      refine R_ 7 (fun K1 hK1 => ?_)
      obtain ⟨⟨p0, p1, p2, p3, p4, p5, p6, p7, p8⟩, q0, q1, q2, q3, q4, q5, q6, q7, q8⟩ := X2.out.all
      go_simp
      refine hK1 _ _ ?_
      clear hK1 K1 p0 p1 p2 p3 p4 p5 p6 p7 p8 q0 q1 q2 q3 q4 q5 q6 q7 q8
      refine wpAny_done (by kernel_rfl) ?_ _
      go_wp2_with fail
      go_meet
      case rel =>
       obtain ⟨z9, s9⟩ := Zy X2.out (.int .i64 31) (.int .i64 ps) (.string text) (.int .i64 0) (.int .i64 0) (.int .i64 0) (.int .i64 0) (.int .u64 0) (.slice none 0 0)
       exact ⟨_, rfl, z9, B2.out.trans (s9.bel LE.out B2.out.size), LE.out⟩
    · go_simp
      have hb := Zd W0 (.cells #[.int .i64 0, .int .i64 0, .string ⟨#[]⟩, .int .i64 0, .int .i64 0, .int .i64 0, .int .i64 0, .int .u64 0, .slice none 0 0] 29)
      have X1 : Hid (Nod (W0.alloc (.cells #[.int .i64 0, .int .i64 0, .string ⟨#[]⟩, .int .i64 0, .int .i64 0, .int .i64 0, .int .i64 0, .int .u64 0, .slice none 0 0] 29)) W0.heap.size (.int .i64 0) (.int .i64 0) (.string ⟨#[]⟩) (.int .i64 0) (.int .i64 0) (.int .i64 0) (.int .i64 0) (.int .u64 0) (.slice none 0 0)) := B_ _ _
      have H1 := Zb (H0.out.below hb)
      have Y1 := Zb (Y0.out.bel hb)
      have B1 := Zb (Zc B0.out hb)
      have LE : Hid (w2.heap.size <= W0.heap.size) := B0.out.size
      clear hb
      generalize W0.alloc _ = W1 at *
      generalize W0.heap.size = b at *
      refine hK1 _ _ ?_
      clear hK1 K1
      refine R_ 3 (fun K1 hK1 => ?_)
      go_simp
      refine (HH.out _ H1.out).mono ?_
      rintro e W2 ⟨rfl, hb⟩
      have H2 := Zb (H1.out.below hb)
      have Y2 := Zb (Y1.out.bel hb)
      have B2 := Zb (Zc B1.out hb)
      have X2 := Zb (X1.out.bel hb)
      clear hb
      refine hK1 _ _ ?_
      clear hK1 K1
      refine T_ 4 (v := ?_) (fun w => ?_) ?_
      rotate_left 1
      · (go_simp <;> with_reducible rfl)
      simp only [Act.put, S_]
      refine T_ 5 (v := ?_) (fun w => ?_) ?_
      rotate_left 1
      · (go_simp <;> with_reducible rfl)
      simp only [Act.put, S_]
      refine R_ 7 (fun K1 hK1 => ?_)
      obtain ⟨⟨p0, p1, p2, p3, p4, p5, p6, p7, p8⟩, q0, q1, q2, q3, q4, q5, q6, q7, q8⟩ := X2.out.all
      go_simp
      refine hK1 _ _ ?_
      clear hK1 K1 p0 p1 p2 p3 p4 p5 p6 p7 p8 q0 q1 q2 q3 q4 q5 q6 q7 q8
      refine wpAny_done (by kernel_rfl) ?_ _
      go_wp2_with fail
      go_meet
      case rel =>
       obtain ⟨z9, s9⟩ := Zy X2.out (.int .i64 31) (.int .i64 ps) (.string text) (.int .i64 0) (.int .i64 0) (.int .i64 0) (.int .i64 0) (.int .u64 0) (.slice none 0 0)
       exact ⟨_, rfl, z9, B2.out.trans (s9.bel LE.out B2.out.size), LE.out⟩
  · go_simp
    refine (HH.out _ H0.out).mono ?_
    rintro e W1 ⟨rfl, hb⟩
    have H1 := Zb (H0.out.below hb)
    have Y1 := Zb (Y0.out.bel hb)
    have B1 := Zb (Zc B0.out hb)
    clear hb
    refine hK1 _ _ ?_
    clear hK1 K1
    refine T_ 4 (v := ?_) (fun w => ?_) ?_
    rotate_left 1
    · (go_simp <;> with_reducible rfl)
    simp only [Act.put, S_]
    refine wpAny_ready (rs := [1, 6]) (by kernel_rfl) (by decide) ?_
    refine AllReady.cons rfl (fun K1 hK1 => ?_) (AllReady.cons rfl (fun K1 hK1 => ?_) AllReady.nil)
    · obtain ⟨_, _, yq, _⟩ := Y1.out.all
      go_simp
      refine hK1 _ _ ?_
      clear hK1 K1 yq
      refine T_ 5 (v := ?_) (fun w => ?_) ?_
      rotate_left 1
      · (go_simp <;> with_reducible rfl)
      simp only [Act.put, S_]
      refine R_ 6 (fun K1 hK1 => ?_)
      go_simp
      have hb := Zd W1 (.cells #[.int .i64 0, .int .i64 0, .string ⟨#[]⟩, .int .i64 0, .int .i64 0, .int .i64 0, .int .i64 0, .int .u64 0, .slice none 0 0] 29)
      have X2 : Hid (Nod (W1.alloc (.cells #[.int .i64 0, .int .i64 0, .string ⟨#[]⟩, .int .i64 0, .int .i64 0, .int .i64 0, .int .i64 0, .int .u64 0, .slice none 0 0] 29)) W1.heap.size (.int .i64 0) (.int .i64 0) (.string ⟨#[]⟩) (.int .i64 0) (.int .i64 0) (.int .i64 0) (.int .i64 0) (.int .u64 0) (.slice none 0 0)) := B_ _ _
      have H2 := Zb (H1.out.below hb)
      have Y2 := Zb (Y1.out.bel hb)
      have B2 := Zb (Zc B1.out hb)
      have LE : Hid (w2.heap.size <= W1.heap.size) := B1.out.size
      clear hb
      generalize W1.alloc _ = W2 at *
      generalize W1.heap.size = b at *
      refine hK1 _ _ ?_
      clear hK1 K1
      refine R_ 7 (fun K1 hK1 => ?_)
      obtain ⟨⟨p0, p1, p2, p3, p4, p5, p6, p7, p8⟩, q0, q1, q2, q3, q4, q5, q6, q7, q8⟩ := X2.out.all
      go_simp
      refine hK1 _ _ ?_
      clear hK1 K1 p0 p1 p2 p3 p4 p5 p6 p7 p8 q0 q1 q2 q3 q4 q5 q6 q7 q8
      refine wpAny_done (by kernel_rfl) ?_ _
      go_wp2_with fail
      go_meet
      case rel =>
       obtain ⟨z9, s9⟩ := Zy X2.out (.int .i64 31) (.int .i64 ps) (.string text) (.int .i64 0) (.int .i64 0) (.int .i64 0) (.int .i64 0) (.int .u64 0) (.slice none 0 0)
       exact ⟨_, rfl, z9, B2.out.trans (s9.bel LE.out B2.out.size), LE.out⟩
    · go_simp
      have hb := Zd W1 (.cells #[.int .i64 0, .int .i64 0, .string ⟨#[]⟩, .int .i64 0, .int .i64 0, .int .i64 0, .int .i64 0, .int .u64 0, .slice none 0 0] 29)
      have X2 : Hid (Nod (W1.alloc (.cells #[.int .i64 0, .int .i64 0, .string ⟨#[]⟩, .int .i64 0, .int .i64 0, .int .i64 0, .int .i64 0, .int .u64 0, .slice none 0 0] 29)) W1.heap.size (.int .i64 0) (.int .i64 0) (.string ⟨#[]⟩) (.int .i64 0) (.int .i64 0) (.int .i64 0) (.int .i64 0) (.int .u64 0) (.slice none 0 0)) := B_ _ _
      have H2 := Zb (H1.out.below hb)
      have Y2 := Zb (Y1.out.bel hb)
      have B2 := Zb (Zc B1.out hb)
      have LE : Hid (w2.heap.size <= W1.heap.size) := B1.out.size
      clear hb
      generalize W1.alloc _ = W2 at *
      generalize W1.heap.size = b at *
      refine hK1 _ _ ?_
      clear hK1 K1
      refine R_ 1 (fun K1 hK1 => ?_)
      obtain ⟨_, _, yq, _⟩ := Y2.out.all
      go_simp
      refine hK1 _ _ ?_
      clear hK1 K1 yq
      refine T_ 5 (v := ?_) (fun w => ?_) ?_
      rotate_left 1
      · (go_simp <;> with_reducible rfl)
      simp only [Act.put, S_]
      refine R_ 7 (fun K1 hK1 => ?_)
      obtain ⟨⟨p0, p1, p2, p3, p4, p5, p6, p7, p8⟩, q0, q1, q2, q3, q4, q5, q6, q7, q8⟩ := X2.out.all
      go_simp
      refine hK1 _ _ ?_
      clear hK1 K1 p0 p1 p2 p3 p4 p5 p6 p7 p8 q0 q1 q2 q3 q4 q5 q6 q7 q8
      refine wpAny_done (by kernel_rfl) ?_ _
      go_wp2_with fail
      go_meet
      case rel =>
       obtain ⟨z9, s9⟩ := Zy X2.out (.int .i64 31) (.int .i64 ps) (.string text) (.int .i64 0) (.int .i64 0) (.int .i64 0) (.int .i64 0) (.int .u64 0) (.slice none 0 0)
       exact ⟨_, rfl, z9, B2.out.trans (s9.bel LE.out B2.out.size), LE.out⟩
  · go_simp
    have hb := Zd W0 (.cells #[.int .i64 0, .int .i64 0, .string ⟨#[]⟩, .int .i64 0, .int .i64 0, .int .i64 0, .int .i64 0, .int .u64 0, .slice none 0 0] 29)
    have X1 : Hid (Nod (W0.alloc (.cells #[.int .i64 0, .int .i64 0, .string ⟨#[]⟩, .int .i64 0, .int .i64 0, .int .i64 0, .int .i64 0, .int .u64 0, .slice none 0 0] 29)) W0.heap.size (.int .i64 0) (.int .i64 0) (.string ⟨#[]⟩) (.int .i64 0) (.int .i64 0) (.int .i64 0) (.int .i64 0) (.int .u64 0) (.slice none 0 0)) := B_ _ _
    have H1 := Zb (H0.out.below hb)
    have Y1 := Zb (Y0.out.bel hb)
    have B1 := Zb (Zc B0.out hb)
    have LE : Hid (w2.heap.size <= W0.heap.size) := B0.out.size
    clear hb
    generalize W0.alloc _ = W1 at *
    generalize W0.heap.size = b at *
    refine hK1 _ _ ?_
    clear hK1 K1
    refine wpAny_ready (rs := [1, 3]) (by kernel_rfl) (by decide) ?_
    refine AllReady.cons rfl (fun K1 hK1 => ?_) (AllReady.cons rfl (fun K1 hK1 => ?_) AllReady.nil)
    · obtain ⟨_, _, yq, _⟩ := Y1.out.all
      go_simp
      refine hK1 _ _ ?_
      clear hK1 K1 yq
      refine R_ 3 (fun K1 hK1 => ?_)
      go_simp
      refine (HH.out _ H1.out).mono ?_
      rintro e W2 ⟨rfl, hb⟩
      have H2 := Zb (H1.out.below hb)
      have Y2 := Zb (Y1.out.bel hb)
      have B2 := Zb (Zc B1.out hb)
      have X2 := Zb (X1.out.bel hb)
      clear hb
      refine hK1 _ _ ?_
      clear hK1 K1
      refine T_ 4 (v := ?_) (fun w => ?_) ?_
      rotate_left 1
      · (go_simp <;> with_reducible rfl)
      simp only [Act.put, S_]
      refine T_ 5 (v := ?_) (fun w => ?_) ?_
      rotate_left 1
      · (go_simp <;> with_reducible rfl)
      simp only [Act.put, S_]
      refine R_ 7 (fun K1 hK1 => ?_)
      obtain ⟨⟨p0, p1, p2, p3, p4, p5, p6, p7, p8⟩, q0, q1, q2, q3, q4, q5, q6, q7, q8⟩ := X2.out.all
      go_simp
      refine hK1 _ _ ?_
      clear hK1 K1 p0 p1 p2 p3 p4 p5 p6 p7 p8 q0 q1 q2 q3 q4 q5 q6 q7 q8
      refine wpAny_done (by kernel_rfl) ?_ _
      go_wp2_with fail
      go_meet
      case rel =>
       obtain ⟨z9, s9⟩ := Zy X2.out (.int .i64 31) (.int .i64 ps) (.string text) (.int .i64 0) (.int .i64 0) (.int .i64 0) (.int .i64 0) (.int .u64 0) (.slice none 0 0)
       exact ⟨_, rfl, z9, B2.out.trans (s9.bel LE.out B2.out.size), LE.out⟩
    · go_simp
      refine (HH.out _ H1.out).mono ?_
      rintro e W2 ⟨rfl, hb⟩
      have H2 := Zb (H1.out.below hb)
      have Y2 := Zb (Y1.out.bel hb)
      have B2 := Zb (Zc B1.out hb)
      have X2 := Zb (X1.out.bel hb)
      clear hb
      refine hK1 _ _ ?_
      clear hK1 K1
      refine T_ 4 (v := ?_) (fun w => ?_) ?_
      rotate_left 1
      · (go_simp <;> with_reducible rfl)
      simp only [Act.put, S_]
      refine R_ 1 (fun K1 hK1 => ?_)
      obtain ⟨_, _, yq, _⟩ := Y2.out.all
      go_simp
      refine hK1 _ _ ?_
      clear hK1 K1 yq
      refine T_ 5 (v := ?_) (fun w => ?_) ?_
      rotate_left 1
      · (go_simp <;> with_reducible rfl)
      simp only [Act.put, S_]
      refine R_ 7 (fun K1 hK1 => ?_)
      obtain ⟨⟨p0, p1, p2, p3, p4, p5, p6, p7, p8⟩, q0, q1, q2, q3, q4, q5, q6, q7, q8⟩ := X2.out.all
      go_simp
      refine hK1 _ _ ?_
      clear hK1 K1 p0 p1 p2 p3 p4 p5 p6 p7 p8 q0 q1 q2 q3 q4 q5 q6 q7 q8
      refine wpAny_done (by kernel_rfl) ?_ _
      go_wp2_with fail
      go_meet
      case rel =>
       obtain ⟨z9, s9⟩ := Zy X2.out (.int .i64 31) (.int .i64 ps) (.string text) (.int .i64 0) (.int .i64 0) (.int .i64 0) (.int .i64 0) (.int .u64 0) (.slice none 0 0)
       exact ⟨_, rfl, z9, B2.out.trans (s9.bel LE.out B2.out.size), LE.out⟩
 case rest =>
  obtain ⟨b, rfl, hX⟩ := hcut
  have H2 := Zb (H1.out.below hX.out.2.1)
  have Y2 := Zb (Y1.out.bel hX.out.2.1)
  have Z2 := Zb (Z1.out.bel hX.out.2.1)
  have K2 := Zb (K1.out.bel hX.out.2.1)
  have T2 := Zb (Tn.of_bel (g := g) (Zc B1.out hX.out.2.1))
  have X2 := Zb hX.out.1
  have hb : w.heap.size + 1 + 1 <= b := by have := hX.out.2.2; omega
  obtain ⟨r1, r2⟩ := H2.out.set (i + 1) hi ((i : Int) + 1) (by omega)
  have H3 := Zb r1
  have T3 := Zb (T2.out.trans r2)
  have Y3 := Zb (Y2.out.tn r2 (by omega))
  have Z3 := Zb (Z2.out.tn r2 (by omega))
  have X3 := Zb (X2.out.tn r2 (by omega))
  obtain ⟨cap, _, c1, _, cf, _, _⟩ := H2.out.cells
  have fc1 := cf 1
  have hL := H2.out.len
  obtain ⟨_, d0, d1, d2, d3, d4, d5, d6, d7, d8⟩ := Y3.out.all
  clear cf r1 r2 H2 T2 Z2 X2 Y2 K2 hX H1 Y1 Z1 K1 B1 HH hf1 y00 y01
  go_wp2_with fail
  clear c1 fc1 hL d0 d1 d2 d3 d4 d5 d6 d7 d8
  generalize wc.setCell ⟨g, 1, none⟩ (.int .i64 ((i : Int) + 1)) = w3 at *
  have H0 := Zb H3.out.drew
  have T0 := Zb T3.out.drew
  have Y0 := Zb Y3.out.drew
  have Z0 := Zb Z3.out.drew
  have X0 := Zb X3.out.drew
  clear H3 T3 Y3 Z3 X3
  cases r with
  | bad k j =>
   refine wp_region_any ZI ?_
   change wpAny _ _ _ _ _ _ _ (World.drew _)
   generalize World.drew w3 = W0 at *
   refine T_ 1 (v := ?_) (fun w => ?_) ?_
   rotate_left 1
   · (go_simp <;> with_reducible rfl)
   simp only [Act.put, S_]
   refine wpAny_ready (rs := [0, 2]) (by kernel_rfl) (by decide) ?_
   refine AllReady.cons rfl (fun K1 hK1 => ?_) (AllReady.cons rfl (fun K1 hK1 => ?_) AllReady.nil)
   · obtain ⟨_, d0, d1, d2, d3, d4, d5, d6, d7, d8⟩ := Y0.out.all
     go_simp
     refine hK1 _ _ ?_
     clear hK1 K1 d0 d1 d2 d3 d4 d5 d6 d7 d8
     refine R_ 2 (fun K1 hK1 => ?_)
     go_simp
     refine (HR.out _ H0.out).mono ?_
     rintro e W1 ⟨rfl, t1⟩
     exact ⟨rfl, rfl, T0.out.trans t1⟩
   · go_simp
     refine (HR.out _ H0.out).mono ?_
     rintro e W1 ⟨rfl, t1⟩
     exact ⟨rfl, rfl, T0.out.trans t1⟩
  | ok m j =>
   obtain ⟨kd', ps', nm', t', nz', z', o', bi', ks'⟩ := m
   refine wp_region_any ZI ?_
   change wpAny _ _ _ _ _ _ _ (World.drew _)
   generalize World.drew w3 = W0 at *
   refine T_ 1 (v := ?_) (fun w => ?_) ?_
   rotate_left 1
   · (go_simp <;> with_reducible rfl)
   simp only [Act.put, S_]
   refine wpAny_ready (rs := [0, 2]) (by kernel_rfl) (by decide) ?_
   refine AllReady.cons rfl (fun K1 hK1 => ?_) (AllReady.cons rfl (fun K1 hK1 => ?_) AllReady.nil)
   · obtain ⟨_, d0, d1, d2, d3, d4, d5, d6, d7, d8⟩ := Y0.out.all
     go_simp
     refine hK1 _ _ ?_
     clear hK1 K1 d0 d1 d2 d3 d4 d5 d6 d7 d8
     refine R_ 2 (fun K1 hK1 => ?_)
     go_simp
     refine (HR.out _ H0.out).mono ?_
     rintro e W1 ⟨v, rfl, hv, h1, t1⟩
     unfold Zj at hv
     obtain ⟨s', rfl, hk'⟩ := hv
     obtain ⟨a', len', ck', rfl⟩ := hk'.shape
     have hwz : W0.heap.size <= W1.heap.size := t1.size
     have hbW : b < W0.heap.size := Ze X0.out
     have H1 := Zb h1
     have T1 := Zb (T0.out.trans t1)
     have Y1 := Zb (Y0.out.tn t1 (by omega))
     have Z1 := Zb (Z0.out.tn t1 (by omega))
     have X1 := Zb (X0.out.tn t1 (by omega))
     have J1 := Zb hk'
     clear h1 t1 hk'
     refine hK1 _ _ ?_
     clear hK1 K1
     refine R_ 3 (fun K1 hK1 => ?_)
     go_simp
     have hb5 := Zd W1 (.cells #[.int .i64 kd, .int .i64 ps, .string nm, .int .i64 t, .int .i64 nz, .int .i64 z, .int .i64 o, .int .u64 bi, .slice a len ck, .int .i64 kd', .int .i64 ps', .string nm', .int .i64 t', .int .i64 nz', .int .i64 z', .int .i64 o', .int .u64 bi', .slice a' len' ck'] 29)
     have kb : (W1.alloc (.cells #[.int .i64 kd, .int .i64 ps, .string nm, .int .i64 t, .int .i64 nz, .int .i64 z, .int .i64 o, .int .u64 bi, .slice a len ck, .int .i64 kd', .int .i64 ps', .string nm', .int .i64 t', .int .i64 nz', .int .i64 z', .int .i64 o', .int .u64 bi', .slice a' len' ck'] 29)).heap[W1.heap.size]? = some (.cells #[.int .i64 kd, .int .i64 ps, .string nm, .int .i64 t, .int .i64 nz, .int .i64 z, .int .i64 o, .int .u64 bi, .slice a len ck, .int .i64 kd', .int .i64 ps', .string nm', .int .i64 t', .int .i64 nz', .int .i64 z', .int .i64 o', .int .u64 bi', .slice a' len' ck'] 29 (0, 0)) := B_ _ _
     have H5 := Zb (H1.out.below hb5)
     have T5 := Zb (T1.out.trans (Tn.of_bel hb5))
     have Z5 := Zb (Z1.out.bel hb5)
     have x5 := X1.out.bel hb5
     have KB := Zb kb
     have J5 := Zb (J1.out.bel hb5)
     obtain ⟨⟨_, _, _, _, _, _, _, _, f8⟩, _, _, _, _, _, _, _, _, c8⟩ := x5.all
     obtain ⟨x6, s6⟩ := Zs x5 8 (.slice (some ⟨W1.heap.size, 0, none⟩) 2 2)
     have x6 : Nod _ b (.int .i64 31) (.int .i64 ps) (.string text) (.int .i64 0) (.int .i64 0) (.int .i64 0) (.int .i64 0) (.int .u64 0) (.slice (some ⟨W1.heap.size, 0, none⟩) 2 2) := x6
     clear kb hb5 x5 J1 H1 T1 Z1 X1 Y1
     refine hK1 _ _ ?_
     clear hK1 K1
     refine T_ 4 (v := ?_) (fun w => ?_) ?_
     rotate_left 1
     · (go_simp <;> with_reducible rfl)
     simp only [Act.put, S_]
     refine R_ 5 (fun K1 hK1 => ?_)
     go_simp
     refine hK1 _ _ ?_
     clear hK1 K1 f8 c8
     refine wpAny_done (by kernel_rfl) ?_ _
     have X6 := Zb x6
     have T6 := Zb (T5.out.own s6 (by omega))
     have H6 := Zb (H5.out.tn s6 (by have := H5.out.big; omega) (by omega) (by omega))
     have Z6 := Zb (Z5.out.tn s6 (by omega))
     have KB6 := Zb ((s6.blk W1.heap.size (Ze KB.out) (by omega)).trans KB.out)
     have J6 := Zb (J5.out.tn s6 hbW)
     clear x6 s6 H5 T5 Z5 KB J5
     generalize hw6 : (W1.alloc _).setCell ⟨b, 8, none⟩ (.slice (some ⟨W1.heap.size, 0, none⟩) 2 2) = w6 at *
     clear hw6
     have hbk := Zb (show w.heap.size + 1 < W1.heap.size by omega)
     generalize W1.heap.size = bk at *
     obtain ⟨_, e0, e1, e2, e3, e4, e5, e6, e7, e8⟩ := X6.out.all
     obtain ⟨⟨p0, p1, p2, p3, p4, p5, p6, p7, p8⟩, q0, q1, q2, q3, q4, q5, q6, q7, q8⟩ := Z6.out.all
     obtain ⟨z9, s9⟩ := Zy Z6.out (.int .i64 31) (.int .i64 ps) (.string text) (.int .i64 0) (.int .i64 0) (.int .i64 0) (.int .i64 0) (.int .u64 0) (.slice (some ⟨bk, 0, none⟩) 2 2)
     have Z9 := Zb z9
     have S9 := Zb s9
     clear z9 s9 Z6 X6
     go_wp2_with fail
     refine Zg (w.heap.size + 1) rfl rfl Z9.out rfl ?_
     refine ⟨_, rfl, ?_, H6.out.tn S9.out (by have := H6.out.big; omega) (by omega) (by omega), T6.out.own S9.out (by omega)⟩
     unfold binN nd Zj
     refine ⟨_, rfl, Yj ((S9.out.blk bk (Ze KB6.out) (by have := hbk.out; omega)).trans KB6.out) (HKL.out.tnS (T6.out.own S9.out (by omega)) hgB) ((J6.out.tn S9.out (by omega)).lowS (fun k hk => hB k (Nat.le_trans (Nat.le_of_lt (show w.heap.size < W0.heap.size by omega)) hk))) (hB _ (by have := hbk.out; omega))⟩
   · go_simp
     refine (HR.out _ H0.out).mono ?_
     rintro e W1 ⟨v, rfl, hv, h1, t1⟩
     unfold Zj at hv
     obtain ⟨s', rfl, hk'⟩ := hv
     obtain ⟨a', len', ck', rfl⟩ := hk'.shape
     have hwz : W0.heap.size <= W1.heap.size := t1.size
     have hbW : b < W0.heap.size := Ze X0.out
     have H1 := Zb h1
     have T1 := Zb (T0.out.trans t1)
     have Y1 := Zb (Y0.out.tn t1 (by omega))
     have Z1 := Zb (Z0.out.tn t1 (by omega))
     have X1 := Zb (X0.out.tn t1 (by omega))
     have J1 := Zb hk'
     clear h1 t1 hk'
     refine hK1 _ _ ?_
     clear hK1 K1
     refine R_ 0 (fun K1 hK1 => ?_)
     obtain ⟨_, d0, d1, d2, d3, d4, d5, d6, d7, d8⟩ := Y1.out.all
     go_simp
     refine hK1 _ _ ?_
     clear hK1 K1 d0 d1 d2 d3 d4 d5 d6 d7 d8
     refine R_ 3 (fun K1 hK1 => ?_)
     go_simp
     have hb5 := Zd W1 (.cells #[.int .i64 kd, .int .i64 ps, .string nm, .int .i64 t, .int .i64 nz, .int .i64 z, .int .i64 o, .int .u64 bi, .slice a len ck, .int .i64 kd', .int .i64 ps', .string nm', .int .i64 t', .int .i64 nz', .int .i64 z', .int .i64 o', .int .u64 bi', .slice a' len' ck'] 29)
     have kb : (W1.alloc (.cells #[.int .i64 kd, .int .i64 ps, .string nm, .int .i64 t, .int .i64 nz, .int .i64 z, .int .i64 o, .int .u64 bi, .slice a len ck, .int .i64 kd', .int .i64 ps', .string nm', .int .i64 t', .int .i64 nz', .int .i64 z', .int .i64 o', .int .u64 bi', .slice a' len' ck'] 29)).heap[W1.heap.size]? = some (.cells #[.int .i64 kd, .int .i64 ps, .string nm, .int .i64 t, .int .i64 nz, .int .i64 z, .int .i64 o, .int .u64 bi, .slice a len ck, .int .i64 kd', .int .i64 ps', .string nm', .int .i64 t', .int .i64 nz', .int .i64 z', .int .i64 o', .int .u64 bi', .slice a' len' ck'] 29 (0, 0)) := B_ _ _
     have H5 := Zb (H1.out.below hb5)
     have T5 := Zb (T1.out.trans (Tn.of_bel hb5))
     have Z5 := Zb (Z1.out.bel hb5)
     have x5 := X1.out.bel hb5
     have KB := Zb kb
     have J5 := Zb (J1.out.bel hb5)
     obtain ⟨⟨_, _, _, _, _, _, _, _, f8⟩, _, _, _, _, _, _, _, _, c8⟩ := x5.all
     obtain ⟨x6, s6⟩ := Zs x5 8 (.slice (some ⟨W1.heap.size, 0, none⟩) 2 2)
     have x6 : Nod _ b (.int .i64 31) (.int .i64 ps) (.string text) (.int .i64 0) (.int .i64 0) (.int .i64 0) (.int .i64 0) (.int .u64 0) (.slice (some ⟨W1.heap.size, 0, none⟩) 2 2) := x6
     clear kb hb5 x5 J1 H1 T1 Z1 X1 Y1
     refine hK1 _ _ ?_
     clear hK1 K1
     refine T_ 4 (v := ?_) (fun w => ?_) ?_
     rotate_left 1
     · (go_simp <;> with_reducible rfl)
     simp only [Act.put, S_]
     refine R_ 5 (fun K1 hK1 => ?_)
     go_simp
     refine hK1 _ _ ?_
     clear hK1 K1 f8 c8
     refine wpAny_done (by kernel_rfl) ?_ _
     have X6 := Zb x6
     have T6 := Zb (T5.out.own s6 (by omega))
     have H6 := Zb (H5.out.tn s6 (by have := H5.out.big; omega) (by omega) (by omega))
     have Z6 := Zb (Z5.out.tn s6 (by omega))
     have KB6 := Zb ((s6.blk W1.heap.size (Ze KB.out) (by omega)).trans KB.out)
     have J6 := Zb (J5.out.tn s6 hbW)
     clear x6 s6 H5 T5 Z5 KB J5
     generalize hw6 : (W1.alloc _).setCell ⟨b, 8, none⟩ (.slice (some ⟨W1.heap.size, 0, none⟩) 2 2) = w6 at *
     clear hw6
     have hbk := Zb (show w.heap.size + 1 < W1.heap.size by omega)
     generalize W1.heap.size = bk at *
     obtain ⟨_, e0, e1, e2, e3, e4, e5, e6, e7, e8⟩ := X6.out.all
     obtain ⟨⟨p0, p1, p2, p3, p4, p5, p6, p7, p8⟩, q0, q1, q2, q3, q4, q5, q6, q7, q8⟩ := Z6.out.all
     obtain ⟨z9, s9⟩ := Zy Z6.out (.int .i64 31) (.int .i64 ps) (.string text) (.int .i64 0) (.int .i64 0) (.int .i64 0) (.int .i64 0) (.int .u64 0) (.slice (some ⟨bk, 0, none⟩) 2 2)
     have Z9 := Zb z9
     have S9 := Zb s9
     clear z9 s9 Z6 X6
     go_wp2_with fail
     refine Zg (w.heap.size + 1) rfl rfl Z9.out rfl ?_
     refine ⟨_, rfl, ?_, H6.out.tn S9.out (by have := H6.out.big; omega) (by omega) (by omega), T6.out.own S9.out (by omega)⟩
     unfold binN nd Zj
     refine ⟨_, rfl, Yj ((S9.out.blk bk (Ze KB6.out) (by have := hbk.out; omega)).trans KB6.out) (HKL.out.tnS (T6.out.own S9.out (by omega)) hgB) ((J6.out.tn S9.out (by omega)).lowS (fun k hk => hB k (Nat.le_trans (Nat.le_of_lt (show w.heap.size < W0.heap.size by omega)) hk))) (hB _ (by have := hbk.out; omega))⟩
def cmpT : List ByteArray := [⟨#[61, 61]⟩, ⟨#[33, 61]⟩, ⟨#[60]⟩, ⟨#[60, 61]⟩, ⟨#[62]⟩, ⟨#[62, 61]⟩]
def cmpO (rule : Nat -> Out) (L : List Tk) (i : Nat) : Out :=
 match rule i with | .ok n j => if has L j cmpT then binO n (tx L j) (rule (j + 1)) else .ok n j | .bad k j => .bad k j
theorem cmp_any {w : World} {p : List Addr} {g gT : Nat} {L : List Tk} {i l : Nat} (h : Ps w p g gT L i l) (hE : Ya L) (rule : Nat -> Out) (hge : ∀ j m j', rule j = .ok m j' -> j <= j') (hr : ∀ j, i <= j -> ZS 135 p g gT L l j (rule j)) :
 Calls Tryz.prog 94 #[.pointer (some ⟨g, 0, none⟩)] w fun e w' => Zo p g gT L l w e w' (cmpO rule L i) := by
 have hgl := h.lt_g
 have hT := h.row.lt
 have hb0 := Zb (Zd w Zh)
 have hz0 : Hid (Nod (w.alloc Zh) w.heap.size (.int .i64 0) (.int .i64 0) (.string ⟨#[]⟩) (.int .i64 0) (.int .i64 0) (.int .i64 0) (.int .i64 0) (.int .u64 0) (.slice none 0 0)) := B_ _ _
 have H0 := Zb (h.below hb0.out)
 have HR := Zb hr
 have HE := Zb hE
 have HG := Zb hge
 generalize hw : cmpO rule L i = out
 unfold cmpO at hw
 generalize hq : rule i = q at hw
 have HQ := Zb hq
 have HW := Zb hw
 have hR0 := HR.out i (Nat.le_refl _)
 rw [hq] at hR0
 have HR0 := Zb hR0
 clear h hr hE hge hw hq hR0
 unfold Zh at *
 go_enter Tryz.func94, Tryz.ntmps94
 go_wp2_with fail
 generalize w.alloc _ = w0 at *
 cases q with
 | bad k j =>
  have hw := HW.out
  subst hw
  refine (HR0.out _ H0.out).mono ?_
  rintro e w1 ⟨rfl, r2⟩
  exact ⟨rfl, rfl, (Tn.of_bel hb0.out).trans r2⟩
 | ok n j =>
  refine (HR0.out _ H0.out).mono ?_
  rintro e w1 ⟨v, rfl, hv, r1, r2⟩
  have hij := HG.out i _ j HQ.out
  obtain ⟨kd, ps, nm, t, nz, z, o, bi, ks⟩ := n
  unfold Zj at hv
  obtain ⟨s, rfl, hk⟩ := hv
  obtain ⟨a, len, ck, rfl⟩ := hk.shape
  have hw0 : w.heap.size < w0.heap.size := Ze hz0.out
  have hw1 : w0.heap.size <= w1.heap.size := r2.size
  have hb2 := Zd w1 (.cells #[.int .i64 kd, .int .i64 ps, .string nm, .int .i64 t, .int .i64 nz, .int .i64 z, .int .i64 o, .int .u64 bi, .slice a len ck] 29)
  have X2 : Hid (Nod (w1.alloc (.cells #[.int .i64 kd, .int .i64 ps, .string nm, .int .i64 t, .int .i64 nz, .int .i64 z, .int .i64 o, .int .u64 bi, .slice a len ck] 29)) w1.heap.size (.int .i64 kd) (.int .i64 ps) (.string nm) (.int .i64 t) (.int .i64 nz) (.int .i64 z) (.int .i64 o) (.int .u64 bi) (.slice a len ck)) := B_ _ _
  have H2 := Zb (r1.below hb2)
  have T2 := Zb (((Tn.of_bel hb0.out).trans r2).trans (Tn.of_bel hb2))
  have Z2 := Zb ((hz0.out.tn r2 (by omega)).bel hb2)
  have K2 := Zb (hk.bel hb2)
  have e2 : (w1.alloc (.cells #[.int .i64 kd, .int .i64 ps, .string nm, .int .i64 t, .int .i64 nz, .int .i64 z, .int .i64 o, .int .u64 bi, .slice a len ck] 29)).heap.size = w1.heap.size + 1 := by simp
  clear hk r1 r2 hb2 hb0 hz0 H0 HR0
  go_wp2_with fail
  generalize w1.alloc _ = w2 at *
  rw [← e2]
  refine (Ys H2.out cmpT 6 _ rfl rfl (by omega)).mono ?_
  rintro e w3 ⟨rfl, hb3⟩
  have H3 := Zb (H2.out.below hb3)
  have T3 := Zb (T2.out.trans (Tn.of_bel hb3))
  have Z3 := Zb (Z2.out.bel hb3)
  have X3 := Zb (X2.out.bel hb3)
  have K3 := Zb (K2.out.bel hb3)
  have hs3 := hb3.size
  obtain ⟨_, d0, d1, d2, d3, d4, d5, d6, d7, d8⟩ := X3.out.all
  generalize w1.heap.size = b1 at *
  clear hb3 H2 T2 Z2 X2 K2
  by_cases hs : has L j cmpT = true
  · have hw := HW.out
    rw [if_pos hs] at hw
    rw [hs]
    have hj1 := ZF HE.out H3.out.lt (by decide) hs
    obtain ⟨q, hq⟩ : ∃ q, rule (j + 1) = q := ⟨_, rfl⟩
    rw [hq] at hw
    have HB := Zb (binary_treeparsersum H3.out (Fr w0.heap.size) (fun k hk => Nat.le_trans (by omega) hk) (fun h => by have : w0.heap.size <= g := h; omega) (.mk kd ps nm t nz z o bi ks) _ (by unfold Zj; exact ⟨_, rfl, K3.out⟩) hj1 q (by rw [← hq]; exact HR.out (j + 1) (by omega)))
    clear hs hq K3 HW
    have HW := Zb hw
    clear hw
    go_wp2_with fail
    cases q with
    | bad k j' =>
     have hw := HW.out
     subst hw
     refine HB.out.mono ?_
     rintro e w4 ⟨rfl, r2⟩
     exact ⟨rfl, rfl, T3.out.trans r2⟩
    | ok m j' =>
     have hw := HW.out
     subst hw
     refine HB.out.mono ?_
     rintro e w4 ⟨v, rfl, hv, r1, r2⟩
     unfold binN nd Zj at hv
     obtain ⟨s, rfl, hk⟩ := hv
     obtain ⟨a', len', ck', rfl⟩ := hk.shape
     unfold Nd.pos
     have hwz := Zb hw0
     have H4 := Zb r1
     have T4 := Zb (T3.out.trans r2)
     have Z4 := Zb (Z3.out.tn r2 (by omega))
     have K4 := Zb hk
     obtain ⟨⟨f0, f1, f2, f3, f4, f5, f6, f7, f8⟩, b0, b1', b2, b3, b4, b5, b6, b7, b8⟩ := Z4.out.all
     obtain ⟨z9, s9⟩ := Zy Z4.out (.int .i64 31) (.int .i64 ps) (.string (tx L j)) (.int .i64 0) (.int .i64 0) (.int .i64 0) (.int .i64 0) (.int .u64 0) (.slice a' len' ck')
     have Z9 := Zb z9
     have S9 := Zb s9
     clear z9 s9 Z4 r1 r2 hk HB H3 T3 Z3 X3 d0 d1 d2 d3 d4 d5 d6 d7 d8
     go_wp2_with fail
     refine Zg w.heap.size rfl rfl Z9.out rfl ?_
     refine ⟨_, rfl, ?_, H4.out.tn S9.out (by have := H4.out.big; omega) (by omega) (by omega), T4.out.own S9.out (Nat.le_refl _)⟩
     unfold binN nd Zj
     exact ⟨_, rfl, (K4.out.tn S9.out hwz.out).low (Nat.le_of_lt hwz.out)⟩
  · have hs : has L j cmpT = false := by simpa using hs
    have hw := HW.out
    rw [hs, if_neg (by decide)] at hw
    subst hw
    rw [hs]
    have hwz := Zb hw0
    obtain ⟨⟨f0, f1, f2, f3, f4, f5, f6, f7, f8⟩, b0, b1', b2, b3, b4, b5, b6, b7, b8⟩ := Z3.out.all
    obtain ⟨z9, s9⟩ := Zy Z3.out (.int .i64 kd) (.int .i64 ps) (.string nm) (.int .i64 t) (.int .i64 nz) (.int .i64 z) (.int .i64 o) (.int .u64 bi) (.slice a len ck)
    have Z9 := Zb z9
    have S9 := Zb s9
    clear z9 s9 Z3 hs HW
    go_wp2_with fail
    refine Zg w.heap.size rfl rfl Z9.out rfl ?_
    refine ⟨_, rfl, ?_, H3.out.tn S9.out (by have := H3.out.big; omega) (by omega) (by omega), T3.out.own S9.out (Nat.le_refl _)⟩
    unfold Zj
    exact ⟨_, rfl, (K3.out.tn S9.out hwz.out).low (Nat.le_of_lt hwz.out)⟩
def primO (L : List Tk) (l i : Nat) (r1 r2 : Out) : Out :=
 if (Zk L i).kind = 3 then .ok (.mk 25 (Zk L i).pos ⟨#[]⟩ 0 (Zk L i).n 0 0 (Zk L i).bits []) (i + 1)
 else if (Zk L i).kind = 4 then .ok (.mk 26 (Zk L i).pos ⟨#[]⟩ 0 (Zk L i).n 0 0 (Zk L i).bits []) (i + 1)
 else if (Zk L i).kind = 1 then targetO L l i r2
 else if has L i [⟨#[116, 114, 117, 101]⟩] then .ok (.mk 27 (Zk L i).pos ⟨#[]⟩ 0 1 0 0 0 []) (i + 1)
 else if has L i [⟨#[102, 97, 108, 115, 101]⟩] then .ok (.mk 27 (Zk L i).pos ⟨#[]⟩ 0 0 0 0 0 []) (i + 1)
 else if has L i [⟨#[105, 110, 116]⟩, ⟨#[102, 108, 111, 97, 116]⟩] then convO L l i r2
 else wrapO L l i bOpen bShut r1
def pz (L : List Tk) : Nat -> Nat -> Nat -> Nat -> Out
 | 0, _, _, i => .bad 0 i
 | f + 1, 0, l, i => Yx (pz L f 1 l) orT L L.length i
 | f + 1, 1, l, i => Yx (pz L f 2 l) andT L L.length i
 | f + 1, 2, l, i => cmpO (pz L f 3 l) L i
 | f + 1, 3, l, i => Yx (pz L f 4 l) sumT L L.length i
 | f + 1, 4, l, i => Yx (pz L f 5 l) prodT L L.length i
 | f + 1, 5, l, i => if has L i unT then unO L l i (pz L f 5 (l + 1) (i + 1)) else pz L f 6 l i
 | f + 1, _, l, i => primO L l i (pz L f 0 (l + 1) (i + 1)) (pz L f 0 (l + 1) (i + 1 + 1))
theorem Yh {L : List Tk} {i : Nat} {z : ByteArray} (h : has L i [z] = true) : (Zk L i).text = z := by
 have := (Lib.containsS_iff _ _).1 h
 simpa [tx] using this
theorem Yd {L : List Tk} {i : Nat} {zs : List ByteArray} (h : ¬ has L i zs = true) : ∀ z ∈ zs, ¬ (Zk L i).text = z := fun z hz e =>
 h ((Lib.containsS_iff _ _).2 (by unfold tx; rw [e]; exact hz))
theorem prim_any {w : World} {p : List Addr} {g gT : Nat} {L : List Tk} {i l : Nat} (h : Ps w p g gT L i l) (hE : Ya L) (hl : l <= 16) (r1 r2 : Out)
 (h1 : l ≠ 16 -> has L i [bOpen] = true -> ZS 32 p g gT L (l + 1) (i + 1) r1) (h2 : l ≠ 16 -> ZS 32 p g gT L (l + 1) (i + 1 + 1) r2) :
 Calls Tryz.prog 227 #[.pointer (some ⟨g, 0, none⟩)] w fun e w' => Zo p g gT L l w e w' (primO L l i r1 r2) := by
 have hnil : ∀ (w' : World) (S : Nat -> Prop) (a b c d : Int) (bi : Int), Zj w' S (.mk a b ⟨#[]⟩ 0 c 0 0 bi []) (.agg #[.int .i64 a, .int .i64 b, .string ⟨#[]⟩, .int .i64 0, .int .i64 c, .int .i64 0, .int .i64 0, .int .u64 bi, .slice none 0 0]) := fun w' S a b c d bi => by
  unfold Zj
  exact ⟨_, rfl, by unfold Zt; rfl⟩
 unfold primO
 by_cases k3 : (Zk L i).kind = 3
 · rw [if_pos k3]
   have hi := hE i h.lt (.inr (by omega))
   refine prim_int h _ k3 (fun w1 h1 => (number_any h1 25 hi).mono ?_)
   rintro e w2 ⟨rfl, r1, r2⟩
   exact ⟨_, rfl, hnil _ _ _ _ _ 0 _, r1, r2⟩
 rw [if_neg k3]
 by_cases k4 : (Zk L i).kind = 4
 · rw [if_pos k4]
   have hi := hE i h.lt (.inr (by omega))
   refine prim_float h _ k4 (fun w1 h1 => (number_any h1 26 hi).mono ?_)
   rintro e w2 ⟨rfl, r1, r2⟩
   exact ⟨_, rfl, hnil _ _ _ _ _ 0 _, r1, r2⟩
 rw [if_neg k4]
 by_cases k1 : (Zk L i).kind = 1
 · rw [if_pos k1]
   exact prim_word h _ k1 (fun w1 hw => target_any hw hE hl r2 (fun a _ _ => h2 a))
 rw [if_neg k1]
 by_cases t1 : has L i [⟨#[116, 114, 117, 101]⟩] = true
 · rw [if_pos t1]
   have hi := ZF hE h.lt (by decide) t1
   refine prim_true h _ ⟨k3, k4, k1⟩ (Yh t1) (fun w1 h1 => (truth_any h1 1 hi).mono ?_)
   rintro e w2 ⟨rfl, r1, r2⟩
   exact ⟨_, rfl, hnil _ _ _ _ _ 0 _, r1, r2⟩
 rw [if_neg t1]
 by_cases t2 : has L i [⟨#[102, 97, 108, 115, 101]⟩] = true
 · rw [if_pos t2]
   have hi := ZF hE h.lt (by decide) t2
   refine prim_false h _ ⟨k3, k4, k1⟩ (Yh t2) (fun w1 h1 => (truth_any h1 0 hi).mono ?_)
   rintro e w2 ⟨rfl, r1, r2⟩
   exact ⟨_, rfl, hnil _ _ _ _ _ 0 _, r1, r2⟩
 rw [if_neg t2]
 by_cases t3 : has L i [⟨#[105, 110, 116]⟩, ⟨#[102, 108, 111, 97, 116]⟩] = true
 · rw [if_pos t3]
   have hi := ZF hE h.lt (by decide) t3
   have ht := (Lib.containsS_iff _ _).1 t3
   rcases (show (Zk L i).text = ⟨#[105, 110, 116]⟩ ∨ (Zk L i).text = ⟨#[102, 108, 111, 97, 116]⟩ by simpa [tx] using ht) with ht | ht
   · exact prim_toint h _ ⟨k3, k4, k1⟩ ht (fun w1 hw => converted_any hw hE hl hi r2 (fun a _ => h2 a))
   · exact prim_tofloat h _ ⟨k3, k4, k1⟩ ht (fun w1 hw => converted_any hw hE hl hi r2 (fun a _ => h2 a))
 rw [if_neg t3]
 refine prim_wrap h _ ⟨k3, k4, k1⟩ ?_ (fun w1 hw => within_any hw hE hl bOpen bShut (by decide) (by decide) r1 h1)
 have n1 := Yd t1
 have n2 := Yd t2
 have n3 := Yd t3
 cases hp : has L i priT with
 | false => rfl
 | true =>
  have := (Lib.containsS_iff _ _).1 hp
  simp [tx, priT] at this
  simp at n1 n2 n3
  rcases this with e | e | e | e
  · exact absurd e n1
  · exact absurd e n2
  · exact absurd e n3.1
  · exact absurd e n3.2
theorem rowF_ge {rule : Nat -> Out} {zs : List ByteArray} {L : List Tk} (hge : ∀ j m j', rule j = .ok m j' -> j <= j') : ∀ (f j : Nat) (n m : Nd) (j' : Nat), rowF rule zs L f j n = .ok m j' -> j <= j'
 | 0, _, _, _, _, h => by unfold rowF at h; cases h
 | f + 1, j, n, m, j', h => by
  unfold rowF at h
  split at h
  · cases hq : rule (j + 1) with
    | bad k a => rw [hq] at h; cases h
    | ok m2 a =>
     rw [hq] at h
     have h1 := hge _ _ _ hq
     have h2 := rowF_ge hge f a _ m j' h
     omega
  · cases h
    exact Nat.le_refl _
theorem rowO_ge {rule : Nat -> Out} {zs : List ByteArray} {L : List Tk} (hge : ∀ j m j', rule j = .ok m j' -> j <= j') {f i : Nat} {m : Nd} {j' : Nat} (h : Yx rule zs L f i = .ok m j') : i <= j' := by
 unfold Yx at h
 cases hq : rule i with
 | bad k a => rw [hq] at h; cases h
 | ok m2 a =>
  rw [hq] at h
  exact Nat.le_trans (hge _ _ _ hq) (rowF_ge hge _ _ _ _ _ h)
theorem wrapO_ge {L : List Tk} {l i : Nat} {op sh : ByteArray} {r : Out} (hr : ∀ m j', r = .ok m j' -> i + 1 <= j') {m : Nd} {j' : Nat} (h : wrapO L l i op sh r = .ok m j') : i <= j' := by
 unfold wrapO at h
 split at h
 · split at h
   · cases h
   · cases r with
     | bad k a => cases h
     | ok m2 a =>
      have := hr _ _ rfl
      dsimp only at h
      split at h
      · cases h; omega
      · cases h
 · cases h
theorem pz0 (L : List Tk) (f l i : Nat) : pz L (f + 1) 0 l i = Yx (pz L f 1 l) orT L L.length i := rfl
theorem pz1 (L : List Tk) (f l i : Nat) : pz L (f + 1) 1 l i = Yx (pz L f 2 l) andT L L.length i := rfl
theorem pz2 (L : List Tk) (f l i : Nat) : pz L (f + 1) 2 l i = cmpO (pz L f 3 l) L i := rfl
theorem pz3 (L : List Tk) (f l i : Nat) : pz L (f + 1) 3 l i = Yx (pz L f 4 l) sumT L L.length i := rfl
theorem pz4 (L : List Tk) (f l i : Nat) : pz L (f + 1) 4 l i = Yx (pz L f 5 l) prodT L L.length i := rfl
theorem pz5 (L : List Tk) (f l i : Nat) : pz L (f + 1) 5 l i = if has L i unT then unO L l i (pz L f 5 (l + 1) (i + 1)) else pz L f 6 l i := rfl
theorem pz6 (L : List Tk) (f rk l i : Nat) : pz L (f + 1) (rk + 6) l i = primO L l i (pz L f 0 (l + 1) (i + 1)) (pz L f 0 (l + 1) (i + 1 + 1)) := rfl
theorem pz_ge (L : List Tk) : ∀ (f rk l i : Nat) (n : Nd) (j : Nat), pz L f rk l i = .ok n j -> i <= j
 | 0, _, _, _, _, _, h => by unfold pz at h; cases h
 | f + 1, 0, l, i, n, j, h => by rw [pz0] at h; exact rowO_ge (fun a b c => pz_ge L f 1 l a b c) h
 | f + 1, 1, l, i, n, j, h => by rw [pz1] at h; exact rowO_ge (fun a b c => pz_ge L f 2 l a b c) h
 | f + 1, 2, l, i, n, j, h => by
  rw [pz2] at h
  unfold cmpO at h
  cases hq : pz L f 3 l i with
  | bad k a => rw [hq] at h; cases h
  | ok m a =>
   rw [hq] at h
   have h1 := pz_ge L f 3 l i m a hq
   dsimp only at h
   split at h
   · cases hq2 : pz L f 3 l (a + 1) with
     | bad k b => rw [hq2] at h; cases h
     | ok m2 b =>
      rw [hq2] at h
      have h2 := pz_ge L f 3 l (a + 1) m2 b hq2
      unfold binO at h
      cases h
      omega
   · cases h; omega
 | f + 1, 3, l, i, n, j, h => by rw [pz3] at h; exact rowO_ge (fun a b c => pz_ge L f 4 l a b c) h
 | f + 1, 4, l, i, n, j, h => by rw [pz4] at h; exact rowO_ge (fun a b c => pz_ge L f 5 l a b c) h
 | f + 1, 5, l, i, n, j, h => by
  rw [pz5] at h
  split at h
  · unfold unO at h
    split at h
    · cases h
    · cases hq : pz L f 5 (l + 1) (i + 1) with
      | bad k a => rw [hq] at h; cases h
      | ok m a =>
       rw [hq] at h
       have := pz_ge L f 5 (l + 1) (i + 1) m a hq
       cases h
       omega
  · exact pz_ge L f 6 l i n j h
 | f + 1, rk + 6, l, i, n, j, h => by
  have g1 := fun a b => pz_ge L f 0 (l + 1) (i + 1) a b
  have g2 := fun a b => pz_ge L f 0 (l + 1) (i + 1 + 1) a b
  rw [pz6] at h
  generalize pz L f 0 (l + 1) (i + 1) = r1 at *
  generalize pz L f 0 (l + 1) (i + 1 + 1) = r2 at *
  have hw : ∀ {op sh : ByteArray} {m : Nd} {j' : Nat}, wrapO L l (i + 1) op sh r2 = .ok m j' -> i + 1 <= j' := fun h => wrapO_ge g2 h
  unfold primO at h
  split at h
  · cases h; omega
  split at h
  · cases h; omega
  split at h
  · unfold targetO at h
    by_cases kk : (Zk L i).kind = 1
    · rw [if_pos kk] at h
      by_cases hh : has L (i + 1) [bOpn] = true
      · rw [if_pos hh] at h
        cases hq : wrapO L l (i + 1) bOpn bSht r2 with
        | bad k a => rw [hq] at h; cases h
        | ok m a =>
         rw [hq] at h
         have := hw hq
         cases h
         omega
      · rw [if_neg hh] at h
        cases h
        omega
    · rw [if_neg kk] at h
      cases h
  split at h
  · cases h; omega
  split at h
  · cases h; omega
  split at h
  · unfold convO at h
    cases hq : wrapO L l (i + 1) bOpen bShut r2 with
    | bad k a => rw [hq] at h; cases h
    | ok m a =>
     rw [hq] at h
     have := hw hq
     cases h
     omega
  · exact wrapO_ge g1 h
structure Rules (p : List Addr) (g gT : Nat) (L : List Tk) (f : Nat) : Prop where
 e0 : ∀ l, l <= 16 -> ∀ i, 8 * (L.length - i) + 7 <= f -> ZS 32 p g gT L l i (pz L f 0 l i)
 e1 : ∀ l, l <= 16 -> ∀ i, 8 * (L.length - i) + 6 <= f -> ZS 56 p g gT L l i (pz L f 1 l i)
 e2 : ∀ l, l <= 16 -> ∀ i, 8 * (L.length - i) + 5 <= f -> ZS 94 p g gT L l i (pz L f 2 l i)
 e3 : ∀ l, l <= 16 -> ∀ i, 8 * (L.length - i) + 4 <= f -> ZS 135 p g gT L l i (pz L f 3 l i)
 e4 : ∀ l, l <= 16 -> ∀ i, 8 * (L.length - i) + 3 <= f -> ZS 174 p g gT L l i (pz L f 4 l i)
 e5 : ∀ l, l <= 16 -> ∀ i, 8 * (L.length - i) + 2 <= f -> ZS 205 p g gT L l i (pz L f 5 l i)
 e6 : ∀ l, l <= 16 -> ∀ i, 8 * (L.length - i) + 1 <= f -> ZS 227 p g gT L l i (pz L f 6 l i)
theorem rules (p : List Addr) (g gT : Nat) (L : List Tk) (hE : Ya L) : ∀ f, Rules p g gT L f
 | 0 => ⟨fun _ _ _ h => by omega, fun _ _ _ h => by omega, fun _ _ _ h => by omega, fun _ _ _ h => by omega, fun _ _ _ h => by omega, fun _ _ _ h => by omega, fun _ _ _ h => by omega⟩
 | f + 1 => by
  have R := rules p g gT L hE f
  refine ⟨?_, ?_, ?_, ?_, ?_, ?_, ?_⟩
  · intro l hl i hf w h
    rw [pz0]
    exact expr_row h hE _ _ (Nat.sub_le _ _) (fun a b c => pz_ge L f 1 l a b c) (fun j hj => R.e1 l hl j (by omega))
  · intro l hl i hf w h
    rw [pz1]
    exact and_row h hE _ _ (Nat.sub_le _ _) (fun a b c => pz_ge L f 2 l a b c) (fun j hj => R.e2 l hl j (by omega))
  · intro l hl i hf w h
    rw [pz2]
    exact cmp_any h hE _ (fun a b c => pz_ge L f 3 l a b c) (fun j hj => R.e3 l hl j (by omega))
  · intro l hl i hf w h
    rw [pz3]
    exact sum_row h hE _ _ (Nat.sub_le _ _) (fun a b c => pz_ge L f 4 l a b c) (fun j hj => R.e4 l hl j (by omega))
  · intro l hl i hf w h
    rw [pz4]
    exact prod_row h hE _ _ (Nat.sub_le _ _) (fun a b c => pz_ge L f 5 l a b c) (fun j hj => R.e5 l hl j (by omega))
  · intro l hl i hf w h
    have hi := h.lt
    rw [pz5]
    by_cases hu : has L i unT = true
    · rw [if_pos hu]
      exact unary_op h hE hl hu _ (fun h16 => R.e5 (l + 1) (by omega) (i + 1) (by omega))
    · rw [if_neg hu]
      exact unary_prim h (by simpa using hu) _ (R.e6 l hl i (by omega))
  · intro l hl i hf w h
    have hi := h.lt
    rw [show pz L (f + 1) 6 l i = _ from pz6 L f 0 l i]
    exact prim_any h hE hl _ _ (fun h16 _ => R.e0 (l + 1) (by omega) (i + 1) (by omega)) (fun h16 => R.e0 (l + 1) (by omega) (i + 1 + 1) (by omega))
end Go.Proofs.YtfnplhfjfolojaaGreatDoor.Ck
