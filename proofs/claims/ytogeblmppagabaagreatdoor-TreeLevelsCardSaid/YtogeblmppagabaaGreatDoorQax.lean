/- Texts of this proof, packed: contracts of the program's functions, and the plain model that they are held against. -/
import Derived.Test.YtogeblmppagabaaGreatDoorQao
/- Operators of two operands: one rule. -/
namespace Go.Proofs.YtogeblmppagabaaGreatDoor.Ck
open Go.RowKit

set_option maxRecDepth 20000 in
set_option maxHeartbeats 1000000 in
theorem binary_treeparsersum {w : World} {p : List Addr} {g gT : Nat} {L : List Tk} {i l : Nat} (h : Ps w p g gT L i l) (B : Nat → Prop) (hB : ∀ k, w.heap.size ≤ k → B k) (hgB : ¬ B g) (n : Nd) (v : Value) (hn : NodeV w B n v) (hi : i + 1 < L.length) (r : Out) (hr : Rule 117 p g gT L l (i + 1) r) :
    Calls Tryz.prog 82 #[.pointer (some ⟨g, 0, none⟩), v, .func (.func 117) #[.pointer (some ⟨g, 0, none⟩)] #[]] w fun e w' => PostB B p g gT L l w e w' (binO n (tx L i) r) := by
  obtain ⟨kd, ps, nm, t, nz, z, o, bi, ks⟩ := n
  unfold NodeV at hn
  obtain ⟨s, rfl, hk⟩ := hn
  obtain ⟨a, len, ck, rfl⟩ := hk.shape
  have HKL := hide hk
  have hgl := h.lt_g
  have hT := h.row.lt
  have hb0 := bel_new w (.cells #[.int .i64 kd, .int .i64 ps, .string nm, .int .i64 t, .int .i64 nz, .int .i64 z, .int .i64 o, .int .u64 bi, .slice a len ck] 27)
  have y0 : Nod (w.alloc (.cells #[.int .i64 kd, .int .i64 ps, .string nm, .int .i64 t, .int .i64 nz, .int .i64 z, .int .i64 o, .int .u64 bi, .slice a len ck] 27)) w.heap.size (.int .i64 kd) (.int .i64 ps) (.string nm) (.int .i64 t) (.int .i64 nz) (.int .i64 z) (.int .i64 o) (.int .u64 bi) (.slice a len ck) := Go.Deep.blk_alloc_new _ _
  have s0 : (w.alloc (.cells #[.int .i64 kd, .int .i64 ps, .string nm, .int .i64 t, .int .i64 nz, .int .i64 z, .int .i64 o, .int .u64 bi, .slice a len ck] 27)).heap.size = w.heap.size + 1 := by simp
  have H0 := h.below hb0
  have K0 := hk.bel hb0
  generalize hw1 : w.alloc (.cells #[.int .i64 kd, .int .i64 ps, .string nm, .int .i64 t, .int .i64 nz, .int .i64 z, .int .i64 o, .int .u64 bi, .slice a len ck] 27) = w1 at *
  have hb1 := bel_new w1 (.cells #[.int .i64 0, .int .i64 0, .string ⟨#[]⟩, .int .i64 0, .int .i64 0, .int .i64 0, .int .i64 0, .int .u64 0, .slice none 0 0] 27)
  have z1 : Nod (w1.alloc (.cells #[.int .i64 0, .int .i64 0, .string ⟨#[]⟩, .int .i64 0, .int .i64 0, .int .i64 0, .int .i64 0, .int .u64 0, .slice none 0 0] 27)) w1.heap.size (.int .i64 0) (.int .i64 0) (.string ⟨#[]⟩) (.int .i64 0) (.int .i64 0) (.int .i64 0) (.int .i64 0) (.int .u64 0) (.slice none 0 0) := Go.Deep.blk_alloc_new _ _
  have s1 : (w1.alloc (.cells #[.int .i64 0, .int .i64 0, .string ⟨#[]⟩, .int .i64 0, .int .i64 0, .int .i64 0, .int .i64 0, .int .u64 0, .slice none 0 0] 27)).heap.size = w.heap.size + 1 + 1 := by simp [s0]
  rw [s0] at z1
  have y1 := y0.bel hb1
  have H1 := hide (H0.below hb1)
  have K1 := hide (K0.bel hb1)
  have B1 := hide (bel_trans hb0 hb1)
  subst hw1
  have HH := hide (fun w (h : Ps w p g gT L i l) => here_any h)
  have HR := hide hr
  clear h hr hk H0 K0 hb0 hb1 y0 s0
  unfold tx at *
  generalize tkAt L i = tk at *
  obtain ⟨kind, text, nn, bits_, pos⟩ := tk
  dsimp only [Tk.val] at *
  have hf1 := tf1 (.int .i64 kind) (.string text) (.int .i64 nn) (.int .u64 bits_) (.int .i64 pos)
  go_enter Tryz.func82, Tryz.ntmps82
  go_wp2_with fail
  generalize (w.alloc (.cells #[.int .i64 kd, .int .i64 ps, .string nm, .int .i64 t, .int .i64 nz, .int .i64 z, .int .i64 o, .int .u64 bi, .slice a len ck] 27)).alloc (.cells #[.int .i64 0, .int .i64 0, .string ⟨#[]⟩, .int .i64 0, .int .i64 0, .int .i64 0, .int .i64 0, .int .u64 0, .slice none 0 0] 27) = w2 at *
  obtain ⟨_, y00, y01, _⟩ := y1.all
  have Y1 := hide y1
  have Z1 := hide z1
  clear y1 z1
  go_cut [7] from 8 to 13 (fun x wc => ∃ b, x = .pointer (some ⟨b, 0, none⟩) ∧ Hid (Nod wc b (.int .i64 31) (.int .i64 ps) (.string text) (.int .i64 0) (.int .i64 0) (.int .i64 0) (.int .i64 0) (.int .u64 0) (.slice none 0 0) ∧ Below w2.heap.size w2 wc ∧ w2.heap.size ≤ b))
  case first =>
    refine wp_region_any mixed ?_
    change wpAny _ _ _ _ _ _ _ (World.drew _)
    have H0 := hide H1.out.drew
    have Y0 : Hid (Nod w2.drew w.heap.size (.int .i64 kd) (.int .i64 ps) (.string nm) (.int .i64 t) (.int .i64 nz) (.int .i64 z) (.int .i64 o) (.int .u64 bi) (.slice a len ck)) := Y1.out.drew
    have B0 : Hid (Below w2.heap.size w2 w2.drew) := bel_drawn (Below.refl _ _)
    generalize World.drew w2 = W0 at *
    refine wpAny_take (i := 0) (v := ?_) rfl (by kernel_rfl) (by kernel_rfl) (by kernel_rfl) (fun _ _ _ h => h) (Or.inl ⟨by rfl, fun w => ?_⟩) ?_
    rotate_left 1
    · (go_simp <;> with_reducible rfl)
    simp only [Act.put, List.getElem_toArray, List.getElem_cons_zero, List.setIfInBounds_toArray, List.set_cons_zero, List.set_cons_succ]
    refine wpAny_take (i := 2) (v := ?_) rfl (by kernel_rfl) (by kernel_rfl) (by kernel_rfl) (fun _ _ _ h => h) (Or.inl ⟨by rfl, fun w => ?_⟩) ?_
    rotate_left 1
    · (go_simp <;> with_reducible rfl)
    simp only [Act.put, List.getElem_toArray, List.getElem_cons_zero, List.getElem_cons_succ, List.setIfInBounds_toArray, List.set_cons_zero, List.set_cons_succ]
    refine wpAny_ready (rs := [1, 3, 6]) (by kernel_rfl) (by decide) ?_
    refine AllReady.cons rfl (fun K1 hK1 => ?_) (AllReady.cons rfl (fun K1 hK1 => ?_) (AllReady.cons rfl (fun K1 hK1 => ?_) AllReady.nil))
    · obtain ⟨_, _, yq, _⟩ := Y0.out.all
      go_simp
      refine hK1 _ _ ?_
      clear hK1 K1 yq
      refine wpAny_ready (rs := [3, 6]) (by kernel_rfl) (by decide) ?_
      refine AllReady.cons rfl (fun K1 hK1 => ?_) (AllReady.cons rfl (fun K1 hK1 => ?_) AllReady.nil)
      · go_simp
        refine (HH.out _ H0.out).mono ?_
        rintro e W1 ⟨rfl, hb⟩
        have H1 := hide (H0.out.below hb)
        have Y1 := hide (Y0.out.bel hb)
        have B1 := hide (bel_trans B0.out hb)
        clear hb
        refine hK1 _ _ ?_
        clear hK1 K1
        refine wpAny_take (i := 4) (v := ?_) rfl (by kernel_rfl) (by kernel_rfl) (by kernel_rfl) (fun _ _ _ h => h) (Or.inl ⟨by rfl, fun w => ?_⟩) ?_
        rotate_left 1
        · (go_simp <;> with_reducible rfl)
        simp only [Act.put, List.getElem_toArray, List.getElem_cons_zero, List.getElem_cons_succ, List.setIfInBounds_toArray, List.set_cons_zero, List.set_cons_succ]
        refine wpAny_take (i := 5) (v := ?_) rfl (by kernel_rfl) (by kernel_rfl) (by kernel_rfl) (fun _ _ _ h => h) (Or.inl ⟨by rfl, fun w => ?_⟩) ?_
        rotate_left 1
        · (go_simp <;> with_reducible rfl)
        simp only [Act.put, List.getElem_toArray, List.getElem_cons_zero, List.getElem_cons_succ, List.setIfInBounds_toArray, List.set_cons_zero, List.set_cons_succ]
        refine wpAny_ready (rs := [6]) (by kernel_rfl) (by decide) ?_
        refine AllReady.cons rfl (fun K1 hK1 => ?_) AllReady.nil
        go_simp
        have hb := bel_new W1 (.cells #[.int .i64 0, .int .i64 0, .string ⟨#[]⟩, .int .i64 0, .int .i64 0, .int .i64 0, .int .i64 0, .int .u64 0, .slice none 0 0] 27)
        have X2 : Hid (Nod (W1.alloc (.cells #[.int .i64 0, .int .i64 0, .string ⟨#[]⟩, .int .i64 0, .int .i64 0, .int .i64 0, .int .i64 0, .int .u64 0, .slice none 0 0] 27)) W1.heap.size (.int .i64 0) (.int .i64 0) (.string ⟨#[]⟩) (.int .i64 0) (.int .i64 0) (.int .i64 0) (.int .i64 0) (.int .u64 0) (.slice none 0 0)) := Go.Deep.blk_alloc_new _ _
        have H2 := hide (H1.out.below hb)
        have Y2 := hide (Y1.out.bel hb)
        have B2 := hide (bel_trans B1.out hb)
        have LE : Hid (w2.heap.size ≤ W1.heap.size) := B1.out.size
        clear hb
        generalize W1.alloc (.cells #[.int .i64 0, .int .i64 0, .string ⟨#[]⟩, .int .i64 0, .int .i64 0, .int .i64 0, .int .i64 0, .int .u64 0, .slice none 0 0] 27) = W2 at *
        generalize W1.heap.size = b at *
        refine hK1 _ _ ?_
        clear hK1 K1
        refine wpAny_ready (rs := [7]) (by kernel_rfl) (by decide) ?_
        refine AllReady.cons rfl (fun K1 hK1 => ?_) AllReady.nil
        obtain ⟨⟨p0, p1, p2, p3, p4, p5, p6, p7, p8⟩, q0, q1, q2, q3, q4, q5, q6, q7, q8⟩ := X2.out.all
        go_simp
        refine hK1 _ _ ?_
        clear hK1 K1 p0 p1 p2 p3 p4 p5 p6 p7 p8 q0 q1 q2 q3 q4 q5 q6 q7 q8
        refine wpAny_done (by kernel_rfl) ?_ _
        go_wp2_with fail
        go_meet
        case rel =>
          obtain ⟨z9, s9⟩ := set9 X2.out (.int .i64 31) (.int .i64 ps) (.string text) (.int .i64 0) (.int .i64 0) (.int .i64 0) (.int .i64 0) (.int .u64 0) (.slice none 0 0)
          exact ⟨_, rfl, z9, B2.out.trans (s9.bel LE.out B2.out.size), LE.out⟩
      · go_simp
        have hb := bel_new W0 (.cells #[.int .i64 0, .int .i64 0, .string ⟨#[]⟩, .int .i64 0, .int .i64 0, .int .i64 0, .int .i64 0, .int .u64 0, .slice none 0 0] 27)
        have X1 : Hid (Nod (W0.alloc (.cells #[.int .i64 0, .int .i64 0, .string ⟨#[]⟩, .int .i64 0, .int .i64 0, .int .i64 0, .int .i64 0, .int .u64 0, .slice none 0 0] 27)) W0.heap.size (.int .i64 0) (.int .i64 0) (.string ⟨#[]⟩) (.int .i64 0) (.int .i64 0) (.int .i64 0) (.int .i64 0) (.int .u64 0) (.slice none 0 0)) := Go.Deep.blk_alloc_new _ _
        have H1 := hide (H0.out.below hb)
        have Y1 := hide (Y0.out.bel hb)
        have B1 := hide (bel_trans B0.out hb)
        have LE : Hid (w2.heap.size ≤ W0.heap.size) := B0.out.size
        clear hb
        generalize W0.alloc (.cells #[.int .i64 0, .int .i64 0, .string ⟨#[]⟩, .int .i64 0, .int .i64 0, .int .i64 0, .int .i64 0, .int .u64 0, .slice none 0 0] 27) = W1 at *
        generalize W0.heap.size = b at *
        refine hK1 _ _ ?_
        clear hK1 K1
        refine wpAny_ready (rs := [3]) (by kernel_rfl) (by decide) ?_
        refine AllReady.cons rfl (fun K1 hK1 => ?_) AllReady.nil
        go_simp
        refine (HH.out _ H1.out).mono ?_
        rintro e W2 ⟨rfl, hb⟩
        have H2 := hide (H1.out.below hb)
        have Y2 := hide (Y1.out.bel hb)
        have B2 := hide (bel_trans B1.out hb)
        have X2 := hide (X1.out.bel hb)
        clear hb
        refine hK1 _ _ ?_
        clear hK1 K1
        refine wpAny_take (i := 4) (v := ?_) rfl (by kernel_rfl) (by kernel_rfl) (by kernel_rfl) (fun _ _ _ h => h) (Or.inl ⟨by rfl, fun w => ?_⟩) ?_
        rotate_left 1
        · (go_simp <;> with_reducible rfl)
        simp only [Act.put, List.getElem_toArray, List.getElem_cons_zero, List.getElem_cons_succ, List.setIfInBounds_toArray, List.set_cons_zero, List.set_cons_succ]
        refine wpAny_take (i := 5) (v := ?_) rfl (by kernel_rfl) (by kernel_rfl) (by kernel_rfl) (fun _ _ _ h => h) (Or.inl ⟨by rfl, fun w => ?_⟩) ?_
        rotate_left 1
        · (go_simp <;> with_reducible rfl)
        simp only [Act.put, List.getElem_toArray, List.getElem_cons_zero, List.getElem_cons_succ, List.setIfInBounds_toArray, List.set_cons_zero, List.set_cons_succ]
        refine wpAny_ready (rs := [7]) (by kernel_rfl) (by decide) ?_
        refine AllReady.cons rfl (fun K1 hK1 => ?_) AllReady.nil
        obtain ⟨⟨p0, p1, p2, p3, p4, p5, p6, p7, p8⟩, q0, q1, q2, q3, q4, q5, q6, q7, q8⟩ := X2.out.all
        go_simp
        refine hK1 _ _ ?_
        clear hK1 K1 p0 p1 p2 p3 p4 p5 p6 p7 p8 q0 q1 q2 q3 q4 q5 q6 q7 q8
        refine wpAny_done (by kernel_rfl) ?_ _
        go_wp2_with fail
        go_meet
        case rel =>
          obtain ⟨z9, s9⟩ := set9 X2.out (.int .i64 31) (.int .i64 ps) (.string text) (.int .i64 0) (.int .i64 0) (.int .i64 0) (.int .i64 0) (.int .u64 0) (.slice none 0 0)
          exact ⟨_, rfl, z9, B2.out.trans (s9.bel LE.out B2.out.size), LE.out⟩
    · go_simp
      refine (HH.out _ H0.out).mono ?_
      rintro e W1 ⟨rfl, hb⟩
      have H1 := hide (H0.out.below hb)
      have Y1 := hide (Y0.out.bel hb)
      have B1 := hide (bel_trans B0.out hb)
      clear hb
      refine hK1 _ _ ?_
      clear hK1 K1
      refine wpAny_take (i := 4) (v := ?_) rfl (by kernel_rfl) (by kernel_rfl) (by kernel_rfl) (fun _ _ _ h => h) (Or.inl ⟨by rfl, fun w => ?_⟩) ?_
      rotate_left 1
      · (go_simp <;> with_reducible rfl)
      simp only [Act.put, List.getElem_toArray, List.getElem_cons_zero, List.getElem_cons_succ, List.setIfInBounds_toArray, List.set_cons_zero, List.set_cons_succ]
      refine wpAny_ready (rs := [1, 6]) (by kernel_rfl) (by decide) ?_
      refine AllReady.cons rfl (fun K1 hK1 => ?_) (AllReady.cons rfl (fun K1 hK1 => ?_) AllReady.nil)
      · obtain ⟨_, _, yq, _⟩ := Y1.out.all
        go_simp
        refine hK1 _ _ ?_
        clear hK1 K1 yq
        refine wpAny_take (i := 5) (v := ?_) rfl (by kernel_rfl) (by kernel_rfl) (by kernel_rfl) (fun _ _ _ h => h) (Or.inl ⟨by rfl, fun w => ?_⟩) ?_
        rotate_left 1
        · (go_simp <;> with_reducible rfl)
        simp only [Act.put, List.getElem_toArray, List.getElem_cons_zero, List.getElem_cons_succ, List.setIfInBounds_toArray, List.set_cons_zero, List.set_cons_succ]
        refine wpAny_ready (rs := [6]) (by kernel_rfl) (by decide) ?_
        refine AllReady.cons rfl (fun K1 hK1 => ?_) AllReady.nil
        go_simp
        have hb := bel_new W1 (.cells #[.int .i64 0, .int .i64 0, .string ⟨#[]⟩, .int .i64 0, .int .i64 0, .int .i64 0, .int .i64 0, .int .u64 0, .slice none 0 0] 27)
        have X2 : Hid (Nod (W1.alloc (.cells #[.int .i64 0, .int .i64 0, .string ⟨#[]⟩, .int .i64 0, .int .i64 0, .int .i64 0, .int .i64 0, .int .u64 0, .slice none 0 0] 27)) W1.heap.size (.int .i64 0) (.int .i64 0) (.string ⟨#[]⟩) (.int .i64 0) (.int .i64 0) (.int .i64 0) (.int .i64 0) (.int .u64 0) (.slice none 0 0)) := Go.Deep.blk_alloc_new _ _
        have H2 := hide (H1.out.below hb)
        have Y2 := hide (Y1.out.bel hb)
        have B2 := hide (bel_trans B1.out hb)
        have LE : Hid (w2.heap.size ≤ W1.heap.size) := B1.out.size
        clear hb
        generalize W1.alloc (.cells #[.int .i64 0, .int .i64 0, .string ⟨#[]⟩, .int .i64 0, .int .i64 0, .int .i64 0, .int .i64 0, .int .u64 0, .slice none 0 0] 27) = W2 at *
        generalize W1.heap.size = b at *
        refine hK1 _ _ ?_
        clear hK1 K1
        refine wpAny_ready (rs := [7]) (by kernel_rfl) (by decide) ?_
        refine AllReady.cons rfl (fun K1 hK1 => ?_) AllReady.nil
        obtain ⟨⟨p0, p1, p2, p3, p4, p5, p6, p7, p8⟩, q0, q1, q2, q3, q4, q5, q6, q7, q8⟩ := X2.out.all
        go_simp
        refine hK1 _ _ ?_
        clear hK1 K1 p0 p1 p2 p3 p4 p5 p6 p7 p8 q0 q1 q2 q3 q4 q5 q6 q7 q8
        refine wpAny_done (by kernel_rfl) ?_ _
        go_wp2_with fail
        go_meet
        case rel =>
          obtain ⟨z9, s9⟩ := set9 X2.out (.int .i64 31) (.int .i64 ps) (.string text) (.int .i64 0) (.int .i64 0) (.int .i64 0) (.int .i64 0) (.int .u64 0) (.slice none 0 0)
          exact ⟨_, rfl, z9, B2.out.trans (s9.bel LE.out B2.out.size), LE.out⟩
      · go_simp
        have hb := bel_new W1 (.cells #[.int .i64 0, .int .i64 0, .string ⟨#[]⟩, .int .i64 0, .int .i64 0, .int .i64 0, .int .i64 0, .int .u64 0, .slice none 0 0] 27)
        have X2 : Hid (Nod (W1.alloc (.cells #[.int .i64 0, .int .i64 0, .string ⟨#[]⟩, .int .i64 0, .int .i64 0, .int .i64 0, .int .i64 0, .int .u64 0, .slice none 0 0] 27)) W1.heap.size (.int .i64 0) (.int .i64 0) (.string ⟨#[]⟩) (.int .i64 0) (.int .i64 0) (.int .i64 0) (.int .i64 0) (.int .u64 0) (.slice none 0 0)) := Go.Deep.blk_alloc_new _ _
        have H2 := hide (H1.out.below hb)
        have Y2 := hide (Y1.out.bel hb)
        have B2 := hide (bel_trans B1.out hb)
        have LE : Hid (w2.heap.size ≤ W1.heap.size) := B1.out.size
        clear hb
        generalize W1.alloc (.cells #[.int .i64 0, .int .i64 0, .string ⟨#[]⟩, .int .i64 0, .int .i64 0, .int .i64 0, .int .i64 0, .int .u64 0, .slice none 0 0] 27) = W2 at *
        generalize W1.heap.size = b at *
        refine hK1 _ _ ?_
        clear hK1 K1
        refine wpAny_ready (rs := [1]) (by kernel_rfl) (by decide) ?_
        refine AllReady.cons rfl (fun K1 hK1 => ?_) AllReady.nil
        obtain ⟨_, _, yq, _⟩ := Y2.out.all
        go_simp
        refine hK1 _ _ ?_
        clear hK1 K1 yq
        refine wpAny_take (i := 5) (v := ?_) rfl (by kernel_rfl) (by kernel_rfl) (by kernel_rfl) (fun _ _ _ h => h) (Or.inl ⟨by rfl, fun w => ?_⟩) ?_
        rotate_left 1
        · (go_simp <;> with_reducible rfl)
        simp only [Act.put, List.getElem_toArray, List.getElem_cons_zero, List.getElem_cons_succ, List.setIfInBounds_toArray, List.set_cons_zero, List.set_cons_succ]
        refine wpAny_ready (rs := [7]) (by kernel_rfl) (by decide) ?_
        refine AllReady.cons rfl (fun K1 hK1 => ?_) AllReady.nil
        obtain ⟨⟨p0, p1, p2, p3, p4, p5, p6, p7, p8⟩, q0, q1, q2, q3, q4, q5, q6, q7, q8⟩ := X2.out.all
        go_simp
        refine hK1 _ _ ?_
        clear hK1 K1 p0 p1 p2 p3 p4 p5 p6 p7 p8 q0 q1 q2 q3 q4 q5 q6 q7 q8
        refine wpAny_done (by kernel_rfl) ?_ _
        go_wp2_with fail
        go_meet
        case rel =>
          obtain ⟨z9, s9⟩ := set9 X2.out (.int .i64 31) (.int .i64 ps) (.string text) (.int .i64 0) (.int .i64 0) (.int .i64 0) (.int .i64 0) (.int .u64 0) (.slice none 0 0)
          exact ⟨_, rfl, z9, B2.out.trans (s9.bel LE.out B2.out.size), LE.out⟩
    · go_simp
      have hb := bel_new W0 (.cells #[.int .i64 0, .int .i64 0, .string ⟨#[]⟩, .int .i64 0, .int .i64 0, .int .i64 0, .int .i64 0, .int .u64 0, .slice none 0 0] 27)
      have X1 : Hid (Nod (W0.alloc (.cells #[.int .i64 0, .int .i64 0, .string ⟨#[]⟩, .int .i64 0, .int .i64 0, .int .i64 0, .int .i64 0, .int .u64 0, .slice none 0 0] 27)) W0.heap.size (.int .i64 0) (.int .i64 0) (.string ⟨#[]⟩) (.int .i64 0) (.int .i64 0) (.int .i64 0) (.int .i64 0) (.int .u64 0) (.slice none 0 0)) := Go.Deep.blk_alloc_new _ _
      have H1 := hide (H0.out.below hb)
      have Y1 := hide (Y0.out.bel hb)
      have B1 := hide (bel_trans B0.out hb)
      have LE : Hid (w2.heap.size ≤ W0.heap.size) := B0.out.size
      clear hb
      generalize W0.alloc (.cells #[.int .i64 0, .int .i64 0, .string ⟨#[]⟩, .int .i64 0, .int .i64 0, .int .i64 0, .int .i64 0, .int .u64 0, .slice none 0 0] 27) = W1 at *
      generalize W0.heap.size = b at *
      refine hK1 _ _ ?_
      clear hK1 K1
      refine wpAny_ready (rs := [1, 3]) (by kernel_rfl) (by decide) ?_
      refine AllReady.cons rfl (fun K1 hK1 => ?_) (AllReady.cons rfl (fun K1 hK1 => ?_) AllReady.nil)
      · obtain ⟨_, _, yq, _⟩ := Y1.out.all
        go_simp
        refine hK1 _ _ ?_
        clear hK1 K1 yq
        refine wpAny_ready (rs := [3]) (by kernel_rfl) (by decide) ?_
        refine AllReady.cons rfl (fun K1 hK1 => ?_) AllReady.nil
        go_simp
        refine (HH.out _ H1.out).mono ?_
        rintro e W2 ⟨rfl, hb⟩
        have H2 := hide (H1.out.below hb)
        have Y2 := hide (Y1.out.bel hb)
        have B2 := hide (bel_trans B1.out hb)
        have X2 := hide (X1.out.bel hb)
        clear hb
        refine hK1 _ _ ?_
        clear hK1 K1
        refine wpAny_take (i := 4) (v := ?_) rfl (by kernel_rfl) (by kernel_rfl) (by kernel_rfl) (fun _ _ _ h => h) (Or.inl ⟨by rfl, fun w => ?_⟩) ?_
        rotate_left 1
        · (go_simp <;> with_reducible rfl)
        simp only [Act.put, List.getElem_toArray, List.getElem_cons_zero, List.getElem_cons_succ, List.setIfInBounds_toArray, List.set_cons_zero, List.set_cons_succ]
        refine wpAny_take (i := 5) (v := ?_) rfl (by kernel_rfl) (by kernel_rfl) (by kernel_rfl) (fun _ _ _ h => h) (Or.inl ⟨by rfl, fun w => ?_⟩) ?_
        rotate_left 1
        · (go_simp <;> with_reducible rfl)
        simp only [Act.put, List.getElem_toArray, List.getElem_cons_zero, List.getElem_cons_succ, List.setIfInBounds_toArray, List.set_cons_zero, List.set_cons_succ]
        refine wpAny_ready (rs := [7]) (by kernel_rfl) (by decide) ?_
        refine AllReady.cons rfl (fun K1 hK1 => ?_) AllReady.nil
        obtain ⟨⟨p0, p1, p2, p3, p4, p5, p6, p7, p8⟩, q0, q1, q2, q3, q4, q5, q6, q7, q8⟩ := X2.out.all
        go_simp
        refine hK1 _ _ ?_
        clear hK1 K1 p0 p1 p2 p3 p4 p5 p6 p7 p8 q0 q1 q2 q3 q4 q5 q6 q7 q8
        refine wpAny_done (by kernel_rfl) ?_ _
        go_wp2_with fail
        go_meet
        case rel =>
          obtain ⟨z9, s9⟩ := set9 X2.out (.int .i64 31) (.int .i64 ps) (.string text) (.int .i64 0) (.int .i64 0) (.int .i64 0) (.int .i64 0) (.int .u64 0) (.slice none 0 0)
          exact ⟨_, rfl, z9, B2.out.trans (s9.bel LE.out B2.out.size), LE.out⟩
      · go_simp
        refine (HH.out _ H1.out).mono ?_
        rintro e W2 ⟨rfl, hb⟩
        have H2 := hide (H1.out.below hb)
        have Y2 := hide (Y1.out.bel hb)
        have B2 := hide (bel_trans B1.out hb)
        have X2 := hide (X1.out.bel hb)
        clear hb
        refine hK1 _ _ ?_
        clear hK1 K1
        refine wpAny_take (i := 4) (v := ?_) rfl (by kernel_rfl) (by kernel_rfl) (by kernel_rfl) (fun _ _ _ h => h) (Or.inl ⟨by rfl, fun w => ?_⟩) ?_
        rotate_left 1
        · (go_simp <;> with_reducible rfl)
        simp only [Act.put, List.getElem_toArray, List.getElem_cons_zero, List.getElem_cons_succ, List.setIfInBounds_toArray, List.set_cons_zero, List.set_cons_succ]
        refine wpAny_ready (rs := [1]) (by kernel_rfl) (by decide) ?_
        refine AllReady.cons rfl (fun K1 hK1 => ?_) AllReady.nil
        obtain ⟨_, _, yq, _⟩ := Y2.out.all
        go_simp
        refine hK1 _ _ ?_
        clear hK1 K1 yq
        refine wpAny_take (i := 5) (v := ?_) rfl (by kernel_rfl) (by kernel_rfl) (by kernel_rfl) (fun _ _ _ h => h) (Or.inl ⟨by rfl, fun w => ?_⟩) ?_
        rotate_left 1
        · (go_simp <;> with_reducible rfl)
        simp only [Act.put, List.getElem_toArray, List.getElem_cons_zero, List.getElem_cons_succ, List.setIfInBounds_toArray, List.set_cons_zero, List.set_cons_succ]
        refine wpAny_ready (rs := [7]) (by kernel_rfl) (by decide) ?_
        refine AllReady.cons rfl (fun K1 hK1 => ?_) AllReady.nil
        obtain ⟨⟨p0, p1, p2, p3, p4, p5, p6, p7, p8⟩, q0, q1, q2, q3, q4, q5, q6, q7, q8⟩ := X2.out.all
        go_simp
        refine hK1 _ _ ?_
        clear hK1 K1 p0 p1 p2 p3 p4 p5 p6 p7 p8 q0 q1 q2 q3 q4 q5 q6 q7 q8
        refine wpAny_done (by kernel_rfl) ?_ _
        go_wp2_with fail
        go_meet
        case rel =>
          obtain ⟨z9, s9⟩ := set9 X2.out (.int .i64 31) (.int .i64 ps) (.string text) (.int .i64 0) (.int .i64 0) (.int .i64 0) (.int .i64 0) (.int .u64 0) (.slice none 0 0)
          exact ⟨_, rfl, z9, B2.out.trans (s9.bel LE.out B2.out.size), LE.out⟩
  case rest =>
    obtain ⟨b, rfl, hX⟩ := hcut
    have H2 := hide (H1.out.below hX.out.2.1)
    have Y2 := hide (Y1.out.bel hX.out.2.1)
    have Z2 := hide (Z1.out.bel hX.out.2.1)
    have K2 := hide (K1.out.bel hX.out.2.1)
    have T2 := hide (Tn.of_bel (g := g) (bel_trans B1.out hX.out.2.1))
    have X2 := hide hX.out.1
    have hb : w.heap.size + 1 + 1 ≤ b := by have := hX.out.2.2; omega
    obtain ⟨r1, r2⟩ := H2.out.set (i + 1) hi ((i : Int) + 1) (by omega)
    have H3 := hide r1
    have T3 := hide (T2.out.trans r2)
    have Y3 := hide (Y2.out.tn r2 (by omega))
    have Z3 := hide (Z2.out.tn r2 (by omega))
    have X3 := hide (X2.out.tn r2 (by omega))
    obtain ⟨cap, _, c1, _, cf, _, _⟩ := H2.out.cells
    have fc1 := cf 1
    have hL := H2.out.len
    obtain ⟨_, d0, d1, d2, d3, d4, d5, d6, d7, d8⟩ := Y3.out.all
    clear cf r1 r2 H2 T2 Z2 X2 Y2 K2 hX H1 Y1 Z1 K1 B1 HH hf1 y00 y01
    go_wp2_with fail
    clear c1 fc1 hL d0 d1 d2 d3 d4 d5 d6 d7 d8
    generalize wc.setCell ⟨g, 1, none⟩ (.int .i64 ((i : Int) + 1)) = w3 at *
    have H0 := hide H3.out.drew
    have T0 := hide T3.out.drew
    have Y0 := hide Y3.out.drew
    have Z0 := hide Z3.out.drew
    have X0 := hide X3.out.drew
    clear H3 T3 Y3 Z3 X3
    cases r with
    | bad k j =>
      refine wp_region_any mixed ?_
      change wpAny _ _ _ _ _ _ _ (World.drew _)
      generalize World.drew w3 = W0 at *
      refine wpAny_take (i := 1) (v := ?_) rfl (by kernel_rfl) (by kernel_rfl) (by kernel_rfl) (fun _ _ _ h => h) (Or.inl ⟨by rfl, fun w => ?_⟩) ?_
      rotate_left 1
      · (go_simp <;> with_reducible rfl)
      simp only [Act.put, List.getElem_toArray, List.getElem_cons_zero, List.getElem_cons_succ, List.setIfInBounds_toArray, List.set_cons_zero, List.set_cons_succ]
      refine wpAny_ready (rs := [0, 2]) (by kernel_rfl) (by decide) ?_
      refine AllReady.cons rfl (fun K1 hK1 => ?_) (AllReady.cons rfl (fun K1 hK1 => ?_) AllReady.nil)
      · obtain ⟨_, d0, d1, d2, d3, d4, d5, d6, d7, d8⟩ := Y0.out.all
        go_simp
        refine hK1 _ _ ?_
        clear hK1 K1 d0 d1 d2 d3 d4 d5 d6 d7 d8
        refine wpAny_ready (rs := [2]) (by kernel_rfl) (by decide) ?_
        refine AllReady.cons rfl (fun K1 hK1 => ?_) AllReady.nil
        go_simp
        refine (HR.out _ H0.out).mono ?_
        rintro e W1 ⟨rfl, t1⟩
        exact ⟨rfl, rfl, T0.out.trans t1⟩
      · go_simp
        refine (HR.out _ H0.out).mono ?_
        rintro e W1 ⟨rfl, t1⟩
        exact ⟨rfl, rfl, T0.out.trans t1⟩
    | ok m j =>
      obtain ⟨kd', ps', nm', t', nz', z', o', bi', ks'⟩ := m
      refine wp_region_any mixed ?_
      change wpAny _ _ _ _ _ _ _ (World.drew _)
      generalize World.drew w3 = W0 at *
      refine wpAny_take (i := 1) (v := ?_) rfl (by kernel_rfl) (by kernel_rfl) (by kernel_rfl) (fun _ _ _ h => h) (Or.inl ⟨by rfl, fun w => ?_⟩) ?_
      rotate_left 1
      · (go_simp <;> with_reducible rfl)
      simp only [Act.put, List.getElem_toArray, List.getElem_cons_zero, List.getElem_cons_succ, List.setIfInBounds_toArray, List.set_cons_zero, List.set_cons_succ]
      refine wpAny_ready (rs := [0, 2]) (by kernel_rfl) (by decide) ?_
      refine AllReady.cons rfl (fun K1 hK1 => ?_) (AllReady.cons rfl (fun K1 hK1 => ?_) AllReady.nil)
      · obtain ⟨_, d0, d1, d2, d3, d4, d5, d6, d7, d8⟩ := Y0.out.all
        go_simp
        refine hK1 _ _ ?_
        clear hK1 K1 d0 d1 d2 d3 d4 d5 d6 d7 d8
        refine wpAny_ready (rs := [2]) (by kernel_rfl) (by decide) ?_
        refine AllReady.cons rfl (fun K1 hK1 => ?_) AllReady.nil
        go_simp
        refine (HR.out _ H0.out).mono ?_
        rintro e W1 ⟨v, rfl, hv, h1, t1⟩
        unfold NodeV at hv
        obtain ⟨s', rfl, hk'⟩ := hv
        obtain ⟨a', len', ck', rfl⟩ := hk'.shape
        have hwz : W0.heap.size ≤ W1.heap.size := t1.size
        have hbW : b < W0.heap.size := lt_of_blk X0.out
        have H1 := hide h1
        have T1 := hide (T0.out.trans t1)
        have Y1 := hide (Y0.out.tn t1 (by omega))
        have Z1 := hide (Z0.out.tn t1 (by omega))
        have X1 := hide (X0.out.tn t1 (by omega))
        have J1 := hide hk'
        clear h1 t1 hk'
        refine hK1 _ _ ?_
        clear hK1 K1
        refine wpAny_ready (rs := [3]) (by kernel_rfl) (by decide) ?_
        refine AllReady.cons rfl (fun K1 hK1 => ?_) AllReady.nil
        go_simp
        have hb5 := bel_new W1 (.cells #[.int .i64 kd, .int .i64 ps, .string nm, .int .i64 t, .int .i64 nz, .int .i64 z, .int .i64 o, .int .u64 bi, .slice a len ck, .int .i64 kd', .int .i64 ps', .string nm', .int .i64 t', .int .i64 nz', .int .i64 z', .int .i64 o', .int .u64 bi', .slice a' len' ck'] 27)
        have kb : (W1.alloc (.cells #[.int .i64 kd, .int .i64 ps, .string nm, .int .i64 t, .int .i64 nz, .int .i64 z, .int .i64 o, .int .u64 bi, .slice a len ck, .int .i64 kd', .int .i64 ps', .string nm', .int .i64 t', .int .i64 nz', .int .i64 z', .int .i64 o', .int .u64 bi', .slice a' len' ck'] 27)).heap[W1.heap.size]? = some (.cells #[.int .i64 kd, .int .i64 ps, .string nm, .int .i64 t, .int .i64 nz, .int .i64 z, .int .i64 o, .int .u64 bi, .slice a len ck, .int .i64 kd', .int .i64 ps', .string nm', .int .i64 t', .int .i64 nz', .int .i64 z', .int .i64 o', .int .u64 bi', .slice a' len' ck'] 27 (0, 0)) := Go.Deep.blk_alloc_new _ _
        have H5 := hide (H1.out.below hb5)
        have T5 := hide (T1.out.trans (Tn.of_bel hb5))
        have Z5 := hide (Z1.out.bel hb5)
        have x5 := X1.out.bel hb5
        have KB := hide kb
        have J5 := hide (J1.out.bel hb5)
        obtain ⟨⟨_, _, _, _, _, _, _, _, f8⟩, _, _, _, _, _, _, _, _, c8⟩ := x5.all
        obtain ⟨x6, s6⟩ := set1 x5 8 (.slice (some ⟨W1.heap.size, 0, none⟩) 2 2)
        have x6 : Nod _ b (.int .i64 31) (.int .i64 ps) (.string text) (.int .i64 0) (.int .i64 0) (.int .i64 0) (.int .i64 0) (.int .u64 0) (.slice (some ⟨W1.heap.size, 0, none⟩) 2 2) := x6
        clear kb hb5 x5 J1 H1 T1 Z1 X1 Y1
        refine hK1 _ _ ?_
        clear hK1 K1
        refine wpAny_take (i := 4) (v := ?_) rfl (by kernel_rfl) (by kernel_rfl) (by kernel_rfl) (fun _ _ _ h => h) (Or.inl ⟨by rfl, fun w => ?_⟩) ?_
        rotate_left 1
        · (go_simp <;> with_reducible rfl)
        simp only [Act.put, List.getElem_toArray, List.getElem_cons_zero, List.getElem_cons_succ, List.setIfInBounds_toArray, List.set_cons_zero, List.set_cons_succ]
        refine wpAny_ready (rs := [5]) (by kernel_rfl) (by decide) ?_
        refine AllReady.cons rfl (fun K1 hK1 => ?_) AllReady.nil
        go_simp
        refine hK1 _ _ ?_
        clear hK1 K1 f8 c8
        refine wpAny_done (by kernel_rfl) ?_ _
        have X6 := hide x6
        have T6 := hide (T5.out.own s6 (by omega))
        have H6 := hide (H5.out.tn s6 (by have := H5.out.big; omega) (by omega) (by omega))
        have Z6 := hide (Z5.out.tn s6 (by omega))
        have KB6 := hide ((s6.blk W1.heap.size (lt_of_blk KB.out) (by omega)).trans KB.out)
        have J6 := hide (J5.out.tn s6 hbW)
        clear x6 s6 H5 T5 Z5 KB J5
        generalize hw6 : (W1.alloc (.cells #[.int .i64 kd, .int .i64 ps, .string nm, .int .i64 t, .int .i64 nz, .int .i64 z, .int .i64 o, .int .u64 bi, .slice a len ck, .int .i64 kd', .int .i64 ps', .string nm', .int .i64 t', .int .i64 nz', .int .i64 z', .int .i64 o', .int .u64 bi', .slice a' len' ck'] 27)).setCell ⟨b, 8, none⟩ (.slice (some ⟨W1.heap.size, 0, none⟩) 2 2) = w6 at *
        clear hw6
        have hbk := hide (show w.heap.size + 1 < W1.heap.size by omega)
        generalize W1.heap.size = bk at *
        obtain ⟨_, e0, e1, e2, e3, e4, e5, e6, e7, e8⟩ := X6.out.all
        obtain ⟨⟨p0, p1, p2, p3, p4, p5, p6, p7, p8⟩, q0, q1, q2, q3, q4, q5, q6, q7, q8⟩ := Z6.out.all
        obtain ⟨z9, s9⟩ := set9 Z6.out (.int .i64 31) (.int .i64 ps) (.string text) (.int .i64 0) (.int .i64 0) (.int .i64 0) (.int .i64 0) (.int .u64 0) (.slice (some ⟨bk, 0, none⟩) 2 2)
        have Z9 := hide z9
        have S9 := hide s9
        clear z9 s9 Z6 X6
        go_wp2_with fail
        refine ret_nod (w.heap.size + 1) rfl rfl Z9.out rfl ?_
        refine ⟨_, rfl, ?_, H6.out.tn S9.out (by have := H6.out.big; omega) (by omega) (by omega), T6.out.own S9.out (by omega)⟩
        unfold binN nd NodeV
        refine ⟨_, rfl, two_kids ((S9.out.blk bk (lt_of_blk KB6.out) (by have := hbk.out; omega)).trans KB6.out) (HKL.out.tnS (T6.out.own S9.out (by omega)) hgB) ((J6.out.tn S9.out (by omega)).lowS (fun k hk => hB k (Nat.le_trans (Nat.le_of_lt (show w.heap.size < W0.heap.size by omega)) hk))) (hB _ (by have := hbk.out; omega))⟩
      · go_simp
        refine (HR.out _ H0.out).mono ?_
        rintro e W1 ⟨v, rfl, hv, h1, t1⟩
        unfold NodeV at hv
        obtain ⟨s', rfl, hk'⟩ := hv
        obtain ⟨a', len', ck', rfl⟩ := hk'.shape
        have hwz : W0.heap.size ≤ W1.heap.size := t1.size
        have hbW : b < W0.heap.size := lt_of_blk X0.out
        have H1 := hide h1
        have T1 := hide (T0.out.trans t1)
        have Y1 := hide (Y0.out.tn t1 (by omega))
        have Z1 := hide (Z0.out.tn t1 (by omega))
        have X1 := hide (X0.out.tn t1 (by omega))
        have J1 := hide hk'
        clear h1 t1 hk'
        refine hK1 _ _ ?_
        clear hK1 K1
        refine wpAny_ready (rs := [0]) (by kernel_rfl) (by decide) ?_
        refine AllReady.cons rfl (fun K1 hK1 => ?_) AllReady.nil
        obtain ⟨_, d0, d1, d2, d3, d4, d5, d6, d7, d8⟩ := Y1.out.all
        go_simp
        refine hK1 _ _ ?_
        clear hK1 K1 d0 d1 d2 d3 d4 d5 d6 d7 d8
        refine wpAny_ready (rs := [3]) (by kernel_rfl) (by decide) ?_
        refine AllReady.cons rfl (fun K1 hK1 => ?_) AllReady.nil
        go_simp
        have hb5 := bel_new W1 (.cells #[.int .i64 kd, .int .i64 ps, .string nm, .int .i64 t, .int .i64 nz, .int .i64 z, .int .i64 o, .int .u64 bi, .slice a len ck, .int .i64 kd', .int .i64 ps', .string nm', .int .i64 t', .int .i64 nz', .int .i64 z', .int .i64 o', .int .u64 bi', .slice a' len' ck'] 27)
        have kb : (W1.alloc (.cells #[.int .i64 kd, .int .i64 ps, .string nm, .int .i64 t, .int .i64 nz, .int .i64 z, .int .i64 o, .int .u64 bi, .slice a len ck, .int .i64 kd', .int .i64 ps', .string nm', .int .i64 t', .int .i64 nz', .int .i64 z', .int .i64 o', .int .u64 bi', .slice a' len' ck'] 27)).heap[W1.heap.size]? = some (.cells #[.int .i64 kd, .int .i64 ps, .string nm, .int .i64 t, .int .i64 nz, .int .i64 z, .int .i64 o, .int .u64 bi, .slice a len ck, .int .i64 kd', .int .i64 ps', .string nm', .int .i64 t', .int .i64 nz', .int .i64 z', .int .i64 o', .int .u64 bi', .slice a' len' ck'] 27 (0, 0)) := Go.Deep.blk_alloc_new _ _
        have H5 := hide (H1.out.below hb5)
        have T5 := hide (T1.out.trans (Tn.of_bel hb5))
        have Z5 := hide (Z1.out.bel hb5)
        have x5 := X1.out.bel hb5
        have KB := hide kb
        have J5 := hide (J1.out.bel hb5)
        obtain ⟨⟨_, _, _, _, _, _, _, _, f8⟩, _, _, _, _, _, _, _, _, c8⟩ := x5.all
        obtain ⟨x6, s6⟩ := set1 x5 8 (.slice (some ⟨W1.heap.size, 0, none⟩) 2 2)
        have x6 : Nod _ b (.int .i64 31) (.int .i64 ps) (.string text) (.int .i64 0) (.int .i64 0) (.int .i64 0) (.int .i64 0) (.int .u64 0) (.slice (some ⟨W1.heap.size, 0, none⟩) 2 2) := x6
        clear kb hb5 x5 J1 H1 T1 Z1 X1 Y1
        refine hK1 _ _ ?_
        clear hK1 K1
        refine wpAny_take (i := 4) (v := ?_) rfl (by kernel_rfl) (by kernel_rfl) (by kernel_rfl) (fun _ _ _ h => h) (Or.inl ⟨by rfl, fun w => ?_⟩) ?_
        rotate_left 1
        · (go_simp <;> with_reducible rfl)
        simp only [Act.put, List.getElem_toArray, List.getElem_cons_zero, List.getElem_cons_succ, List.setIfInBounds_toArray, List.set_cons_zero, List.set_cons_succ]
        refine wpAny_ready (rs := [5]) (by kernel_rfl) (by decide) ?_
        refine AllReady.cons rfl (fun K1 hK1 => ?_) AllReady.nil
        go_simp
        refine hK1 _ _ ?_
        clear hK1 K1 f8 c8
        refine wpAny_done (by kernel_rfl) ?_ _
        have X6 := hide x6
        have T6 := hide (T5.out.own s6 (by omega))
        have H6 := hide (H5.out.tn s6 (by have := H5.out.big; omega) (by omega) (by omega))
        have Z6 := hide (Z5.out.tn s6 (by omega))
        have KB6 := hide ((s6.blk W1.heap.size (lt_of_blk KB.out) (by omega)).trans KB.out)
        have J6 := hide (J5.out.tn s6 hbW)
        clear x6 s6 H5 T5 Z5 KB J5
        generalize hw6 : (W1.alloc (.cells #[.int .i64 kd, .int .i64 ps, .string nm, .int .i64 t, .int .i64 nz, .int .i64 z, .int .i64 o, .int .u64 bi, .slice a len ck, .int .i64 kd', .int .i64 ps', .string nm', .int .i64 t', .int .i64 nz', .int .i64 z', .int .i64 o', .int .u64 bi', .slice a' len' ck'] 27)).setCell ⟨b, 8, none⟩ (.slice (some ⟨W1.heap.size, 0, none⟩) 2 2) = w6 at *
        clear hw6
        have hbk := hide (show w.heap.size + 1 < W1.heap.size by omega)
        generalize W1.heap.size = bk at *
        obtain ⟨_, e0, e1, e2, e3, e4, e5, e6, e7, e8⟩ := X6.out.all
        obtain ⟨⟨p0, p1, p2, p3, p4, p5, p6, p7, p8⟩, q0, q1, q2, q3, q4, q5, q6, q7, q8⟩ := Z6.out.all
        obtain ⟨z9, s9⟩ := set9 Z6.out (.int .i64 31) (.int .i64 ps) (.string text) (.int .i64 0) (.int .i64 0) (.int .i64 0) (.int .i64 0) (.int .u64 0) (.slice (some ⟨bk, 0, none⟩) 2 2)
        have Z9 := hide z9
        have S9 := hide s9
        clear z9 s9 Z6 X6
        go_wp2_with fail
        refine ret_nod (w.heap.size + 1) rfl rfl Z9.out rfl ?_
        refine ⟨_, rfl, ?_, H6.out.tn S9.out (by have := H6.out.big; omega) (by omega) (by omega), T6.out.own S9.out (by omega)⟩
        unfold binN nd NodeV
        refine ⟨_, rfl, two_kids ((S9.out.blk bk (lt_of_blk KB6.out) (by have := hbk.out; omega)).trans KB6.out) (HKL.out.tnS (T6.out.own S9.out (by omega)) hgB) ((J6.out.tn S9.out (by omega)).lowS (fun k hk => hB k (Nat.le_trans (Nat.le_of_lt (show w.heap.size < W0.heap.size by omega)) hk))) (hB _ (by have := hbk.out; omega))⟩

end Go.Proofs.YtogeblmppagabaaGreatDoor.Ck
