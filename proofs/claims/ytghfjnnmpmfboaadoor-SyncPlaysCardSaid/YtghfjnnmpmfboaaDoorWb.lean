/- SyncPlays: one call on both states: a place is written. (Written by mk_y.py.) -/
import Derived.Test.YtghfjnnmpmfboaaDoorWa
namespace Go.Proofs.YtghfjnnmpmfboaaDoor.Ck
open Go.RowKit

/-- the variable of a call's kind, number and value -/
def Bx (w : World) (b : Nat) (k i n t m z : Int) : Prop := w.heap[b]? = some (.cells #[.int .i64 k, .int .i64 i, .int .i64 n, .int .i64 t, .int .i64 m, .int .u64 z] 43 (0, 0))
theorem Bx.all {w : World} {b : Nat} {k i n t m z : Int} (h : Bx w b k i n t m z) : w.cell? ⟨b, 0, none⟩ = some (.int .i64 k) ∧ w.cell? ⟨b, 1, none⟩ = some (.int .i64 i) ∧ w.cell? ⟨b, 2, none⟩ = some (.int .i64 n) ∧ w.cell? ⟨b, 3, none⟩ = some (.int .i64 t) ∧ w.cell? ⟨b, 4, none⟩ = some (.int .i64 m) ∧ w.cell? ⟨b, 5, none⟩ = some (.int .u64 z) :=
  ⟨blk_cell h 0 _ rfl, blk_cell h 1 _ rfl, blk_cell h 2 _ rfl, blk_cell h 3 _ rfl, blk_cell h 4 _ rfl, blk_cell h 5 _ rfl⟩
theorem Bx.lt {w : World} {b : Nat} {k i n t m z : Int} (h : Bx w b k i n t m z) : b < w.heap.size := lt_of_blk h
theorem Bx.al {w w' : World} {b : Nat} {k i n t m z : Int} (h : Bx w b k i n t m z) (hb : Below w.heap.size w w') : Bx w' b k i n t m z := (hb.block b h.lt).trans h
theorem Bx.ch {w w' : World} {b : Nat} {k i n t m z : Int} {F F' : Nat → Prop} (h : Bx w b k i n t m z) (c : Ch F F' w w') (hn : ¬ F b) : Bx w' b k i n t m z := (c.blk b h.lt hn).trans h
def DoE (w0 w : World) (G R : Nat → Prop) (B g gm : Nat) (s' : St) (e : Ending) (w' : World) : Prop := e = .returned (.bool true) ∧ DoP w0 w G R B g gm s' w'
theorem DoE.mk {w0 w wa w' : World} {G R : Nat → Prop} {B g gm : Nat} {s' : St} {b : Bool} (hv : b = true) (hb : Below w.heap.size w wa) (h : DoP w0 wa G R B g gm s' w') : DoE w0 w G R B g gm s' (.returned (.bool b)) w' := by
  subst hv
  obtain ⟨G', R', h1, c, r1, r2⟩ := h
  exact ⟨rfl, G', R', h1, (Ch.of_bel hb).trans c, r1, fun k hk => (r2 k hk).imp id (Nat.le_trans hb.size)⟩
theorem DoP.bel {w0 w w' w2 : World} {G R : Nat → Prop} {B g gm : Nat} {s' : St} (h : DoP w0 w G R B g gm s' w') (hb : Below w'.heap.size w' w2) : DoP w0 w G R B g gm s' w2 := by
  obtain ⟨G', R', h1, c, r1, r2⟩ := h
  exact ⟨G', R', h1.bel hb, c.trans (Ch.of_bel hb), r1, r2⟩
theorem Ch.und {F F' : Nat → Prop} {w w' : World} (c : Ch F F' w.drew w') : Ch F F' w w' := ⟨c.os, c.tape, c.output, c.size, c.blk, c.grow⟩
theorem Stt.drew {w : World} {F : Nat → Prop} {g : Nat} {s : St} (h : Stt w F g s) : Stt w.drew F g s := h.bel (bel_drawn (Below.refl _ _))
theorem Rt.drew {w : World} {F R : Nat → Prop} {B g : Nat} {s : St} (h : Rt w F R B g s) : Rt w.drew F R B g s := h.bel (bel_drawn (Below.refl _ _))
/-- nothing has turned -/
theorem Pr.still {w0 w w2 : World} {G R F F2 : Nat → Prop} {B g gm : Nat} {s : St} (hs : Stt w F g s) (hm : Rt w F2 R B gm s) (d1 : ∀ k, F k → ¬ F2 k) (d2 : ∀ k, F k → ¬ R k) (hG : ∀ k, G k ↔ F k ∨ F2 k) (hlo : ∀ k, G k → w0.heap.size ≤ k) (hb : Below w0.heap.size w0 w) (h : Below w.heap.size w w2) : DoP w0 w G R (B + 1) g gm s w2 :=
  Pr.done1 hs hm d1 d2 hG hlo hb (hs.bel h) (Ch.of_bel h) (hm.bel h).up (Ch.refl _ _) (fun _ h => h) (fun _ h => .inl h)
/-- both states, taken apart -/
structure Kp (w0 w : World) (G R : Nat → Prop) (B g gm : Nat) (s : St) (F F2 : Nat → Prop) : Prop where
  hs : Stt w F g s
  hm : Rt w F2 R B gm s
  d1 : ∀ k, F k → ¬ F2 k
  d2 : ∀ k, F k → ¬ R k
  hG : ∀ k, G k ↔ F k ∨ F2 k
  hlo : ∀ k, G k → w0.heap.size ≤ k
  hbl : Below w0.heap.size w0 w
section
variable {w0 w w1 w2 : World} {G R R' F F' F2 F2' : Nat → Prop} {B B' g gm : Nat} {s s' : St} {p : List Addr}
theorem Pr.kp (h : Pr w0 w G R B g gm s) : ∃ F F2, Kp w0 w G R B g gm s F F2 := by
  obtain ⟨F, F2, h1, h2, h3, h4, h5, h6, h7⟩ := h
  exact ⟨F, F2, h1, h2, h3, h4, h5, h6, h7⟩
theorem Pr.box (h : Pr w0 w G R B g gm s) (K : Kp w0 w1 G R B g gm s F F2) : ¬ F w.heap.size ∧ ¬ F2 w.heap.size :=
  ⟨fun e => by
    have := h.fb w.heap.size (((K.hG _).2 (.inl e)))
    omega, fun e => by
    have := h.fb w.heap.size (((K.hG _).2 (.inr e)))
    omega⟩
theorem Kp.drew (K : Kp w0 w G R B g gm s F F2) : Kp w0 w.drew G R B g gm s F F2 := ⟨K.hs.drew, K.hm.drew, K.d1, K.d2, K.hG, K.hlo, bel_drawn K.hbl⟩
theorem Kp.m1 (K : Kp w0 w G R B g gm s F F2) (c : Ch F F' w w1) : Rt w1 F2 R B gm s := K.hm.ch c (fun k h h' => K.d1 k h' h) (fun k h h' => K.d2 k h' h)
theorem Kp.s1 (K : Kp w0 w G R B g gm s F F2) (c : Ch F2 F2' w w1) : Stt w1 F g s := (K.hs.ch c K.d1).1
theorem Kp.b1 (K : Kp w0 w G R B g gm s F F2) (c : Ch F F' w w1) : Below w0.heap.size w0 w1 := K.hbl.trans (c.bel (fun k h => K.hlo k ((K.hG k).2 (.inl h))) K.hbl.size)
theorem Kp.b2 (K : Kp w0 w G R B g gm s F F2) (c : Ch F2 F2' w w1) : Below w0.heap.size w0 w1 := K.hbl.trans (c.bel (fun k h => K.hlo k ((K.hG k).2 (.inr h))) K.hbl.size)
theorem Kp.done1 (K : Kp w0 w G R B g gm s F F2) (h1 : Stt w1 F' g s') (c1 : Ch F F' w w1) (h2 : Rt w2 F2' R' B' gm s') (c2 : Ch F2 F2' w1 w2) (r1 : ∀ k, R k → R' k) (r2 : ∀ k, R' k → R k ∨ w1.heap.size ≤ k) : DoP w0 w G R B' g gm s' w2 :=
  Pr.done1 K.hs K.hm K.d1 K.d2 K.hG K.hlo K.hbl h1 c1 h2 c2 r1 r2
theorem Kp.done2 (K : Kp w0 w G R B g gm s F F2) (h1 : Rt w1 F2' R' B' gm s') (c1 : Ch F2 F2' w w1) (r1 : ∀ k, R k → R' k) (r2 : ∀ k, R' k → R k ∨ w.heap.size ≤ k) (h2 : Stt w2 F' g s') (c2 : Ch F F' w1 w2) : DoP w0 w G R B' g gm s' w2 :=
  Pr.done2 K.hs K.hm K.d1 K.d2 K.hG K.hlo K.hbl h1 c1 r1 r2 h2 c2
theorem Kp.still (K : Kp w0 w G R B g gm s F F2) (h : Below w.heap.size w w2) : DoP w0 w G R (B + 1) g gm s w2 :=
  Pr.still K.hs K.hm K.d1 K.d2 K.hG K.hlo K.hbl h
end
set_option maxRecDepth 20000 in
set_option maxHeartbeats 2000000 in
theorem do_write {w0 w : World} {G R : Nat → Prop} {B g gm : Nat} {s : St} {p : List Addr} (h : Pr w0 w G R B g gm s) (h17 : Errs17 w0 p) (_hB1 : B ≤ 100000) (i n t m z : Int) : Calls Tryd.prog 13 #[.pointer (some ⟨g, 0, none⟩), .pointer (some ⟨gm, 0, none⟩), .agg #[.int .i64 2, .int .i64 i, .int .i64 n, .int .i64 t, .int .i64 m, .int .u64 z]] w (DoE w0 w G R (B + 1) g gm ((wrM s i (t, m, z)).2)) := by
  have hb0 := bel_new w (.cells #[.int .i64 2, .int .i64 i, .int .i64 n, .int .i64 t, .int .i64 m, .int .u64 z] 43)
  have X1 : Hid (Bx (w.alloc (.cells #[.int .i64 2, .int .i64 i, .int .i64 n, .int .i64 t, .int .i64 m, .int .u64 z] 43)) w.heap.size 2 i n t m z) := hide (Go.Deep.blk_alloc_new w (.cells #[.int .i64 2, .int .i64 i, .int .i64 n, .int .i64 t, .int .i64 m, .int .u64 z] 43))
  obtain ⟨F, F2, K⟩ := (h.bel hb0).kp
  have HN := hide (h.box K)
  have E7 := h17.below (Nat.le_refl _) K.hbl
  have H17 := hide h17
  have HB0 := hide hb0
  clear h h17 hb0
  obtain ⟨⟨c, s2⟩, hc⟩ : ∃ x, wrM s i (t, m, z) = x := ⟨_, rfl⟩
  have hc17 : c ≤ 17 := by
    have : (wrM s i (t, m, z)).1 = c := by rw [hc]
    rw [← this]
    unfold wrM
    split
    · simp
    · simp only
      split <;> simp
  have SW := fun (w3 : World) (hs3 : Stt w3 F g s) (he : E2 w3 p) => sWrite hs3 he i (t, m, z)
  have MW := fun (w3 : World) (hm3 : Rt w3 F2 R B gm s) => mWrite hm3 i (t, m, z)
  have NU := fun (w3 : World) (he : Errs17 w3 p) => num_o p c w3 he hc17
  simp only [hc] at SW MW ⊢
  generalize erO p c = ev at *
  have HK := hide K
  have SW1 := hide SW
  have MW1 := hide MW
  have NU1 := hide NU
  have HE := hide E7
  clear K SW MW NU E7 hc hc17
  go_enter Tryd.func13, Tryd.ntmps13
  go_wp2_with fail
  obtain ⟨b, hb⟩ : ∃ b, w.heap.size = b := ⟨_, rfl⟩
  generalize w.alloc (.cells #[.int .i64 2, .int .i64 i, .int .i64 n, .int .i64 t, .int .i64 m, .int .u64 z] 43) = wa at *
  rw [hb] at X1 HN ⊢
  clear hb
  obtain ⟨x0, x1, x2, x3, x4, x5⟩ := X1.out.all
  refine wp_region_held_drew (S := fun w' => Bx w' b 2 i n t m z) mixed (X1.out) (fun hH => ?_)
  have KD := hide (HK.out.drew)
  have ED := hide (HE.out.below (Nat.le_refl _) (bel_drawn (Below.refl _ _)))
  have HB1 := hide (bel_drawn HB0.out)
  clear HK HE HB0 X1 x0 x1 x2 x3 x4 x5
  generalize wa.drew = wd at *
  refine wpAnyH_take (i := 0) (v := ?_) rfl (by kernel_rfl) (by kernel_rfl) (by kernel_rfl) (fun _ _ _ h => h) (Or.inl ⟨by rfl, ?_⟩) hH ?_
  rotate_left 1
  · (intro w hSw; skip; clear hSw; go_simp <;> with_reducible rfl)
  simp only [Act.put, List.getElem_toArray, List.getElem_cons_zero, List.setIfInBounds_toArray, List.set_cons_zero, List.set_cons_succ]
  refine wpAnyH_take (i := 1) (v := ?_) rfl (by kernel_rfl) (by kernel_rfl) (by kernel_rfl) (fun _ _ _ h => h) (Or.inl ⟨by rfl, ?_⟩) hH ?_
  rotate_left 1
  · (intro w hSw; skip; clear hSw; go_simp <;> with_reducible rfl)
  simp only [Act.put, List.getElem_toArray, List.getElem_cons_zero, List.getElem_cons_succ, List.setIfInBounds_toArray, List.set_cons_zero, List.set_cons_succ]
  refine wpAnyH_take (i := 2) (v := ?_) rfl (by kernel_rfl) (by kernel_rfl) (by kernel_rfl) (fun _ _ _ h => h) (Or.inl ⟨by rfl, ?_⟩) hH ?_
  rotate_left 1
  · (intro w hSw; have q := hSw.all; clear hSw; go_simp <;> with_reducible rfl)
  simp only [Act.put, List.getElem_toArray, List.getElem_cons_zero, List.getElem_cons_succ, List.setIfInBounds_toArray, List.set_cons_zero, List.set_cons_succ]
  refine wpAnyH_take (i := 3) (v := ?_) rfl (by kernel_rfl) (by kernel_rfl) (by kernel_rfl) (fun _ _ _ h => h) (Or.inl ⟨by rfl, ?_⟩) hH ?_
  rotate_left 1
  · (intro w hSw; skip; clear hSw; go_simp <;> with_reducible rfl)
  simp only [Act.put, List.getElem_toArray, List.getElem_cons_zero, List.getElem_cons_succ, List.setIfInBounds_toArray, List.set_cons_zero, List.set_cons_succ]
  refine wpAnyH_take (i := 4) (v := ?_) rfl (by kernel_rfl) (by kernel_rfl) (by kernel_rfl) (fun _ _ _ h => h) (Or.inl ⟨by rfl, ?_⟩) hH ?_
  rotate_left 1
  · (intro w hSw; have q := hSw.all; clear hSw; go_simp <;> with_reducible rfl)
  simp only [Act.put, List.getElem_toArray, List.getElem_cons_zero, List.getElem_cons_succ, List.setIfInBounds_toArray, List.set_cons_zero, List.set_cons_succ]
  refine wpAnyH_take (i := 7) (v := ?_) rfl (by kernel_rfl) (by kernel_rfl) (by kernel_rfl) (fun _ _ _ h => h) (Or.inl ⟨by rfl, ?_⟩) hH ?_
  rotate_left 1
  · (intro w hSw; skip; clear hSw; go_simp <;> with_reducible rfl)
  simp only [Act.put, List.getElem_toArray, List.getElem_cons_zero, List.getElem_cons_succ, List.setIfInBounds_toArray, List.set_cons_zero, List.set_cons_succ]
  refine wpAnyH_take (i := 8) (v := ?_) rfl (by kernel_rfl) (by kernel_rfl) (by kernel_rfl) (fun _ _ _ h => h) (Or.inl ⟨by rfl, ?_⟩) hH ?_
  rotate_left 1
  · (intro w hSw; skip; clear hSw; go_simp <;> with_reducible rfl)
  simp only [Act.put, List.getElem_toArray, List.getElem_cons_zero, List.getElem_cons_succ, List.setIfInBounds_toArray, List.set_cons_zero, List.set_cons_succ]
  refine wpAnyH_take (i := 9) (v := ?_) rfl (by kernel_rfl) (by kernel_rfl) (by kernel_rfl) (fun _ _ _ h => h) (Or.inl ⟨by rfl, ?_⟩) hH ?_
  rotate_left 1
  · (intro w hSw; have q := hSw.all; clear hSw; go_simp <;> with_reducible rfl)
  simp only [Act.put, List.getElem_toArray, List.getElem_cons_zero, List.getElem_cons_succ, List.setIfInBounds_toArray, List.set_cons_zero, List.set_cons_succ]
  refine wpAnyH_take (i := 10) (v := ?_) rfl (by kernel_rfl) (by kernel_rfl) (by kernel_rfl) (fun _ _ _ h => h) (Or.inl ⟨by rfl, ?_⟩) hH ?_
  rotate_left 1
  · (intro w hSw; skip; clear hSw; go_simp <;> with_reducible rfl)
  simp only [Act.put, List.getElem_toArray, List.getElem_cons_zero, List.getElem_cons_succ, List.setIfInBounds_toArray, List.set_cons_zero, List.set_cons_succ]
  refine wpAnyH_take (i := 11) (v := ?_) rfl (by kernel_rfl) (by kernel_rfl) (by kernel_rfl) (fun _ _ _ h => h) (Or.inl ⟨by rfl, ?_⟩) hH ?_
  rotate_left 1
  · (intro w hSw; have q := hSw.all; clear hSw; go_simp <;> with_reducible rfl)
  simp only [Act.put, List.getElem_toArray, List.getElem_cons_zero, List.getElem_cons_succ, List.setIfInBounds_toArray, List.set_cons_zero, List.set_cons_succ]
  refine wpAnyH_ready (rs := [5]) (by kernel_rfl) (by decide) ?_
  refine AllReadyH.cons rfl (fun K1 hK1 => ?_) AllReadyH.nil
  go_simp
  refine (SW1.out _ KD.out.hs ED.out.e2).mono ?_
  rintro e d4 ⟨rfl, F', hs2, c2⟩
  have C2 := hide c2
  have HS2 := hide hs2
  have E2' := hide (H17.out.below (Nat.le_refl _) (KD.out.b1 c2))
  refine hK1.out _ _ (hH.ch c2 HN.out.1) (fun hH => ?_)
  clear hK1 K1
  clear c2 hs2
  refine wpAnyH_ready (rs := [6]) (by kernel_rfl) (by decide) ?_
  refine AllReadyH.cons rfl (fun K1 hK1 => ?_) AllReadyH.nil
  go_simp
  refine (NU1.out _ E2'.out).mono ?_
  rintro e d5 ⟨rfl, hb3⟩
  have B3 := hide hb3
  refine hK1.out _ _ (hH.al hb3) (fun hH => ?_)
  clear hK1 K1
  clear hb3
  refine wpAnyH_ready (rs := [12]) (by kernel_rfl) (by decide) ?_
  refine AllReadyH.cons rfl (fun K1 hK1 => ?_) AllReadyH.nil
  go_simp
  refine (MW1.out _ ((KD.out.m1 C2.out).bel B3.out)).mono ?_
  rintro e d6 ⟨rfl, F2', R', hm4, c4, r1, r2⟩
  have D4 := hide (KD.out.done1 (HS2.out.bel B3.out) (C2.out.trans (Ch.of_bel B3.out)) hm4 c4 r1 r2)
  refine hK1.out _ _ (hH.ch c4 HN.out.2) (fun hH => ?_)
  clear hK1 K1
  clear hm4 c4 r1 r2
  refine wpAnyH_take (i := 13) (v := ?_) rfl (by kernel_rfl) (by kernel_rfl) (by kernel_rfl) (fun _ _ _ h => h) (Or.inl ⟨by rfl, ?_⟩) hH ?_
  rotate_left 1
  · (intro w hSw; skip; clear hSw; go_simp <;> with_reducible rfl)
  simp only [Act.put, List.getElem_toArray, List.getElem_cons_zero, List.getElem_cons_succ, List.setIfInBounds_toArray, List.set_cons_zero, List.set_cons_succ]
  refine wpAnyH_take (i := 14) (v := ?_) rfl (by kernel_rfl) (by kernel_rfl) (by kernel_rfl) (fun _ _ _ h => h) (Or.inl ⟨by rfl, ?_⟩) hH ?_
  rotate_left 1
  · (intro w hSw; skip; clear hSw; go_simp <;> with_reducible rfl)
  simp only [Act.put, List.getElem_toArray, List.getElem_cons_zero, List.getElem_cons_succ, List.setIfInBounds_toArray, List.set_cons_zero, List.set_cons_succ]
  refine wpAnyH_done (by kernel_rfl) ?_ _
  clear hH
  go_wp2_with fail
  go_ret
  exact DoE.mk (by simp) HB1.out D4.out
end Go.Proofs.YtghfjnnmpmfboaaDoor.Ck
