/- Texts of this proof, packed: contracts of the program's functions, and the plain model that they are held against. -/
import Derived.Test.YtbiilnpblnjliaaDoorQav
/- Package act: an event is done (unlock, go). (Written by mk_a.py.) -/
namespace Go.Proofs.YtbiilnpblnjliaaDoor.Ck
open Go.RowKit

section
variable {ks : List Nat} {W w' w'' : World} {F F' : Nat → Prop}
theorem SameB.ch (h : SameB ks W w') (c : Ch F F' w' w'') (hn : ∀ k ∈ ks, ¬ F k) : SameB ks W w'' := ⟨Nat.le_trans h.1 c.size, h.2.1, fun k hk => (c.blk k (Nat.lt_of_lt_of_le (h.2.1 k hk) h.1) (hn k hk)).trans (h.2.2 k hk)⟩
end
set_option maxRecDepth 20000 in
set_option maxHeartbeats 3000000 in
theorem step_4f {w : World} {G : Nat → Prop} {g : Nat} {S : List (List Wt)} {r : Rm} {p : List Addr} (h : Rn w G g S r) (h17 : E2 w p) (i : Nat) (x : Gr) (hx : r.gs[i]? = some x) (hl : r.ev.length ≤ 90000) (hk : x.w.k = 4) (hm : lk r.s.M x.w.o ≠ some true) : Calls Tryd.prog 95 #[.pointer (some ⟨g, 0, none⟩), .int .i64 (i : Nat)] w (RnP w G g S (stepR S r i) (.tuple #[])) := by
  have hst : stepR S r i = faultR r i (4, 0, x.w.a) := by
    unfold stepR
    rw [hx]
    simp only
    rw [if_pos ⟨hk, hm⟩]
  rw [hst]
  clear hst
  have NG : Hid (¬ G w.heap.size) := hide (fun hG => absurd (h.fb _ hG) (by omega))
  have HX := hide hx
  obtain ⟨Fs, Fo, R, gs, vC, vB, vG, vE, ps, ts, h, hG⟩ := h
  obtain ⟨bG, cG, b, t, va, eG, _, _, _, _, _, hA, ⟨s1, s2, s3⟩, s4⟩ := h.see hx
  subst eG
  obtain ⟨aa, na, ca, rfl⟩ := hA.form
  have hi : i < r.gs.length := (List.getElem?_eq_some_iff.1 hx).1
  have hn8 := h.n8
  obtain ⟨⟨c0, c1, c2, c3, c4⟩, c5, c6, c7, c8, c9⟩ := h.cells
  have hgl := h.fb g h.fg
  obtain ⟨rest, ⟨k, o, a, v0, v1, v2⟩⟩ := x
  simp only at s4
  have b1 := blk_cell s4 1 _ rfl
  have b2 := blk_cell s4 2 _ rfl
  have b3 := blk_cell s4 3 _ rfl
  have b4 := blk_cell s4 4 _ rfl
  have b5 := blk_cell s4 5 _ rfl
  have b6 := blk_cell s4 6 _ rfl
  have b7 := blk_cell s4 7 _ rfl
  obtain ⟨n, hn⟩ : ∃ n, n = r.gs.length := ⟨_, rfl⟩
  rw [← hn] at hi hn8 c3
  have HN := hide hn
  have hi1 : (i : Int) < (n : Int) := by omega
  have hi0 : (0 : Int) ≤ (i : Int) := by omega
  have hd0 : decide ((i : Int) < 0) = false := by simp
  have hd1 : decide ((n : Int) ≤ (i : Int)) = false := by simp; omega
  clear hn
  have B0 := hide (bel_new w (.cells #[.int .i64 k, .int .i64 o, .int .i64 a, .int .i64 v0, .int .i64 v1, .int .u64 v2, .slice aa na ca] 133))
  have V0 := hide (Wv.new w k o a v0 v1 v2 (.slice aa na ca))
  have HU := hide (h.bel B0.out)
  have HG := hide hG
  have H7 := hide (h17.below (Nat.le_refl _) B0.out)
  have HL := hide hl
  have AR := hide (hA.keep (fun k hk => B0.out.block k (h.rb k hk)) (fun _ h => h))
  have U0 := hide ((B0.out.cell (p := ⟨g, 0, none⟩) hgl).trans c0)
  have hsl := h.st.lt
  simp only at hk hm
  subst hk
  have hlo : (lk r.s.M o).getD false = false := by
    cases hl' : lk r.s.M o with
    | none => rfl
    | some b => cases b with
      | false => rfl
      | true => exact absurd hl' hm
  have LO := hide (fun (m : Nat) => Locked_q (HU.out.st.bel (below_drewN (Below.refl _ _) m)) (H7.out.below (Nat.le_refl _) (below_drewN (Below.refl _ _) m)) o)
  rw [hlo] at LO
  clear hlo hm
  clear h hG h17 hl hA hx c0 c1 c2 c4 c5 c6 c7 c8 c9
  go_enter Tryd.func95, Tryd.ntmps95
  go_upto_region 4 with fail
  generalize w.alloc (.cells #[.int .i64 4, .int .i64 o, .int .i64 a, .int .i64 v0, .int .i64 v1, .int .u64 v2, .slice aa na ca] 133) = w1 at *
  clear b1 b2 b3 b4 b5 b6 b7 s1 c3
  obtain ⟨q0, q1, q2, q3, q4, q5, q6⟩ := V0.out.all
  have u0 := U0.out
  go_quiet (first | (go_at_call 15; exact Calls.quiet_of (LO.out _)))
  have HU' := hide (HU.out.bel (w' := w1.drewN nq) (below_drewN (Below.refl _ _) nq))
  have B0' := hide (below_drewN B0.out nq)
  have V0' : Hid (Wv (w1.drewN nq) w.heap.size 4 o a (v0, v1, v2) (.slice aa na ca)) := V0
  have H7' : Hid (E2 (w1.drewN nq) p) := hide (H7.out.below (Nat.le_refl _) (below_drewN (Below.refl _ _) nq))
  have U0' : Hid ((w1.drewN nq).cell? ⟨g, 0, none⟩ = some (.pointer (some ⟨gs, 0, none⟩))) := U0
  have AR' := hide (AR.out.keep (w' := w1.drewN nq) (fun _ _ => rfl) (fun _ h => h))
  clear HU B0 V0 H7 U0 AR q0 q1 q2 q3 q4 q5 q6 u0
  have HU := HU'
  have B0 := B0'
  have V0 := V0'
  have H7 := H7'
  have U0 := U0'
  have AR := AR'
  clear HU' B0' V0' H7' U0' AR'
  generalize w1.drewN nq = w2 at *
  obtain ⟨q0, q1, q2, q3, q4, q5, q6⟩ := V0.out.all
  have u0 := U0.out
  have FA := hide (fault_any (r := r) (G := G) (S := S) ⟨_, _, _, _, _, _, _, _, _, _, HU.out, HG.out⟩ i 4 0 a)
  go_wp2_with fail
  refine FA.out.mono ?_
  rintro e w3 ⟨rfl, G3, rn3, c3⟩
  have Z := hide (And.intro rn3 ((Ch.of_bel B0.out).trans c3))
  clear rn3 c3 FA
  go_wp2_with fail
  go_end0
  exact RnP.mk rfl Z.out.1 Z.out.2
set_option maxRecDepth 20000 in
set_option maxHeartbeats 3000000 in
theorem step_10 {w : World} {G : Nat → Prop} {g : Nat} {S : List (List Wt)} {r : Rm} {p : List Addr} (h : Rn w G g S r) (h17 : E2 w p) (i : Nat) (x : Gr) (hx : r.gs[i]? = some x) (hl : r.ev.length ≤ 90000) (hk : x.w.k = 10) : Calls Tryd.prog 95 #[.pointer (some ⟨g, 0, none⟩), .int .i64 (i : Nat)] w (RnP w G g S (stepR S r i) (.tuple #[])) := by
  have hst : stepR S r i = splitR S r i x.w := by
    unfold stepR
    rw [hx]
    simp only
    rw [if_neg (by omega), if_pos hk]
  rw [hst]
  clear hst
  have NG : Hid (¬ G w.heap.size) := hide (fun hG => absurd (h.fb _ hG) (by omega))
  have HX := hide hx
  obtain ⟨Fs, Fo, R, gs, vC, vB, vG, vE, ps, ts, h, hG⟩ := h
  obtain ⟨bG, cG, b, t, va, eG, _, _, _, _, _, hA, ⟨s1, s2, s3⟩, s4⟩ := h.see hx
  subst eG
  obtain ⟨aa, na, ca, rfl⟩ := hA.form
  have hi : i < r.gs.length := (List.getElem?_eq_some_iff.1 hx).1
  have hn8 := h.n8
  obtain ⟨⟨c0, c1, c2, c3, c4⟩, c5, c6, c7, c8, c9⟩ := h.cells
  have hgl := h.fb g h.fg
  obtain ⟨rest, ⟨k, o, a, v0, v1, v2⟩⟩ := x
  simp only at s4
  have b1 := blk_cell s4 1 _ rfl
  have b2 := blk_cell s4 2 _ rfl
  have b3 := blk_cell s4 3 _ rfl
  have b4 := blk_cell s4 4 _ rfl
  have b5 := blk_cell s4 5 _ rfl
  have b6 := blk_cell s4 6 _ rfl
  have b7 := blk_cell s4 7 _ rfl
  obtain ⟨n, hn⟩ : ∃ n, n = r.gs.length := ⟨_, rfl⟩
  rw [← hn] at hi hn8 c3
  have HN := hide hn
  have hi1 : (i : Int) < (n : Int) := by omega
  have hi0 : (0 : Int) ≤ (i : Int) := by omega
  have hd0 : decide ((i : Int) < 0) = false := by simp
  have hd1 : decide ((n : Int) ≤ (i : Int)) = false := by simp; omega
  clear hn
  have B0 := hide (bel_new w (.cells #[.int .i64 k, .int .i64 o, .int .i64 a, .int .i64 v0, .int .i64 v1, .int .u64 v2, .slice aa na ca] 133))
  have V0 := hide (Wv.new w k o a v0 v1 v2 (.slice aa na ca))
  have HU := hide (h.bel B0.out)
  have HG := hide hG
  have H7 := hide (h17.below (Nat.le_refl _) B0.out)
  have HL := hide hl
  have AR := hide (hA.keep (fun k hk => B0.out.block k (h.rb k hk)) (fun _ h => h))
  have U0 := hide ((B0.out.cell (p := ⟨g, 0, none⟩) hgl).trans c0)
  have hsl := h.st.lt
  simp only at hk
  subst hk
  clear h hG h17 hl hA hx c0 c1 c2 c4 c5 c6 c7 c8 c9
  go_enter Tryd.func95, Tryd.ntmps95
  go_upto_region 4 with fail
  generalize w.alloc (.cells #[.int .i64 10, .int .i64 o, .int .i64 a, .int .i64 v0, .int .i64 v1, .int .u64 v2, .slice aa na ca] 133) = w1 at *
  clear b1 b2 b3 b4 b5 b6 b7 s1 c3
  obtain ⟨q0, q1, q2, q3, q4, q5, q6⟩ := V0.out.all
  have u0 := U0.out
  go_quiet (fail)
  have HU' := hide (HU.out.bel (w' := w1.drewN nq) (below_drewN (Below.refl _ _) nq))
  have B0' := hide (below_drewN B0.out nq)
  have V0' : Hid (Wv (w1.drewN nq) w.heap.size 10 o a (v0, v1, v2) (.slice aa na ca)) := V0
  have H7' : Hid (E2 (w1.drewN nq) p) := hide (H7.out.below (Nat.le_refl _) (below_drewN (Below.refl _ _) nq))
  have U0' : Hid ((w1.drewN nq).cell? ⟨g, 0, none⟩ = some (.pointer (some ⟨gs, 0, none⟩))) := U0
  have AR' := hide (AR.out.keep (w' := w1.drewN nq) (fun _ _ => rfl) (fun _ h => h))
  clear HU B0 V0 H7 U0 AR q0 q1 q2 q3 q4 q5 q6 u0
  have HU := HU'
  have B0 := B0'
  have V0 := V0'
  have H7 := H7'
  have U0 := U0'
  have AR := AR'
  clear HU' B0' V0' H7' U0' AR'
  generalize w1.drewN nq = w2 at *
  obtain ⟨q0, q1, q2, q3, q4, q5, q6⟩ := V0.out.all
  have u0 := U0.out
  have SP := hide (split_any (r := r) (G := G) (S := S) ⟨_, _, _, _, _, _, _, _, _, _, HU.out, HG.out⟩ i _ HX.out HL.out 10 o a v0 v1 v2 aa na ca R AR.out)
  go_wp2_with fail
  refine SP.out.mono ?_
  rintro e w3 ⟨rfl, G3, rn3, c3⟩
  have Z := hide (And.intro rn3 ((Ch.of_bel B0.out).trans c3))
  clear rn3 c3 SP
  go_wp2_with fail
  go_end0
  exact RnP.mk rfl Z.out.1 Z.out.2
end Go.Proofs.YtbiilnpblnjliaaDoor.Ck

/- Package act: an event is done (send from hand to hand, end). (Written by mk_a.py.) -/
namespace Go.Proofs.YtbiilnpblnjliaaDoor.Ck
open Go.RowKit

set_option maxRecDepth 20000 in
set_option maxHeartbeats 3000000 in
theorem step_5m {w : World} {G : Nat → Prop} {g : Nat} {S : List (List Wt)} {r : Rm} {p : List Addr} (h : Rn w G g S r) (h17 : E2 w p) (i : Nat) (x : Gr) (hx : r.gs[i]? = some x) (hl : r.ev.length ≤ 90000) (hk : x.w.k = 5) (hc : canW r x.w = true) (hz : roomZ r.s x.w.o = true) : Calls Tryd.prog 95 #[.pointer (some ⟨g, 0, none⟩), .int .i64 (i : Nat)] w (RnP w G g S (stepR S r i) (.tuple #[])) := by
  have hst : stepR S r i = meetR r i x.w := by
    unfold stepR
    rw [hx]
    simp only
    rw [if_neg (by omega), if_neg (by omega), if_pos ⟨hk, hz⟩]
  rw [hst]
  clear hst
  have NG : Hid (¬ G w.heap.size) := hide (fun hG => absurd (h.fb _ hG) (by omega))
  have HX := hide hx
  obtain ⟨Fs, Fo, R, gs, vC, vB, vG, vE, ps, ts, h, hG⟩ := h
  obtain ⟨bG, cG, b, t, va, eG, _, _, _, _, _, hA, ⟨s1, s2, s3⟩, s4⟩ := h.see hx
  subst eG
  obtain ⟨aa, na, ca, rfl⟩ := hA.form
  have hi : i < r.gs.length := (List.getElem?_eq_some_iff.1 hx).1
  have hn8 := h.n8
  obtain ⟨⟨c0, c1, c2, c3, c4⟩, c5, c6, c7, c8, c9⟩ := h.cells
  have hgl := h.fb g h.fg
  obtain ⟨rest, ⟨k, o, a, v0, v1, v2⟩⟩ := x
  simp only at s4
  have b1 := blk_cell s4 1 _ rfl
  have b2 := blk_cell s4 2 _ rfl
  have b3 := blk_cell s4 3 _ rfl
  have b4 := blk_cell s4 4 _ rfl
  have b5 := blk_cell s4 5 _ rfl
  have b6 := blk_cell s4 6 _ rfl
  have b7 := blk_cell s4 7 _ rfl
  obtain ⟨n, hn⟩ : ∃ n, n = r.gs.length := ⟨_, rfl⟩
  rw [← hn] at hi hn8 c3
  have HN := hide hn
  have hi1 : (i : Int) < (n : Int) := by omega
  have hi0 : (0 : Int) ≤ (i : Int) := by omega
  have hd0 : decide ((i : Int) < 0) = false := by simp
  have hd1 : decide ((n : Int) ≤ (i : Int)) = false := by simp; omega
  clear hn
  have B0 := hide (bel_new w (.cells #[.int .i64 k, .int .i64 o, .int .i64 a, .int .i64 v0, .int .i64 v1, .int .u64 v2, .slice aa na ca] 133))
  have V0 := hide (Wv.new w k o a v0 v1 v2 (.slice aa na ca))
  have HU := hide (h.bel B0.out)
  have HG := hide hG
  have H7 := hide (h17.below (Nat.le_refl _) B0.out)
  have HL := hide hl
  have AR := hide (hA.keep (fun k hk => B0.out.block k (h.rb k hk)) (fun _ h => h))
  have U0 := hide ((B0.out.cell (p := ⟨g, 0, none⟩) hgl).trans c0)
  have hsl := h.st.lt
  simp only at hk hc hz
  subst hk
  have hq' : ∃ ci q t y, o = (ci : Nat) ∧ r.s.C[ci]? = some q ∧ q.room = 0 ∧ recvR r.gs o = some t ∧ r.gs[t]? = some y := by
    have hc' : canS r ⟨5, o, a, (v0, v1, v2)⟩ = true := hc
    unfold canS at hc'
    unfold roomZ at hz
    cases hl' : lk r.s.C o with
    | none => simp [hl'] at hc'
    | some q =>
      rw [hl'] at hc' hz
      have hz' : q.room = 0 := by simpa using hz
      simp only [Bool.and_eq_true] at hc'
      rw [if_pos hz'] at hc'
      obtain ⟨ci, e, hci⟩ := lk_some hl'
      obtain ⟨t, ht⟩ := Option.isSome_iff_exists.1 hc'.2
      obtain ⟨y, hy⟩ : ∃ y, r.gs[t]? = some y := ⟨_, List.getElem?_eq_getElem (by
        unfold recvR at ht
        exact (List.findIdx?_eq_some_iff_getElem.1 ht).1)⟩
      exact ⟨ci, q, t, y, e, hci, hz', ht, hy⟩
  obtain ⟨ci, q, t', y, rfl, hq, hr0, ht', hy'⟩ := hq'
  have HT := hide (And.intro ht' hy')
  clear ht' hy' hc hz
  clear h hG h17 hl hA hx c0 c1 c2 c4 c5 c6 c7 c8 c9
  go_enter Tryd.func95, Tryd.ntmps95
  go_upto_region 4 with fail
  generalize w.alloc (.cells #[.int .i64 5, .int .i64 (ci : Nat), .int .i64 a, .int .i64 v0, .int .i64 v1, .int .u64 v2, .slice aa na ca] 133) = w1 at *
  clear b1 b2 b3 b4 b5 b6 b7 s1 c3
  obtain ⟨q0, q1, q2, q3, q4, q5, q6⟩ := V0.out.all
  have u0 := U0.out
  go_quiet (fail)
  have HU' := hide (HU.out.bel (w' := w1.drewN nq) (below_drewN (Below.refl _ _) nq))
  have B0' := hide (below_drewN B0.out nq)
  have V0' : Hid (Wv (w1.drewN nq) w.heap.size 5 (ci : Nat) a (v0, v1, v2) (.slice aa na ca)) := V0
  have H7' : Hid (E2 (w1.drewN nq) p) := hide (H7.out.below (Nat.le_refl _) (below_drewN (Below.refl _ _) nq))
  have U0' : Hid ((w1.drewN nq).cell? ⟨g, 0, none⟩ = some (.pointer (some ⟨gs, 0, none⟩))) := U0
  have AR' := hide (AR.out.keep (w' := w1.drewN nq) (fun _ _ => rfl) (fun _ h => h))
  clear HU B0 V0 H7 U0 AR q0 q1 q2 q3 q4 q5 q6 u0
  have HU := HU'
  have B0 := B0'
  have V0 := V0'
  have H7 := H7'
  have U0 := U0'
  have AR := AR'
  clear HU' B0' V0' H7' U0' AR'
  generalize w1.drewN nq = w2 at *
  obtain ⟨q0, q1, q2, q3, q4, q5, q6⟩ := V0.out.all
  have u0 := U0.out
  have RM := hide (fun (m : Nat) => calls_flip (Room_in (w := w2.drewN m) (HU.out.st.bel (below_drewN (Below.refl _ _) m)) ci q hq))
  obtain ⟨qt, qr, ql⟩ := q
  simp only at hr0
  subst hr0
  clear hq
  go_upto_region 8 with fail
  go_quiet (first | (go_at_call 18; exact Calls.quiet_of_same (RM.out _)))
  have HU' := hide (HU.out.bel (w' := w2.drewN nq) (below_drewN (Below.refl _ _) nq))
  have B0' := hide (below_drewN B0.out nq)
  have V0' : Hid (Wv (w2.drewN nq) w.heap.size 5 (ci : Nat) a (v0, v1, v2) (.slice aa na ca)) := V0
  have H7' : Hid (E2 (w2.drewN nq) p) := hide (H7.out.below (Nat.le_refl _) (below_drewN (Below.refl _ _) nq))
  have U0' : Hid ((w2.drewN nq).cell? ⟨g, 0, none⟩ = some (.pointer (some ⟨gs, 0, none⟩))) := U0
  have AR' := hide (AR.out.keep (w' := w2.drewN nq) (fun _ _ => rfl) (fun _ h => h))
  clear HU B0 V0 H7 U0 AR q0 q1 q2 q3 q4 q5 q6 u0
  have HU := HU'
  have B0 := B0'
  have V0 := V0'
  have H7 := H7'
  have U0 := U0'
  have AR := AR'
  clear HU' B0' V0' H7' U0' AR'
  generalize w2.drewN nq = w3 at *
  obtain ⟨q0, q1, q2, q3, q4, q5, q6⟩ := V0.out.all
  have u0 := U0.out
  have ME := hide (meet_any (r := r) (G := G) (S := S) ⟨_, _, _, _, _, _, _, _, _, _, HU.out, HG.out⟩ i t' _ y HX.out HL.out 5 (ci : Nat) a v0 v1 v2 aa na ca HT.out.1 HT.out.2)
  go_wp2_with fail
  refine ME.out.mono ?_
  rintro e w4 ⟨rfl, G3, rn3, c3⟩
  have Z := hide (And.intro rn3 ((Ch.of_bel B0.out).trans c3))
  clear rn3 c3 ME
  go_wp2_with fail
  go_end0
  exact RnP.mk rfl Z.out.1 Z.out.2
set_option maxRecDepth 20000 in
set_option maxHeartbeats 3000000 in
theorem step_12 {w : World} {G : Nat → Prop} {g : Nat} {S : List (List Wt)} {r : Rm} {p : List Addr} (h : Rn w G g S r) (h17 : E2 w p) (i : Nat) (x : Gr) (hx : r.gs[i]? = some x) (hl : r.ev.length ≤ 90000) (hk : x.w.k = 12) : Calls Tryd.prog 95 #[.pointer (some ⟨g, 0, none⟩), .int .i64 (i : Nat)] w (RnP w G g S (stepR S r i) (.tuple #[])) := by
  have hst : stepR S r i = { noteR r i x.w.o with gs := (noteR r i x.w.o).gs.set i ⟨x.rest, zW⟩ } := by
    unfold stepR
    rw [hx]
    simp only
    rw [if_neg (by omega), if_neg (by omega), if_neg (by omega), if_pos hk, note_gs]
  rw [hst]
  clear hst
  have NG : Hid (¬ G w.heap.size) := hide (fun hG => absurd (h.fb _ hG) (by omega))
  have HX := hide hx
  obtain ⟨Fs, Fo, R, gs, vC, vB, vG, vE, ps, ts, h, hG⟩ := h
  obtain ⟨bG, cG, b, t, va, eG, _, _, _, _, _, hA, ⟨s1, s2, s3⟩, s4⟩ := h.see hx
  subst eG
  obtain ⟨aa, na, ca, rfl⟩ := hA.form
  have hi : i < r.gs.length := (List.getElem?_eq_some_iff.1 hx).1
  have hn8 := h.n8
  obtain ⟨⟨c0, c1, c2, c3, c4⟩, c5, c6, c7, c8, c9⟩ := h.cells
  have hgl := h.fb g h.fg
  obtain ⟨rest, ⟨k, o, a, v0, v1, v2⟩⟩ := x
  simp only at s4
  have b1 := blk_cell s4 1 _ rfl
  have b2 := blk_cell s4 2 _ rfl
  have b3 := blk_cell s4 3 _ rfl
  have b4 := blk_cell s4 4 _ rfl
  have b5 := blk_cell s4 5 _ rfl
  have b6 := blk_cell s4 6 _ rfl
  have b7 := blk_cell s4 7 _ rfl
  obtain ⟨n, hn⟩ : ∃ n, n = r.gs.length := ⟨_, rfl⟩
  rw [← hn] at hi hn8 c3
  have HN := hide hn
  have hi1 : (i : Int) < (n : Int) := by omega
  have hi0 : (0 : Int) ≤ (i : Int) := by omega
  have hd0 : decide ((i : Int) < 0) = false := by simp
  have hd1 : decide ((n : Int) ≤ (i : Int)) = false := by simp; omega
  clear hn
  have B0 := hide (bel_new w (.cells #[.int .i64 k, .int .i64 o, .int .i64 a, .int .i64 v0, .int .i64 v1, .int .u64 v2, .slice aa na ca] 133))
  have V0 := hide (Wv.new w k o a v0 v1 v2 (.slice aa na ca))
  have HU := hide (h.bel B0.out)
  have HG := hide hG
  have H7 := hide (h17.below (Nat.le_refl _) B0.out)
  have HL := hide hl
  have AR := hide (hA.keep (fun k hk => B0.out.block k (h.rb k hk)) (fun _ h => h))
  have U0 := hide ((B0.out.cell (p := ⟨g, 0, none⟩) hgl).trans c0)
  have hsl := h.st.lt
  simp only at hk
  subst hk
  clear h hG h17 hl hA hx c0 c1 c2 c4 c5 c6 c7 c8 c9
  go_enter Tryd.func95, Tryd.ntmps95
  go_upto_region 4 with fail
  generalize w.alloc (.cells #[.int .i64 12, .int .i64 o, .int .i64 a, .int .i64 v0, .int .i64 v1, .int .u64 v2, .slice aa na ca] 133) = w1 at *
  clear b1 b2 b3 b4 b5 b6 b7 s1 c3
  obtain ⟨q0, q1, q2, q3, q4, q5, q6⟩ := V0.out.all
  have u0 := U0.out
  go_quiet (fail)
  have HU' := hide (HU.out.bel (w' := w1.drewN nq) (below_drewN (Below.refl _ _) nq))
  have B0' := hide (below_drewN B0.out nq)
  have V0' : Hid (Wv (w1.drewN nq) w.heap.size 12 o a (v0, v1, v2) (.slice aa na ca)) := V0
  have H7' : Hid (E2 (w1.drewN nq) p) := hide (H7.out.below (Nat.le_refl _) (below_drewN (Below.refl _ _) nq))
  have U0' : Hid ((w1.drewN nq).cell? ⟨g, 0, none⟩ = some (.pointer (some ⟨gs, 0, none⟩))) := U0
  have AR' := hide (AR.out.keep (w' := w1.drewN nq) (fun _ _ => rfl) (fun _ h => h))
  clear HU B0 V0 H7 U0 AR q0 q1 q2 q3 q4 q5 q6 u0
  have HU := HU'
  have B0 := B0'
  have V0 := V0'
  have H7 := H7'
  have U0 := U0'
  have AR := AR'
  clear HU' B0' V0' H7' U0' AR'
  generalize w1.drewN nq = w2 at *
  obtain ⟨q0, q1, q2, q3, q4, q5, q6⟩ := V0.out.all
  have u0 := U0.out
  go_upto_region 8 with fail
  go_quiet (fail)
  have HU' := hide (HU.out.bel (w' := w2.drewN nq) (below_drewN (Below.refl _ _) nq))
  have B0' := hide (below_drewN B0.out nq)
  have V0' : Hid (Wv (w2.drewN nq) w.heap.size 12 o a (v0, v1, v2) (.slice aa na ca)) := V0
  have H7' : Hid (E2 (w2.drewN nq) p) := hide (H7.out.below (Nat.le_refl _) (below_drewN (Below.refl _ _) nq))
  have U0' : Hid ((w2.drewN nq).cell? ⟨g, 0, none⟩ = some (.pointer (some ⟨gs, 0, none⟩))) := U0
  have AR' := hide (AR.out.keep (w' := w2.drewN nq) (fun _ _ => rfl) (fun _ h => h))
  clear HU B0 V0 H7 U0 AR q0 q1 q2 q3 q4 q5 q6 u0
  have HU := HU'
  have B0 := B0'
  have V0 := V0'
  have H7 := H7'
  have U0 := U0'
  have AR := AR'
  clear HU' B0' V0' H7' U0' AR'
  generalize w2.drewN nq = w3 at *
  obtain ⟨q0, q1, q2, q3, q4, q5, q6⟩ := V0.out.all
  have u0 := U0.out
  have NO := hide (note_any (r := r) (G := G) (S := S) ⟨_, _, _, _, _, _, _, _, _, _, HU.out, HG.out⟩ i _ HX.out o (by have := HL.out; omega))
  go_wp2_with fail
  refine NO.out.mono ?_
  rintro e w4 ⟨rfl, G4, rn4, c4⟩
  have C4 := hide ((Ch.of_bel B0.out).trans c4)
  have HX4 : (noteR r i o).gs[i]? = _ := (congrArg (fun l => l[i]?) (note_gs r i o)).trans HX.out
  clear c4 NO HU HG H7 U0 AR q0 q1 q2 q3 q4 q5 q6 u0 V0 B0
  generalize noteR r i o = r4 at *
  obtain ⟨Fs4, Fo4, R4, gs4, vC4, vB4, vG4, vE4, ps4, ts4, h4, hG4⟩ := rn4
  obtain ⟨bG4, cG4, b4, t4, va4, eG4, e1, e2, e3, e4, gor, hA4, ⟨s1, s2, s3⟩, s4⟩ := h4.see HX4
  subst eG4
  have c3 := h4.cells.1.2.2.2.1
  have hi4 : i < r4.gs.length := (List.getElem?_eq_some_iff.1 HX4).1
  obtain ⟨n4, hn4⟩ : ∃ n4, n4 = r4.gs.length := ⟨_, rfl⟩
  have hn48 := h4.n8
  rw [← hn4] at c3 hi4 hn48
  have hi14 : (i : Int) < (n4 : Int) := by omega
  have hi04 : (0 : Int) ≤ (i : Int) := by omega
  have hgl4 := h4.fb g h4.fg
  obtain ⟨h5, c5⟩ := h4.setW HX4 e1 0 0 0 0 0 0 (.slice none 0 0) Args.nilS
  have FI := hide (ru_wide hG4 h5 c5)
  have p1 := blk_cell s4 1 _ rfl
  have p2 := blk_cell s4 2 _ rfl
  have p3 := blk_cell s4 3 _ rfl
  have p4 := blk_cell s4 4 _ rfl
  have p5 := blk_cell s4 5 _ rfl
  have p6 := blk_cell s4 6 _ rfl
  have p7 := blk_cell s4 7 _ rfl
  have f1 := blk_frz s4 1
  have f2 := blk_frz s4 2
  have f3 := blk_frz s4 3
  have f4 := blk_frz s4 4
  have f5 := blk_frz s4 5
  have f6 := blk_frz s4 6
  have f7 := blk_frz s4 7
  clear h4 h5 c5 s4 gor hA4 e1 e2 e3 e4 HX4 hn4 hG4
  go_wp2_with fail
  go_end0
  exact RnP.mk rfl FI.out.1 (C4.out.trans FI.out.2)
end Go.Proofs.YtbiilnpblnjliaaDoor.Ck

/- Package act: an event is done (all others). (Written by mk_a.py.) -/
namespace Go.Proofs.YtbiilnpblnjliaaDoor.Ck
open Go.RowKit

set_option maxRecDepth 20000 in
set_option maxHeartbeats 3000000 in
theorem step_d {w : World} {G : Nat → Prop} {g : Nat} {S : List (List Wt)} {r : Rm} {p : List Addr} (h : Rn w G g S r) (h17 : E2 w p) (i : Nat) (x : Gr) (hx : r.gs[i]? = some x) (hl : r.ev.length ≤ 90000) (hc : canW r x.w = true) (h4 : x.w.k ≠ 4) (h5 : x.w.k ≠ 5) (h10 : x.w.k ≠ 10) (h12 : x.w.k ≠ 12) : Calls Tryd.prog 95 #[.pointer (some ⟨g, 0, none⟩), .int .i64 (i : Nat)] w (RnP w G g S (stepR S r i) (.tuple #[])) := by
  have hst : stepR S r i = (askR (noteR { r with s := (shareR r.s x.w).1 } i x.w.o) i).1 := by
    unfold stepR
    rw [hx]
    simp only
    rw [if_neg (fun e => h4 e.1), if_neg h10, if_neg (fun e => h5 e.1), if_neg h12]
  rw [hst]
  clear hst
  have NG : Hid (¬ G w.heap.size) := hide (fun hG => absurd (h.fb _ hG) (by omega))
  have HX := hide hx
  obtain ⟨Fs, Fo, R, gs, vC, vB, vG, vE, ps, ts, h, hG⟩ := h
  obtain ⟨bG, cG, b, t, va, eG, _, _, _, _, _, hA, ⟨s1, s2, s3⟩, s4⟩ := h.see hx
  subst eG
  obtain ⟨aa, na, ca, rfl⟩ := hA.form
  have hi : i < r.gs.length := (List.getElem?_eq_some_iff.1 hx).1
  have hn8 := h.n8
  obtain ⟨⟨c0, c1, c2, c3, c4⟩, c5, c6, c7, c8, c9⟩ := h.cells
  have hgl := h.fb g h.fg
  obtain ⟨rest, ⟨k, o, a, v0, v1, v2⟩⟩ := x
  simp only at s4
  have b1 := blk_cell s4 1 _ rfl
  have b2 := blk_cell s4 2 _ rfl
  have b3 := blk_cell s4 3 _ rfl
  have b4 := blk_cell s4 4 _ rfl
  have b5 := blk_cell s4 5 _ rfl
  have b6 := blk_cell s4 6 _ rfl
  have b7 := blk_cell s4 7 _ rfl
  obtain ⟨n, hn⟩ : ∃ n, n = r.gs.length := ⟨_, rfl⟩
  rw [← hn] at hi hn8 c3
  have HN := hide hn
  have hi1 : (i : Int) < (n : Int) := by omega
  have hi0 : (0 : Int) ≤ (i : Int) := by omega
  have hd0 : decide ((i : Int) < 0) = false := by simp
  have hd1 : decide ((n : Int) ≤ (i : Int)) = false := by simp; omega
  clear hn
  have B0 := hide (bel_new w (.cells #[.int .i64 k, .int .i64 o, .int .i64 a, .int .i64 v0, .int .i64 v1, .int .u64 v2, .slice aa na ca] 133))
  have V0 := hide (Wv.new w k o a v0 v1 v2 (.slice aa na ca))
  have HU := hide (h.bel B0.out)
  have HG := hide hG
  have H7 := hide (h17.below (Nat.le_refl _) B0.out)
  have HL := hide hl
  have AR := hide (hA.keep (fun k hk => B0.out.block k (h.rb k hk)) (fun _ h => h))
  have U0 := hide ((B0.out.cell (p := ⟨g, 0, none⟩) hgl).trans c0)
  have hsl := h.st.lt
  simp only at hc h4 h5 h10 h12
  have hb4 : (k == 4) = false := by simp [h4]
  have hb5 : (k == 5) = false := by simp [h5]
  have hb10 : (k == 10) = false := by simp [h10]
  have hb12 : (k == 12) = false := by simp [h12]
  have HZ : k = 5 → roomZ r.s o = false := fun e => absurd e h5
  obtain ⟨sh, hsh⟩ : ∃ sh, sh = shareR r.s ⟨k, o, a, (v0, v1, v2)⟩ := ⟨_, rfl⟩
  have SH := hide (fun (W : World) (hS : Stt W Fs gs r.s) (h7 : E2 W p) => share_any hS h7 k o a v0 v1 v2 aa na ca hc (by first | decide | exact h10) (by first | decide | exact h12) HZ)
  have SM := hide (share_t r.s ⟨k, o, a, (v0, v1, v2)⟩)
  rw [← hsh] at SH SM ⊢
  clear hsh hc
  clear h hG h17 hl hA hx c0 c1 c2 c4 c5 c6 c7 c8 c9
  go_enter Tryd.func95, Tryd.ntmps95
  go_upto_region 4 with fail
  generalize w.alloc (.cells #[.int .i64 k, .int .i64 o, .int .i64 a, .int .i64 v0, .int .i64 v1, .int .u64 v2, .slice aa na ca] 133) = w1 at *
  clear b1 b2 b3 b4 b5 b6 b7 s1 c3
  obtain ⟨q0, q1, q2, q3, q4, q5, q6⟩ := V0.out.all
  have u0 := U0.out
  go_quiet (fail)
  have HU' := hide (HU.out.bel (w' := w1.drewN nq) (below_drewN (Below.refl _ _) nq))
  have B0' := hide (below_drewN B0.out nq)
  have V0' : Hid (Wv (w1.drewN nq) w.heap.size k o a (v0, v1, v2) (.slice aa na ca)) := V0
  have H7' : Hid (E2 (w1.drewN nq) p) := hide (H7.out.below (Nat.le_refl _) (below_drewN (Below.refl _ _) nq))
  have U0' : Hid ((w1.drewN nq).cell? ⟨g, 0, none⟩ = some (.pointer (some ⟨gs, 0, none⟩))) := U0
  have AR' := hide (AR.out.keep (w' := w1.drewN nq) (fun _ _ => rfl) (fun _ h => h))
  clear HU B0 V0 H7 U0 AR q0 q1 q2 q3 q4 q5 q6 u0
  have HU := HU'
  have B0 := B0'
  have V0 := V0'
  have H7 := H7'
  have U0 := U0'
  have AR := AR'
  clear HU' B0' V0' H7' U0' AR'
  generalize w1.drewN nq = w2 at *
  obtain ⟨q0, q1, q2, q3, q4, q5, q6⟩ := V0.out.all
  have u0 := U0.out
  go_upto_region 8 with fail
  go_quiet (fail)
  have HU' := hide (HU.out.bel (w' := w2.drewN nq) (below_drewN (Below.refl _ _) nq))
  have B0' := hide (below_drewN B0.out nq)
  have V0' : Hid (Wv (w2.drewN nq) w.heap.size k o a (v0, v1, v2) (.slice aa na ca)) := V0
  have H7' : Hid (E2 (w2.drewN nq) p) := hide (H7.out.below (Nat.le_refl _) (below_drewN (Below.refl _ _) nq))
  have U0' : Hid ((w2.drewN nq).cell? ⟨g, 0, none⟩ = some (.pointer (some ⟨gs, 0, none⟩))) := U0
  have AR' := hide (AR.out.keep (w' := w2.drewN nq) (fun _ _ => rfl) (fun _ h => h))
  clear HU B0 V0 H7 U0 AR q0 q1 q2 q3 q4 q5 q6 u0
  have HU := HU'
  have B0 := B0'
  have V0 := V0'
  have H7 := H7'
  have U0 := U0'
  have AR := AR'
  clear HU' B0' V0' H7' U0' AR'
  generalize w2.drewN nq = w3 at *
  obtain ⟨q0, q1, q2, q3, q4, q5, q6⟩ := V0.out.all
  have u0 := U0.out
  have KG : Hid (g < w.heap.size) := hide hgl
  have NF : Hid (¬ Fs w.heap.size) := hide (fun e => NG.out ((HG.out _).2 (.inl e)))
  have KL0 : Hid (∀ k ∈ [g, w.heap.size], k < w3.drew.heap.size) := hide (fun k hk => by
    show k < w3.heap.size
    have h1 := V0.out.lt
    simp only [List.mem_cons, List.mem_nil_iff, or_false] at hk
    have h2 := hgl
    rcases hk with rfl | rfl <;> omega)
  go_upto_region 1 with fail
  go_cut [5] from 16 to 21 (fun x5 wc => ∃ bl G', x5 = .pointer (some ⟨bl, 0, none⟩) ∧ Hid ((Rn wc G' g S { r with s := sh.1 } ∧ Ch G G' w wc) ∧ Val wc bl sh.2.1 sh.2.2.1 sh.2.2.2 ∧ (Wv wc w.heap.size k o a (v0, v1, v2) (.slice aa na ca) ∧ ¬ G' w.heap.size ∧ ¬ G' bl)))
  case first =>
    refine wp_region_held_drew (S := fun w' => SameB [g, w.heap.size] w3.drew w') mixed (SameB.refl KL0.out) (fun hH => ?_)
    have HU' := hide (HU.out.bel (w' := w3.drew) (below_drewN (Below.refl _ _) 1))
    have B0' := hide (bel_drawn B0.out)
    have H7' : Hid (E2 w3.drew p) := hide (H7.out.below (Nat.le_refl _) (below_drewN (Below.refl _ _) 1))
    have V0' : Hid (Wv w3.drew w.heap.size k o a (v0, v1, v2) (.slice aa na ca)) := V0
    have U0' : Hid (w3.drew.cell? ⟨g, 0, none⟩ = some (.pointer (some ⟨gs, 0, none⟩))) := U0
    clear HU B0 H7 V0 U0 q0 q1 q2 q3 q4 q5 q6 u0 AR
    have HU := HU'
    have B0 := B0'
    have H7 := H7'
    have V0 := V0'
    have U0 := U0'
    clear HU' B0' H7' V0' U0'
    generalize w3.drew = Y0 at *
    refine wpAnyH_take (i := 0) (v := ?_) rfl (by kernel_rfl) (by kernel_rfl) (by kernel_rfl) (fun _ _ _ h => h) (Or.inl ⟨by rfl, ?_⟩) hH ?_
    rotate_left 1
    · (intro w hSw; skip; clear hSw; go_simp <;> with_reducible rfl)
    simp only [Act.put, List.getElem_toArray, List.getElem_cons_zero, List.setIfInBounds_toArray, List.set_cons_zero, List.set_cons_succ]
    refine wpAnyH_take (i := 1) (v := ?_) rfl (by kernel_rfl) (by kernel_rfl) (by kernel_rfl) (fun _ _ _ h => h) (Or.inl ⟨by rfl, ?_⟩) hH ?_
    rotate_left 1
    · (intro w hSw; skip; clear hSw; go_simp <;> with_reducible rfl)
    simp only [Act.put, List.getElem_toArray, List.getElem_cons_zero, List.getElem_cons_succ, List.setIfInBounds_toArray, List.set_cons_zero, List.set_cons_succ]
    refine wpAnyH_take (i := 2) (v := ?_) rfl (by kernel_rfl) (by kernel_rfl) (by kernel_rfl) (fun _ _ _ h => h) (Or.inl ⟨by rfl, ?_⟩) hH ?_
    rotate_left 1
    · (intro w hSw; skip; clear hSw; go_simp <;> with_reducible rfl)
    simp only [Act.put, List.getElem_toArray, List.getElem_cons_zero, List.getElem_cons_succ, List.setIfInBounds_toArray, List.set_cons_zero, List.set_cons_succ]
    refine wpAnyH_take (i := 3) (v := ?_) rfl (by kernel_rfl) (by kernel_rfl) (by kernel_rfl) (fun _ _ _ h => h) (Or.inl ⟨by rfl, ?_⟩) hH ?_
    rotate_left 1
    · (intro w hSw; have q := hSw.cell (by simp) U0.out; clear hSw; go_simp <;> with_reducible rfl)
    simp only [Act.put, List.getElem_toArray, List.getElem_cons_zero, List.getElem_cons_succ, List.setIfInBounds_toArray, List.set_cons_zero, List.set_cons_succ]
    refine wpAnyH_take (i := 4) (v := ?_) rfl (by kernel_rfl) (by kernel_rfl) (by kernel_rfl) (fun _ _ _ h => h) (Or.inl ⟨by rfl, ?_⟩) hH ?_
    rotate_left 1
    · (intro w hSw; obtain ⟨z0, z1, z2, z3, z4, z5, z6⟩ := V0.out.all; have q0 := hSw.cell (by simp) z0; have q1 := hSw.cell (by simp) z1; have q2 := hSw.cell (by simp) z2; have q3 := hSw.cell (by simp) z3; have q4 := hSw.cell (by simp) z4; have q5 := hSw.cell (by simp) z5; have q6 := hSw.cell (by simp) z6; clear hSw; go_simp <;> with_reducible rfl)
    simp only [Act.put, List.getElem_toArray, List.getElem_cons_zero, List.getElem_cons_succ, List.setIfInBounds_toArray, List.set_cons_zero, List.set_cons_succ]
    refine wpAnyH_ready (rs := [5, 6]) (by kernel_rfl) (by decide) ?_
    refine AllReadyH.cons rfl (fun K1 hK1 => ?_) (AllReadyH.cons rfl (fun K1 hK1 => ?_) AllReadyH.nil)
    · have hH0 : w.heap.size < Y0.heap.size := by have h1 := hH.1; have h2 := hH.2.1 w.heap.size (by simp); omega
      go_simp
      refine (SH.out Y0 HU.out.st H7.out).mono ?_
      rintro e Y1 ⟨rfl, Fs', st, ch⟩
      have hU := HU.out.state st ch SM.out
      refine hK1.out _ _ (hH.ch ch (fun k hk => by
        simp only [List.mem_cons, List.mem_nil_iff, or_false] at hk
        rcases hk with rfl | rfl
        · exact fun e => HU.out.so _ e HU.out.fg
        · exact fun e => NF.out e)) (fun hH => ?_)
      clear hK1 K1
      have HQ := hide (And.intro hU ((Ch.of_bel B0.out).trans (ch.wide (G := G) (G' := fun k => Fs' k ∨ Fo k ∨ R k) (fun k hk => (HG.out k).2 (.inl hk)) (fun k hk => by
        rcases hk with h1 | h1 | h1
        · rcases ch.grow k h1 with h2 | h2
          · exact .inl ((HG.out k).2 (.inl h2))
          · exact .inr h2
        · exact .inl ((HG.out k).2 (.inr (.inl h1)))
        · exact .inl ((HG.out k).2 (.inr (.inr h1))))))) 
      have GL : Hid (¬ Fs' w.heap.size) := hide (fun hF => by
        rcases ch.grow _ hF with h2 | h2
        · exact NF.out h2
        · have h1 := hH.1
          have h3 := hH.2.1 w.heap.size (by simp)
          have h4 := hH0
          omega)
      clear st ch hU HU B0 H7 hH0
      refine wpAnyH_ready (rs := [6]) (by kernel_rfl) (by decide) ?_
      refine AllReadyH.cons rfl (fun K1 hK1 => ?_) AllReadyH.nil
      have A2 := bel_new Y1 (.cells #[.int .i64 0, .int .i64 0, .int .u64 0] 41)
      have N2 := Val.new Y1 0 0 0
      have L0 : w.heap.size < Y1.heap.size := by have h1 := hH.1; have h2 := hH.2.1 w.heap.size (by simp); omega
      go_simp
      refine hK1.out _ _ (hH.al A2) (fun hH => ?_)
      clear hK1 K1
      obtain ⟨bl, hbl⟩ : ∃ bl, Y1.heap.size = bl := ⟨_, rfl⟩
      rw [hbl] at N2 L0 ⊢
      have LB := hide L0
      have ZB := hide N2
      have GB : Hid (¬ (Fs' bl ∨ Fo bl ∨ R bl)) := hide (fun hF => absurd (HQ.out.1.lt hF) (by omega))
      have HQ' := hide (And.intro (HQ.out.1.bel A2) (HQ.out.2.trans (Ch.of_bel A2)))
      clear HQ
      have HQ := HQ'
      clear HQ'
      clear A2 N2 L0 hbl
      generalize Y1.alloc (.cells #[.int .i64 0, .int .i64 0, .int .u64 0] 41) = Y2 at *
      refine wpAnyH_ready (rs := [7]) (by kernel_rfl) (by decide) ?_
      refine AllReadyH.cons rfl (fun K1 hK1 => ?_) AllReadyH.nil
      obtain ⟨⟨f0, f1, f2⟩, e0, e1, e2⟩ := ZB.out.all
      have BB : Below w.heap.size Y2 (((Y2.setCell ⟨bl, 0, none⟩ (.int .i64 sh.2.1)).setCell ⟨bl, 1, none⟩ (.int .i64 sh.2.2.1)).setCell ⟨bl, 2, none⟩ (.int .u64 sh.2.2.2)) := bel_set (Below.refl _ _) (Nat.le_of_lt LB.out) _ _ _
      have OO_ : ∀ k, k ≠ bl → (((Y2.setCell ⟨bl, 0, none⟩ (.int .i64 sh.2.1)).setCell ⟨bl, 1, none⟩ (.int .i64 sh.2.2.1)).setCell ⟨bl, 2, none⟩ (.int .u64 sh.2.2.2)).heap[k]? = Y2.heap[k]? := fun k hk => ne3 hk
      have SS : Y2.heap.size = (((Y2.setCell ⟨bl, 0, none⟩ (.int .i64 sh.2.1)).setCell ⟨bl, 1, none⟩ (.int .i64 sh.2.2.1)).setCell ⟨bl, 2, none⟩ (.int .u64 sh.2.2.2)).heap.size := by simp only [size_setCell]
      have EE : Val (((Y2.setCell ⟨bl, 0, none⟩ (.int .i64 sh.2.1)).setCell ⟨bl, 1, none⟩ (.int .i64 sh.2.2.1)).setCell ⟨bl, 2, none⟩ (.int .u64 sh.2.2.2)) bl sh.2.1 sh.2.2.1 sh.2.2.2 := ZB.out.set _ _ _
      go_simp
      refine hK1.out _ _ (hH.turn (t := bl) (Nat.le_of_eq SS) (fun k _ hk => OO_ k hk) (fun hm => by have := LB.out; have := KG.out; simp at hm; omega)) (fun hH => ?_)
      clear hK1 K1 f0 f1 f2 e0 e1 e2
      have RN9 := hide (And.intro (HQ.out.1.rn.keep (w' := (((Y2.setCell ⟨bl, 0, none⟩ (.int .i64 sh.2.1)).setCell ⟨bl, 1, none⟩ (.int .i64 sh.2.2.1)).setCell ⟨bl, 2, none⟩ (.int .u64 sh.2.2.2))) (fun k hk => OO_ k (fun e => GB.out (e ▸ hk))) (Nat.le_of_eq SS)) (HQ.out.2.below BB))
      have ZV := hide EE
      have WV := hide (show Wv (((Y2.setCell ⟨bl, 0, none⟩ (.int .i64 sh.2.1)).setCell ⟨bl, 1, none⟩ (.int .i64 sh.2.2.1)).setCell ⟨bl, 2, none⟩ (.int .u64 sh.2.2.2)) w.heap.size k o a (v0, v1, v2) (.slice aa na ca) from (hH.2.2 w.heap.size (by simp)).trans V0.out)
      have NL : Hid (¬ (Fs' w.heap.size ∨ Fo w.heap.size ∨ R w.heap.size)) := hide (fun hF => by
        rcases hF with h1 | h1
        · exact GL.out h1
        · exact NG.out ((HG.out _).2 (.inr h1)))
      clear BB OO_ SS EE hH
      generalize (((Y2.setCell ⟨bl, 0, none⟩ (.int .i64 sh.2.1)).setCell ⟨bl, 1, none⟩ (.int .i64 sh.2.2.1)).setCell ⟨bl, 2, none⟩ (.int .u64 sh.2.2.2)) = Y3 at *
      refine wpAnyH_done (by kernel_rfl) ?_ _
      go_wp2_with fail
      go_meet
      case rel => exact ⟨bl, _, rfl, hide ⟨RN9.out, ZV.out, WV.out, NL.out, GB.out⟩⟩
    · have A1 := bel_new Y0 (.cells #[.int .i64 0, .int .i64 0, .int .u64 0] 41)
      have N1 := Val.new Y0 0 0 0
      have L0 : w.heap.size < Y0.heap.size := by have h1 := hH.1; have h2 := hH.2.1 w.heap.size (by simp); omega
      go_simp
      refine hK1.out _ _ (hH.al A1) (fun hH => ?_)
      clear hK1 K1
      obtain ⟨bl, hbl⟩ : ∃ bl, Y0.heap.size = bl := ⟨_, rfl⟩
      rw [hbl] at N1 L0 ⊢
      have LB := hide L0
      have ZB := hide N1
      have GB0 : Hid (¬ (Fs bl ∨ Fo bl ∨ R bl)) := hide (fun hF => absurd (HU.out.lt hF) (by omega))
      have HU' := hide (HU.out.bel A1)
      have B0' := hide (bel_trans B0.out A1)
      have H7' := hide (H7.out.below (Nat.le_refl _) A1)
      clear HU B0 H7
      have HU := HU'
      have B0 := B0'
      have H7 := H7'
      clear HU' B0' H7'
      clear A1 N1 L0 hbl
      generalize Y0.alloc (.cells #[.int .i64 0, .int .i64 0, .int .u64 0] 41) = Y1 at *
      refine wpAnyH_ready (rs := [5]) (by kernel_rfl) (by decide) ?_
      refine AllReadyH.cons rfl (fun K1 hK1 => ?_) AllReadyH.nil
      have hH0 : w.heap.size < Y1.heap.size := by have h1 := hH.1; have h2 := hH.2.1 w.heap.size (by simp); omega
      go_simp
      refine (SH.out Y1 HU.out.st H7.out).mono ?_
      rintro e Y2 ⟨rfl, Fs', st, ch⟩
      have hU := HU.out.state st ch SM.out
      refine hK1.out _ _ (hH.ch ch (fun k hk => by
        simp only [List.mem_cons, List.mem_nil_iff, or_false] at hk
        rcases hk with rfl | rfl
        · exact fun e => HU.out.so _ e HU.out.fg
        · exact fun e => NF.out e)) (fun hH => ?_)
      clear hK1 K1
      have HQ := hide (And.intro hU ((Ch.of_bel B0.out).trans (ch.wide (G := G) (G' := fun k => Fs' k ∨ Fo k ∨ R k) (fun k hk => (HG.out k).2 (.inl hk)) (fun k hk => by
        rcases hk with h1 | h1 | h1
        · rcases ch.grow k h1 with h2 | h2
          · exact .inl ((HG.out k).2 (.inl h2))
          · exact .inr h2
        · exact .inl ((HG.out k).2 (.inr (.inl h1)))
        · exact .inl ((HG.out k).2 (.inr (.inr h1))))))) 
      have GL : Hid (¬ Fs' w.heap.size) := hide (fun hF => by
        rcases ch.grow _ hF with h2 | h2
        · exact NF.out h2
        · have h1 := hH.1
          have h3 := hH.2.1 w.heap.size (by simp)
          have h4 := hH0
          omega)
      have GB : Hid (¬ (Fs' bl ∨ Fo bl ∨ R bl)) := hide (fun hF => by
        rcases hF with h1 | h1
        · rcases ch.grow _ h1 with h2 | h2
          · exact GB0.out (.inl h2)
          · exact absurd ZB.out.lt (by omega)
        · exact GB0.out (.inr h1))
      have ZB' : Hid (Val Y2 bl 0 0 0) := hide ((ch.blk bl ZB.out.lt (fun e => GB0.out (.inl e))).trans ZB.out)
      clear ZB
      have ZB := ZB'
      clear ZB'
      clear st ch hU HU B0 H7 hH0
      refine wpAnyH_ready (rs := [7]) (by kernel_rfl) (by decide) ?_
      refine AllReadyH.cons rfl (fun K1 hK1 => ?_) AllReadyH.nil
      obtain ⟨⟨f0, f1, f2⟩, e0, e1, e2⟩ := ZB.out.all
      have BB : Below w.heap.size Y2 (((Y2.setCell ⟨bl, 0, none⟩ (.int .i64 sh.2.1)).setCell ⟨bl, 1, none⟩ (.int .i64 sh.2.2.1)).setCell ⟨bl, 2, none⟩ (.int .u64 sh.2.2.2)) := bel_set (Below.refl _ _) (Nat.le_of_lt LB.out) _ _ _
      have OO_ : ∀ k, k ≠ bl → (((Y2.setCell ⟨bl, 0, none⟩ (.int .i64 sh.2.1)).setCell ⟨bl, 1, none⟩ (.int .i64 sh.2.2.1)).setCell ⟨bl, 2, none⟩ (.int .u64 sh.2.2.2)).heap[k]? = Y2.heap[k]? := fun k hk => ne3 hk
      have SS : Y2.heap.size = (((Y2.setCell ⟨bl, 0, none⟩ (.int .i64 sh.2.1)).setCell ⟨bl, 1, none⟩ (.int .i64 sh.2.2.1)).setCell ⟨bl, 2, none⟩ (.int .u64 sh.2.2.2)).heap.size := by simp only [size_setCell]
      have EE : Val (((Y2.setCell ⟨bl, 0, none⟩ (.int .i64 sh.2.1)).setCell ⟨bl, 1, none⟩ (.int .i64 sh.2.2.1)).setCell ⟨bl, 2, none⟩ (.int .u64 sh.2.2.2)) bl sh.2.1 sh.2.2.1 sh.2.2.2 := ZB.out.set _ _ _
      go_simp
      refine hK1.out _ _ (hH.turn (t := bl) (Nat.le_of_eq SS) (fun k _ hk => OO_ k hk) (fun hm => by have := LB.out; have := KG.out; simp at hm; omega)) (fun hH => ?_)
      clear hK1 K1 f0 f1 f2 e0 e1 e2
      have RN9 := hide (And.intro (HQ.out.1.rn.keep (w' := (((Y2.setCell ⟨bl, 0, none⟩ (.int .i64 sh.2.1)).setCell ⟨bl, 1, none⟩ (.int .i64 sh.2.2.1)).setCell ⟨bl, 2, none⟩ (.int .u64 sh.2.2.2))) (fun k hk => OO_ k (fun e => GB.out (e ▸ hk))) (Nat.le_of_eq SS)) (HQ.out.2.below BB))
      have ZV := hide EE
      have WV := hide (show Wv (((Y2.setCell ⟨bl, 0, none⟩ (.int .i64 sh.2.1)).setCell ⟨bl, 1, none⟩ (.int .i64 sh.2.2.1)).setCell ⟨bl, 2, none⟩ (.int .u64 sh.2.2.2)) w.heap.size k o a (v0, v1, v2) (.slice aa na ca) from (hH.2.2 w.heap.size (by simp)).trans V0.out)
      have NL : Hid (¬ (Fs' w.heap.size ∨ Fo w.heap.size ∨ R w.heap.size)) := hide (fun hF => by
        rcases hF with h1 | h1
        · exact GL.out h1
        · exact NG.out ((HG.out _).2 (.inr h1)))
      clear BB OO_ SS EE hH
      generalize (((Y2.setCell ⟨bl, 0, none⟩ (.int .i64 sh.2.1)).setCell ⟨bl, 1, none⟩ (.int .i64 sh.2.2.1)).setCell ⟨bl, 2, none⟩ (.int .u64 sh.2.2.2)) = Y3 at *
      refine wpAnyH_done (by kernel_rfl) ?_ _
      go_wp2_with fail
      go_meet
      case rel => exact ⟨bl, _, rfl, hide ⟨RN9.out, ZV.out, WV.out, NL.out, GB.out⟩⟩
  case rest =>
    clear HU B0 H7 V0 U0 q0 q1 q2 q3 q4 q5 q6 u0 AR KL0 SH SM NF
    obtain ⟨bl, G', rfl, CU⟩ := hcut
    obtain ⟨q0, q1, q2, q3, q4, q5, q6⟩ := CU.out.2.2.1.all
    have NO := hide (note_any CU.out.1.1 i _ HX.out o (by have := HL.out; show r.ev.length ≤ 100000; omega))
    have hlb := CU.out.2.1.lt
    have NBL := hide CU.out.2.2.2.2
    go_wp2_with fail
    refine NO.out.mono ?_
    rintro e w8 ⟨rfl, G8, rn8, c8⟩
    have HX8 := hide (show (noteR { r with s := sh.1 } i o).gs[i]? = _ from (congrArg (fun l => l[i]?) (note_gs _ i o)).trans HX.out)
    have AK := hide (ask_any rn8 i _ HX8.out sh.2.1 sh.2.2.1 sh.2.2.2)
    have C8 := hide (CU.out.1.2.trans c8)
    have V8 : Hid (Val w8 bl sh.2.1 sh.2.2.1 sh.2.2.2) := hide ((c8.blk bl CU.out.2.1.lt NBL.out).trans CU.out.2.1)
    clear rn8 c8 NO q0 q1 q2 q3 q4 q5 q6 CU
    obtain ⟨_, e0, e1, e2⟩ := V8.out.all
    go_wp2_with fail
    refine AK.out.mono ?_
    rintro e w9 ⟨rfl, G9, rn9, c9⟩
    have Z := hide (And.intro rn9 (C8.out.trans c9))
    clear rn9 c9 AK
    go_wp2_with fail
    go_end0
    exact RnP.mk rfl Z.out.1 Z.out.2
end Go.Proofs.YtbiilnpblnjliaaDoor.Ck
