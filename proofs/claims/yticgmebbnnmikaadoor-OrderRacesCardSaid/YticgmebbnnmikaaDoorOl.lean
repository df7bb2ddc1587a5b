/- Package order: the whole walk in memory, and what turns in it. No Go text is walked here. -/
import Derived.Test.YticgmebbnnmikaaDoorOk
namespace Go.Proofs.YticgmebbnnmikaaDoor.Ck
open Go.RowKit

structure WkC (cs : Array Value) (vT vR vP : Value) (bm ba bc : Nat) (gos : Nat → Sn) : Prop where
  size : cs.size = 70
  c0 : cs[0]? = some vT
  c1 : cs[1]? = some vR
  gos : ∀ g, g < 8 → ∀ i, i < 8 → cs[2 + g * 8 + i]? = some (.int .i64 (gos g i))
  c66 : cs[66]? = some (.map (some bm))
  c67 : cs[67]? = some (.map (some ba))
  c68 : cs[68]? = some (.map (some bc))
  c69 : cs[69]? = some vP
/-- a walk in memory -/
structure WkM (w0 w : World) (bw bm ba bc : Nat) (vT vR vP : Value) (T : List Ev) (R : List Int) (W : Wk) (n : Nat) (v : Int → Bool → Value) : Prop where
  cells : ∃ cs, w.heap[bw]? = some (.cells cs 75 (0, 0)) ∧ WkC cs vT vR vP bm ba bc W.gos
  mu : MSn w bm n W.mu
  ac : MSn w ba n W.at_
  ch : MCh w w0.heap.size bc n W.ss W.rs v
  pa : w.ownsRow w0.heap.size 58 8 vP W.past.length (W.past.flatMap snC)
  tr : SlE w0 vT T
  rm : Sl w0 vR R
  lw : w0.heap.size ≤ bw
  lm : w0.heap.size ≤ bm
  la : w0.heap.size ≤ ba
  lc : w0.heap.size ≤ bc
  ma : bm ≠ ba
  mc : bm ≠ bc
  ac' : ba ≠ bc
  bel : Below w0.heap.size w0 w
section
variable {w0 w w' : World} {bw bm ba bc : Nat} {vT vR vP : Value} {T : List Ev} {R : List Int} {W : Wk} {n : Nat} {v : Int → Bool → Value}
theorem WkM.size (h : WkM w0 w bw bm ba bc vT vR vP T R W n v) : bw < w.heap.size ∧ bm < w.heap.size ∧ ba < w.heap.size ∧ bc < w.heap.size := by
  obtain ⟨cs, h1, _⟩ := h.cells
  obtain ⟨_, _, h2⟩ := h.mu.blk
  obtain ⟨_, _, h3⟩ := h.ac.blk
  obtain ⟨_, _, h4⟩ := h.ch.blk
  exact ⟨lt_of_blk h1, lt_of_blk h2, lt_of_blk h3, lt_of_blk h4⟩
theorem WkM.maps (h : WkM w0 w bw bm ba bc vT vR vP T R W n v) : bm ≠ bw ∧ ba ≠ bw ∧ bc ≠ bw := by
  obtain ⟨cs, h1, _⟩ := h.cells
  obtain ⟨_, _, h2⟩ := h.mu.blk
  obtain ⟨_, _, h3⟩ := h.ac.blk
  obtain ⟨_, _, h4⟩ := h.ch.blk
  refine ⟨fun e => ?_, fun e => ?_, fun e => ?_⟩
  · rw [e, h1] at h2; injection h2 with h2; cases h2
  · rw [e, h1] at h3; injection h3 with h3; cases h3
  · rw [e, h1] at h4; injection h4 with h4; cases h4
theorem row_map {w : World} {B : Nat} {T : TypeId} {k0 : Nat} {u : Value} {len : Nat} {xs : List Value} {b : Nat} (h : w.ownsRow B T k0 u len xs) (hb : ∃ es c, w.heap[b]? = some (.map es c)) {k : Nat} (hk : u.ownBlock = some k) : k ≠ b := fun e => by
  obtain ⟨_, _, h2⟩ := hb
  obtain ⟨_, _, cc, hc⟩ := own_type h hk
  rw [e, h2] at hc
  injection hc with hc
  cases hc
/-- what turns in the walk's own cells leaves the rest -/
theorem WkM.inCells (h : WkM w0 w bw bm ba bc vT vR vP T R W n v) (hoth : ∀ k, k < w.heap.size → k ≠ bw → w'.heap[k]? = w.heap[k]?) (hB : Below w0.heap.size w0 w') {g : Nat → Sn} (hc : ∃ cs, w'.heap[bw]? = some (.cells cs 75 (0, 0)) ∧ WkC cs vT vR vP bm ba bc g) :
    WkM w0 w' bw bm ba bc vT vR vP T R { W with gos := g } n v := by
  obtain ⟨s1, s2, s3, s4⟩ := h.size
  obtain ⟨m1, m2, m3⟩ := h.maps
  obtain ⟨cs, hcs, _⟩ := h.cells
  exact ⟨hc, h.mu.keep (hoth bm s2 m1), h.ac.keep (hoth ba s3 m2), h.ch.keep (hoth bc s4 m3) (fun x c k hk => hoth k (own_type (h.ch.row x c) hk).2.1 (fun e => own_at (h.ch.row x c) hcs (by decide) (by rw [hk, e]))), own_keep h.pa (fun k hk => hoth k (own_type h.pa hk).2.1 (fun e => own_at h.pa hcs (by decide) (by rw [hk, e]))), h.tr, h.rm, h.lw, h.lm, h.la, h.lc, h.ma, h.mc, h.ac', hB⟩
theorem WkM.below (h : WkM w0 w bw bm ba bc vT vR vP T R W n v) (hb : Below w.heap.size w w') : WkM w0 w' bw bm ba bc vT vR vP T R W n v := by
  obtain ⟨cs, h1, h2⟩ := h.cells
  exact h.inCells (fun k hk _ => hb.block k hk) (h.bel.trans (hb.mono h.bel.size)) ⟨cs, (hb.block bw h.size.1).trans h1, h2⟩
theorem WkM.arr (h : WkM w0 w bw bm ba bc vT vR vP T R W n v) {g : Nat} (hg : g < 8) : Ar w bw (2 + g * 8) (W.gos g) := by
  obtain ⟨cs, h1, h2⟩ := h.cells
  exact ⟨cs, _, h1, fun i hi => h2.gos g hg i hi⟩
theorem WkM.turn (h : WkM w0 w bw bm ba bc vT vR vP T R W n v) {g : Nat} (hg : g < 8) (t : Tn w w' bw (2 + g * 8) 8) {s : Sn} (a : Ar w' bw (2 + g * 8) s) : WkM w0 w' bw bm ba bc vT vR vP T R { W with gos := upd W.gos g s } n v := by
  obtain ⟨cs, h1, h2⟩ := h.cells
  obtain ⟨cs', g1, g2, g3⟩ := t.blk cs _ h1
  obtain ⟨cs2, T2, a1, a2⟩ := a
  rw [g1] at a1
  injection a1 with a1
  injection a1 with a1 _ _
  subst a1
  refine h.inCells (fun k hk hne => t.oth k hk hne) (h.bel.trans (t.below h.lw h.bel.size)) ⟨cs', g1, ⟨g2.trans h2.size, (g3 0 (by omega)).trans h2.c0, (g3 1 (by omega)).trans h2.c1, fun q hq i hi => ?_, (g3 66 (by omega)).trans h2.c66, (g3 67 (by omega)).trans h2.c67, (g3 68 (by omega)).trans h2.c68, (g3 69 (by omega)).trans h2.c69⟩⟩
  unfold upd
  by_cases e : q = g
  · subst e
    rw [if_pos rfl]
    exact a2 i hi
  · rw [if_neg e]
    exact (g3 _ (by omega)).trans (h2.gos q hq i hi)
theorem WkM.cell (h : WkM w0 w bw bm ba bc vT vR vP T R W n v) : w.cell? ⟨bw, 0, none⟩ = some vT ∧ w.cell? ⟨bw, 1, none⟩ = some vR ∧ w.cell? ⟨bw, 66, none⟩ = some (.map (some bm)) ∧ w.cell? ⟨bw, 67, none⟩ = some (.map (some ba)) ∧ w.cell? ⟨bw, 68, none⟩ = some (.map (some bc)) ∧ w.cell? ⟨bw, 69, none⟩ = some vP := by
  obtain ⟨cs, h1, h2⟩ := h.cells
  exact ⟨blk_cell h1 _ _ h2.c0, blk_cell h1 _ _ h2.c1, blk_cell h1 _ _ h2.c66, blk_cell h1 _ _ h2.c67, blk_cell h1 _ _ h2.c68, blk_cell h1 _ _ h2.c69⟩
theorem WkM.frz (h : WkM w0 w bw bm ba bc vT vR vP T R W n v) (i : Nat) : w.frozen? ⟨bw, i, none⟩ = false := by
  obtain ⟨cs, h1, _⟩ := h.cells
  exact blk_frz h1 i
/-- a map of what is known got an entry -/
theorem WkM.putMu (h : WkM w0 w bw bm ba bc vT vR vP T R W n v) {f : Int → Sn} (hf : MSn w' bm (n + 1) f) (hg : w.grownBy w' (some bm)) : WkM w0 w' bw bm ba bc vT vR vP T R { W with mu := f } (n + 1) v := by
  obtain ⟨s1, s2, s3, s4⟩ := h.size
  obtain ⟨m1, m2, m3⟩ := h.maps
  have ho : ∀ k, k < w.heap.size → k ≠ bm → w'.heap[k]? = w.heap[k]? := fun k hk hne => hg.block k hk (fun e => hne (Option.some.inj e))
  obtain ⟨cs, h1, h2⟩ := h.cells
  exact ⟨⟨cs, (ho bw s1 (Ne.symm m1)).trans h1, h2⟩, hf, (h.ac.keep (ho ba s3 (Ne.symm h.ma))).more, (h.ch.keep (ho bc s4 (Ne.symm h.mc)) (fun x c k hk => ho k (own_type (h.ch.row x c) hk).2.1 (row_map (h.ch.row x c) h.mu.blk hk))).more, own_keep h.pa (fun k hk => ho k (own_type h.pa hk).2.1 (row_map h.pa h.mu.blk hk)), h.tr, h.rm, h.lw, h.lm, h.la, h.lc, h.ma, h.mc, h.ac',
    h.bel.trans ⟨hg.os, hg.tape, hg.output, Nat.le_trans h.bel.size hg.size |> fun _ => hg.size, fun k hk => ho k (Nat.lt_of_lt_of_le hk h.bel.size) (by have := h.lm; omega)⟩⟩
theorem WkM.putAc (h : WkM w0 w bw bm ba bc vT vR vP T R W n v) {f : Int → Sn} (hf : MSn w' ba (n + 1) f) (hg : w.grownBy w' (some ba)) : WkM w0 w' bw bm ba bc vT vR vP T R { W with at_ := f } (n + 1) v := by
  obtain ⟨s1, s2, s3, s4⟩ := h.size
  obtain ⟨m1, m2, m3⟩ := h.maps
  have ho : ∀ k, k < w.heap.size → k ≠ ba → w'.heap[k]? = w.heap[k]? := fun k hk hne => hg.block k hk (fun e => hne (Option.some.inj e))
  obtain ⟨cs, h1, h2⟩ := h.cells
  exact ⟨⟨cs, (ho bw s1 (Ne.symm m2)).trans h1, h2⟩, (h.mu.keep (ho bm s2 h.ma)).more, hf, (h.ch.keep (ho bc s4 (Ne.symm h.ac')) (fun x c k hk => ho k (own_type (h.ch.row x c) hk).2.1 (row_map (h.ch.row x c) h.ac.blk hk))).more, own_keep h.pa (fun k hk => ho k (own_type h.pa hk).2.1 (row_map h.pa h.ac.blk hk)), h.tr, h.rm, h.lw, h.lm, h.la, h.lc, h.ma, h.mc, h.ac',
    h.bel.trans ⟨hg.os, hg.tape, hg.output, hg.size, fun k hk => ho k (Nat.lt_of_lt_of_le hk h.bel.size) (by have := h.la; omega)⟩⟩
theorem WkM.more (h : WkM w0 w bw bm ba bc vT vR vP T R W n v) : WkM w0 w bw bm ba bc vT vR vP T R W (n + 1) v :=
  ⟨h.cells, h.mu.more, h.ac.more, h.ch.more, h.pa, h.tr, h.rm, h.lw, h.lm, h.la, h.lc, h.ma, h.mc, h.ac', h.bel⟩
/-- a channel's row grew, and the channel was put into its map: u the row as it is now, l what it holds -/
theorem WkM.putCh (h : WkM w0 w bw bm ba bc vT vR vP T R W n v) (hn : n < maxLen) {o : Int} (ho : wfI o) (c : Bool) {u : Value} {l : List Int} {w1 w2 : World} (hg : w.grownBy w1 (v o c).ownBlock) (hu : w1.ownsRow w0.heap.size 3 1 u l.length (nts l)) (hu2 : ∀ k, u.ownBlock = some k → (v o c).ownBlock = some k ∨ w.heap.size ≤ k) {xb ox nx : Nat} {cx : Array Value} (hx : w.heap[xb]? = some (.cells cx 101 (0, 0))) (hxl : w0.heap.size ≤ xb) (hb : Tn w1 w2 xb ox nx) :
    ∃ w3, (Instr.mapUpdate 72 (.map (some bc)) (.int .i64 o) (.agg #[upS v o c u o false, upS v o c u o true])).run Tryd.prog w2 = .ok () w3 ∧ WkM w0 w3 bw bm ba bc vT vR vP T R { W with ss := if c = true then W.ss else up W.ss o l, rs := if c = true then up W.rs o l else W.rs } (n + 1) (upS v o c u) := by
  obtain ⟨s1, s2, s3, s4⟩ := h.size
  obtain ⟨m1, m2, m3⟩ := h.maps
  obtain ⟨cs, h1, h2⟩ := h.cells
  obtain ⟨w3, r1, r2, r3⟩ := h.ch.put hn ho c hg hu hu2 hx hb
  have hk0 : ∀ k, k < w.heap.size → (v o c).ownBlock ≠ some k → k ≠ bc → k ≠ xb → w3.heap[k]? = w.heap[k]? := fun k hk hne hne2 hne3 =>
    (r3.block k (Nat.lt_of_lt_of_le hk (Nat.le_trans hg.size hb.size)) (fun e => hne2 (Option.some.inj e))).trans ((hb.oth k (Nat.lt_of_lt_of_le hk hg.size) hne3).trans (hg.block k hk (fun e => hne e.symm)))
  have hT : ∀ {k : Nat} {o9 : Obj}, w.heap[k]? = some o9 → (∀ c9, o9 ≠ .cells c9 3 (0, 0)) → (v o c).ownBlock ≠ some k := fun hk hne e => by
    obtain ⟨_, _, cc, hc⟩ := own_type (h.ch.row o c) e
    rw [hk] at hc
    exact hne cc (Option.some.inj hc)
  obtain ⟨_, _, km⟩ := h.mu.blk
  obtain ⟨_, _, ka⟩ := h.ac.blk
  refine ⟨w3, r1, ⟨⟨cs, (hk0 bw s1 (hT h1 (fun c9 e => by injection e with _ e _; revert e; decide)) (Ne.symm m3) (fun e => by rw [e, hx] at h1; injection h1 with h1; injection h1 with _ q _; revert q; decide)).trans h1, h2⟩, (h.mu.keep (hk0 bm s2 (hT km (fun c9 e => by cases e)) h.mc (fun e => by rw [e, hx] at km; injection km with km; cases km))).more, (h.ac.keep (hk0 ba s3 (hT ka (fun c9 e => by cases e)) h.ac' (fun e => by rw [e, hx] at ka; injection ka with ka; cases ka))).more, r2, own_keep h.pa (fun k hk => hk0 k (own_type h.pa hk).2.1 (fun e => own_apart h.pa (h.ch.row o c) (by decide) k hk e) (row_map h.pa h.ch.blk hk) (fun e => own_at h.pa hx (by decide) (by rw [hk, e]))), h.tr, h.rm, h.lw, h.lm, h.la, h.lc, h.ma, h.mc, h.ac', ?_⟩⟩
  refine ⟨r3.os.trans (hb.os.trans (hg.os.trans h.bel.os)), r3.tape.trans (hb.tape.trans (hg.tape.trans h.bel.tape)), r3.output.trans (hb.out.trans (hg.output.trans h.bel.output)), Nat.le_trans h.bel.size (Nat.le_trans hg.size (Nat.le_trans hb.size r3.size)), fun k hk => (hk0 k (Nat.lt_of_lt_of_le hk h.bel.size) (fun e => ?_) (by have := h.lc; omega) (by omega)).trans (h.bel.block k hk)⟩
  have := (own_type (h.ch.row o c) e).1
  omega
/-- what an event knows was put behind the others -/
theorem WkM.putPa (h : WkM w0 w bw bm ba bc vT vR vP T R W n v) {u : Value} {m : Sn} (hu : w'.ownsRow w0.heap.size 58 8 u (W.past.length + 1) (W.past.flatMap snC ++ snC m)) (hg : w.grownBy w' vP.ownBlock) : WkM w0 (w'.setCell ⟨bw, 69, none⟩ u) bw bm ba bc vT vR u T R { W with past := W.past ++ [m] } n v := by
  obtain ⟨s1, s2, s3, s4⟩ := h.size
  obtain ⟨m1, m2, m3⟩ := h.maps
  obtain ⟨cs, h1, h2⟩ := h.cells
  have hne : ∀ k, k < w.heap.size → vP.ownBlock ≠ some k → w'.heap[k]? = w.heap[k]? := fun k hk h9 => hg.block k hk (fun e => h9 e.symm)
  have hT : ∀ {k : Nat} {o9 : Obj}, w.heap[k]? = some o9 → (∀ c9, o9 ≠ .cells c9 58 (0, 0)) → vP.ownBlock ≠ some k := fun hk hne e => by
    obtain ⟨_, _, cc, hc⟩ := own_type h.pa e
    rw [hk] at hc
    exact hne cc (Option.some.inj hc)
  have hw := (hne bw s1 (hT h1 (fun c9 e => by injection e with _ e _; revert e; decide))).trans h1
  have hs := heap_setCell_same w' bw 69 _ _ u hw
  have ho : ∀ k, k < w.heap.size → vP.ownBlock ≠ some k → k ≠ bw → (w'.setCell ⟨bw, 69, none⟩ u).heap[k]? = w.heap[k]? := fun k hk h8 h9 => (Below.heap_setCell _ _ _ _ h9).trans (hne k hk h8)
  obtain ⟨_, _, km⟩ := h.mu.blk
  obtain ⟨_, _, ka⟩ := h.ac.blk
  obtain ⟨_, _, kc⟩ := h.ch.blk
  have e1 : (W.past ++ [m]).length = W.past.length + 1 := by simp
  have e2 : (W.past ++ [m]).flatMap snC = W.past.flatMap snC ++ snC m := by simp
  have gc : ∀ i x, i ≠ 69 → cs[i]? = some x → (cs.setIfInBounds 69 u)[i]? = some x := fun i x hi hx => by
    rw [Array.getElem?_setIfInBounds, if_neg (Ne.symm hi)]
    exact hx
  refine ⟨⟨_, hs, ⟨by simpa using h2.size, gc _ _ (by omega) h2.c0, gc _ _ (by omega) h2.c1, fun g hg i hi => gc _ _ (by omega) (h2.gos g hg i hi), gc _ _ (by omega) h2.c66, gc _ _ (by omega) h2.c67, gc _ _ (by omega) h2.c68, ?_⟩⟩, h.mu.keep (ho bm s2 (hT km (fun c9 e => by cases e)) m1), h.ac.keep (ho ba s3 (hT ka (fun c9 e => by cases e)) m2), h.ch.keep (ho bc s4 (hT kc (fun c9 e => by cases e)) m3) (fun x c k hk => ho k (own_type (h.ch.row x c) hk).2.1 (fun e => own_apart h.pa (h.ch.row x c) (by decide) k e hk) (fun e => own_at (h.ch.row x c) h1 (by decide) (by rw [hk, e]))), ?_, h.tr, h.rm, h.lw, h.lm, h.la, h.lc, h.ma, h.mc, h.ac', ?_⟩
  · rw [Array.getElem?_setIfInBounds, if_pos rfl, if_pos (by rw [h2.size]; omega)]
  · show World.ownsRow _ _ _ _ _ (W.past ++ [m]).length ((W.past ++ [m]).flatMap snC)
    rw [e1, e2]
    exact own_keep hu (fun k hk => Below.heap_setCell _ _ _ _ (fun e => own_at hu hw (by decide) (by rw [hk, show k = bw from e])))
  · refine ⟨hg.os.trans h.bel.os, hg.tape.trans h.bel.tape, hg.output.trans h.bel.output, by rw [size_setCell]; exact Nat.le_trans h.bel.size hg.size, fun k hk => (ho k (Nat.lt_of_lt_of_le hk h.bel.size) (fun e => ?_) (by have := h.lw; omega)).trans (h.bel.block k hk)⟩
    have := (own_type h.pa e).1
    omega
end
end Go.Proofs.YticgmebbnnmikaaDoor.Ck
