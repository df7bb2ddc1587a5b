/- The document's New: what its last row keeps. (Written by mk_y.py.) -/
import Derived.Test.YtghfjnnmpmfboaaDoorZc
import Derived.Test.YtghfjnnmpmfboaaDoorLo
namespace Go.Proofs.YtghfjnnmpmfboaaDoor.Ck
open Go.RowKit

/-- a slice that an append has left -/
def NRow (W0 w : World) (T : TypeId) (sz : Nat) (v : Value) (m : Nat) (xs : List Value) (old : Value) : Prop := (∃ a c, v = .slice a m c) ∧ w.ownsRow 0 T sz v m xs ∧ ∀ k, v.ownBlock = some k → old.ownBlock = some k ∨ W0.heap.size ≤ k
/-- what is there when the row begins -/
structure NC (W0 : World) (g gb n : Nat) (y1 y2 : Int) (vP vL vC vS vT vA : Value) (xC xS xT : List Value) : Prop where
  g0 : W0.heap[g]? = some (.cells #[vP, vL, vC, vS, vT, vA] 50 (0, 0))
  rC : W0.ownsRow 0 52 2 vC n xC
  rS : W0.ownsRow 0 46 1 vS n xS
  rT : W0.ownsRow 0 3 1 vT n xT
  box : W0.heap[gb]? = some (.cells #[.int .i64 y1, .int .i64 y2] 52 (0, 0))
  boxC : vC.ownBlock ≠ some gb
  nl : n ≤ 1000
def NBase (W0 : World) (g : Nat) (vP vL vC vS vT vA : Value) (w : World) : Prop := (∃ c2 c3 c4, w.heap[g]? = some (.cells #[vP, vL, c2, c3, c4, vA] 50 (0, 0))) ∧ (w.os = W0.os ∧ w.tape = W0.tape ∧ w.output = W0.output ∧ W0.heap.size ≤ w.heap.size) ∧ ∀ k, k < W0.heap.size → k ≠ g → vC.ownBlock ≠ some k → vS.ownBlock ≠ some k → vT.ownBlock ≠ some k → w.heap[k]? = W0.heap[k]?
def NF (W0 : World) (g _gb n : Nat) (y1 y2 : Int) (vP vL vC vS vT vA : Value) (xC xS xT : List Value) (j : Nat) (u : Nat → Value) (w : World) : Prop := NBase W0 g vP vL vC vS vT vA w ∧ match j with
  | 0 => u 0 = .pointer (some ⟨g, 0, none⟩)
  | 1 => u 1 = .pointer (some ⟨g, 0, none⟩)
  | 2 => u 2 = .pointer (some ⟨g, 0, none⟩)
  | 3 => u 3 = .pointer (some ⟨g, 0, none⟩)
  | 4 => u 4 = .pointer (some ⟨g, 0, none⟩)
  | 5 => u 5 = .pointer (some ⟨g, 2, none⟩)
  | 6 => u 6 = vC
  | 7 => u 7 = .agg #[.int .i64 y1, .int .i64 y2]
  | 8 => ∃ k, u 8 = .slice (some ⟨k, 0, none⟩) 1 1 ∧ W0.heap.size ≤ k ∧ w.heap[k]? = some (.cells #[.int .i64 y1, .int .i64 y2] 52 (0, 0))
  | 9 => NRow W0 w 52 2 (u 9) (n + 1) (xC ++ [.int .i64 y1, .int .i64 y2]) vC
  | 10 => u 10 = .pointer (some ⟨g, 0, none⟩)
  | 11 => u 11 = .pointer (some ⟨g, 0, none⟩)
  | 12 => u 12 = .pointer (some ⟨g, 3, none⟩)
  | 13 => u 13 = vS
  | 14 => ∃ k, u 14 = .slice (some ⟨k, 0, none⟩) 1 1 ∧ W0.heap.size ≤ k ∧ w.heap[k]? = some (.cells #[.slice none 0 0] 46 (0, 0))
  | 15 => NRow W0 w 46 1 (u 15) (n + 1) (xS ++ [.slice none 0 0]) vS
  | 16 => u 16 = .pointer (some ⟨g, 0, none⟩)
  | 17 => u 17 = .pointer (some ⟨g, 0, none⟩)
  | 18 => u 18 = .pointer (some ⟨g, 4, none⟩)
  | 19 => u 19 = vT
  | 20 => ∃ k, u 20 = .slice (some ⟨k, 0, none⟩) 1 1 ∧ W0.heap.size ≤ k ∧ w.heap[k]? = some (.cells #[.int .i64 0] 3 (0, 0))
  | 21 => NRow W0 w 3 1 (u 21) (n + 1) (xT ++ [.int .i64 0]) vT
  | 22 => u 22 = .pointer (some ⟨g, 0, none⟩)
  | 23 => u 23 = .pointer (some ⟨g, 2, none⟩)
  | 24 => w.cell? ⟨g, 2, none⟩ = some (u 9)
  | 25 => u 25 = .pointer (some ⟨g, 0, none⟩)
  | 26 => u 26 = .pointer (some ⟨g, 3, none⟩)
  | 27 => w.cell? ⟨g, 3, none⟩ = some (u 15)
  | 28 => u 28 = .pointer (some ⟨g, 0, none⟩)
  | 29 => u 29 = .pointer (some ⟨g, 4, none⟩)
  | 30 => w.cell? ⟨g, 4, none⟩ = some (u 21)
  | _ => True
def NG (W0 : World) (g _gb n : Nat) (_y1 _y2 : Int) (vP vL vC vS vT vA : Value) (xC xS xT : List Value) (j : Nat) (_u : Nat → Value) (w : World) : Prop := NBase W0 g vP vL vC vS vT vA w ∧ match j with
  | 9 => w.ownsRow 0 52 2 vC n xC
  | 15 => w.ownsRow 0 46 1 vS n xS
  | 21 => w.ownsRow 0 3 1 vT n xT
  | 24 => w.cell? ⟨g, 2, none⟩ = some vC
  | 27 => w.cell? ⟨g, 3, none⟩ = some vS
  | 30 => w.cell? ⟨g, 4, none⟩ = some vT
  | _ => True
def NRel (g : Nat) (vC vS vT : Value) (i : Nat) (u : Nat → Value) (w w' : World) : Prop := w.grownBy w' none ∨ (i = 9 ∧ w.grownBy w' vC.ownBlock) ∨ (i = 15 ∧ w.grownBy w' vS.ownBlock) ∨ (i = 21 ∧ w.grownBy w' vT.ownBlock) ∨ (i = 24 ∧ w' = w.setCell ⟨g, 2, none⟩ (u 9)) ∨ (i = 27 ∧ w' = w.setCell ⟨g, 3, none⟩ (u 15)) ∨ (i = 30 ∧ w' = w.setCell ⟨g, 4, none⟩ (u 21))
section
variable {W0 w w' : World} {g gb n : Nat} {y1 y2 : Int} {vP vL vC vS vT vA : Value} {xC xS xT : List Value}
theorem gb_none {w w' : World} (h : Below w.heap.size w w') : w.grownBy w' none := ⟨h.os, h.tape, h.output, h.size, fun k hk _ => h.block k hk⟩
theorem NBase.grown (c : NC W0 g gb n y1 y2 vP vL vC vS vT vA xC xS xT) (h : NBase W0 g vP vL vC vS vT vA w) {D : Option Nat} (hD : D = none ∨ D = vC.ownBlock ∨ D = vS.ownBlock ∨ D = vT.ownBlock) (hg : w.grownBy w' D) : NBase W0 g vP vL vC vS vT vA w' ∧ w'.heap[g]? = w.heap[g]? := by
  obtain ⟨⟨c2, c3, c4, h1⟩, ⟨a1, a2, a3, a4⟩, h2⟩ := h
  have hgD : some g ≠ D := by
    rcases hD with rfl | rfl | rfl | rfl
    · exact fun e => by cases e
    · exact fun e => own_at c.rC c.g0 (by decide) e.symm
    · exact fun e => own_at c.rS c.g0 (by decide) e.symm
    · exact fun e => own_at c.rT c.g0 (by decide) e.symm
  have hgg := hg.block g (lt_of_blk h1) hgD
  refine ⟨⟨⟨c2, c3, c4, hgg.trans h1⟩, ⟨hg.os.trans a1, hg.tape.trans a2, hg.output.trans a3, Nat.le_trans a4 hg.size⟩, fun k hk n1 n2 n3 n4 => (hg.block k (Nat.lt_of_lt_of_le hk a4) ?_).trans (h2 k hk n1 n2 n3 n4)⟩, hgg⟩
  rcases hD with rfl | rfl | rfl | rfl
  · exact fun e => by cases e
  · exact fun e => n2 e.symm
  · exact fun e => n3 e.symm
  · exact fun e => n4 e.symm
theorem NBase.store (h : NBase W0 g vP vL vC vS vT vA w) (f : Nat) (hf : f = 2 ∨ f = 3 ∨ f = 4) (x : Value) : NBase W0 g vP vL vC vS vT vA (w.setCell ⟨g, f, none⟩ x) ∧ (w.setCell ⟨g, f, none⟩ x).cell? ⟨g, f, none⟩ = some x ∧ ∀ f', f' ≠ f → (w.setCell ⟨g, f, none⟩ x).cell? ⟨g, f', none⟩ = w.cell? ⟨g, f', none⟩ := by
  obtain ⟨⟨c2, c3, c4, h1⟩, ⟨a1, a2, a3, a4⟩, h2⟩ := h
  have hs := heap_setCell_same w g f _ _ x h1
  refine ⟨⟨?_, ⟨a1, a2, a3, by rw [size_setCell]; exact a4⟩, fun k hk n1 n2 n3 n4 => (Below.heap_setCell _ _ _ _ n1).trans (h2 k hk n1 n2 n3 n4)⟩, ?_, fun f' hf' => ?_⟩
  · rcases hf with rfl | rfl | rfl
    · exact ⟨x, c3, c4, hs⟩
    · exact ⟨c2, x, c4, hs⟩
    · exact ⟨c2, c3, x, hs⟩
  · rcases hf with rfl | rfl | rfl
    · exact blk_cell hs _ _ rfl
    · exact blk_cell hs _ _ rfl
    · exact blk_cell hs _ _ rfl
  · exact World.cell?_setCell_other _ _ _ _ (by intro e; injection e with _ e2 _; first | exact hf' e2 | exact hf' e2.symm)
theorem NRow.grown {T : TypeId} {sz m : Nat} {v old : Value} {xs : List Value} (h : NRow W0 w T sz v m xs old) {D : Option Nat} (hD : ∀ k, D = some k → k < W0.heap.size ∧ old.ownBlock ≠ some k) (hg : w.grownBy w' D) : NRow W0 w' T sz v m xs old := by
  obtain ⟨h1, h2, h3⟩ := h
  refine ⟨h1, own_keep h2 fun k hk => hg.block k (own_type h2 hk).2.1 (fun e => ?_), h3⟩
  obtain ⟨q1, q2⟩ := hD k e.symm
  rcases h3 k hk with h4 | h4
  · exact q2 h4
  · omega
theorem NRow.store {T : TypeId} {sz m : Nat} {v old : Value} {xs : List Value} (h : NRow W0 w T sz v m xs old) (hB : NBase W0 g vP vL vC vS vT vA w) (hT : T ≠ 50) (f : Nat) (x : Value) : NRow W0 (w.setCell ⟨g, f, none⟩ x) T sz v m xs old := by
  obtain ⟨h1, h2, h3⟩ := h
  obtain ⟨⟨c2, c3, c4, hg⟩, _⟩ := hB
  exact ⟨h1, own_keep h2 fun k hk => Below.heap_setCell _ _ _ _ (fun e => own_at h2 hg hT (by rw [hk]; exact congrArg some e)), h3⟩
theorem own_grown {T : TypeId} {sz m : Nat} {v : Value} {xs : List Value} (h : w.ownsRow 0 T sz v m xs) {D : Option Nat} (hD : ∀ k, D = some k → v.ownBlock ≠ some k) (hg : w.grownBy w' D) : w'.ownsRow 0 T sz v m xs :=
  own_keep h fun k hk => hg.block k (own_type h hk).2.1 (fun e => hD k e.symm hk)
theorem own_store {T : TypeId} {sz m : Nat} {v : Value} {xs : List Value} (h : w.ownsRow 0 T sz v m xs) (hB : NBase W0 g vP vL vC vS vT vA w) (hT : T ≠ 50) (f : Nat) (x : Value) : (w.setCell ⟨g, f, none⟩ x).ownsRow 0 T sz v m xs := by
  obtain ⟨⟨c2, c3, c4, hg⟩, _⟩ := hB
  exact own_keep h fun k hk => Below.heap_setCell _ _ _ _ (fun e => own_at h hg hT (by rw [hk]; exact congrArg some e))
end
set_option maxRecDepth 20000 in
theorem nf_keep {W0 : World} {g gb n : Nat} {y1 y2 : Int} {vP vL vC vS vT vA : Value} {xC xS xT : List Value} (c : NC W0 g gb n y1 y2 vP vL vC vS vT vA xC xS xT) (i j : Nat) (u : Nat → Value) (v : Value) (w w' : World) (hij : i ≠ j) (hd : (j = 24 → i ≠ 9) ∧ (j = 27 → i ≠ 15) ∧ (j = 30 → i ≠ 21)) (hj : j < 31) (hr : NRel g vC vS vT i u w w') (hf : NF W0 g gb n y1 y2 vP vL vC vS vT vA xC xS xT j u w) : NF W0 g gb n y1 y2 vP vL vC vS vT vA xC xS xT j (upd u i v) w' := by
  obtain ⟨hB, hf⟩ := hf
  obtain rfl | rfl | rfl | rfl | rfl | rfl | rfl | rfl | rfl | rfl | rfl | rfl | rfl | rfl | rfl | rfl | rfl | rfl | rfl | rfl | rfl | rfl | rfl | rfl | rfl | rfl | rfl | rfl | rfl | rfl | rfl : j = 0 ∨ j = 1 ∨ j = 2 ∨ j = 3 ∨ j = 4 ∨ j = 5 ∨ j = 6 ∨ j = 7 ∨ j = 8 ∨ j = 9 ∨ j = 10 ∨ j = 11 ∨ j = 12 ∨ j = 13 ∨ j = 14 ∨ j = 15 ∨ j = 16 ∨ j = 17 ∨ j = 18 ∨ j = 19 ∨ j = 20 ∨ j = 21 ∨ j = 22 ∨ j = 23 ∨ j = 24 ∨ j = 25 ∨ j = 26 ∨ j = 27 ∨ j = 28 ∨ j = 29 ∨ j = 30 := by omega
  · rcases hr with hr | ⟨rfl, hr⟩ | ⟨rfl, hr⟩ | ⟨rfl, hr⟩ | ⟨rfl, hr⟩ | ⟨rfl, hr⟩ | ⟨rfl, hr⟩
    · refine ⟨(hB.grown c (.inl rfl) hr).1, ?_⟩; exact (upd_ne u v (Ne.symm hij)).trans hf
    · refine ⟨(hB.grown c (.inr (.inl rfl)) hr).1, ?_⟩; exact (upd_ne u v (Ne.symm hij)).trans hf
    · refine ⟨(hB.grown c (.inr (.inr (.inl rfl))) hr).1, ?_⟩; exact (upd_ne u v (Ne.symm hij)).trans hf
    · refine ⟨(hB.grown c (.inr (.inr (.inr rfl))) hr).1, ?_⟩; exact (upd_ne u v (Ne.symm hij)).trans hf
    · subst hr; refine ⟨(hB.store 2 (by omega) _).1, ?_⟩; exact (upd_ne u v (Ne.symm hij)).trans hf
    · subst hr; refine ⟨(hB.store 3 (by omega) _).1, ?_⟩; exact (upd_ne u v (Ne.symm hij)).trans hf
    · subst hr; refine ⟨(hB.store 4 (by omega) _).1, ?_⟩; exact (upd_ne u v (Ne.symm hij)).trans hf
  · rcases hr with hr | ⟨rfl, hr⟩ | ⟨rfl, hr⟩ | ⟨rfl, hr⟩ | ⟨rfl, hr⟩ | ⟨rfl, hr⟩ | ⟨rfl, hr⟩
    · refine ⟨(hB.grown c (.inl rfl) hr).1, ?_⟩; exact (upd_ne u v (Ne.symm hij)).trans hf
    · refine ⟨(hB.grown c (.inr (.inl rfl)) hr).1, ?_⟩; exact (upd_ne u v (Ne.symm hij)).trans hf
    · refine ⟨(hB.grown c (.inr (.inr (.inl rfl))) hr).1, ?_⟩; exact (upd_ne u v (Ne.symm hij)).trans hf
    · refine ⟨(hB.grown c (.inr (.inr (.inr rfl))) hr).1, ?_⟩; exact (upd_ne u v (Ne.symm hij)).trans hf
    · subst hr; refine ⟨(hB.store 2 (by omega) _).1, ?_⟩; exact (upd_ne u v (Ne.symm hij)).trans hf
    · subst hr; refine ⟨(hB.store 3 (by omega) _).1, ?_⟩; exact (upd_ne u v (Ne.symm hij)).trans hf
    · subst hr; refine ⟨(hB.store 4 (by omega) _).1, ?_⟩; exact (upd_ne u v (Ne.symm hij)).trans hf
  · rcases hr with hr | ⟨rfl, hr⟩ | ⟨rfl, hr⟩ | ⟨rfl, hr⟩ | ⟨rfl, hr⟩ | ⟨rfl, hr⟩ | ⟨rfl, hr⟩
    · refine ⟨(hB.grown c (.inl rfl) hr).1, ?_⟩; exact (upd_ne u v (Ne.symm hij)).trans hf
    · refine ⟨(hB.grown c (.inr (.inl rfl)) hr).1, ?_⟩; exact (upd_ne u v (Ne.symm hij)).trans hf
    · refine ⟨(hB.grown c (.inr (.inr (.inl rfl))) hr).1, ?_⟩; exact (upd_ne u v (Ne.symm hij)).trans hf
    · refine ⟨(hB.grown c (.inr (.inr (.inr rfl))) hr).1, ?_⟩; exact (upd_ne u v (Ne.symm hij)).trans hf
    · subst hr; refine ⟨(hB.store 2 (by omega) _).1, ?_⟩; exact (upd_ne u v (Ne.symm hij)).trans hf
    · subst hr; refine ⟨(hB.store 3 (by omega) _).1, ?_⟩; exact (upd_ne u v (Ne.symm hij)).trans hf
    · subst hr; refine ⟨(hB.store 4 (by omega) _).1, ?_⟩; exact (upd_ne u v (Ne.symm hij)).trans hf
  · rcases hr with hr | ⟨rfl, hr⟩ | ⟨rfl, hr⟩ | ⟨rfl, hr⟩ | ⟨rfl, hr⟩ | ⟨rfl, hr⟩ | ⟨rfl, hr⟩
    · refine ⟨(hB.grown c (.inl rfl) hr).1, ?_⟩; exact (upd_ne u v (Ne.symm hij)).trans hf
    · refine ⟨(hB.grown c (.inr (.inl rfl)) hr).1, ?_⟩; exact (upd_ne u v (Ne.symm hij)).trans hf
    · refine ⟨(hB.grown c (.inr (.inr (.inl rfl))) hr).1, ?_⟩; exact (upd_ne u v (Ne.symm hij)).trans hf
    · refine ⟨(hB.grown c (.inr (.inr (.inr rfl))) hr).1, ?_⟩; exact (upd_ne u v (Ne.symm hij)).trans hf
    · subst hr; refine ⟨(hB.store 2 (by omega) _).1, ?_⟩; exact (upd_ne u v (Ne.symm hij)).trans hf
    · subst hr; refine ⟨(hB.store 3 (by omega) _).1, ?_⟩; exact (upd_ne u v (Ne.symm hij)).trans hf
    · subst hr; refine ⟨(hB.store 4 (by omega) _).1, ?_⟩; exact (upd_ne u v (Ne.symm hij)).trans hf
  · rcases hr with hr | ⟨rfl, hr⟩ | ⟨rfl, hr⟩ | ⟨rfl, hr⟩ | ⟨rfl, hr⟩ | ⟨rfl, hr⟩ | ⟨rfl, hr⟩
    · refine ⟨(hB.grown c (.inl rfl) hr).1, ?_⟩; exact (upd_ne u v (Ne.symm hij)).trans hf
    · refine ⟨(hB.grown c (.inr (.inl rfl)) hr).1, ?_⟩; exact (upd_ne u v (Ne.symm hij)).trans hf
    · refine ⟨(hB.grown c (.inr (.inr (.inl rfl))) hr).1, ?_⟩; exact (upd_ne u v (Ne.symm hij)).trans hf
    · refine ⟨(hB.grown c (.inr (.inr (.inr rfl))) hr).1, ?_⟩; exact (upd_ne u v (Ne.symm hij)).trans hf
    · subst hr; refine ⟨(hB.store 2 (by omega) _).1, ?_⟩; exact (upd_ne u v (Ne.symm hij)).trans hf
    · subst hr; refine ⟨(hB.store 3 (by omega) _).1, ?_⟩; exact (upd_ne u v (Ne.symm hij)).trans hf
    · subst hr; refine ⟨(hB.store 4 (by omega) _).1, ?_⟩; exact (upd_ne u v (Ne.symm hij)).trans hf
  · rcases hr with hr | ⟨rfl, hr⟩ | ⟨rfl, hr⟩ | ⟨rfl, hr⟩ | ⟨rfl, hr⟩ | ⟨rfl, hr⟩ | ⟨rfl, hr⟩
    · refine ⟨(hB.grown c (.inl rfl) hr).1, ?_⟩; exact (upd_ne u v (Ne.symm hij)).trans hf
    · refine ⟨(hB.grown c (.inr (.inl rfl)) hr).1, ?_⟩; exact (upd_ne u v (Ne.symm hij)).trans hf
    · refine ⟨(hB.grown c (.inr (.inr (.inl rfl))) hr).1, ?_⟩; exact (upd_ne u v (Ne.symm hij)).trans hf
    · refine ⟨(hB.grown c (.inr (.inr (.inr rfl))) hr).1, ?_⟩; exact (upd_ne u v (Ne.symm hij)).trans hf
    · subst hr; refine ⟨(hB.store 2 (by omega) _).1, ?_⟩; exact (upd_ne u v (Ne.symm hij)).trans hf
    · subst hr; refine ⟨(hB.store 3 (by omega) _).1, ?_⟩; exact (upd_ne u v (Ne.symm hij)).trans hf
    · subst hr; refine ⟨(hB.store 4 (by omega) _).1, ?_⟩; exact (upd_ne u v (Ne.symm hij)).trans hf
  · rcases hr with hr | ⟨rfl, hr⟩ | ⟨rfl, hr⟩ | ⟨rfl, hr⟩ | ⟨rfl, hr⟩ | ⟨rfl, hr⟩ | ⟨rfl, hr⟩
    · refine ⟨(hB.grown c (.inl rfl) hr).1, ?_⟩; exact (upd_ne u v (Ne.symm hij)).trans hf
    · refine ⟨(hB.grown c (.inr (.inl rfl)) hr).1, ?_⟩; exact (upd_ne u v (Ne.symm hij)).trans hf
    · refine ⟨(hB.grown c (.inr (.inr (.inl rfl))) hr).1, ?_⟩; exact (upd_ne u v (Ne.symm hij)).trans hf
    · refine ⟨(hB.grown c (.inr (.inr (.inr rfl))) hr).1, ?_⟩; exact (upd_ne u v (Ne.symm hij)).trans hf
    · subst hr; refine ⟨(hB.store 2 (by omega) _).1, ?_⟩; exact (upd_ne u v (Ne.symm hij)).trans hf
    · subst hr; refine ⟨(hB.store 3 (by omega) _).1, ?_⟩; exact (upd_ne u v (Ne.symm hij)).trans hf
    · subst hr; refine ⟨(hB.store 4 (by omega) _).1, ?_⟩; exact (upd_ne u v (Ne.symm hij)).trans hf
  · rcases hr with hr | ⟨rfl, hr⟩ | ⟨rfl, hr⟩ | ⟨rfl, hr⟩ | ⟨rfl, hr⟩ | ⟨rfl, hr⟩ | ⟨rfl, hr⟩
    · refine ⟨(hB.grown c (.inl rfl) hr).1, ?_⟩; exact (upd_ne u v (Ne.symm hij)).trans hf
    · refine ⟨(hB.grown c (.inr (.inl rfl)) hr).1, ?_⟩; exact (upd_ne u v (Ne.symm hij)).trans hf
    · refine ⟨(hB.grown c (.inr (.inr (.inl rfl))) hr).1, ?_⟩; exact (upd_ne u v (Ne.symm hij)).trans hf
    · refine ⟨(hB.grown c (.inr (.inr (.inr rfl))) hr).1, ?_⟩; exact (upd_ne u v (Ne.symm hij)).trans hf
    · subst hr; refine ⟨(hB.store 2 (by omega) _).1, ?_⟩; exact (upd_ne u v (Ne.symm hij)).trans hf
    · subst hr; refine ⟨(hB.store 3 (by omega) _).1, ?_⟩; exact (upd_ne u v (Ne.symm hij)).trans hf
    · subst hr; refine ⟨(hB.store 4 (by omega) _).1, ?_⟩; exact (upd_ne u v (Ne.symm hij)).trans hf
  · rcases hr with hr | ⟨rfl, hr⟩ | ⟨rfl, hr⟩ | ⟨rfl, hr⟩ | ⟨rfl, hr⟩ | ⟨rfl, hr⟩ | ⟨rfl, hr⟩
    · refine ⟨(hB.grown c (.inl rfl) hr).1, ?_⟩; obtain ⟨k, hf1, hf2, hf3⟩ := hf; exact ⟨k, (upd_ne u v (Ne.symm hij)).trans hf1, hf2, (hr.block k (lt_of_blk hf3) (fun e => by cases e)).trans hf3⟩
    · refine ⟨(hB.grown c (.inr (.inl rfl)) hr).1, ?_⟩; obtain ⟨k, hf1, hf2, hf3⟩ := hf; exact ⟨k, (upd_ne u v (Ne.symm hij)).trans hf1, hf2, (hr.block k (lt_of_blk hf3) (fun e => by have := (own_type c.rC e.symm).2.1; omega)).trans hf3⟩
    · refine ⟨(hB.grown c (.inr (.inr (.inl rfl))) hr).1, ?_⟩; obtain ⟨k, hf1, hf2, hf3⟩ := hf; exact ⟨k, (upd_ne u v (Ne.symm hij)).trans hf1, hf2, (hr.block k (lt_of_blk hf3) (fun e => by have := (own_type c.rS e.symm).2.1; omega)).trans hf3⟩
    · refine ⟨(hB.grown c (.inr (.inr (.inr rfl))) hr).1, ?_⟩; obtain ⟨k, hf1, hf2, hf3⟩ := hf; exact ⟨k, (upd_ne u v (Ne.symm hij)).trans hf1, hf2, (hr.block k (lt_of_blk hf3) (fun e => by have := (own_type c.rT e.symm).2.1; omega)).trans hf3⟩
    · subst hr; refine ⟨(hB.store 2 (by omega) _).1, ?_⟩; obtain ⟨k, hf1, hf2, hf3⟩ := hf; exact ⟨k, (upd_ne u v (Ne.symm hij)).trans hf1, hf2, (Below.heap_setCell _ _ _ _ (by have := lt_of_blk c.g0; show k ≠ g; omega)).trans hf3⟩
    · subst hr; refine ⟨(hB.store 3 (by omega) _).1, ?_⟩; obtain ⟨k, hf1, hf2, hf3⟩ := hf; exact ⟨k, (upd_ne u v (Ne.symm hij)).trans hf1, hf2, (Below.heap_setCell _ _ _ _ (by have := lt_of_blk c.g0; show k ≠ g; omega)).trans hf3⟩
    · subst hr; refine ⟨(hB.store 4 (by omega) _).1, ?_⟩; obtain ⟨k, hf1, hf2, hf3⟩ := hf; exact ⟨k, (upd_ne u v (Ne.symm hij)).trans hf1, hf2, (Below.heap_setCell _ _ _ _ (by have := lt_of_blk c.g0; show k ≠ g; omega)).trans hf3⟩
  · rcases hr with hr | ⟨rfl, hr⟩ | ⟨rfl, hr⟩ | ⟨rfl, hr⟩ | ⟨rfl, hr⟩ | ⟨rfl, hr⟩ | ⟨rfl, hr⟩
    · refine ⟨(hB.grown c (.inl rfl) hr).1, ?_⟩; show NRow W0 _ 52 2 (upd u i v 9) _ _ _; rw [upd_ne u v (Ne.symm hij)]; exact hf.grown (D := none) (fun k e => by cases e) hr
    · exact absurd rfl hij
    · refine ⟨(hB.grown c (.inr (.inr (.inl rfl))) hr).1, ?_⟩; show NRow W0 _ 52 2 (upd u 15 v 9) _ _ _; rw [upd_ne u v (Ne.symm hij)]; exact hf.grown (fun k e => ⟨(own_type c.rS e).2.1, own_apart c.rS c.rC (by decide) k e⟩) hr
    · refine ⟨(hB.grown c (.inr (.inr (.inr rfl))) hr).1, ?_⟩; show NRow W0 _ 52 2 (upd u 21 v 9) _ _ _; rw [upd_ne u v (Ne.symm hij)]; exact hf.grown (fun k e => ⟨(own_type c.rT e).2.1, own_apart c.rT c.rC (by decide) k e⟩) hr
    · subst hr; refine ⟨(hB.store 2 (by omega) _).1, ?_⟩; show NRow W0 _ 52 2 (upd u 24 v 9) _ _ _; rw [upd_ne u v (Ne.symm hij)]; exact hf.store hB (by decide) _ _
    · subst hr; refine ⟨(hB.store 3 (by omega) _).1, ?_⟩; show NRow W0 _ 52 2 (upd u 27 v 9) _ _ _; rw [upd_ne u v (Ne.symm hij)]; exact hf.store hB (by decide) _ _
    · subst hr; refine ⟨(hB.store 4 (by omega) _).1, ?_⟩; show NRow W0 _ 52 2 (upd u 30 v 9) _ _ _; rw [upd_ne u v (Ne.symm hij)]; exact hf.store hB (by decide) _ _
  · rcases hr with hr | ⟨rfl, hr⟩ | ⟨rfl, hr⟩ | ⟨rfl, hr⟩ | ⟨rfl, hr⟩ | ⟨rfl, hr⟩ | ⟨rfl, hr⟩
    · refine ⟨(hB.grown c (.inl rfl) hr).1, ?_⟩; exact (upd_ne u v (Ne.symm hij)).trans hf
    · refine ⟨(hB.grown c (.inr (.inl rfl)) hr).1, ?_⟩; exact (upd_ne u v (Ne.symm hij)).trans hf
    · refine ⟨(hB.grown c (.inr (.inr (.inl rfl))) hr).1, ?_⟩; exact (upd_ne u v (Ne.symm hij)).trans hf
    · refine ⟨(hB.grown c (.inr (.inr (.inr rfl))) hr).1, ?_⟩; exact (upd_ne u v (Ne.symm hij)).trans hf
    · subst hr; refine ⟨(hB.store 2 (by omega) _).1, ?_⟩; exact (upd_ne u v (Ne.symm hij)).trans hf
    · subst hr; refine ⟨(hB.store 3 (by omega) _).1, ?_⟩; exact (upd_ne u v (Ne.symm hij)).trans hf
    · subst hr; refine ⟨(hB.store 4 (by omega) _).1, ?_⟩; exact (upd_ne u v (Ne.symm hij)).trans hf
  · rcases hr with hr | ⟨rfl, hr⟩ | ⟨rfl, hr⟩ | ⟨rfl, hr⟩ | ⟨rfl, hr⟩ | ⟨rfl, hr⟩ | ⟨rfl, hr⟩
    · refine ⟨(hB.grown c (.inl rfl) hr).1, ?_⟩; exact (upd_ne u v (Ne.symm hij)).trans hf
    · refine ⟨(hB.grown c (.inr (.inl rfl)) hr).1, ?_⟩; exact (upd_ne u v (Ne.symm hij)).trans hf
    · refine ⟨(hB.grown c (.inr (.inr (.inl rfl))) hr).1, ?_⟩; exact (upd_ne u v (Ne.symm hij)).trans hf
    · refine ⟨(hB.grown c (.inr (.inr (.inr rfl))) hr).1, ?_⟩; exact (upd_ne u v (Ne.symm hij)).trans hf
    · subst hr; refine ⟨(hB.store 2 (by omega) _).1, ?_⟩; exact (upd_ne u v (Ne.symm hij)).trans hf
    · subst hr; refine ⟨(hB.store 3 (by omega) _).1, ?_⟩; exact (upd_ne u v (Ne.symm hij)).trans hf
    · subst hr; refine ⟨(hB.store 4 (by omega) _).1, ?_⟩; exact (upd_ne u v (Ne.symm hij)).trans hf
  · rcases hr with hr | ⟨rfl, hr⟩ | ⟨rfl, hr⟩ | ⟨rfl, hr⟩ | ⟨rfl, hr⟩ | ⟨rfl, hr⟩ | ⟨rfl, hr⟩
    · refine ⟨(hB.grown c (.inl rfl) hr).1, ?_⟩; exact (upd_ne u v (Ne.symm hij)).trans hf
    · refine ⟨(hB.grown c (.inr (.inl rfl)) hr).1, ?_⟩; exact (upd_ne u v (Ne.symm hij)).trans hf
    · refine ⟨(hB.grown c (.inr (.inr (.inl rfl))) hr).1, ?_⟩; exact (upd_ne u v (Ne.symm hij)).trans hf
    · refine ⟨(hB.grown c (.inr (.inr (.inr rfl))) hr).1, ?_⟩; exact (upd_ne u v (Ne.symm hij)).trans hf
    · subst hr; refine ⟨(hB.store 2 (by omega) _).1, ?_⟩; exact (upd_ne u v (Ne.symm hij)).trans hf
    · subst hr; refine ⟨(hB.store 3 (by omega) _).1, ?_⟩; exact (upd_ne u v (Ne.symm hij)).trans hf
    · subst hr; refine ⟨(hB.store 4 (by omega) _).1, ?_⟩; exact (upd_ne u v (Ne.symm hij)).trans hf
  · rcases hr with hr | ⟨rfl, hr⟩ | ⟨rfl, hr⟩ | ⟨rfl, hr⟩ | ⟨rfl, hr⟩ | ⟨rfl, hr⟩ | ⟨rfl, hr⟩
    · refine ⟨(hB.grown c (.inl rfl) hr).1, ?_⟩; exact (upd_ne u v (Ne.symm hij)).trans hf
    · refine ⟨(hB.grown c (.inr (.inl rfl)) hr).1, ?_⟩; exact (upd_ne u v (Ne.symm hij)).trans hf
    · refine ⟨(hB.grown c (.inr (.inr (.inl rfl))) hr).1, ?_⟩; exact (upd_ne u v (Ne.symm hij)).trans hf
    · refine ⟨(hB.grown c (.inr (.inr (.inr rfl))) hr).1, ?_⟩; exact (upd_ne u v (Ne.symm hij)).trans hf
    · subst hr; refine ⟨(hB.store 2 (by omega) _).1, ?_⟩; exact (upd_ne u v (Ne.symm hij)).trans hf
    · subst hr; refine ⟨(hB.store 3 (by omega) _).1, ?_⟩; exact (upd_ne u v (Ne.symm hij)).trans hf
    · subst hr; refine ⟨(hB.store 4 (by omega) _).1, ?_⟩; exact (upd_ne u v (Ne.symm hij)).trans hf
  · rcases hr with hr | ⟨rfl, hr⟩ | ⟨rfl, hr⟩ | ⟨rfl, hr⟩ | ⟨rfl, hr⟩ | ⟨rfl, hr⟩ | ⟨rfl, hr⟩
    · refine ⟨(hB.grown c (.inl rfl) hr).1, ?_⟩; obtain ⟨k, hf1, hf2, hf3⟩ := hf; exact ⟨k, (upd_ne u v (Ne.symm hij)).trans hf1, hf2, (hr.block k (lt_of_blk hf3) (fun e => by cases e)).trans hf3⟩
    · refine ⟨(hB.grown c (.inr (.inl rfl)) hr).1, ?_⟩; obtain ⟨k, hf1, hf2, hf3⟩ := hf; exact ⟨k, (upd_ne u v (Ne.symm hij)).trans hf1, hf2, (hr.block k (lt_of_blk hf3) (fun e => by have := (own_type c.rC e.symm).2.1; omega)).trans hf3⟩
    · refine ⟨(hB.grown c (.inr (.inr (.inl rfl))) hr).1, ?_⟩; obtain ⟨k, hf1, hf2, hf3⟩ := hf; exact ⟨k, (upd_ne u v (Ne.symm hij)).trans hf1, hf2, (hr.block k (lt_of_blk hf3) (fun e => by have := (own_type c.rS e.symm).2.1; omega)).trans hf3⟩
    · refine ⟨(hB.grown c (.inr (.inr (.inr rfl))) hr).1, ?_⟩; obtain ⟨k, hf1, hf2, hf3⟩ := hf; exact ⟨k, (upd_ne u v (Ne.symm hij)).trans hf1, hf2, (hr.block k (lt_of_blk hf3) (fun e => by have := (own_type c.rT e.symm).2.1; omega)).trans hf3⟩
    · subst hr; refine ⟨(hB.store 2 (by omega) _).1, ?_⟩; obtain ⟨k, hf1, hf2, hf3⟩ := hf; exact ⟨k, (upd_ne u v (Ne.symm hij)).trans hf1, hf2, (Below.heap_setCell _ _ _ _ (by have := lt_of_blk c.g0; show k ≠ g; omega)).trans hf3⟩
    · subst hr; refine ⟨(hB.store 3 (by omega) _).1, ?_⟩; obtain ⟨k, hf1, hf2, hf3⟩ := hf; exact ⟨k, (upd_ne u v (Ne.symm hij)).trans hf1, hf2, (Below.heap_setCell _ _ _ _ (by have := lt_of_blk c.g0; show k ≠ g; omega)).trans hf3⟩
    · subst hr; refine ⟨(hB.store 4 (by omega) _).1, ?_⟩; obtain ⟨k, hf1, hf2, hf3⟩ := hf; exact ⟨k, (upd_ne u v (Ne.symm hij)).trans hf1, hf2, (Below.heap_setCell _ _ _ _ (by have := lt_of_blk c.g0; show k ≠ g; omega)).trans hf3⟩
  · rcases hr with hr | ⟨rfl, hr⟩ | ⟨rfl, hr⟩ | ⟨rfl, hr⟩ | ⟨rfl, hr⟩ | ⟨rfl, hr⟩ | ⟨rfl, hr⟩
    · refine ⟨(hB.grown c (.inl rfl) hr).1, ?_⟩; show NRow W0 _ 46 1 (upd u i v 15) _ _ _; rw [upd_ne u v (Ne.symm hij)]; exact hf.grown (D := none) (fun k e => by cases e) hr
    · refine ⟨(hB.grown c (.inr (.inl rfl)) hr).1, ?_⟩; show NRow W0 _ 46 1 (upd u 9 v 15) _ _ _; rw [upd_ne u v (Ne.symm hij)]; exact hf.grown (fun k e => ⟨(own_type c.rC e).2.1, own_apart c.rC c.rS (by decide) k e⟩) hr
    · exact absurd rfl hij
    · refine ⟨(hB.grown c (.inr (.inr (.inr rfl))) hr).1, ?_⟩; show NRow W0 _ 46 1 (upd u 21 v 15) _ _ _; rw [upd_ne u v (Ne.symm hij)]; exact hf.grown (fun k e => ⟨(own_type c.rT e).2.1, own_apart c.rT c.rS (by decide) k e⟩) hr
    · subst hr; refine ⟨(hB.store 2 (by omega) _).1, ?_⟩; show NRow W0 _ 46 1 (upd u 24 v 15) _ _ _; rw [upd_ne u v (Ne.symm hij)]; exact hf.store hB (by decide) _ _
    · subst hr; refine ⟨(hB.store 3 (by omega) _).1, ?_⟩; show NRow W0 _ 46 1 (upd u 27 v 15) _ _ _; rw [upd_ne u v (Ne.symm hij)]; exact hf.store hB (by decide) _ _
    · subst hr; refine ⟨(hB.store 4 (by omega) _).1, ?_⟩; show NRow W0 _ 46 1 (upd u 30 v 15) _ _ _; rw [upd_ne u v (Ne.symm hij)]; exact hf.store hB (by decide) _ _
  · rcases hr with hr | ⟨rfl, hr⟩ | ⟨rfl, hr⟩ | ⟨rfl, hr⟩ | ⟨rfl, hr⟩ | ⟨rfl, hr⟩ | ⟨rfl, hr⟩
    · refine ⟨(hB.grown c (.inl rfl) hr).1, ?_⟩; exact (upd_ne u v (Ne.symm hij)).trans hf
    · refine ⟨(hB.grown c (.inr (.inl rfl)) hr).1, ?_⟩; exact (upd_ne u v (Ne.symm hij)).trans hf
    · refine ⟨(hB.grown c (.inr (.inr (.inl rfl))) hr).1, ?_⟩; exact (upd_ne u v (Ne.symm hij)).trans hf
    · refine ⟨(hB.grown c (.inr (.inr (.inr rfl))) hr).1, ?_⟩; exact (upd_ne u v (Ne.symm hij)).trans hf
    · subst hr; refine ⟨(hB.store 2 (by omega) _).1, ?_⟩; exact (upd_ne u v (Ne.symm hij)).trans hf
    · subst hr; refine ⟨(hB.store 3 (by omega) _).1, ?_⟩; exact (upd_ne u v (Ne.symm hij)).trans hf
    · subst hr; refine ⟨(hB.store 4 (by omega) _).1, ?_⟩; exact (upd_ne u v (Ne.symm hij)).trans hf
  · rcases hr with hr | ⟨rfl, hr⟩ | ⟨rfl, hr⟩ | ⟨rfl, hr⟩ | ⟨rfl, hr⟩ | ⟨rfl, hr⟩ | ⟨rfl, hr⟩
    · refine ⟨(hB.grown c (.inl rfl) hr).1, ?_⟩; exact (upd_ne u v (Ne.symm hij)).trans hf
    · refine ⟨(hB.grown c (.inr (.inl rfl)) hr).1, ?_⟩; exact (upd_ne u v (Ne.symm hij)).trans hf
    · refine ⟨(hB.grown c (.inr (.inr (.inl rfl))) hr).1, ?_⟩; exact (upd_ne u v (Ne.symm hij)).trans hf
    · refine ⟨(hB.grown c (.inr (.inr (.inr rfl))) hr).1, ?_⟩; exact (upd_ne u v (Ne.symm hij)).trans hf
    · subst hr; refine ⟨(hB.store 2 (by omega) _).1, ?_⟩; exact (upd_ne u v (Ne.symm hij)).trans hf
    · subst hr; refine ⟨(hB.store 3 (by omega) _).1, ?_⟩; exact (upd_ne u v (Ne.symm hij)).trans hf
    · subst hr; refine ⟨(hB.store 4 (by omega) _).1, ?_⟩; exact (upd_ne u v (Ne.symm hij)).trans hf
  · rcases hr with hr | ⟨rfl, hr⟩ | ⟨rfl, hr⟩ | ⟨rfl, hr⟩ | ⟨rfl, hr⟩ | ⟨rfl, hr⟩ | ⟨rfl, hr⟩
    · refine ⟨(hB.grown c (.inl rfl) hr).1, ?_⟩; exact (upd_ne u v (Ne.symm hij)).trans hf
    · refine ⟨(hB.grown c (.inr (.inl rfl)) hr).1, ?_⟩; exact (upd_ne u v (Ne.symm hij)).trans hf
    · refine ⟨(hB.grown c (.inr (.inr (.inl rfl))) hr).1, ?_⟩; exact (upd_ne u v (Ne.symm hij)).trans hf
    · refine ⟨(hB.grown c (.inr (.inr (.inr rfl))) hr).1, ?_⟩; exact (upd_ne u v (Ne.symm hij)).trans hf
    · subst hr; refine ⟨(hB.store 2 (by omega) _).1, ?_⟩; exact (upd_ne u v (Ne.symm hij)).trans hf
    · subst hr; refine ⟨(hB.store 3 (by omega) _).1, ?_⟩; exact (upd_ne u v (Ne.symm hij)).trans hf
    · subst hr; refine ⟨(hB.store 4 (by omega) _).1, ?_⟩; exact (upd_ne u v (Ne.symm hij)).trans hf
  · rcases hr with hr | ⟨rfl, hr⟩ | ⟨rfl, hr⟩ | ⟨rfl, hr⟩ | ⟨rfl, hr⟩ | ⟨rfl, hr⟩ | ⟨rfl, hr⟩
    · refine ⟨(hB.grown c (.inl rfl) hr).1, ?_⟩; exact (upd_ne u v (Ne.symm hij)).trans hf
    · refine ⟨(hB.grown c (.inr (.inl rfl)) hr).1, ?_⟩; exact (upd_ne u v (Ne.symm hij)).trans hf
    · refine ⟨(hB.grown c (.inr (.inr (.inl rfl))) hr).1, ?_⟩; exact (upd_ne u v (Ne.symm hij)).trans hf
    · refine ⟨(hB.grown c (.inr (.inr (.inr rfl))) hr).1, ?_⟩; exact (upd_ne u v (Ne.symm hij)).trans hf
    · subst hr; refine ⟨(hB.store 2 (by omega) _).1, ?_⟩; exact (upd_ne u v (Ne.symm hij)).trans hf
    · subst hr; refine ⟨(hB.store 3 (by omega) _).1, ?_⟩; exact (upd_ne u v (Ne.symm hij)).trans hf
    · subst hr; refine ⟨(hB.store 4 (by omega) _).1, ?_⟩; exact (upd_ne u v (Ne.symm hij)).trans hf
  · rcases hr with hr | ⟨rfl, hr⟩ | ⟨rfl, hr⟩ | ⟨rfl, hr⟩ | ⟨rfl, hr⟩ | ⟨rfl, hr⟩ | ⟨rfl, hr⟩
    · refine ⟨(hB.grown c (.inl rfl) hr).1, ?_⟩; obtain ⟨k, hf1, hf2, hf3⟩ := hf; exact ⟨k, (upd_ne u v (Ne.symm hij)).trans hf1, hf2, (hr.block k (lt_of_blk hf3) (fun e => by cases e)).trans hf3⟩
    · refine ⟨(hB.grown c (.inr (.inl rfl)) hr).1, ?_⟩; obtain ⟨k, hf1, hf2, hf3⟩ := hf; exact ⟨k, (upd_ne u v (Ne.symm hij)).trans hf1, hf2, (hr.block k (lt_of_blk hf3) (fun e => by have := (own_type c.rC e.symm).2.1; omega)).trans hf3⟩
    · refine ⟨(hB.grown c (.inr (.inr (.inl rfl))) hr).1, ?_⟩; obtain ⟨k, hf1, hf2, hf3⟩ := hf; exact ⟨k, (upd_ne u v (Ne.symm hij)).trans hf1, hf2, (hr.block k (lt_of_blk hf3) (fun e => by have := (own_type c.rS e.symm).2.1; omega)).trans hf3⟩
    · refine ⟨(hB.grown c (.inr (.inr (.inr rfl))) hr).1, ?_⟩; obtain ⟨k, hf1, hf2, hf3⟩ := hf; exact ⟨k, (upd_ne u v (Ne.symm hij)).trans hf1, hf2, (hr.block k (lt_of_blk hf3) (fun e => by have := (own_type c.rT e.symm).2.1; omega)).trans hf3⟩
    · subst hr; refine ⟨(hB.store 2 (by omega) _).1, ?_⟩; obtain ⟨k, hf1, hf2, hf3⟩ := hf; exact ⟨k, (upd_ne u v (Ne.symm hij)).trans hf1, hf2, (Below.heap_setCell _ _ _ _ (by have := lt_of_blk c.g0; show k ≠ g; omega)).trans hf3⟩
    · subst hr; refine ⟨(hB.store 3 (by omega) _).1, ?_⟩; obtain ⟨k, hf1, hf2, hf3⟩ := hf; exact ⟨k, (upd_ne u v (Ne.symm hij)).trans hf1, hf2, (Below.heap_setCell _ _ _ _ (by have := lt_of_blk c.g0; show k ≠ g; omega)).trans hf3⟩
    · subst hr; refine ⟨(hB.store 4 (by omega) _).1, ?_⟩; obtain ⟨k, hf1, hf2, hf3⟩ := hf; exact ⟨k, (upd_ne u v (Ne.symm hij)).trans hf1, hf2, (Below.heap_setCell _ _ _ _ (by have := lt_of_blk c.g0; show k ≠ g; omega)).trans hf3⟩
  · rcases hr with hr | ⟨rfl, hr⟩ | ⟨rfl, hr⟩ | ⟨rfl, hr⟩ | ⟨rfl, hr⟩ | ⟨rfl, hr⟩ | ⟨rfl, hr⟩
    · refine ⟨(hB.grown c (.inl rfl) hr).1, ?_⟩; show NRow W0 _ 3 1 (upd u i v 21) _ _ _; rw [upd_ne u v (Ne.symm hij)]; exact hf.grown (D := none) (fun k e => by cases e) hr
    · refine ⟨(hB.grown c (.inr (.inl rfl)) hr).1, ?_⟩; show NRow W0 _ 3 1 (upd u 9 v 21) _ _ _; rw [upd_ne u v (Ne.symm hij)]; exact hf.grown (fun k e => ⟨(own_type c.rC e).2.1, own_apart c.rC c.rT (by decide) k e⟩) hr
    · refine ⟨(hB.grown c (.inr (.inr (.inl rfl))) hr).1, ?_⟩; show NRow W0 _ 3 1 (upd u 15 v 21) _ _ _; rw [upd_ne u v (Ne.symm hij)]; exact hf.grown (fun k e => ⟨(own_type c.rS e).2.1, own_apart c.rS c.rT (by decide) k e⟩) hr
    · exact absurd rfl hij
    · subst hr; refine ⟨(hB.store 2 (by omega) _).1, ?_⟩; show NRow W0 _ 3 1 (upd u 24 v 21) _ _ _; rw [upd_ne u v (Ne.symm hij)]; exact hf.store hB (by decide) _ _
    · subst hr; refine ⟨(hB.store 3 (by omega) _).1, ?_⟩; show NRow W0 _ 3 1 (upd u 27 v 21) _ _ _; rw [upd_ne u v (Ne.symm hij)]; exact hf.store hB (by decide) _ _
    · subst hr; refine ⟨(hB.store 4 (by omega) _).1, ?_⟩; show NRow W0 _ 3 1 (upd u 30 v 21) _ _ _; rw [upd_ne u v (Ne.symm hij)]; exact hf.store hB (by decide) _ _
  · rcases hr with hr | ⟨rfl, hr⟩ | ⟨rfl, hr⟩ | ⟨rfl, hr⟩ | ⟨rfl, hr⟩ | ⟨rfl, hr⟩ | ⟨rfl, hr⟩
    · refine ⟨(hB.grown c (.inl rfl) hr).1, ?_⟩; exact (upd_ne u v (Ne.symm hij)).trans hf
    · refine ⟨(hB.grown c (.inr (.inl rfl)) hr).1, ?_⟩; exact (upd_ne u v (Ne.symm hij)).trans hf
    · refine ⟨(hB.grown c (.inr (.inr (.inl rfl))) hr).1, ?_⟩; exact (upd_ne u v (Ne.symm hij)).trans hf
    · refine ⟨(hB.grown c (.inr (.inr (.inr rfl))) hr).1, ?_⟩; exact (upd_ne u v (Ne.symm hij)).trans hf
    · subst hr; refine ⟨(hB.store 2 (by omega) _).1, ?_⟩; exact (upd_ne u v (Ne.symm hij)).trans hf
    · subst hr; refine ⟨(hB.store 3 (by omega) _).1, ?_⟩; exact (upd_ne u v (Ne.symm hij)).trans hf
    · subst hr; refine ⟨(hB.store 4 (by omega) _).1, ?_⟩; exact (upd_ne u v (Ne.symm hij)).trans hf
  · rcases hr with hr | ⟨rfl, hr⟩ | ⟨rfl, hr⟩ | ⟨rfl, hr⟩ | ⟨rfl, hr⟩ | ⟨rfl, hr⟩ | ⟨rfl, hr⟩
    · refine ⟨(hB.grown c (.inl rfl) hr).1, ?_⟩; exact (upd_ne u v (Ne.symm hij)).trans hf
    · refine ⟨(hB.grown c (.inr (.inl rfl)) hr).1, ?_⟩; exact (upd_ne u v (Ne.symm hij)).trans hf
    · refine ⟨(hB.grown c (.inr (.inr (.inl rfl))) hr).1, ?_⟩; exact (upd_ne u v (Ne.symm hij)).trans hf
    · refine ⟨(hB.grown c (.inr (.inr (.inr rfl))) hr).1, ?_⟩; exact (upd_ne u v (Ne.symm hij)).trans hf
    · subst hr; refine ⟨(hB.store 2 (by omega) _).1, ?_⟩; exact (upd_ne u v (Ne.symm hij)).trans hf
    · subst hr; refine ⟨(hB.store 3 (by omega) _).1, ?_⟩; exact (upd_ne u v (Ne.symm hij)).trans hf
    · subst hr; refine ⟨(hB.store 4 (by omega) _).1, ?_⟩; exact (upd_ne u v (Ne.symm hij)).trans hf
  · rcases hr with hr | ⟨rfl, hr⟩ | ⟨rfl, hr⟩ | ⟨rfl, hr⟩ | ⟨rfl, hr⟩ | ⟨rfl, hr⟩ | ⟨rfl, hr⟩
    · refine ⟨(hB.grown c (.inl rfl) hr).1, ?_⟩; show World.cell? _ ⟨g, 2, none⟩ = some (upd u i v 9); rw [upd_ne u v (Ne.symm (hd.1 rfl))]; exact (World.cell?_of_block (a := ⟨g, 2, none⟩) (hB.grown c (.inl rfl) hr).2).trans hf
    · exact absurd rfl (hd.1 rfl)
    · refine ⟨(hB.grown c (.inr (.inr (.inl rfl))) hr).1, ?_⟩; show World.cell? _ ⟨g, 2, none⟩ = some (upd u 15 v 9); rw [upd_ne u v (Ne.symm (hd.1 rfl))]; exact (World.cell?_of_block (a := ⟨g, 2, none⟩) (hB.grown c (.inr (.inr (.inl rfl))) hr).2).trans hf
    · refine ⟨(hB.grown c (.inr (.inr (.inr rfl))) hr).1, ?_⟩; show World.cell? _ ⟨g, 2, none⟩ = some (upd u 21 v 9); rw [upd_ne u v (Ne.symm (hd.1 rfl))]; exact (World.cell?_of_block (a := ⟨g, 2, none⟩) (hB.grown c (.inr (.inr (.inr rfl))) hr).2).trans hf
    · exact absurd rfl hij
    · subst hr; refine ⟨(hB.store 3 (by omega) _).1, ?_⟩; show World.cell? _ ⟨g, 2, none⟩ = some (upd u 27 v 9); rw [upd_ne u v (Ne.symm (hd.1 rfl))]; exact ((hB.store 3 (by omega) _).2.2 2 (by omega)).trans hf
    · subst hr; refine ⟨(hB.store 4 (by omega) _).1, ?_⟩; show World.cell? _ ⟨g, 2, none⟩ = some (upd u 30 v 9); rw [upd_ne u v (Ne.symm (hd.1 rfl))]; exact ((hB.store 4 (by omega) _).2.2 2 (by omega)).trans hf
  · rcases hr with hr | ⟨rfl, hr⟩ | ⟨rfl, hr⟩ | ⟨rfl, hr⟩ | ⟨rfl, hr⟩ | ⟨rfl, hr⟩ | ⟨rfl, hr⟩
    · refine ⟨(hB.grown c (.inl rfl) hr).1, ?_⟩; exact (upd_ne u v (Ne.symm hij)).trans hf
    · refine ⟨(hB.grown c (.inr (.inl rfl)) hr).1, ?_⟩; exact (upd_ne u v (Ne.symm hij)).trans hf
    · refine ⟨(hB.grown c (.inr (.inr (.inl rfl))) hr).1, ?_⟩; exact (upd_ne u v (Ne.symm hij)).trans hf
    · refine ⟨(hB.grown c (.inr (.inr (.inr rfl))) hr).1, ?_⟩; exact (upd_ne u v (Ne.symm hij)).trans hf
    · subst hr; refine ⟨(hB.store 2 (by omega) _).1, ?_⟩; exact (upd_ne u v (Ne.symm hij)).trans hf
    · subst hr; refine ⟨(hB.store 3 (by omega) _).1, ?_⟩; exact (upd_ne u v (Ne.symm hij)).trans hf
    · subst hr; refine ⟨(hB.store 4 (by omega) _).1, ?_⟩; exact (upd_ne u v (Ne.symm hij)).trans hf
  · rcases hr with hr | ⟨rfl, hr⟩ | ⟨rfl, hr⟩ | ⟨rfl, hr⟩ | ⟨rfl, hr⟩ | ⟨rfl, hr⟩ | ⟨rfl, hr⟩
    · refine ⟨(hB.grown c (.inl rfl) hr).1, ?_⟩; exact (upd_ne u v (Ne.symm hij)).trans hf
    · refine ⟨(hB.grown c (.inr (.inl rfl)) hr).1, ?_⟩; exact (upd_ne u v (Ne.symm hij)).trans hf
    · refine ⟨(hB.grown c (.inr (.inr (.inl rfl))) hr).1, ?_⟩; exact (upd_ne u v (Ne.symm hij)).trans hf
    · refine ⟨(hB.grown c (.inr (.inr (.inr rfl))) hr).1, ?_⟩; exact (upd_ne u v (Ne.symm hij)).trans hf
    · subst hr; refine ⟨(hB.store 2 (by omega) _).1, ?_⟩; exact (upd_ne u v (Ne.symm hij)).trans hf
    · subst hr; refine ⟨(hB.store 3 (by omega) _).1, ?_⟩; exact (upd_ne u v (Ne.symm hij)).trans hf
    · subst hr; refine ⟨(hB.store 4 (by omega) _).1, ?_⟩; exact (upd_ne u v (Ne.symm hij)).trans hf
  · rcases hr with hr | ⟨rfl, hr⟩ | ⟨rfl, hr⟩ | ⟨rfl, hr⟩ | ⟨rfl, hr⟩ | ⟨rfl, hr⟩ | ⟨rfl, hr⟩
    · refine ⟨(hB.grown c (.inl rfl) hr).1, ?_⟩; show World.cell? _ ⟨g, 3, none⟩ = some (upd u i v 15); rw [upd_ne u v (Ne.symm (hd.2.1 rfl))]; exact (World.cell?_of_block (a := ⟨g, 3, none⟩) (hB.grown c (.inl rfl) hr).2).trans hf
    · refine ⟨(hB.grown c (.inr (.inl rfl)) hr).1, ?_⟩; show World.cell? _ ⟨g, 3, none⟩ = some (upd u 9 v 15); rw [upd_ne u v (Ne.symm (hd.2.1 rfl))]; exact (World.cell?_of_block (a := ⟨g, 3, none⟩) (hB.grown c (.inr (.inl rfl)) hr).2).trans hf
    · exact absurd rfl (hd.2.1 rfl)
    · refine ⟨(hB.grown c (.inr (.inr (.inr rfl))) hr).1, ?_⟩; show World.cell? _ ⟨g, 3, none⟩ = some (upd u 21 v 15); rw [upd_ne u v (Ne.symm (hd.2.1 rfl))]; exact (World.cell?_of_block (a := ⟨g, 3, none⟩) (hB.grown c (.inr (.inr (.inr rfl))) hr).2).trans hf
    · subst hr; refine ⟨(hB.store 2 (by omega) _).1, ?_⟩; show World.cell? _ ⟨g, 3, none⟩ = some (upd u 24 v 15); rw [upd_ne u v (Ne.symm (hd.2.1 rfl))]; exact ((hB.store 2 (by omega) _).2.2 3 (by omega)).trans hf
    · exact absurd rfl hij
    · subst hr; refine ⟨(hB.store 4 (by omega) _).1, ?_⟩; show World.cell? _ ⟨g, 3, none⟩ = some (upd u 30 v 15); rw [upd_ne u v (Ne.symm (hd.2.1 rfl))]; exact ((hB.store 4 (by omega) _).2.2 3 (by omega)).trans hf
  · rcases hr with hr | ⟨rfl, hr⟩ | ⟨rfl, hr⟩ | ⟨rfl, hr⟩ | ⟨rfl, hr⟩ | ⟨rfl, hr⟩ | ⟨rfl, hr⟩
    · refine ⟨(hB.grown c (.inl rfl) hr).1, ?_⟩; exact (upd_ne u v (Ne.symm hij)).trans hf
    · refine ⟨(hB.grown c (.inr (.inl rfl)) hr).1, ?_⟩; exact (upd_ne u v (Ne.symm hij)).trans hf
    · refine ⟨(hB.grown c (.inr (.inr (.inl rfl))) hr).1, ?_⟩; exact (upd_ne u v (Ne.symm hij)).trans hf
    · refine ⟨(hB.grown c (.inr (.inr (.inr rfl))) hr).1, ?_⟩; exact (upd_ne u v (Ne.symm hij)).trans hf
    · subst hr; refine ⟨(hB.store 2 (by omega) _).1, ?_⟩; exact (upd_ne u v (Ne.symm hij)).trans hf
    · subst hr; refine ⟨(hB.store 3 (by omega) _).1, ?_⟩; exact (upd_ne u v (Ne.symm hij)).trans hf
    · subst hr; refine ⟨(hB.store 4 (by omega) _).1, ?_⟩; exact (upd_ne u v (Ne.symm hij)).trans hf
  · rcases hr with hr | ⟨rfl, hr⟩ | ⟨rfl, hr⟩ | ⟨rfl, hr⟩ | ⟨rfl, hr⟩ | ⟨rfl, hr⟩ | ⟨rfl, hr⟩
    · refine ⟨(hB.grown c (.inl rfl) hr).1, ?_⟩; exact (upd_ne u v (Ne.symm hij)).trans hf
    · refine ⟨(hB.grown c (.inr (.inl rfl)) hr).1, ?_⟩; exact (upd_ne u v (Ne.symm hij)).trans hf
    · refine ⟨(hB.grown c (.inr (.inr (.inl rfl))) hr).1, ?_⟩; exact (upd_ne u v (Ne.symm hij)).trans hf
    · refine ⟨(hB.grown c (.inr (.inr (.inr rfl))) hr).1, ?_⟩; exact (upd_ne u v (Ne.symm hij)).trans hf
    · subst hr; refine ⟨(hB.store 2 (by omega) _).1, ?_⟩; exact (upd_ne u v (Ne.symm hij)).trans hf
    · subst hr; refine ⟨(hB.store 3 (by omega) _).1, ?_⟩; exact (upd_ne u v (Ne.symm hij)).trans hf
    · subst hr; refine ⟨(hB.store 4 (by omega) _).1, ?_⟩; exact (upd_ne u v (Ne.symm hij)).trans hf
  · rcases hr with hr | ⟨rfl, hr⟩ | ⟨rfl, hr⟩ | ⟨rfl, hr⟩ | ⟨rfl, hr⟩ | ⟨rfl, hr⟩ | ⟨rfl, hr⟩
    · refine ⟨(hB.grown c (.inl rfl) hr).1, ?_⟩; show World.cell? _ ⟨g, 4, none⟩ = some (upd u i v 21); rw [upd_ne u v (Ne.symm (hd.2.2 rfl))]; exact (World.cell?_of_block (a := ⟨g, 4, none⟩) (hB.grown c (.inl rfl) hr).2).trans hf
    · refine ⟨(hB.grown c (.inr (.inl rfl)) hr).1, ?_⟩; show World.cell? _ ⟨g, 4, none⟩ = some (upd u 9 v 21); rw [upd_ne u v (Ne.symm (hd.2.2 rfl))]; exact (World.cell?_of_block (a := ⟨g, 4, none⟩) (hB.grown c (.inr (.inl rfl)) hr).2).trans hf
    · refine ⟨(hB.grown c (.inr (.inr (.inl rfl))) hr).1, ?_⟩; show World.cell? _ ⟨g, 4, none⟩ = some (upd u 15 v 21); rw [upd_ne u v (Ne.symm (hd.2.2 rfl))]; exact (World.cell?_of_block (a := ⟨g, 4, none⟩) (hB.grown c (.inr (.inr (.inl rfl))) hr).2).trans hf
    · exact absurd rfl (hd.2.2 rfl)
    · subst hr; refine ⟨(hB.store 2 (by omega) _).1, ?_⟩; show World.cell? _ ⟨g, 4, none⟩ = some (upd u 24 v 21); rw [upd_ne u v (Ne.symm (hd.2.2 rfl))]; exact ((hB.store 2 (by omega) _).2.2 4 (by omega)).trans hf
    · subst hr; refine ⟨(hB.store 3 (by omega) _).1, ?_⟩; show World.cell? _ ⟨g, 4, none⟩ = some (upd u 27 v 21); rw [upd_ne u v (Ne.symm (hd.2.2 rfl))]; exact ((hB.store 3 (by omega) _).2.2 4 (by omega)).trans hf
    · exact absurd rfl hij
theorem ng_keep {W0 : World} {g gb n : Nat} {y1 y2 : Int} {vP vL vC vS vT vA : Value} {xC xS xT : List Value} (c : NC W0 g gb n y1 y2 vP vL vC vS vT vA xC xS xT) (i j : Nat) (u : Nat → Value) (v : Value) (w w' : World) (hij : i ≠ j) (hr : NRel g vC vS vT i u w w') (hf : NG W0 g gb n y1 y2 vP vL vC vS vT vA xC xS xT j u w) : NG W0 g gb n y1 y2 vP vL vC vS vT vA xC xS xT j (upd u i v) w' := by
  obtain ⟨hB, hf⟩ := hf
  by_cases h9 : j = 9
  · subst h9
    rcases hr with hr | ⟨rfl, hr⟩ | ⟨rfl, hr⟩ | ⟨rfl, hr⟩ | ⟨rfl, hr⟩ | ⟨rfl, hr⟩ | ⟨rfl, hr⟩
    · refine ⟨(hB.grown c (.inl rfl) hr).1, ?_⟩; exact own_grown hf (D := none) (fun k e => by cases e) hr
    · exact absurd rfl hij
    · refine ⟨(hB.grown c (.inr (.inr (.inl rfl))) hr).1, ?_⟩; exact own_grown hf (fun k e => own_apart c.rS c.rC (by decide) k e) hr
    · refine ⟨(hB.grown c (.inr (.inr (.inr rfl))) hr).1, ?_⟩; exact own_grown hf (fun k e => own_apart c.rT c.rC (by decide) k e) hr
    · subst hr; refine ⟨(hB.store 2 (by omega) _).1, ?_⟩; exact own_store hf hB (by decide) _ _
    · subst hr; refine ⟨(hB.store 3 (by omega) _).1, ?_⟩; exact own_store hf hB (by decide) _ _
    · subst hr; refine ⟨(hB.store 4 (by omega) _).1, ?_⟩; exact own_store hf hB (by decide) _ _
  by_cases h15 : j = 15
  · subst h15
    rcases hr with hr | ⟨rfl, hr⟩ | ⟨rfl, hr⟩ | ⟨rfl, hr⟩ | ⟨rfl, hr⟩ | ⟨rfl, hr⟩ | ⟨rfl, hr⟩
    · refine ⟨(hB.grown c (.inl rfl) hr).1, ?_⟩; exact own_grown hf (D := none) (fun k e => by cases e) hr
    · refine ⟨(hB.grown c (.inr (.inl rfl)) hr).1, ?_⟩; exact own_grown hf (fun k e => own_apart c.rC c.rS (by decide) k e) hr
    · exact absurd rfl hij
    · refine ⟨(hB.grown c (.inr (.inr (.inr rfl))) hr).1, ?_⟩; exact own_grown hf (fun k e => own_apart c.rT c.rS (by decide) k e) hr
    · subst hr; refine ⟨(hB.store 2 (by omega) _).1, ?_⟩; exact own_store hf hB (by decide) _ _
    · subst hr; refine ⟨(hB.store 3 (by omega) _).1, ?_⟩; exact own_store hf hB (by decide) _ _
    · subst hr; refine ⟨(hB.store 4 (by omega) _).1, ?_⟩; exact own_store hf hB (by decide) _ _
  by_cases h21 : j = 21
  · subst h21
    rcases hr with hr | ⟨rfl, hr⟩ | ⟨rfl, hr⟩ | ⟨rfl, hr⟩ | ⟨rfl, hr⟩ | ⟨rfl, hr⟩ | ⟨rfl, hr⟩
    · refine ⟨(hB.grown c (.inl rfl) hr).1, ?_⟩; exact own_grown hf (D := none) (fun k e => by cases e) hr
    · refine ⟨(hB.grown c (.inr (.inl rfl)) hr).1, ?_⟩; exact own_grown hf (fun k e => own_apart c.rC c.rT (by decide) k e) hr
    · refine ⟨(hB.grown c (.inr (.inr (.inl rfl))) hr).1, ?_⟩; exact own_grown hf (fun k e => own_apart c.rS c.rT (by decide) k e) hr
    · exact absurd rfl hij
    · subst hr; refine ⟨(hB.store 2 (by omega) _).1, ?_⟩; exact own_store hf hB (by decide) _ _
    · subst hr; refine ⟨(hB.store 3 (by omega) _).1, ?_⟩; exact own_store hf hB (by decide) _ _
    · subst hr; refine ⟨(hB.store 4 (by omega) _).1, ?_⟩; exact own_store hf hB (by decide) _ _
  by_cases h24 : j = 24
  · subst h24
    rcases hr with hr | ⟨rfl, hr⟩ | ⟨rfl, hr⟩ | ⟨rfl, hr⟩ | ⟨rfl, hr⟩ | ⟨rfl, hr⟩ | ⟨rfl, hr⟩
    · refine ⟨(hB.grown c (.inl rfl) hr).1, ?_⟩; exact (World.cell?_of_block (a := ⟨g, 2, none⟩) (hB.grown c (.inl rfl) hr).2).trans hf
    · refine ⟨(hB.grown c (.inr (.inl rfl)) hr).1, ?_⟩; exact (World.cell?_of_block (a := ⟨g, 2, none⟩) (hB.grown c (.inr (.inl rfl)) hr).2).trans hf
    · refine ⟨(hB.grown c (.inr (.inr (.inl rfl))) hr).1, ?_⟩; exact (World.cell?_of_block (a := ⟨g, 2, none⟩) (hB.grown c (.inr (.inr (.inl rfl))) hr).2).trans hf
    · refine ⟨(hB.grown c (.inr (.inr (.inr rfl))) hr).1, ?_⟩; exact (World.cell?_of_block (a := ⟨g, 2, none⟩) (hB.grown c (.inr (.inr (.inr rfl))) hr).2).trans hf
    · exact absurd rfl hij
    · subst hr; refine ⟨(hB.store 3 (by omega) _).1, ?_⟩; exact ((hB.store 3 (by omega) _).2.2 2 (by omega)).trans hf
    · subst hr; refine ⟨(hB.store 4 (by omega) _).1, ?_⟩; exact ((hB.store 4 (by omega) _).2.2 2 (by omega)).trans hf
  by_cases h27 : j = 27
  · subst h27
    rcases hr with hr | ⟨rfl, hr⟩ | ⟨rfl, hr⟩ | ⟨rfl, hr⟩ | ⟨rfl, hr⟩ | ⟨rfl, hr⟩ | ⟨rfl, hr⟩
    · refine ⟨(hB.grown c (.inl rfl) hr).1, ?_⟩; exact (World.cell?_of_block (a := ⟨g, 3, none⟩) (hB.grown c (.inl rfl) hr).2).trans hf
    · refine ⟨(hB.grown c (.inr (.inl rfl)) hr).1, ?_⟩; exact (World.cell?_of_block (a := ⟨g, 3, none⟩) (hB.grown c (.inr (.inl rfl)) hr).2).trans hf
    · refine ⟨(hB.grown c (.inr (.inr (.inl rfl))) hr).1, ?_⟩; exact (World.cell?_of_block (a := ⟨g, 3, none⟩) (hB.grown c (.inr (.inr (.inl rfl))) hr).2).trans hf
    · refine ⟨(hB.grown c (.inr (.inr (.inr rfl))) hr).1, ?_⟩; exact (World.cell?_of_block (a := ⟨g, 3, none⟩) (hB.grown c (.inr (.inr (.inr rfl))) hr).2).trans hf
    · subst hr; refine ⟨(hB.store 2 (by omega) _).1, ?_⟩; exact ((hB.store 2 (by omega) _).2.2 3 (by omega)).trans hf
    · exact absurd rfl hij
    · subst hr; refine ⟨(hB.store 4 (by omega) _).1, ?_⟩; exact ((hB.store 4 (by omega) _).2.2 3 (by omega)).trans hf
  by_cases h30 : j = 30
  · subst h30
    rcases hr with hr | ⟨rfl, hr⟩ | ⟨rfl, hr⟩ | ⟨rfl, hr⟩ | ⟨rfl, hr⟩ | ⟨rfl, hr⟩ | ⟨rfl, hr⟩
    · refine ⟨(hB.grown c (.inl rfl) hr).1, ?_⟩; exact (World.cell?_of_block (a := ⟨g, 4, none⟩) (hB.grown c (.inl rfl) hr).2).trans hf
    · refine ⟨(hB.grown c (.inr (.inl rfl)) hr).1, ?_⟩; exact (World.cell?_of_block (a := ⟨g, 4, none⟩) (hB.grown c (.inr (.inl rfl)) hr).2).trans hf
    · refine ⟨(hB.grown c (.inr (.inr (.inl rfl))) hr).1, ?_⟩; exact (World.cell?_of_block (a := ⟨g, 4, none⟩) (hB.grown c (.inr (.inr (.inl rfl))) hr).2).trans hf
    · refine ⟨(hB.grown c (.inr (.inr (.inr rfl))) hr).1, ?_⟩; exact (World.cell?_of_block (a := ⟨g, 4, none⟩) (hB.grown c (.inr (.inr (.inr rfl))) hr).2).trans hf
    · subst hr; refine ⟨(hB.store 2 (by omega) _).1, ?_⟩; exact ((hB.store 2 (by omega) _).2.2 4 (by omega)).trans hf
    · subst hr; refine ⟨(hB.store 3 (by omega) _).1, ?_⟩; exact ((hB.store 3 (by omega) _).2.2 4 (by omega)).trans hf
    · exact absurd rfl hij
  have hB' : NBase W0 g vP vL vC vS vT vA w' := by
    rcases hr with hr | ⟨rfl, hr⟩ | ⟨rfl, hr⟩ | ⟨rfl, hr⟩ | ⟨rfl, hr⟩ | ⟨rfl, hr⟩ | ⟨rfl, hr⟩
    · exact (hB.grown c (.inl rfl) hr).1
    · exact (hB.grown c (.inr (.inl rfl)) hr).1
    · exact (hB.grown c (.inr (.inr (.inl rfl))) hr).1
    · exact (hB.grown c (.inr (.inr (.inr rfl))) hr).1
    · subst hr; exact (hB.store 2 (by omega) _).1
    · subst hr; exact (hB.store 3 (by omega) _).1
    · subst hr; exact (hB.store 4 (by omega) _).1
  refine ⟨hB', ?_⟩
  split <;> first | trivial | contradiction
theorem ng_start {W0 : World} {g gb n : Nat} {y1 y2 : Int} {vP vL vC vS vT vA : Value} {xC xS xT : List Value} (c : NC W0 g gb n y1 y2 vP vL vC vS vT vA xC xS xT) (j : Nat) (u : Nat → Value) : NG W0 g gb n y1 y2 vP vL vC vS vT vA xC xS xT j u W0 := by
  refine ⟨⟨⟨_, _, _, c.g0⟩, ⟨rfl, rfl, rfl, Nat.le_refl _⟩, fun _ _ _ _ _ _ => rfl⟩, ?_⟩
  split
  · exact c.rC
  · exact c.rS
  · exact c.rT
  · exact blk_cell c.g0 2 _ rfl
  · exact blk_cell c.g0 3 _ rfl
  · exact blk_cell c.g0 4 _ rfl
  · trivial
end Go.Proofs.YtghfjnnmpmfboaaDoor.Ck
