/- Texts of this proof, packed: contracts of the program's functions, and the plain model that they are held against. -/
import Derived.Test.YtfojninaginnoaaGreatDoorVac
set_option maxRecDepth 20000
set_option maxHeartbeats 4000000
namespace Go.Proofs.YtfojninaginnoaaGreatDoor.Ck
open Go.RowKit
def Yv (W0 w : World) (T : TypeId) (sz : Nat) (v : Value) (m : Nat) (xs : List Value) (old : Value) : Prop := (∃ a c, v = .slice a m c) /\ w.ownsRow 0 T sz v m xs /\ ∀ k, v.ownBlock = some k -> old.ownBlock = some k ∨ W0.heap.size <= k
structure NC (W0 : World) (g gb n : Nat) (y1 y2 : Int) (vP vL vC vS vT vA : Value) (xC xS xT : List Value) : Prop where
 g0 : W0.heap[g]? = some (.cells #[vP, vL, vC, vS, vT, vA] 91 (0, 0))
 rC : W0.ownsRow 0 94 2 vC n xC
 rS : W0.ownsRow 0 65 1 vS n xS
 rT : W0.ownsRow 0 3 1 vT n xT
 box : W0.heap[gb]? = some (.cells #[.int .i64 y1, .int .i64 y2] 94 (0, 0))
 boxC : vC.ownBlock ≠ some gb
 nl : n <= 1000
def NBase (W0 : World) (g : Nat) (vP vL vC vS vT vA : Value) (w : World) : Prop := (∃ c2 c3 c4, w.heap[g]? = some (.cells #[vP, vL, c2, c3, c4, vA] 91 (0, 0))) /\ (w.os = W0.os /\ w.tape = W0.tape /\ w.output = W0.output /\ W0.heap.size <= w.heap.size) /\ ∀ k, k < W0.heap.size -> k ≠ g -> vC.ownBlock ≠ some k -> vS.ownBlock ≠ some k -> vT.ownBlock ≠ some k -> w.heap[k]? = W0.heap[k]?
def NF (W0 : World) (g _gb n : Nat) (y1 y2 : Int) (vP vL vC vS vT vA : Value) (xC xS xT : List Value) (j : Nat) (u : Nat -> Value) (w : World) : Prop := NBase W0 g vP vL vC vS vT vA w /\ match j with
 | 0 => u 0 = .pointer (some ⟨g, 0, none⟩)
 | 1 => u 1 = .pointer (some ⟨g, 0, none⟩)
 | 2 => u 2 = .pointer (some ⟨g, 0, none⟩)
 | 3 => u 3 = .pointer (some ⟨g, 0, none⟩)
 | 4 => u 4 = .pointer (some ⟨g, 0, none⟩)
 | 5 => u 5 = .pointer (some ⟨g, 2, none⟩)
 | 6 => u 6 = vC
 | 7 => u 7 = .agg #[.int .i64 y1, .int .i64 y2]
 | 8 => ∃ k, u 8 = .slice (some ⟨k, 0, none⟩) 1 1 /\ W0.heap.size <= k /\ w.heap[k]? = some (.cells #[.int .i64 y1, .int .i64 y2] 94 (0, 0))
 | 9 => Yv W0 w 94 2 (u 9) (n + 1) (xC ++ [.int .i64 y1, .int .i64 y2]) vC
 | 10 => u 10 = .pointer (some ⟨g, 0, none⟩)
 | 11 => u 11 = .pointer (some ⟨g, 0, none⟩)
 | 12 => u 12 = .pointer (some ⟨g, 3, none⟩)
 | 13 => u 13 = vS
 | 14 => ∃ k, u 14 = .slice (some ⟨k, 0, none⟩) 1 1 /\ W0.heap.size <= k /\ w.heap[k]? = some (.cells #[.slice none 0 0] 65 (0, 0))
 | 15 => Yv W0 w 65 1 (u 15) (n + 1) (xS ++ [.slice none 0 0]) vS
 | 16 => u 16 = .pointer (some ⟨g, 0, none⟩)
 | 17 => u 17 = .pointer (some ⟨g, 0, none⟩)
 | 18 => u 18 = .pointer (some ⟨g, 4, none⟩)
 | 19 => u 19 = vT
 | 20 => ∃ k, u 20 = .slice (some ⟨k, 0, none⟩) 1 1 /\ W0.heap.size <= k /\ w.heap[k]? = some (.cells #[.int .i64 0] 3 (0, 0))
 | 21 => Yv W0 w 3 1 (u 21) (n + 1) (xT ++ [.int .i64 0]) vT
 | 22 => u 22 = .pointer (some ⟨g, 0, none⟩)
 | 23 => u 23 = .pointer (some ⟨g, 2, none⟩)
 | 24 => w.cell? ⟨g, 2, none⟩ = some (u 9)
 | 25 => u 25 = .pointer (some ⟨g, 0, none⟩)
 | 26 => u 26 = .pointer (some ⟨g, 3, none⟩)
 | 27 => w.cell? ⟨g, 3, none⟩ = some (u 15)
 | 28 => u 28 = .pointer (some ⟨g, 0, none⟩)
 | 29 => u 29 = .pointer (some ⟨g, 4, none⟩)
 | 30 => w.cell? ⟨g, 4, none⟩ = some (u 21)
 | _ => True
def NG (W0 : World) (g _gb n : Nat) (_y1 _y2 : Int) (vP vL vC vS vT vA : Value) (xC xS xT : List Value) (j : Nat) (_u : Nat -> Value) (w : World) : Prop := NBase W0 g vP vL vC vS vT vA w /\ match j with
 | 9 => w.ownsRow 0 94 2 vC n xC
 | 15 => w.ownsRow 0 65 1 vS n xS
 | 21 => w.ownsRow 0 3 1 vT n xT
 | 24 => w.cell? ⟨g, 2, none⟩ = some vC
 | 27 => w.cell? ⟨g, 3, none⟩ = some vS
 | 30 => w.cell? ⟨g, 4, none⟩ = some vT
 | _ => True
def NRel (g : Nat) (vC vS vT : Value) (i : Nat) (u : Nat -> Value) (w w' : World) : Prop := w.grownBy w' none ∨ (i = 9 /\ w.grownBy w' vC.ownBlock) ∨ (i = 15 /\ w.grownBy w' vS.ownBlock) ∨ (i = 21 /\ w.grownBy w' vT.ownBlock) ∨ (i = 24 /\ w' = w.setCell ⟨g, 2, none⟩ (u 9)) ∨ (i = 27 /\ w' = w.setCell ⟨g, 3, none⟩ (u 15)) ∨ (i = 30 /\ w' = w.setCell ⟨g, 4, none⟩ (u 21))
section
variable {W0 w w' : World} {g gb n : Nat} {y1 y2 : Int} {vP vL vC vS vT vA : Value} {xC xS xT : List Value}
theorem gb_none {w w' : World} (h : Below w.heap.size w w') : w.grownBy w' none := ⟨h.os, h.tape, h.output, h.size, fun k hk _ => h.block k hk⟩
theorem NBase.grown (c : NC W0 g gb n y1 y2 vP vL vC vS vT vA xC xS xT) (h : NBase W0 g vP vL vC vS vT vA w) {D : Option Nat} (hD : D = none ∨ D = vC.ownBlock ∨ D = vS.ownBlock ∨ D = vT.ownBlock) (hg : w.grownBy w' D) : NBase W0 g vP vL vC vS vT vA w' /\ w'.heap[g]? = w.heap[g]? := by
 obtain ⟨⟨c2, c3, c4, h1⟩, ⟨a1, a2, a3, a4⟩, h2⟩ := h
 have hgD : some g ≠ D := by
  rcases hD with rfl | rfl | rfl | rfl
  · exact fun e => by cases e
  · exact fun e => Zu c.rC c.g0 (by decide) e.symm
  · exact fun e => Zu c.rS c.g0 (by decide) e.symm
  · exact fun e => Zu c.rT c.g0 (by decide) e.symm
 have hgg := hg.block g (Ze h1) hgD
 refine ⟨⟨⟨c2, c3, c4, hgg.trans h1⟩, ⟨hg.os.trans a1, hg.tape.trans a2, hg.output.trans a3, Nat.le_trans a4 hg.size⟩, fun k hk n1 n2 n3 n4 => (hg.block k (Nat.lt_of_lt_of_le hk a4) ?_).trans (h2 k hk n1 n2 n3 n4)⟩, hgg⟩
 rcases hD with rfl | rfl | rfl | rfl
 · exact fun e => by cases e
 · exact fun e => n2 e.symm
 · exact fun e => n3 e.symm
 · exact fun e => n4 e.symm
theorem NBase.store (h : NBase W0 g vP vL vC vS vT vA w) (f : Nat) (hf : f = 2 ∨ f = 3 ∨ f = 4) (x : Value) : NBase W0 g vP vL vC vS vT vA (w.setCell ⟨g, f, none⟩ x) /\ (w.setCell ⟨g, f, none⟩ x).cell? ⟨g, f, none⟩ = some x /\ ∀ f', f' ≠ f -> (w.setCell ⟨g, f, none⟩ x).cell? ⟨g, f', none⟩ = w.cell? ⟨g, f', none⟩ := by
 obtain ⟨⟨c2, c3, c4, h1⟩, ⟨a1, a2, a3, a4⟩, h2⟩ := h
 have hs := heap_setCell_same w g f _ _ x h1
 refine ⟨⟨?_, ⟨a1, a2, a3, by rw [Zi]; exact a4⟩, fun k hk n1 n2 n3 n4 => (Below.heap_setCell _ _ _ _ n1).trans (h2 k hk n1 n2 n3 n4)⟩, ?_, fun f' hf' => ?_⟩
 · rcases hf with rfl | rfl | rfl
   · exact ⟨x, c3, c4, hs⟩
   · exact ⟨c2, x, c4, hs⟩
   · exact ⟨c2, c3, x, hs⟩
 · rcases hf with rfl | rfl | rfl
   · exact Zb hs _ _ rfl
   · exact Zb hs _ _ rfl
   · exact Zb hs _ _ rfl
 · exact World.cell?_setCell_other _ _ _ _ (by intro e; injection e with _ e2 _; first | exact hf' e2 | exact hf' e2.symm)
theorem Yv.grown {T : TypeId} {sz m : Nat} {v old : Value} {xs : List Value} (h : Yv W0 w T sz v m xs old) {D : Option Nat} (hD : ∀ k, D = some k -> k < W0.heap.size /\ old.ownBlock ≠ some k) (hg : w.grownBy w' D) : Yv W0 w' T sz v m xs old := by
 obtain ⟨h1, h2, h3⟩ := h
 refine ⟨h1, Zj h2 fun k hk => hg.block k (Zf h2 hk).2.1 (fun e => ?_), h3⟩
 obtain ⟨q1, q2⟩ := hD k e.symm
 rcases h3 k hk with h4 | h4
 · exact q2 h4
 · omega
theorem Yv.store {T : TypeId} {sz m : Nat} {v old : Value} {xs : List Value} (h : Yv W0 w T sz v m xs old) (hB : NBase W0 g vP vL vC vS vT vA w) (hT : T ≠ 91) (f : Nat) (x : Value) : Yv W0 (w.setCell ⟨g, f, none⟩ x) T sz v m xs old := by
 obtain ⟨h1, h2, h3⟩ := h
 obtain ⟨⟨c2, c3, c4, hg⟩, _⟩ := hB
 exact ⟨h1, Zj h2 fun k hk => Below.heap_setCell _ _ _ _ (fun e => Zu h2 hg hT (by rw [hk]; exact congrArg some e)), h3⟩
theorem Yz {T : TypeId} {sz m : Nat} {v : Value} {xs : List Value} (h : w.ownsRow 0 T sz v m xs) {D : Option Nat} (hD : ∀ k, D = some k -> v.ownBlock ≠ some k) (hg : w.grownBy w' D) : w'.ownsRow 0 T sz v m xs :=
 Zj h fun k hk => hg.block k (Zf h hk).2.1 (fun e => hD k e.symm hk)
theorem Yy {T : TypeId} {sz m : Nat} {v : Value} {xs : List Value} (h : w.ownsRow 0 T sz v m xs) (hB : NBase W0 g vP vL vC vS vT vA w) (hT : T ≠ 91) (f : Nat) (x : Value) : (w.setCell ⟨g, f, none⟩ x).ownsRow 0 T sz v m xs := by
 obtain ⟨⟨c2, c3, c4, hg⟩, _⟩ := hB
 exact Zj h fun k hk => Below.heap_setCell _ _ _ _ (fun e => Zu h hg hT (by rw [hk]; exact congrArg some e))
end
theorem nf_keep {W0 : World} {g gb n : Nat} {y1 y2 : Int} {vP vL vC vS vT vA : Value} {xC xS xT : List Value} (c : NC W0 g gb n y1 y2 vP vL vC vS vT vA xC xS xT) (i j : Nat) (u : Nat -> Value) (v : Value) (w w' : World) (hij : i ≠ j) (hd : (j = 24 -> i ≠ 9) /\ (j = 27 -> i ≠ 15) /\ (j = 30 -> i ≠ 21)) (hj : j < 31) (hr : NRel g vC vS vT i u w w') (hf : NF W0 g gb n y1 y2 vP vL vC vS vT vA xC xS xT j u w) : NF W0 g gb n y1 y2 vP vL vC vS vT vA xC xS xT j (upd u i v) w' := by
 obtain ⟨hB, hf⟩ := hf
 have hB2 : NBase W0 g vP vL vC vS vT vA w' := by
  rcases hr with hr | ⟨rfl, hr⟩ | ⟨rfl, hr⟩ | ⟨rfl, hr⟩ | ⟨rfl, hr⟩ | ⟨rfl, hr⟩ | ⟨rfl, hr⟩
  · exact (hB.grown c (.inl rfl) hr).1
  · exact (hB.grown c (.inr (.inl rfl)) hr).1
  · exact (hB.grown c (.inr (.inr (.inl rfl))) hr).1
  · exact (hB.grown c (.inr (.inr (.inr rfl))) hr).1
  · subst hr; exact (hB.store 2 (by omega) _).1
  · subst hr; exact (hB.store 3 (by omega) _).1
  · subst hr; exact (hB.store 4 (by omega) _).1
 obtain rfl | rfl | rfl | rfl | rfl | rfl | rfl | rfl | rfl | rfl | rfl | rfl | rfl | rfl | rfl | rfl | rfl | rfl | rfl | rfl | rfl | rfl | rfl | rfl | rfl | rfl | rfl | rfl | rfl | rfl | rfl : j = 0 ∨ j = 1 ∨ j = 2 ∨ j = 3 ∨ j = 4 ∨ j = 5 ∨ j = 6 ∨ j = 7 ∨ j = 8 ∨ j = 9 ∨ j = 10 ∨ j = 11 ∨ j = 12 ∨ j = 13 ∨ j = 14 ∨ j = 15 ∨ j = 16 ∨ j = 17 ∨ j = 18 ∨ j = 19 ∨ j = 20 ∨ j = 21 ∨ j = 22 ∨ j = 23 ∨ j = 24 ∨ j = 25 ∨ j = 26 ∨ j = 27 ∨ j = 28 ∨ j = 29 ∨ j = 30 := by omega
 · exact ⟨hB2, (Zs u v (Ne.symm hij)).trans hf⟩
 · exact ⟨hB2, (Zs u v (Ne.symm hij)).trans hf⟩
 · exact ⟨hB2, (Zs u v (Ne.symm hij)).trans hf⟩
 · exact ⟨hB2, (Zs u v (Ne.symm hij)).trans hf⟩
 · exact ⟨hB2, (Zs u v (Ne.symm hij)).trans hf⟩
 · exact ⟨hB2, (Zs u v (Ne.symm hij)).trans hf⟩
 · exact ⟨hB2, (Zs u v (Ne.symm hij)).trans hf⟩
 · exact ⟨hB2, (Zs u v (Ne.symm hij)).trans hf⟩
 · rcases hr with hr | ⟨rfl, hr⟩ | ⟨rfl, hr⟩ | ⟨rfl, hr⟩ | ⟨rfl, hr⟩ | ⟨rfl, hr⟩ | ⟨rfl, hr⟩
   · refine ⟨(hB.grown c (.inl rfl) hr).1, ?_⟩; obtain ⟨k, hf1, hf2, hf3⟩ := hf; exact ⟨k, (Zs u v (Ne.symm hij)).trans hf1, hf2, (hr.block k (Ze hf3) (fun e => by cases e)).trans hf3⟩
   · refine ⟨(hB.grown c (.inr (.inl rfl)) hr).1, ?_⟩; obtain ⟨k, hf1, hf2, hf3⟩ := hf; exact ⟨k, (Zs u v (Ne.symm hij)).trans hf1, hf2, (hr.block k (Ze hf3) (fun e => by have := (Zf c.rC e.symm).2.1; omega)).trans hf3⟩
   · refine ⟨(hB.grown c (.inr (.inr (.inl rfl))) hr).1, ?_⟩; obtain ⟨k, hf1, hf2, hf3⟩ := hf; exact ⟨k, (Zs u v (Ne.symm hij)).trans hf1, hf2, (hr.block k (Ze hf3) (fun e => by have := (Zf c.rS e.symm).2.1; omega)).trans hf3⟩
   · refine ⟨(hB.grown c (.inr (.inr (.inr rfl))) hr).1, ?_⟩; obtain ⟨k, hf1, hf2, hf3⟩ := hf; exact ⟨k, (Zs u v (Ne.symm hij)).trans hf1, hf2, (hr.block k (Ze hf3) (fun e => by have := (Zf c.rT e.symm).2.1; omega)).trans hf3⟩
   · subst hr; refine ⟨(hB.store 2 (by omega) _).1, ?_⟩; obtain ⟨k, hf1, hf2, hf3⟩ := hf; exact ⟨k, (Zs u v (Ne.symm hij)).trans hf1, hf2, (Below.heap_setCell _ _ _ _ (by have := Ze c.g0; show k ≠ g; omega)).trans hf3⟩
   · subst hr; refine ⟨(hB.store 3 (by omega) _).1, ?_⟩; obtain ⟨k, hf1, hf2, hf3⟩ := hf; exact ⟨k, (Zs u v (Ne.symm hij)).trans hf1, hf2, (Below.heap_setCell _ _ _ _ (by have := Ze c.g0; show k ≠ g; omega)).trans hf3⟩
   · subst hr; refine ⟨(hB.store 4 (by omega) _).1, ?_⟩; obtain ⟨k, hf1, hf2, hf3⟩ := hf; exact ⟨k, (Zs u v (Ne.symm hij)).trans hf1, hf2, (Below.heap_setCell _ _ _ _ (by have := Ze c.g0; show k ≠ g; omega)).trans hf3⟩
 · rcases hr with hr | ⟨rfl, hr⟩ | ⟨rfl, hr⟩ | ⟨rfl, hr⟩ | ⟨rfl, hr⟩ | ⟨rfl, hr⟩ | ⟨rfl, hr⟩
   · refine ⟨(hB.grown c (.inl rfl) hr).1, ?_⟩; show Yv W0 _ 94 2 (upd u i v 9) _ _ _; rw [Zs u v (Ne.symm hij)]; exact hf.grown (D := none) (fun k e => by cases e) hr
   · exact absurd rfl hij
   · refine ⟨(hB.grown c (.inr (.inr (.inl rfl))) hr).1, ?_⟩; show Yv W0 _ 94 2 (upd u 15 v 9) _ _ _; rw [Zs u v (Ne.symm hij)]; exact hf.grown (fun k e => ⟨(Zf c.rS e).2.1, Zo c.rS c.rC (by decide) k e⟩) hr
   · refine ⟨(hB.grown c (.inr (.inr (.inr rfl))) hr).1, ?_⟩; show Yv W0 _ 94 2 (upd u 21 v 9) _ _ _; rw [Zs u v (Ne.symm hij)]; exact hf.grown (fun k e => ⟨(Zf c.rT e).2.1, Zo c.rT c.rC (by decide) k e⟩) hr
   · subst hr; refine ⟨(hB.store 2 (by omega) _).1, ?_⟩; show Yv W0 _ 94 2 (upd u 24 v 9) _ _ _; rw [Zs u v (Ne.symm hij)]; exact hf.store hB (by decide) _ _
   · subst hr; refine ⟨(hB.store 3 (by omega) _).1, ?_⟩; show Yv W0 _ 94 2 (upd u 27 v 9) _ _ _; rw [Zs u v (Ne.symm hij)]; exact hf.store hB (by decide) _ _
   · subst hr; refine ⟨(hB.store 4 (by omega) _).1, ?_⟩; show Yv W0 _ 94 2 (upd u 30 v 9) _ _ _; rw [Zs u v (Ne.symm hij)]; exact hf.store hB (by decide) _ _
 · exact ⟨hB2, (Zs u v (Ne.symm hij)).trans hf⟩
 · exact ⟨hB2, (Zs u v (Ne.symm hij)).trans hf⟩
 · exact ⟨hB2, (Zs u v (Ne.symm hij)).trans hf⟩
 · exact ⟨hB2, (Zs u v (Ne.symm hij)).trans hf⟩
 · rcases hr with hr | ⟨rfl, hr⟩ | ⟨rfl, hr⟩ | ⟨rfl, hr⟩ | ⟨rfl, hr⟩ | ⟨rfl, hr⟩ | ⟨rfl, hr⟩
   · refine ⟨(hB.grown c (.inl rfl) hr).1, ?_⟩; obtain ⟨k, hf1, hf2, hf3⟩ := hf; exact ⟨k, (Zs u v (Ne.symm hij)).trans hf1, hf2, (hr.block k (Ze hf3) (fun e => by cases e)).trans hf3⟩
   · refine ⟨(hB.grown c (.inr (.inl rfl)) hr).1, ?_⟩; obtain ⟨k, hf1, hf2, hf3⟩ := hf; exact ⟨k, (Zs u v (Ne.symm hij)).trans hf1, hf2, (hr.block k (Ze hf3) (fun e => by have := (Zf c.rC e.symm).2.1; omega)).trans hf3⟩
   · refine ⟨(hB.grown c (.inr (.inr (.inl rfl))) hr).1, ?_⟩; obtain ⟨k, hf1, hf2, hf3⟩ := hf; exact ⟨k, (Zs u v (Ne.symm hij)).trans hf1, hf2, (hr.block k (Ze hf3) (fun e => by have := (Zf c.rS e.symm).2.1; omega)).trans hf3⟩
   · refine ⟨(hB.grown c (.inr (.inr (.inr rfl))) hr).1, ?_⟩; obtain ⟨k, hf1, hf2, hf3⟩ := hf; exact ⟨k, (Zs u v (Ne.symm hij)).trans hf1, hf2, (hr.block k (Ze hf3) (fun e => by have := (Zf c.rT e.symm).2.1; omega)).trans hf3⟩
   · subst hr; refine ⟨(hB.store 2 (by omega) _).1, ?_⟩; obtain ⟨k, hf1, hf2, hf3⟩ := hf; exact ⟨k, (Zs u v (Ne.symm hij)).trans hf1, hf2, (Below.heap_setCell _ _ _ _ (by have := Ze c.g0; show k ≠ g; omega)).trans hf3⟩
   · subst hr; refine ⟨(hB.store 3 (by omega) _).1, ?_⟩; obtain ⟨k, hf1, hf2, hf3⟩ := hf; exact ⟨k, (Zs u v (Ne.symm hij)).trans hf1, hf2, (Below.heap_setCell _ _ _ _ (by have := Ze c.g0; show k ≠ g; omega)).trans hf3⟩
   · subst hr; refine ⟨(hB.store 4 (by omega) _).1, ?_⟩; obtain ⟨k, hf1, hf2, hf3⟩ := hf; exact ⟨k, (Zs u v (Ne.symm hij)).trans hf1, hf2, (Below.heap_setCell _ _ _ _ (by have := Ze c.g0; show k ≠ g; omega)).trans hf3⟩
 · rcases hr with hr | ⟨rfl, hr⟩ | ⟨rfl, hr⟩ | ⟨rfl, hr⟩ | ⟨rfl, hr⟩ | ⟨rfl, hr⟩ | ⟨rfl, hr⟩
   · refine ⟨(hB.grown c (.inl rfl) hr).1, ?_⟩; show Yv W0 _ 65 1 (upd u i v 15) _ _ _; rw [Zs u v (Ne.symm hij)]; exact hf.grown (D := none) (fun k e => by cases e) hr
   · refine ⟨(hB.grown c (.inr (.inl rfl)) hr).1, ?_⟩; show Yv W0 _ 65 1 (upd u 9 v 15) _ _ _; rw [Zs u v (Ne.symm hij)]; exact hf.grown (fun k e => ⟨(Zf c.rC e).2.1, Zo c.rC c.rS (by decide) k e⟩) hr
   · exact absurd rfl hij
   · refine ⟨(hB.grown c (.inr (.inr (.inr rfl))) hr).1, ?_⟩; show Yv W0 _ 65 1 (upd u 21 v 15) _ _ _; rw [Zs u v (Ne.symm hij)]; exact hf.grown (fun k e => ⟨(Zf c.rT e).2.1, Zo c.rT c.rS (by decide) k e⟩) hr
   · subst hr; refine ⟨(hB.store 2 (by omega) _).1, ?_⟩; show Yv W0 _ 65 1 (upd u 24 v 15) _ _ _; rw [Zs u v (Ne.symm hij)]; exact hf.store hB (by decide) _ _
   · subst hr; refine ⟨(hB.store 3 (by omega) _).1, ?_⟩; show Yv W0 _ 65 1 (upd u 27 v 15) _ _ _; rw [Zs u v (Ne.symm hij)]; exact hf.store hB (by decide) _ _
   · subst hr; refine ⟨(hB.store 4 (by omega) _).1, ?_⟩; show Yv W0 _ 65 1 (upd u 30 v 15) _ _ _; rw [Zs u v (Ne.symm hij)]; exact hf.store hB (by decide) _ _
 · exact ⟨hB2, (Zs u v (Ne.symm hij)).trans hf⟩
 · exact ⟨hB2, (Zs u v (Ne.symm hij)).trans hf⟩
 · exact ⟨hB2, (Zs u v (Ne.symm hij)).trans hf⟩
 · exact ⟨hB2, (Zs u v (Ne.symm hij)).trans hf⟩
 · rcases hr with hr | ⟨rfl, hr⟩ | ⟨rfl, hr⟩ | ⟨rfl, hr⟩ | ⟨rfl, hr⟩ | ⟨rfl, hr⟩ | ⟨rfl, hr⟩
   · refine ⟨(hB.grown c (.inl rfl) hr).1, ?_⟩; obtain ⟨k, hf1, hf2, hf3⟩ := hf; exact ⟨k, (Zs u v (Ne.symm hij)).trans hf1, hf2, (hr.block k (Ze hf3) (fun e => by cases e)).trans hf3⟩
   · refine ⟨(hB.grown c (.inr (.inl rfl)) hr).1, ?_⟩; obtain ⟨k, hf1, hf2, hf3⟩ := hf; exact ⟨k, (Zs u v (Ne.symm hij)).trans hf1, hf2, (hr.block k (Ze hf3) (fun e => by have := (Zf c.rC e.symm).2.1; omega)).trans hf3⟩
   · refine ⟨(hB.grown c (.inr (.inr (.inl rfl))) hr).1, ?_⟩; obtain ⟨k, hf1, hf2, hf3⟩ := hf; exact ⟨k, (Zs u v (Ne.symm hij)).trans hf1, hf2, (hr.block k (Ze hf3) (fun e => by have := (Zf c.rS e.symm).2.1; omega)).trans hf3⟩
   · refine ⟨(hB.grown c (.inr (.inr (.inr rfl))) hr).1, ?_⟩; obtain ⟨k, hf1, hf2, hf3⟩ := hf; exact ⟨k, (Zs u v (Ne.symm hij)).trans hf1, hf2, (hr.block k (Ze hf3) (fun e => by have := (Zf c.rT e.symm).2.1; omega)).trans hf3⟩
   · subst hr; refine ⟨(hB.store 2 (by omega) _).1, ?_⟩; obtain ⟨k, hf1, hf2, hf3⟩ := hf; exact ⟨k, (Zs u v (Ne.symm hij)).trans hf1, hf2, (Below.heap_setCell _ _ _ _ (by have := Ze c.g0; show k ≠ g; omega)).trans hf3⟩
   · subst hr; refine ⟨(hB.store 3 (by omega) _).1, ?_⟩; obtain ⟨k, hf1, hf2, hf3⟩ := hf; exact ⟨k, (Zs u v (Ne.symm hij)).trans hf1, hf2, (Below.heap_setCell _ _ _ _ (by have := Ze c.g0; show k ≠ g; omega)).trans hf3⟩
   · subst hr; refine ⟨(hB.store 4 (by omega) _).1, ?_⟩; obtain ⟨k, hf1, hf2, hf3⟩ := hf; exact ⟨k, (Zs u v (Ne.symm hij)).trans hf1, hf2, (Below.heap_setCell _ _ _ _ (by have := Ze c.g0; show k ≠ g; omega)).trans hf3⟩
 · rcases hr with hr | ⟨rfl, hr⟩ | ⟨rfl, hr⟩ | ⟨rfl, hr⟩ | ⟨rfl, hr⟩ | ⟨rfl, hr⟩ | ⟨rfl, hr⟩
   · refine ⟨(hB.grown c (.inl rfl) hr).1, ?_⟩; show Yv W0 _ 3 1 (upd u i v 21) _ _ _; rw [Zs u v (Ne.symm hij)]; exact hf.grown (D := none) (fun k e => by cases e) hr
   · refine ⟨(hB.grown c (.inr (.inl rfl)) hr).1, ?_⟩; show Yv W0 _ 3 1 (upd u 9 v 21) _ _ _; rw [Zs u v (Ne.symm hij)]; exact hf.grown (fun k e => ⟨(Zf c.rC e).2.1, Zo c.rC c.rT (by decide) k e⟩) hr
   · refine ⟨(hB.grown c (.inr (.inr (.inl rfl))) hr).1, ?_⟩; show Yv W0 _ 3 1 (upd u 15 v 21) _ _ _; rw [Zs u v (Ne.symm hij)]; exact hf.grown (fun k e => ⟨(Zf c.rS e).2.1, Zo c.rS c.rT (by decide) k e⟩) hr
   · exact absurd rfl hij
   · subst hr; refine ⟨(hB.store 2 (by omega) _).1, ?_⟩; show Yv W0 _ 3 1 (upd u 24 v 21) _ _ _; rw [Zs u v (Ne.symm hij)]; exact hf.store hB (by decide) _ _
   · subst hr; refine ⟨(hB.store 3 (by omega) _).1, ?_⟩; show Yv W0 _ 3 1 (upd u 27 v 21) _ _ _; rw [Zs u v (Ne.symm hij)]; exact hf.store hB (by decide) _ _
   · subst hr; refine ⟨(hB.store 4 (by omega) _).1, ?_⟩; show Yv W0 _ 3 1 (upd u 30 v 21) _ _ _; rw [Zs u v (Ne.symm hij)]; exact hf.store hB (by decide) _ _
 · exact ⟨hB2, (Zs u v (Ne.symm hij)).trans hf⟩
 · exact ⟨hB2, (Zs u v (Ne.symm hij)).trans hf⟩
 · rcases hr with hr | ⟨rfl, hr⟩ | ⟨rfl, hr⟩ | ⟨rfl, hr⟩ | ⟨rfl, hr⟩ | ⟨rfl, hr⟩ | ⟨rfl, hr⟩
   · refine ⟨(hB.grown c (.inl rfl) hr).1, ?_⟩; show World.cell? _ ⟨g, 2, none⟩ = some (upd u i v 9); rw [Zs u v (Ne.symm (hd.1 rfl))]; exact (World.cell?_of_block (a := ⟨g, 2, none⟩) (hB.grown c (.inl rfl) hr).2).trans hf
   · exact absurd rfl (hd.1 rfl)
   · refine ⟨(hB.grown c (.inr (.inr (.inl rfl))) hr).1, ?_⟩; show World.cell? _ ⟨g, 2, none⟩ = some (upd u 15 v 9); rw [Zs u v (Ne.symm (hd.1 rfl))]; exact (World.cell?_of_block (a := ⟨g, 2, none⟩) (hB.grown c (.inr (.inr (.inl rfl))) hr).2).trans hf
   · refine ⟨(hB.grown c (.inr (.inr (.inr rfl))) hr).1, ?_⟩; show World.cell? _ ⟨g, 2, none⟩ = some (upd u 21 v 9); rw [Zs u v (Ne.symm (hd.1 rfl))]; exact (World.cell?_of_block (a := ⟨g, 2, none⟩) (hB.grown c (.inr (.inr (.inr rfl))) hr).2).trans hf
   · exact absurd rfl hij
   · subst hr; refine ⟨(hB.store 3 (by omega) _).1, ?_⟩; show World.cell? _ ⟨g, 2, none⟩ = some (upd u 27 v 9); rw [Zs u v (Ne.symm (hd.1 rfl))]; exact ((hB.store 3 (by omega) _).2.2 2 (by omega)).trans hf
   · subst hr; refine ⟨(hB.store 4 (by omega) _).1, ?_⟩; show World.cell? _ ⟨g, 2, none⟩ = some (upd u 30 v 9); rw [Zs u v (Ne.symm (hd.1 rfl))]; exact ((hB.store 4 (by omega) _).2.2 2 (by omega)).trans hf
 · exact ⟨hB2, (Zs u v (Ne.symm hij)).trans hf⟩
 · exact ⟨hB2, (Zs u v (Ne.symm hij)).trans hf⟩
 · rcases hr with hr | ⟨rfl, hr⟩ | ⟨rfl, hr⟩ | ⟨rfl, hr⟩ | ⟨rfl, hr⟩ | ⟨rfl, hr⟩ | ⟨rfl, hr⟩
   · refine ⟨(hB.grown c (.inl rfl) hr).1, ?_⟩; show World.cell? _ ⟨g, 3, none⟩ = some (upd u i v 15); rw [Zs u v (Ne.symm (hd.2.1 rfl))]; exact (World.cell?_of_block (a := ⟨g, 3, none⟩) (hB.grown c (.inl rfl) hr).2).trans hf
   · refine ⟨(hB.grown c (.inr (.inl rfl)) hr).1, ?_⟩; show World.cell? _ ⟨g, 3, none⟩ = some (upd u 9 v 15); rw [Zs u v (Ne.symm (hd.2.1 rfl))]; exact (World.cell?_of_block (a := ⟨g, 3, none⟩) (hB.grown c (.inr (.inl rfl)) hr).2).trans hf
   · exact absurd rfl (hd.2.1 rfl)
   · refine ⟨(hB.grown c (.inr (.inr (.inr rfl))) hr).1, ?_⟩; show World.cell? _ ⟨g, 3, none⟩ = some (upd u 21 v 15); rw [Zs u v (Ne.symm (hd.2.1 rfl))]; exact (World.cell?_of_block (a := ⟨g, 3, none⟩) (hB.grown c (.inr (.inr (.inr rfl))) hr).2).trans hf
   · subst hr; refine ⟨(hB.store 2 (by omega) _).1, ?_⟩; show World.cell? _ ⟨g, 3, none⟩ = some (upd u 24 v 15); rw [Zs u v (Ne.symm (hd.2.1 rfl))]; exact ((hB.store 2 (by omega) _).2.2 3 (by omega)).trans hf
   · exact absurd rfl hij
   · subst hr; refine ⟨(hB.store 4 (by omega) _).1, ?_⟩; show World.cell? _ ⟨g, 3, none⟩ = some (upd u 30 v 15); rw [Zs u v (Ne.symm (hd.2.1 rfl))]; exact ((hB.store 4 (by omega) _).2.2 3 (by omega)).trans hf
 · exact ⟨hB2, (Zs u v (Ne.symm hij)).trans hf⟩
 · exact ⟨hB2, (Zs u v (Ne.symm hij)).trans hf⟩
 · rcases hr with hr | ⟨rfl, hr⟩ | ⟨rfl, hr⟩ | ⟨rfl, hr⟩ | ⟨rfl, hr⟩ | ⟨rfl, hr⟩ | ⟨rfl, hr⟩
   · refine ⟨(hB.grown c (.inl rfl) hr).1, ?_⟩; show World.cell? _ ⟨g, 4, none⟩ = some (upd u i v 21); rw [Zs u v (Ne.symm (hd.2.2 rfl))]; exact (World.cell?_of_block (a := ⟨g, 4, none⟩) (hB.grown c (.inl rfl) hr).2).trans hf
   · refine ⟨(hB.grown c (.inr (.inl rfl)) hr).1, ?_⟩; show World.cell? _ ⟨g, 4, none⟩ = some (upd u 9 v 21); rw [Zs u v (Ne.symm (hd.2.2 rfl))]; exact (World.cell?_of_block (a := ⟨g, 4, none⟩) (hB.grown c (.inr (.inl rfl)) hr).2).trans hf
   · refine ⟨(hB.grown c (.inr (.inr (.inl rfl))) hr).1, ?_⟩; show World.cell? _ ⟨g, 4, none⟩ = some (upd u 15 v 21); rw [Zs u v (Ne.symm (hd.2.2 rfl))]; exact (World.cell?_of_block (a := ⟨g, 4, none⟩) (hB.grown c (.inr (.inr (.inl rfl))) hr).2).trans hf
   · exact absurd rfl (hd.2.2 rfl)
   · subst hr; refine ⟨(hB.store 2 (by omega) _).1, ?_⟩; show World.cell? _ ⟨g, 4, none⟩ = some (upd u 24 v 21); rw [Zs u v (Ne.symm (hd.2.2 rfl))]; exact ((hB.store 2 (by omega) _).2.2 4 (by omega)).trans hf
   · subst hr; refine ⟨(hB.store 3 (by omega) _).1, ?_⟩; show World.cell? _ ⟨g, 4, none⟩ = some (upd u 27 v 21); rw [Zs u v (Ne.symm (hd.2.2 rfl))]; exact ((hB.store 3 (by omega) _).2.2 4 (by omega)).trans hf
   · exact absurd rfl hij
theorem ng_keep {W0 : World} {g gb n : Nat} {y1 y2 : Int} {vP vL vC vS vT vA : Value} {xC xS xT : List Value} (c : NC W0 g gb n y1 y2 vP vL vC vS vT vA xC xS xT) (i j : Nat) (u : Nat -> Value) (v : Value) (w w' : World) (hij : i ≠ j) (hr : NRel g vC vS vT i u w w') (hf : NG W0 g gb n y1 y2 vP vL vC vS vT vA xC xS xT j u w) : NG W0 g gb n y1 y2 vP vL vC vS vT vA xC xS xT j (upd u i v) w' := by
 obtain ⟨hB, hf⟩ := hf
 by_cases h9 : j = 9
 · subst h9
   rcases hr with hr | ⟨rfl, hr⟩ | ⟨rfl, hr⟩ | ⟨rfl, hr⟩ | ⟨rfl, hr⟩ | ⟨rfl, hr⟩ | ⟨rfl, hr⟩
   · refine ⟨(hB.grown c (.inl rfl) hr).1, ?_⟩; exact Yz hf (D := none) (fun k e => by cases e) hr
   · exact absurd rfl hij
   · refine ⟨(hB.grown c (.inr (.inr (.inl rfl))) hr).1, ?_⟩; exact Yz hf (fun k e => Zo c.rS c.rC (by decide) k e) hr
   · refine ⟨(hB.grown c (.inr (.inr (.inr rfl))) hr).1, ?_⟩; exact Yz hf (fun k e => Zo c.rT c.rC (by decide) k e) hr
   · subst hr; refine ⟨(hB.store 2 (by omega) _).1, ?_⟩; exact Yy hf hB (by decide) _ _
   · subst hr; refine ⟨(hB.store 3 (by omega) _).1, ?_⟩; exact Yy hf hB (by decide) _ _
   · subst hr; refine ⟨(hB.store 4 (by omega) _).1, ?_⟩; exact Yy hf hB (by decide) _ _
 by_cases h15 : j = 15
 · subst h15
   rcases hr with hr | ⟨rfl, hr⟩ | ⟨rfl, hr⟩ | ⟨rfl, hr⟩ | ⟨rfl, hr⟩ | ⟨rfl, hr⟩ | ⟨rfl, hr⟩
   · refine ⟨(hB.grown c (.inl rfl) hr).1, ?_⟩; exact Yz hf (D := none) (fun k e => by cases e) hr
   · refine ⟨(hB.grown c (.inr (.inl rfl)) hr).1, ?_⟩; exact Yz hf (fun k e => Zo c.rC c.rS (by decide) k e) hr
   · exact absurd rfl hij
   · refine ⟨(hB.grown c (.inr (.inr (.inr rfl))) hr).1, ?_⟩; exact Yz hf (fun k e => Zo c.rT c.rS (by decide) k e) hr
   · subst hr; refine ⟨(hB.store 2 (by omega) _).1, ?_⟩; exact Yy hf hB (by decide) _ _
   · subst hr; refine ⟨(hB.store 3 (by omega) _).1, ?_⟩; exact Yy hf hB (by decide) _ _
   · subst hr; refine ⟨(hB.store 4 (by omega) _).1, ?_⟩; exact Yy hf hB (by decide) _ _
 by_cases h21 : j = 21
 · subst h21
   rcases hr with hr | ⟨rfl, hr⟩ | ⟨rfl, hr⟩ | ⟨rfl, hr⟩ | ⟨rfl, hr⟩ | ⟨rfl, hr⟩ | ⟨rfl, hr⟩
   · refine ⟨(hB.grown c (.inl rfl) hr).1, ?_⟩; exact Yz hf (D := none) (fun k e => by cases e) hr
   · refine ⟨(hB.grown c (.inr (.inl rfl)) hr).1, ?_⟩; exact Yz hf (fun k e => Zo c.rC c.rT (by decide) k e) hr
   · refine ⟨(hB.grown c (.inr (.inr (.inl rfl))) hr).1, ?_⟩; exact Yz hf (fun k e => Zo c.rS c.rT (by decide) k e) hr
   · exact absurd rfl hij
   · subst hr; refine ⟨(hB.store 2 (by omega) _).1, ?_⟩; exact Yy hf hB (by decide) _ _
   · subst hr; refine ⟨(hB.store 3 (by omega) _).1, ?_⟩; exact Yy hf hB (by decide) _ _
   · subst hr; refine ⟨(hB.store 4 (by omega) _).1, ?_⟩; exact Yy hf hB (by decide) _ _
 by_cases h24 : j = 24
 · subst h24
   rcases hr with hr | ⟨rfl, hr⟩ | ⟨rfl, hr⟩ | ⟨rfl, hr⟩ | ⟨rfl, hr⟩ | ⟨rfl, hr⟩ | ⟨rfl, hr⟩
   · refine ⟨(hB.grown c (.inl rfl) hr).1, ?_⟩; exact (World.cell?_of_block (a := ⟨g, 2, none⟩) (hB.grown c (.inl rfl) hr).2).trans hf
   · refine ⟨(hB.grown c (.inr (.inl rfl)) hr).1, ?_⟩; exact (World.cell?_of_block (a := ⟨g, 2, none⟩) (hB.grown c (.inr (.inl rfl)) hr).2).trans hf
   · refine ⟨(hB.grown c (.inr (.inr (.inl rfl))) hr).1, ?_⟩; exact (World.cell?_of_block (a := ⟨g, 2, none⟩) (hB.grown c (.inr (.inr (.inl rfl))) hr).2).trans hf
   · refine ⟨(hB.grown c (.inr (.inr (.inr rfl))) hr).1, ?_⟩; exact (World.cell?_of_block (a := ⟨g, 2, none⟩) (hB.grown c (.inr (.inr (.inr rfl))) hr).2).trans hf
   · exact absurd rfl hij
   · subst hr; refine ⟨(hB.store 3 (by omega) _).1, ?_⟩; exact ((hB.store 3 (by omega) _).2.2 2 (by omega)).trans hf
   · subst hr; refine ⟨(hB.store 4 (by omega) _).1, ?_⟩; exact ((hB.store 4 (by omega) _).2.2 2 (by omega)).trans hf
 by_cases h27 : j = 27
 · subst h27
   rcases hr with hr | ⟨rfl, hr⟩ | ⟨rfl, hr⟩ | ⟨rfl, hr⟩ | ⟨rfl, hr⟩ | ⟨rfl, hr⟩ | ⟨rfl, hr⟩
   · refine ⟨(hB.grown c (.inl rfl) hr).1, ?_⟩; exact (World.cell?_of_block (a := ⟨g, 3, none⟩) (hB.grown c (.inl rfl) hr).2).trans hf
   · refine ⟨(hB.grown c (.inr (.inl rfl)) hr).1, ?_⟩; exact (World.cell?_of_block (a := ⟨g, 3, none⟩) (hB.grown c (.inr (.inl rfl)) hr).2).trans hf
   · refine ⟨(hB.grown c (.inr (.inr (.inl rfl))) hr).1, ?_⟩; exact (World.cell?_of_block (a := ⟨g, 3, none⟩) (hB.grown c (.inr (.inr (.inl rfl))) hr).2).trans hf
   · refine ⟨(hB.grown c (.inr (.inr (.inr rfl))) hr).1, ?_⟩; exact (World.cell?_of_block (a := ⟨g, 3, none⟩) (hB.grown c (.inr (.inr (.inr rfl))) hr).2).trans hf
   · subst hr; refine ⟨(hB.store 2 (by omega) _).1, ?_⟩; exact ((hB.store 2 (by omega) _).2.2 3 (by omega)).trans hf
   · exact absurd rfl hij
   · subst hr; refine ⟨(hB.store 4 (by omega) _).1, ?_⟩; exact ((hB.store 4 (by omega) _).2.2 3 (by omega)).trans hf
 by_cases h30 : j = 30
 · subst h30
   rcases hr with hr | ⟨rfl, hr⟩ | ⟨rfl, hr⟩ | ⟨rfl, hr⟩ | ⟨rfl, hr⟩ | ⟨rfl, hr⟩ | ⟨rfl, hr⟩
   · refine ⟨(hB.grown c (.inl rfl) hr).1, ?_⟩; exact (World.cell?_of_block (a := ⟨g, 4, none⟩) (hB.grown c (.inl rfl) hr).2).trans hf
   · refine ⟨(hB.grown c (.inr (.inl rfl)) hr).1, ?_⟩; exact (World.cell?_of_block (a := ⟨g, 4, none⟩) (hB.grown c (.inr (.inl rfl)) hr).2).trans hf
   · refine ⟨(hB.grown c (.inr (.inr (.inl rfl))) hr).1, ?_⟩; exact (World.cell?_of_block (a := ⟨g, 4, none⟩) (hB.grown c (.inr (.inr (.inl rfl))) hr).2).trans hf
   · refine ⟨(hB.grown c (.inr (.inr (.inr rfl))) hr).1, ?_⟩; exact (World.cell?_of_block (a := ⟨g, 4, none⟩) (hB.grown c (.inr (.inr (.inr rfl))) hr).2).trans hf
   · subst hr; refine ⟨(hB.store 2 (by omega) _).1, ?_⟩; exact ((hB.store 2 (by omega) _).2.2 4 (by omega)).trans hf
   · subst hr; refine ⟨(hB.store 3 (by omega) _).1, ?_⟩; exact ((hB.store 3 (by omega) _).2.2 4 (by omega)).trans hf
   · exact absurd rfl hij
 have hB' : NBase W0 g vP vL vC vS vT vA w' := by
  rcases hr with hr | ⟨rfl, hr⟩ | ⟨rfl, hr⟩ | ⟨rfl, hr⟩ | ⟨rfl, hr⟩ | ⟨rfl, hr⟩ | ⟨rfl, hr⟩
  · exact (hB.grown c (.inl rfl) hr).1
  · exact (hB.grown c (.inr (.inl rfl)) hr).1
  · exact (hB.grown c (.inr (.inr (.inl rfl))) hr).1
  · exact (hB.grown c (.inr (.inr (.inr rfl))) hr).1
  · subst hr; exact (hB.store 2 (by omega) _).1
  · subst hr; exact (hB.store 3 (by omega) _).1
  · subst hr; exact (hB.store 4 (by omega) _).1
 refine ⟨hB', ?_⟩
 split <;> first | trivial | contradiction
theorem ng_start {W0 : World} {g gb n : Nat} {y1 y2 : Int} {vP vL vC vS vT vA : Value} {xC xS xT : List Value} (c : NC W0 g gb n y1 y2 vP vL vC vS vT vA xC xS xT) (j : Nat) (u : Nat -> Value) : NG W0 g gb n y1 y2 vP vL vC vS vT vA xC xS xT j u W0 := by
 refine ⟨⟨⟨_, _, _, c.g0⟩, ⟨rfl, rfl, rfl, Nat.le_refl _⟩, fun _ _ _ _ _ _ => rfl⟩, ?_⟩
 split
 · exact c.rC
 · exact c.rS
 · exact c.rT
 · exact Zb c.g0 2 _ rfl
 · exact Zb c.g0 3 _ rfl
 · exact Zb c.g0 4 _ rfl
 · trivial
def ZO (k : Nat) : Option Nat := if 93 <= k /\ k <= 116 then some (k - 93) else if k = 117 then some 25 else if k = 118 then some 26 else if k = 119 then some 28 else if k = 120 then some 29 else none
theorem Zz {k i : Nat} (h : ZO k = some i) : (i < 24 /\ k = 93 + i) ∨ (i = 25 /\ k = 117) ∨ (i = 26 /\ k = 118) ∨ (i = 28 /\ k = 119) ∨ (i = 29 /\ k = 120) := by
 unfold ZO at h
 split at h
 · have := Option.some.inj h
   omega
 · split at h
   · have := Option.some.inj h
     omega
   · split at h
     · have := Option.some.inj h
       omega
     · split at h
       · have := Option.some.inj h
         omega
       · split at h
         · have := Option.some.inj h
           omega
         · cases h
theorem push_any {w : World} {T TS : TypeId} {sz bytes : Nat} {z v : Value} {n gx : Nat} {xs ys : List Value} (hu : Tryz.prog.underlying TS = some (.slice T)) (hinfo : (Tryz.prog.info? T).map (fun i => (i.zero, i.size, i.bytes)) = some (some z, sz, bytes)) (hz : z.cells.size = sz) (hsz : 0 < sz) (hby : bytes <= 100)
    (ho : w.ownsRow 0 T sz v n xs) (hn : n <= 1000) (hl : ys.length = 1 * sz) (hy : ∀ (j : Nat) (u : Value), ys[j]? = some u -> w.cell? ⟨gx, j, none⟩ = some u) (h1 : ∀ u ∈ ys, u.oneCell' = true) (ty : TypeId) :
    ∃ v' w', (Builtin.append_ #[TS, TS] ty #[v, .slice (some ⟨gx, 0, none⟩) 1 1]).run Tryz.prog w = .ok v' w' /\ w'.ownsRow 0 T sz v' (n + 1) (xs ++ ys) /\ w.grownBy w' v.ownBlock /\ (∀ k, v'.ownBlock = some k -> v.ownBlock = some k ∨ w.heap.size <= k) := by
  obtain ⟨i, hi, hz0, hz1, hz2⟩ := info_parts hinfo
  obtain ⟨v', w', hr, ho', hg, _, hat⟩ := run_append_own_at (P := Tryz.prog) w 0 TS ty T i z sz bytes hu hi hz0 hz1 hz2 hz hsz v n xs ho ⟨gx, 0, none⟩ 1 1 ys hl (fun j u hu => by
    rw [show (⟨gx, 0, none⟩ : Addr).add j = ⟨gx, j, none⟩ by unfold Addr.add; by_cases h : j = 0 <;> simp [h]]
    exact hy j u hu) h1 (by unfold maxLen; omega) (by have : (n + 1) * bytes <= 1001 * 100 := Nat.mul_le_mul (by omega) hby; omega) (Nat.zero_le _)
  refine ⟨v', w', hr, ho', hg, fun k hk => ?_⟩
  rcases hat with e | e
  · exact .inl (e.symm.trans hk)
  · rw [e] at hk
    right
    have := Option.some.inj hk
    omega
theorem info_chan : (Tryz.prog.info? 94).map (fun i => (i.zero, i.size, i.bytes)) = some (some (.agg #[I_ 0, I_ 0]), 2, 16) := by kernel_rfl
theorem info_slv : (Tryz.prog.info? 65).map (fun i => (i.zero, i.size, i.bytes)) = some (some (.slice none 0 0), 1, 24) := by kernel_rfl
section
variable {w w2 : World} {F R : Nat → Prop} {B g : Nat} {s : St} {vP vL vC vS vT vA v' : Value} {ss : List Value} {tk : List Int}
theorem Rv.placeA (h : Rv w F R B g s vP vL vC vS vT vA ss tk) (x : V3) (hg : w.grownBy w2 vP.ownBlock) (ho : w2.ownsRow 0 64 3 v' (s.P ++ [x]).length (vcs (s.P ++ [x]))) (hb : ∀ k, v'.ownBlock = some k -> vP.ownBlock = some k ∨ w.heap.size <= k) (hl : s.P.length < 128) :
 Rv (w2.setCell ⟨g, 0, none⟩ v') (fun k => F k ∨ v'.ownBlock = some k) R B g { s with P := s.P ++ [x] } v' vL vC vS vT vA ss tk /\ Ch F (fun k => F k ∨ v'.ownBlock = some k) w (w2.setCell ⟨g, 0, none⟩ v') := by
 have hsz : (w2.setCell ⟨g, 0, none⟩ v').heap.size = w2.heap.size := Zi _ _ _
 have ho2 : ∀ k, k ≠ g -> (w2.setCell ⟨g, 0, none⟩ v').heap[k]? = w2.heap[k]? := fun k hk => Below.heap_setCell _ _ _ _ hk
 have gP : vP.ownBlock ≠ some g := Zu h.pl h.at_ (by decide)
 have gv : v'.ownBlock ≠ some g := fun e => by
  rcases hb g e with h1 | h1
  · exact gP h1
  · have := Ze h.at_
    omega
 have hg2 : w2.heap[g]? = some (.cells #[vP, vL, vC, vS, vT, vA] 91 (0, 0)) := (hg.block g (Ze h.at_) (fun e => gP e.symm)).trans h.at_
 have hk3 : ∀ {T : TypeId} {n : Nat} {v : Value} {len : Nat} {xs : List Value}, w.ownsRow 0 T n v len xs -> (∀ k, v.ownBlock = some k -> vP.ownBlock ≠ some k) -> T ≠ 91 -> (w2.setCell ⟨g, 0, none⟩ v').ownsRow 0 T n v len xs := fun hr hne hT =>
  Zj hr fun k hk => (ho2 k (fun e => Zu hr h.at_ hT (e ▸ hk))).trans (hg.block k (Zf hr hk).2.1 (fun e => hne k hk e.symm))
 refine ⟨?_, ⟨hg.os, hg.tape, hg.output, by rw [hsz]; exact hg.size, fun k hk hF => (ho2 k (fun e => hF (e ▸ h.fg))).trans (hg.block k hk (fun e => hF (h.fP k e.symm))), fun k hk => ?_⟩⟩
 · exact { h with
    at_ := by
     rw [heap_setCell_same w2 g 0 _ _ _ hg2]
     rfl
    pl := Zj ho fun k hk => ho2 k (fun e => gv (e ▸ hk))
    lo := hk3 h.lo (fun k hk => Zo h.lo h.pl (by decide) k hk) (by decide)
    ch := hk3 h.ch (fun k hk => Zo h.ch h.pl (by decide) k hk) (by decide)
    se := hk3 h.se (fun k hk => Zo h.se h.pl (by decide) k hk) (by decide)
    ta := hk3 h.ta (fun k hk => Zo h.ta h.pl (by decide) k hk) (by decide)
    ato := hk3 h.ato (fun k hk => Zo h.ato h.pl (by decide) k hk) (by decide)
    q := fun i q v t hq hv ht => by
     obtain ⟨f, n, h1, h2, h3, h4, h5, h6⟩ := h.q i q v t hq hv ht
     exact ⟨f, n, h1, h2, h3, h4, hk3 h5 (fun k hk e => h.fr k (h6 k hk) (h.fP k e)) (by decide), h6⟩
    fg := .inl h.fg
    fP := fun k hk => .inr hk
    fL := fun k hk => .inl (h.fL k hk)
    fC := fun k hk => .inl (h.fC k hk)
    fS := fun k hk => .inl (h.fS k hk)
    fT := fun k hk => .inl (h.fT k hk)
    fA := fun k hk => .inl (h.fA k hk)
    fb := fun k hk => by
     rw [hsz]
     rcases hk with hk | hk
     · exact Nat.lt_of_lt_of_le (h.fb k hk) hg.size
     · exact (Zf ho hk).2.1
    rb := fun k hk => by rw [hsz]; exact Nat.lt_of_lt_of_le (h.rb k hk) hg.size
    fr := fun k hk e => by
     rcases e with e | e
     · exact h.fr k hk e
     · rcases hb k e with h1 | h1
       · exact h.fr k hk (h.fP k h1)
       · have := h.rb k hk
         omega
    small := by
     have := h.small
     simp
     omega }
 · rcases hk with hk | hk
   · exact .inl hk
   · rcases hb k hk with h1 | h1
     · exact .inl (h.fP k h1)
     · exact .inr h1
theorem Rv.pushP (h : Rv w F R B g s vP vL vC vS vT vA ss tk) (x : V3) (hl : s.P.length < 128) (ty : TypeId) :
 ∃ v' w', (Builtin.append_ #[65, 65] ty #[vP, .slice (some ⟨w.heap.size, 0, none⟩) 1 1]).run Tryz.prog (w.alloc (.cells #[I_ x.1, I_ x.2.1, .int .u64 x.2.2] 64)) = .ok v' w' ∧
  ((∃ a l c, v' = .slice a l c) /\ w'.frozen? ⟨g, 0, none⟩ = false /\ w'.cell? ⟨g, 0, none⟩ = some vP /\ Rv (w'.setCell ⟨g, 0, none⟩ v') (fun k => F k ∨ v'.ownBlock = some k) R B g { s with P := s.P ++ [x] } v' vL vC vS vT vA ss tk /\ Ch F (fun k => F k ∨ v'.ownBlock = some k) w (w'.setCell ⟨g, 0, none⟩ v')) := by
 obtain ⟨v', w', hr, ho, hg, hf⟩ := push_v rfl h.pl (by have := h.small; omega) x.1 x.2.1 x.2.2 ty
 have hgb := (hg.block g (Ze h.at_) (fun e => Zu h.pl h.at_ (by decide) e.symm)).trans h.at_
 obtain ⟨a, c, e, _⟩ := Zl ho
 have e1 : s.P.length + 1 = (s.P ++ [x]).length := by simp
 rw [e1] at ho
 exact ⟨v', w', hr, ⟨_, _, _, e⟩, Zc hgb _, Zb hgb 0 _ rfl, h.placeA x hg ho hf hl⟩
end
theorem Rv.chanA {W0 w : World} {F R : Nat -> Prop} {B g n : Nat} {s : St} {vP vL vC vS vT vA uC uS uT : Value} {ss : List Value} {tk : List Int} (h : Rv W0 F R B g s vP vL vC vS vT vA ss tk) (y1 y2 : Int) (hn : n = s.C.length) (hl : n < 32) (hr : 0 <= y2 /\ y2 <= 8)
 (hB : NBase W0 g vP vL vC vS vT vA w) (nC : Yv W0 w 94 2 uC (n + 1) (ccs s.C ++ [I_ y1, I_ y2]) vC) (nS : Yv W0 w 65 1 uS (n + 1) (ss ++ [.slice none 0 0]) vS) (nT : Yv W0 w 3 1 uT (n + 1) (nts tk ++ [I_ 0]) vT)
 (cC : w.cell? ⟨g, 2, none⟩ = some uC) (cS : w.cell? ⟨g, 3, none⟩ = some uS) (cT : w.cell? ⟨g, 4, none⟩ = some uT) (hst : ∀ k, vT.ownBlock = some k -> vA.ownBlock ≠ some k) :
 ∃ F', Rv w F' R B g { s with C := s.C ++ [⟨y1, y2, []⟩] } vP vL uC uS uT vA (ss ++ [.slice none 0 0]) (tk ++ [0]) /\ Ch F F' W0 w /\ ∀ k, uT.ownBlock = some k -> vA.ownBlock ≠ some k := by
 subst hn
 obtain ⟨⟨c2, c3, c4, hg⟩, ⟨a1, a2, a3, a4⟩, hfr⟩ := hB
 have e2 : c2 = uC := Option.some.inj ((Zb hg 2 _ rfl).symm.trans cC)
 have e3 : c3 = uS := Option.some.inj ((Zb hg 3 _ rfl).symm.trans cS)
 have e4 : c4 = uT := Option.some.inj ((Zb hg 4 _ rfl).symm.trans cT)
 subst e2 e3 e4
 have keep : ∀ {T : TypeId} {m : Nat} {v : Value} {len : Nat} {xs : List Value}, W0.ownsRow 0 T m v len xs -> T ≠ 91 -> (∀ k, v.ownBlock = some k -> vC.ownBlock ≠ some k /\ vS.ownBlock ≠ some k /\ vT.ownBlock ≠ some k) -> w.ownsRow 0 T m v len xs := fun hr hT hne =>
  Zj hr fun k hk => hfr k (Zf hr hk).2.1 (fun e => Zu hr h.at_ hT (e ▸ hk)) (hne k hk).1 (hne k hk).2.1 (hne k hk).2.2
 have apart : ∀ {T : TypeId} {m : Nat} {v : Value} {len : Nat} {xs : List Value}, W0.ownsRow 0 T m v len xs -> T ≠ 94 -> T ≠ 65 -> T ≠ 3 -> ∀ k, v.ownBlock = some k -> vC.ownBlock ≠ some k /\ vS.ownBlock ≠ some k /\ vT.ownBlock ≠ some k := fun hr t1 t2 t3 k hk =>
  ⟨Zo hr h.ch t1 k hk, Zo hr h.se t2 k hk, Zo hr h.ta t3 k hk⟩
 have hsA : ∀ k, c4.ownBlock = some k -> vA.ownBlock ≠ some k := fun k hk e => by
  rcases nT.2.2 k hk with h1 | h1
  · exact hst k h1 e
  · have := (Zf h.ato e).2.1
    omega
 have hsl := h.sl
 have htl := h.tl
 have inner : ∀ {v : Value} {len : Nat} {xs : List Value}, W0.ownsRow 0 64 3 v len xs -> w.ownsRow 0 64 3 v len xs := fun hr => keep hr (by decide) (apart hr (by decide) (by decide) (by decide))
 refine ⟨fun k => F k ∨ c2.ownBlock = some k ∨ c3.ownBlock = some k ∨ c4.ownBlock = some k, ?_, ⟨a1, a2, a3, a4, fun k hk hF => hfr k hk (fun e => hF (e ▸ h.fg)) (fun e => hF (h.fC k e)) (fun e => hF (h.fS k e)) (fun e => hF (h.fT k e)), fun k hk => ?_⟩, hsA⟩
 · exact { h with
    at_ := hg
    pl := inner h.pl
    lo := keep h.lo (by decide) (apart h.lo (by decide) (by decide) (by decide))
    ch := by
     rw [ccs_app]
     simpa using nC.2.1
    se := by simpa using nS.2.1
    ta := by
     have := nT.2.1
     unfold nts at this ⊢
     rw [List.map_append]
     simpa using this
    ato := keep h.ato (by decide) (fun k hk => ⟨Zo h.ato h.ch (by decide) k hk, Zo h.ato h.se (by decide) k hk, fun e => hst k e hk⟩)
    q := fun i q v t hq hv ht => by
     by_cases e : i < s.C.length
     · rw [List.getElem?_append_left e] at hq
       rw [List.getElem?_append_left (by omega)] at hv ht
       obtain ⟨f, m, h1, h2, h3, h4, h5, h6⟩ := h.q i q v t hq hv ht
       exact ⟨f, m, h1, h2, h3, h4, inner h5, h6⟩
     · rw [List.getElem?_append_right (by omega)] at hq hv ht
       have e0 : i - s.C.length = 0 := by
        rcases Nat.eq_zero_or_pos (i - s.C.length) with h0 | h0
        · exact h0
        · rw [List.getElem?_eq_none (by simp; omega)] at hq
          cases hq
       rw [hsl, e0] at hv
       rw [htl, e0] at ht
       rw [e0] at hq
       simp at hq hv ht
       subst hq hv ht
       exact ⟨[], 0, rfl, Nat.zero_le _, rfl, Nat.zero_le _, Yi _ _ _, fun k hk => by cases hk⟩
    ne := fun k h1 h2 => absurd h2 (hsA k h1)
    fg := .inl h.fg
    fP := fun k hk => .inl (h.fP k hk)
    fL := fun k hk => .inl (h.fL k hk)
    fC := fun k hk => .inr (.inl hk)
    fS := fun k hk => .inr (.inr (.inl hk))
    fT := fun k hk => .inr (.inr (.inr hk))
    fA := fun k hk => .inl (h.fA k hk)
    fb := fun k hk => by
     rcases hk with hk | hk | hk | hk
     · exact Nat.lt_of_lt_of_le (h.fb k hk) a4
     · exact (Zf nC.2.1 hk).2.1
     · exact (Zf nS.2.1 hk).2.1
     · exact (Zf nT.2.1 hk).2.1
    rb := fun k hk => Nat.lt_of_lt_of_le (h.rb k hk) a4
    fr := fun k hk e => by
     have hlt := h.rb k hk
     rcases e with e | e | e | e
     · exact h.fr k hk e
     · rcases nC.2.2 k e with h1 | h1
       · exact h.fr k hk (h.fC k h1)
       · omega
     · rcases nS.2.2 k e with h1 | h1
       · exact h.fr k hk (h.fS k h1)
       · omega
     · rcases nT.2.2 k e with h1 | h1
       · exact h.fr k hk (h.fT k h1)
       · omega
    small := by
     have := h.small
     simp
     omega
    rooms := fun q' hq' => by
     rcases List.mem_append.1 hq' with h1 | h1
     · exact h.rooms q' h1
     · simp at h1
       subst h1
       exact ⟨hr.1, hr.2, by simp; exact hr.1⟩ }
 · rcases hk with hk | hk | hk | hk
   · exact .inl hk
   · rcases nC.2.2 k hk with h1 | h1
     · exact .inl (h.fC k h1)
     · exact .inr h1
   · rcases nS.2.2 k hk with h1 | h1
     · exact .inl (h.fS k h1)
     · exact .inr h1
   · rcases nT.2.2 k hk with h1 | h1
     · exact .inl (h.fT k h1)
     · exact .inr h1
def RMk (w wc : World) (g : Nat) (s : St) : Prop := ∃ F vP vL vC vS vT vA ss tk, Rv wc F (fun _ => False) 0 g s vP vL vC vS vT vA ss tk /\ (∀ k, F k -> w.heap.size <= k) /\ Below w.heap.size w wc /\ ∀ k, vT.ownBlock = some k -> vA.ownBlock ≠ some k
def RNewP (w : World) (ok : Bool) (s : St) (e : Ending) (w' : World) : Prop := (ok = false /\ e = .returned (.tuple #[.pointer none, .bool false]) /\ Below w.heap.size w w') ∨
 (ok = true /\ ∃ g F, e = .returned (.tuple #[P_ g, .bool true]) /\ Rt w' F (fun _ => False) 0 g s /\ (∀ k, F k -> w.heap.size <= k) /\ Below w.heap.size w w')
theorem rmk_new {w W : World} {gb' gi gs mn an : Nat} (hm : mn <= 32) (ha : an <= 32) {vb vi : Value} (hvb : vb = .slice (some ⟨gb', 0, none⟩) mn mn) (hvi : vi = .slice (some ⟨gi, 0, none⟩) an an) (ob : W.ownsRow 0 4 1 vb mn (List.replicate mn (.bool false))) (oi : W.ownsRow 0 3 1 vi an (List.replicate an (I_ 0)))
 (hg : W.heap[gs]? = some (.cells #[.slice none 0 0, vb, .slice none 0 0, .slice none 0 0, .slice none 0 0, vi] 91 (0, 0))) (hb : w.heap.size <= gb' /\ w.heap.size <= gi /\ w.heap.size <= gs) (hB : Below w.heap.size w W) : RMk w W gs ⟨[], List.replicate mn false, [], List.replicate an 0⟩ := by
 refine ⟨fun k => k = gb' ∨ k = gi ∨ k = gs, .slice none 0 0, vb, .slice none 0 0, .slice none 0 0, .slice none 0 0, vi, [], [], { at_ := hg, pl := Yi _ _ _, lo := (by simpa [bls] using ob), ch := Yi _ _ _, se := Yi _ _ _, ta := Yi _ _ _, ato := (by simpa [nts] using oi), q := fun i q v t h _ _ => (by simp at h), ne := fun k h => (by cases h), fg := .inr (.inr rfl), fP := fun k h => (by cases h), fL := fun k h => ?_, fC := fun k h => (by cases h), fS := fun k h => (by cases h), fT := fun k h => (by cases h), fA := fun k h => ?_, fb := fun k h => ?_, rb := fun k h => h.elim, fr := fun k h => h.elim, small := (by simp; omega), rooms := fun q h => (by cases h) }, fun k h => by omega, hB, fun k h => by cases h⟩
 · subst hvb
   cases h
   exact .inl rfl
 · subst hvi
   cases h
   exact .inr (.inl rfl)
 · rcases h with rfl | rfl | rfl
   · exact (Zf ob (by rw [hvb]; rfl)).2.1
   · exact (Zf oi (by rw [hvi]; rfl)).2.1
   · exact Ze hg
theorem ZX {TS : TypeId} {w : World} {ops : Array Oper} {rest : List Oper} {o : Oper} {a : Act} {Q : Exit -> Act -> World -> Prop} (hgd : o.guard = none) (s x : Operand)
 (ho : o.op = .call { callee := .builtin .append, args := #[s, x], argTypes := #[TS, TS] }) (v vx : Value) (hs : a.eval s = v) (hx : a.eval x = vx) (R : Value -> World -> Prop)
 (hrun : ∃ v' w', (Builtin.append_ #[TS, TS] o.type #[v, vx]).run Tryz.prog w = .ok v' w' /\ R v' w')
 (h : ∀ v' w', R v' w' -> wpList Tryz.prog ops Q rest (a.put o.dst v') w') : wpList Tryz.prog ops Q (o :: rest) a w :=
 wpList_plain hgd fun _ hK => by
  obtain ⟨v', w', hr, hR⟩ := hrun
  unfold Oper.wp execOp
  simp only [ho, resolve, invoke, builtin, Sem.run_bind, Sem.run_pure, Result.andThen_ok, List.map_toArray, List.map_cons, List.map_nil, hs, hx, hr]
  exact hK _ _ (h v' w' hR)
theorem rnew_any (vPl vCh : Value) (ps : List Int) (cs : List (Int × Int)) (m a : Int) {w : World} (hP : Sl w vPl ps) (hC : SlC w vCh cs) : Calls Tryz.prog 22 #[vPl, I_ m, vCh, I_ a] w (RNewP w (okN ps m cs a) (newS ps m cs a)) := by
  obtain ⟨aP, lP, cP, rfl, hlP⟩ := hP.slice
  obtain ⟨aC, cC, eC, hcC, _, hcc⟩ := id hC
  obtain ⟨lC, hlC⟩ : ∃ n, n = cs.length := ⟨_, rfl⟩
  rw [← hlC] at eC hcC hcc
  subst eC
  have HP := Za (fun i hi => hP.at i hi)
  have HC := Za hcc
  clear hP hC hcc
  by_cases k0 : 128 < lP
  · have HOK : Hid (okN ps m cs a = false) := Za (by unfold okN fitB; simp; omega)
    have k0' : (128 : Int) < (lP : Int) := by omega
    clear hlP hlC hcC
    go_enter Tryz.func22, Tryz.ntmps22
    go_wp2_with fail
    go_ret2
    exact .inl ⟨HOK.out, rfl, Below.refl _ _⟩
  have k0' : (lP : Int) <= 128 := by omega
  by_cases k1 : m < 0
  · have HOK : Hid (okN ps m cs a = false) := Za (by unfold okN fitB; simp; omega)
    skip
    clear hlP hlC hcC
    go_enter Tryz.func22, Tryz.ntmps22
    go_wp2_with fail
    go_ret2
    exact .inl ⟨HOK.out, rfl, Below.refl _ _⟩
  have k1' : 0 <= m := by omega
  by_cases k2 : 32 < m
  · have HOK : Hid (okN ps m cs a = false) := Za (by unfold okN fitB; simp; omega)
    skip
    clear hlP hlC hcC
    go_enter Tryz.func22, Tryz.ntmps22
    go_wp2_with fail
    go_ret2
    exact .inl ⟨HOK.out, rfl, Below.refl _ _⟩
  have k2' : m <= 32 := by omega
  by_cases k3 : a < 0
  · have HOK : Hid (okN ps m cs a = false) := Za (by unfold okN fitB; simp; omega)
    skip
    clear hlP hlC hcC
    go_enter Tryz.func22, Tryz.ntmps22
    go_wp2_with fail
    go_ret2
    exact .inl ⟨HOK.out, rfl, Below.refl _ _⟩
  have k3' : 0 <= a := by omega
  by_cases k4 : 32 < a
  · have HOK : Hid (okN ps m cs a = false) := Za (by unfold okN fitB; simp; omega)
    skip
    clear hlP hlC hcC
    go_enter Tryz.func22, Tryz.ntmps22
    go_wp2_with fail
    go_ret2
    exact .inl ⟨HOK.out, rfl, Below.refl _ _⟩
  have k4' : a <= 32 := by omega
  by_cases k5 : 32 < lC
  · have HOK : Hid (okN ps m cs a = false) := Za (by unfold okN fitB; simp; omega)
    have k5' : (32 : Int) < (lC : Int) := by omega
    clear hlP hlC hcC
    go_enter Tryz.func22, Tryz.ntmps22
    go_wp2_with fail
    go_ret2
    exact .inl ⟨HOK.out, rfl, Below.refl _ _⟩
  have k5' : (lC : Int) <= 32 := by omega
  obtain ⟨mn, rfl⟩ := Int.eq_ofNat_of_zero_le k1'
  obtain ⟨an, rfl⟩ := Int.eq_ofNat_of_zero_le k3'
  have hmn : mn <= 32 := by omega
  have han : an <= 32 := by omega
  have hlC32 : lC <= 32 := by omega
  have HLP := Za hlP
  have HLC := Za hlC
  have HSZ : Hid (ps.any badT = false -> cs.any badC = false -> okN ps (mn : Nat) cs (an : Nat) = true) := Za (fun h1 h2 => by unfold okN fitB; simp [h1, h2]; omega)
  have HB1 : Hid (ps.any badT = true -> okN ps (mn : Nat) cs (an : Nat) = false) := Za (fun h1 => by unfold okN; simp [h1])
  have HB2 : Hid (cs.any badC = true -> okN ps (mn : Nat) cs (an : Nat) = false) := Za (fun h1 => by unfold okN; simp [h1])
  clear k0 k1 k2 k3 k4 k5 k1' k3' hlP hlC
  go_enter Tryz.func22, Tryz.ntmps22
  go_wp2_with fail
  go_cut [10] from 39 to 44 (fun x wc => ∃ g, x = P_ g /\ Hid (RMk w wc g ⟨[], List.replicate mn false, [], List.replicate an 0⟩))
  case first =>
    have B0 := Za (Zp (Below.refl w.heap.size w))
    refine wp_region_any ZJ ?_
    change wpAny _ _ _ _ _ _ _ (World.drew _)
    generalize World.drew _ = W0 at *
    refine T2_ 0 ?_
    simp only [Act.put, S_]
    refine T2_ 2 ?_
    simp only [Act.put, S_]
    refine wpAny_ready (rs := [1, 3]) (by kernel_rfl) (by decide) ?_
    refine AllReady.cons rfl (fun K1 hK1 => ?_) (AllReady.cons rfl (fun K1 hK1 => ?_) AllReady.nil)
    · have q := run_mkB mn hmn
      go_simp
      refine hK1 _ _ ?_
      clear hK1 K1 q
      refine R_ 3 (fun K1 hK1 => ?_)
      have q := run_mkI an han
      go_simp
      refine hK1 _ _ ?_
      clear hK1 K1 q
      refine T2_ 4 ?_
      simp only [Act.put, S_]
      refine R_ 5 (fun K1 hK1 => ?_)
      go_simp
      refine hK1 _ _ ?_
      clear hK1 K1
      refine T2_ 6 ?_
      simp only [Act.put, S_]
      refine wpAny_done (by kernel_rfl) ?_ _
      have h1 := own_made W0 (.bool false) mn 4 hmn
      have h2 := own_made (W0.alloc (.cells (madeCells #[.bool false] mn) 4)) (I_ 0) an 3 han
      have hs1 : (W0.alloc (.cells (madeCells #[.bool false] mn) 4)).heap.size = W0.heap.size + 1 := by simp
      have hs2 : ((W0.alloc (.cells (madeCells #[.bool false] mn) 4)).alloc (.cells (madeCells #[I_ 0] an) 3)).heap.size = W0.heap.size + 1 + 1 := by simp
      rw [hs1] at h2
      have hz := B0.out.size
      have h3 := Zj h1 (fun k hk => (Zd _ (.cells (madeCells #[I_ 0] an) 3)).block k (Zf h1 hk).2.1)
      have h4 := Zj h3 (fun k hk => (Zd _ (.cells #[.slice none 0 0, .slice (some ⟨W0.heap.size, 0, none⟩) mn mn, .slice none 0 0, .slice none 0 0, .slice none 0 0, .slice (some ⟨W0.heap.size + 1, 0, none⟩) an an] 91)).block k (Zf h3 hk).2.1)
      have h5 := Zj h2 (fun k hk => (Zd _ (.cells #[.slice none 0 0, .slice (some ⟨W0.heap.size, 0, none⟩) mn mn, .slice none 0 0, .slice none 0 0, .slice none 0 0, .slice (some ⟨W0.heap.size + 1, 0, none⟩) an an] 91)).block k (Zf h2 hk).2.1)
      have M0 := Za (rmk_new (w := w) hmn han rfl rfl h4 h5 (hs2 ▸ B_ ((W0.alloc (.cells (madeCells #[.bool false] mn) 4)).alloc (.cells (madeCells #[I_ 0] an) 3)) (.cells #[.slice none 0 0, .slice (some ⟨W0.heap.size, 0, none⟩) mn mn, .slice none 0 0, .slice none 0 0, .slice none 0 0, .slice (some ⟨W0.heap.size + 1, 0, none⟩) an an] 91)) ⟨by omega, by omega, by omega⟩ (Zv (Zv (Zv B0.out _) _) _))
      clear h1 h2 h3 h4 h5 hs1 hs2
      go_wp2_with fail
      go_meet
      case rel => exact ⟨_, rfl, M0⟩
    · have q := run_mkI an han
      go_simp
      refine hK1 _ _ ?_
      clear hK1 K1 q
      refine R_ 1 (fun K1 hK1 => ?_)
      have q := run_mkB mn hmn
      go_simp
      refine hK1 _ _ ?_
      clear hK1 K1 q
      refine T2_ 4 ?_
      simp only [Act.put, S_]
      refine R_ 5 (fun K1 hK1 => ?_)
      go_simp
      refine hK1 _ _ ?_
      clear hK1 K1
      refine T2_ 6 ?_
      simp only [Act.put, S_]
      refine wpAny_done (by kernel_rfl) ?_ _
      have h1 := own_made W0 (I_ 0) an 3 han
      have h2 := own_made (W0.alloc (.cells (madeCells #[I_ 0] an) 3)) (.bool false) mn 4 hmn
      have hs1 : (W0.alloc (.cells (madeCells #[I_ 0] an) 3)).heap.size = W0.heap.size + 1 := by simp
      have hs2 : ((W0.alloc (.cells (madeCells #[I_ 0] an) 3)).alloc (.cells (madeCells #[.bool false] mn) 4)).heap.size = W0.heap.size + 1 + 1 := by simp
      rw [hs1] at h2
      have hz := B0.out.size
      have h3 := Zj h1 (fun k hk => (Zd _ (.cells (madeCells #[.bool false] mn) 4)).block k (Zf h1 hk).2.1)
      have h4 := Zj h3 (fun k hk => (Zd _ (.cells #[.slice none 0 0, .slice (some ⟨W0.heap.size + 1, 0, none⟩) mn mn, .slice none 0 0, .slice none 0 0, .slice none 0 0, .slice (some ⟨W0.heap.size, 0, none⟩) an an] 91)).block k (Zf h3 hk).2.1)
      have h5 := Zj h2 (fun k hk => (Zd _ (.cells #[.slice none 0 0, .slice (some ⟨W0.heap.size + 1, 0, none⟩) mn mn, .slice none 0 0, .slice none 0 0, .slice none 0 0, .slice (some ⟨W0.heap.size, 0, none⟩) an an] 91)).block k (Zf h2 hk).2.1)
      have M0 := Za (rmk_new (w := w) hmn han rfl rfl h5 h4 (hs2 ▸ B_ ((W0.alloc (.cells (madeCells #[I_ 0] an) 3)).alloc (.cells (madeCells #[.bool false] mn) 4)) (.cells #[.slice none 0 0, .slice (some ⟨W0.heap.size + 1, 0, none⟩) mn mn, .slice none 0 0, .slice none 0 0, .slice none 0 0, .slice (some ⟨W0.heap.size, 0, none⟩) an an] 91)) ⟨by omega, by omega, by omega⟩ (Zv (Zv (Zv B0.out _) _) _))
      clear h1 h2 h3 h4 h5 hs1 hs2
      go_wp2_with fail
      go_meet
      case rel => exact ⟨_, rfl, M0⟩
  case rest =>
    obtain ⟨g, rfl, M0⟩ := hcut
    go_wp2_with fail
    go_loopw [12, 47] (fun x i wr => ∃ k : Nat, k <= lP /\ i = I_ k /\ Hid (RMk w wr g ⟨zz (ps.take k), List.replicate mn false, [], List.replicate an 0⟩) /\ Hid (∀ j, j < k -> badT (ps.getD j 0) = false)) (fun x i _ => lP - (intOf i).toNat)
    case atStart => exact ⟨0, Nat.zero_le _, rfl, M0, fun j hj => absurd hj (Nat.not_lt_zero _)⟩
    case round =>
     obtain ⟨k, hk, rfl, M1, GA⟩ := hrel
     clear M0
     by_cases hlt : k < lP
     · have hlt' : (k : Int) < (lP : Int) := by omega
       obtain ⟨b1, o1, rfl, hb1, hc1⟩ := HP.out k hlt
       obtain ⟨F, vP, vL, vC, vS, vT, vA, ss, tk, S, hF, hB, hst⟩ := M1.out
       have hcr := (hB.cell (p := ⟨b1, o1 + k, none⟩) hb1).trans hc1
       have HYB : Hid (badT (ps.getD k 0) = true -> okN ps (mn : Nat) cs (an : Nat) = false) := Za (fun h => HB1.out (any_yes ps _ 0 k (by have := HLP.out; omega) h))
       have HGA : Hid (badT (ps.getD k 0) = false -> ∀ j, j < k + 1 -> badT (ps.getD j 0) = false) := Za (fun h j hj => by
         by_cases e : j = k
         · rw [e]; exact h
         · exact GA.out j (by omega))
       have HSN : Hid (zz (ps.take (k + 1)) = zz (ps.take k) ++ [(ps.getD k 0, 0, 0)]) := Za (by rw [take_snoc ps k 0 (by have := HLP.out; omega)]; simp [zz])
       have HLS : Hid ((zz (ps.take k)).length < 128) := Za (by simp [zz]; have := HLP.out; omega)
       generalize ps.getD k 0 = y at *
       have HBL := Za hB
       by_cases y1 : y < 1
       · have HN := Za (HYB.out (by unfold badT Yf; rw [if_neg (by omega)]; rfl))
         clear S hF hB hst M1 hc1 HYB HGA GA
         go_wp2_with fail
         go_ret2
         exact .inl ⟨HN.out, rfl, HBL.out⟩
       by_cases y3 : 3 < y
       · have HN := Za (HYB.out (by unfold badT Yf; rw [if_neg (by omega)]; rfl))
         have y1' : 1 <= y := by omega
         clear S hF hB hst M1 hc1 HYB HGA GA y1
         go_wp2_with fail
         go_ret2
         exact .inl ⟨HN.out, rfl, HBL.out⟩
       have y1' : 1 <= y := by omega
       have y3' : y <= 3 := by omega
       have GA2 := Za (HGA.out (by unfold badT Yf; rw [if_pos (by omega)]; simp; omega))
       obtain ⟨aQ, cQ, eQ, _⟩ := Zl S.pl
       obtain ⟨nQ, hnQ⟩ : ∃ n, n = (zz (ps.take k)).length := ⟨_, rfl⟩
       rw [show ({ P := zz (ps.take k), M := List.replicate mn false, C := [], A := List.replicate an 0 } : St).P.length = nQ from hnQ.symm] at eQ
       subst eQ
       have PU := Za (fun ty => S.pushP (y, 0, 0) HLS.out ty)
       have s0 := S.cells.1
       have hgl := S.fb g S.fg
       have HF := Za (And.intro hF hst)
       clear S hB hF hst M1 hc1 hnQ HYB HGA GA y1 y3
       go_wp2_with (first | (at_builtin; refine ZX (TS := 65) rfl (.tmp 61) (.tmp 64) rfl _ _ rfl rfl _ (PU.out _) ?_; rintro v9 w9 ⟨⟨a9, l9, c9, rfl⟩, z1, z2, r9⟩; have R9 := Za r9; clear r9))
       go_roundw
       case rel =>
         refine ⟨k + 1, by omega, by go_num, ?_, GA2⟩
         rw [HSN.out]
         exact ⟨_, _, _, _, _, _, _, _, _, R9.out.1, R9.out.2.low HF.out.1 HBL.out.size, HBL.out.trans (R9.out.2.bel HF.out.1 HBL.out.size), HF.out.2⟩
       case measure => simp [intOf]; omega
     · obtain rfl : k = lP := by omega
       have M2 : Hid (RMk w wr g ⟨zz ps, List.replicate mn false, cz (cs.take 0), List.replicate an 0⟩) := Za (by
         have := M1.out
         rw [List.take_of_length_le (by have := HLP.out; omega)] at this
         exact this)
       have GP : Hid (ps.any badT = false) := Za (any_not ps _ 0 (fun j hj => GA.out j (by have := HLP.out; omega)))
       clear M1 GA
       go_wp2_with fail
       go_loopw [14, 71] (fun x i wr => ∃ k : Nat, k <= lC /\ i = I_ k /\ Hid (RMk w wr g ⟨zz ps, List.replicate mn false, cz (cs.take k), List.replicate an 0⟩) /\ Hid (∀ j, j < k -> badC (cs.getD j (0, 0)) = false)) (fun x i _ => lC - (intOf i).toNat)
       case atStart => exact ⟨0, Nat.zero_le _, rfl, M2, fun j hj => absurd hj (Nat.not_lt_zero _)⟩
       case round =>
        obtain ⟨k, hk, rfl, M1, GA⟩ := hrel
        clear M2
        by_cases hlt : k < lC
        · have hlt' : (k : Int) < (lC : Int) := by omega
          obtain ⟨b1, o1, rfl, hb1, hc1, hc2⟩ := HC.out k hlt
          obtain ⟨F, vP, vL, vC, vS, vT, vA, ss, tk, S, hF, hB, hst⟩ := M1.out
          have hcr := (hB.cell (p := ⟨b1, o1 + k * 2, none⟩) hb1).trans hc1
          have hcs := (hB.cell (p := ⟨b1, o1 + k * 2 + 1, none⟩) hb1).trans hc2
          have HYB : Hid (badC (cs.getD k (0, 0)) = true -> okN ps (mn : Nat) cs (an : Nat) = false) := Za (fun h => HB2.out (any_yes cs _ (0, 0) k (by have := HLC.out; omega) h))
          have HGA : Hid (badC (cs.getD k (0, 0)) = false -> ∀ j, j < k + 1 -> badC (cs.getD j (0, 0)) = false) := Za (fun h j hj => by
            by_cases e : j = k
            · rw [e]; exact h
            · exact GA.out j (by omega))
          have HSN : Hid (cz (cs.take (k + 1)) = cz (cs.take k) ++ [⟨(cs.getD k (0, 0)).1, (cs.getD k (0, 0)).2, []⟩]) := Za (by rw [take_snoc cs k (0, 0) (by have := HLC.out; omega)]; simp [cz])
          have hbcd : badC (cs.getD k (0, 0)) = chanB (cs.getD k (0, 0)).1 (cs.getD k (0, 0)).2 := rfl
          rw [hbcd] at HYB HGA
          clear hbcd
          generalize (cs.getD k (0, 0)).1 = y1 at *
          generalize (cs.getD k (0, 0)).2 = y2 at *
          have HBL := Za (Zv hB (.cells #[I_ y1, I_ y2] 94))
          by_cases t1 : y1 < 1
          · have HN := Za (HYB.out (by unfold chanB Yf; rw [if_neg (by omega)]; rfl))
            clear S hF hB hst M1 hc1 hc2 HYB HGA GA
            go_wp2_with fail
            go_ret2
            exact .inl ⟨HN.out, rfl, HBL.out⟩
          have t1' : 1 <= y1 := by omega
          clear t1
          by_cases t3 : 3 < y1
          · have HN := Za (HYB.out (by unfold chanB Yf; rw [if_neg (by omega)]; rfl))
            clear S hF hB hst M1 hc1 hc2 HYB HGA GA
            go_wp2_with fail
            go_ret2
            exact .inl ⟨HN.out, rfl, HBL.out⟩
          have t3' : y1 <= 3 := by omega
          clear t3
          by_cases r0 : y2 < 0
          · have HN := Za (HYB.out (by unfold chanB Yf; simp; omega))
            clear S hF hB hst M1 hc1 hc2 HYB HGA GA
            go_wp2_with fail
            go_ret2
            exact .inl ⟨HN.out, rfl, HBL.out⟩
          have r0' : 0 <= y2 := by omega
          clear r0
          by_cases r8 : 8 < y2
          · have HN := Za (HYB.out (by unfold chanB Yf; simp; omega))
            clear S hF hB hst M1 hc1 hc2 HYB HGA GA
            go_wp2_with fail
            go_ret2
            exact .inl ⟨HN.out, rfl, HBL.out⟩
          have r8' : y2 <= 8 := by omega
          clear r8
          have GA2 := Za (HGA.out (by unfold chanB Yf; rw [if_pos (by omega)]; simp; omega))
          have X0 : Hid ((wr.alloc (.cells #[I_ y1, I_ y2] 94)).drew.heap[wr.heap.size]? = some (.cells #[I_ y1, I_ y2] 94 (0, 0))) := Za (B_ wr _)
          have S0 := Za (S.bel (Zp (Zd wr (.cells #[I_ y1, I_ y2] 94))))
          have HF := Za (And.intro hF hst)
          have HBD := Za (Zp HBL.out)
          have HLT := Za (S.fb)
          have hkn : (cz (cs.take k)).length = k := by simp [cz]; have := HLC.out; omega
          have HK := Za hkn
          clear S hB hF hst M1 hc1 hc2 HYB HGA GA HBL hkn
          go_wp2_with fail
          refine wp_fill ZO (fun j => if j < 24 then 93 + j else if j = 25 then 117 else if j = 26 then 118 else if j = 28 then 119 else 120) (fun k j hk => by rcases Zz hk with ⟨h1, h2⟩ | ⟨h1, h2⟩ | ⟨h1, h2⟩ | ⟨h1, h2⟩ | ⟨h1, h2⟩ <;> simp [h1, h2]) (fun a0 u0 ha0 => ?_)
          have hsz : 120 < a0.tmps.size := by rw [ha0]; simp
          have h10 : a0.eval (.tmp 10) = P_ g := by rw [ha0]; rfl
          have h14 : a0.eval (.tmp 14) = P_ wr.heap.size := by rw [ha0]; rfl
          have S1 := S0.out
          obtain ⟨gb, hgb⟩ : ∃ gb, gb = wr.heap.size := ⟨_, rfl⟩
          have hgb1 : gb ≠ g := fun e => by have := HLT.out g S1.fg; omega
          have c16 : NC (wr.alloc (.cells #[I_ y1, I_ y2] 94)).drew g gb k y1 y2 vP vL vC vS vT vA (ccs (cz (cs.take k))) ss (nts tk) := ⟨S1.at_, by have := S1.ch; rw [show (St.C ⟨zz ps, List.replicate mn false, cz (cs.take k), List.replicate an 0⟩).length = k from HK.out] at this; exact this, by have := S1.se; rw [show (St.C ⟨zz ps, List.replicate mn false, cz (cs.take k), List.replicate an 0⟩).length = k from HK.out] at this; exact this, by have := S1.ta; rw [show (St.C ⟨zz ps, List.replicate mn false, cz (cs.take k), List.replicate an 0⟩).length = k from HK.out] at this; exact this, by rw [hgb]; exact X0.out, fun e => by have := HLT.out gb (S1.fC gb e); omega, by omega⟩
          have hgb2 : vS.ownBlock ≠ some gb := fun e => by have := HLT.out gb (S1.fS gb e); omega
          have hgb3 : vT.ownBlock ≠ some gb := fun e => by have := HLT.out gb (S1.fT gb e); omega
          rw [← hgb] at h14
          generalize hW0 : (wr.alloc _).drew = W0 at *
          refine wp_region_local (A := ZK ZO a0) (Fa := NF W0 g gb k y1 y2 vP vL vC vS vT vA (ccs (cz (cs.take k))) ss (nts tk)) (Ga := NG W0 g gb k y1 y2 vP vL vC vS vT vA (ccs (cz (cs.take k))) ss (nts tk)) (Rel := NRel g vC vS vT) ZJ (by kernel_rfl) (fun i j u v w w' hij hd hj hr hf => nf_keep c16 i j u v w w' hij ⟨?_, ?_, ?_⟩ hj hr hf) (fun i j u v w w' hij hr hf => ng_keep c16 i j u v w w' hij hr hf) ?_ ?_ ?_
          · intro e1 e2
            subst e1 e2
            exact absurd (hd.symm.trans (show _ = true by kernel_rfl)) (by decide)
          · intro e1 e2
            subst e1 e2
            exact absurd (hd.symm.trans (show _ = true by kernel_rfl)) (by decide)
          · intro e1 e2
            subst e1 e2
            exact absurd (hd.symm.trans (show _ = true by kernel_rfl)) (by decide)
          · intro i hi u wx hd hl hg
            obtain rfl | rfl | rfl | rfl | rfl | rfl | rfl | rfl | rfl | rfl | rfl | rfl | rfl | rfl | rfl | rfl | rfl | rfl | rfl | rfl | rfl | rfl | rfl | rfl | rfl | rfl | rfl | rfl | rfl | rfl | rfl : i = 0 ∨ i = 1 ∨ i = 2 ∨ i = 3 ∨ i = 4 ∨ i = 5 ∨ i = 6 ∨ i = 7 ∨ i = 8 ∨ i = 9 ∨ i = 10 ∨ i = 11 ∨ i = 12 ∨ i = 13 ∨ i = 14 ∨ i = 15 ∨ i = 16 ∨ i = 17 ∨ i = 18 ∨ i = 19 ∨ i = 20 ∨ i = 21 ∨ i = 22 ∨ i = 23 ∨ i = 24 ∨ i = 25 ∨ i = 26 ∨ i = 27 ∨ i = 28 ∨ i = 29 ∨ i = 30 := by have : i < 31 := hi; omega
            · have e10 : (ZK ZO a0 u).eval (.tmp 10) = P_ g := (fill_out rfl).trans h10
              refine ZE rfl rfl (P_ g) wx (by generalize (ZK ZO a0 u).eval = ev at *; simp [execOp, e10]) ⟨_, ZG (d := 93) rfl (fun k hk => by have := Zz hk; omega), .inl (World.grownBy.refl _ _), hg.1, ZF _ _ _⟩
            · have e10 : (ZK ZO a0 u).eval (.tmp 10) = P_ g := (fill_out rfl).trans h10
              refine ZE rfl rfl (P_ g) wx (by generalize (ZK ZO a0 u).eval = ev at *; simp [execOp, e10]) ⟨_, ZG (d := 94) rfl (fun k hk => by have := Zz hk; omega), .inl (World.grownBy.refl _ _), hg.1, ZF _ _ _⟩
            · have e10 : (ZK ZO a0 u).eval (.tmp 10) = P_ g := (fill_out rfl).trans h10
              refine ZE rfl rfl (P_ g) wx (by generalize (ZK ZO a0 u).eval = ev at *; simp [execOp, e10]) ⟨_, ZG (d := 95) rfl (fun k hk => by have := Zz hk; omega), .inl (World.grownBy.refl _ _), hg.1, ZF _ _ _⟩
            · have e10 : (ZK ZO a0 u).eval (.tmp 10) = P_ g := (fill_out rfl).trans h10
              refine ZE rfl rfl (P_ g) wx (by generalize (ZK ZO a0 u).eval = ev at *; simp [execOp, e10]) ⟨_, ZG (d := 96) rfl (fun k hk => by have := Zz hk; omega), .inl (World.grownBy.refl _ _), hg.1, ZF _ _ _⟩
            · have e96 : (ZK ZO a0 u).eval (.tmp 96) = u 3 := ZQ (by omega) rfl
              have f3 : u 3 = P_ g := (hd 3 (by kernel_rfl)).2
              rw [f3] at e96
              refine ZE rfl rfl (P_ g) wx (by generalize (ZK ZO a0 u).eval = ev at *; simp [execOp, e96, go_sem]) ⟨_, ZG (d := 97) rfl (fun k hk => by have := Zz hk; omega), .inl (World.grownBy.refl _ _), hg.1, ZF _ _ _⟩
            · have e97 : (ZK ZO a0 u).eval (.tmp 97) = u 4 := ZQ (by omega) rfl
              have f4 : u 4 = P_ g := (hd 4 (by kernel_rfl)).2
              rw [f4] at e97
              refine ZE rfl rfl (.pointer (some ⟨g, 2, none⟩)) wx (by generalize (ZK ZO a0 u).eval = ev at *; simp [execOp, e97, go_sem]) ⟨_, ZG (d := 98) rfl (fun k hk => by have := Zz hk; omega), .inl (World.grownBy.refl _ _), hg.1, ZF _ _ _⟩
            · have e98 : (ZK ZO a0 u).eval (.tmp 98) = u 5 := ZQ (by omega) rfl
              have f5 : u 5 = .pointer (some ⟨g, 2, none⟩) := (hd 5 (by kernel_rfl)).2
              rw [f5] at e98
              have hc : wx.cell? ⟨g, 2, none⟩ = some vC := (hl 24 (by kernel_rfl)).2
              refine ZE rfl rfl vC wx (by generalize (ZK ZO a0 u).eval = ev at *; simp [execOp, e98, go_sem, hc]) ⟨_, ZG (d := 99) rfl (fun k hk => by have := Zz hk; omega), .inl (World.grownBy.refl _ _), hg.1, ZF _ _ _⟩
            · have e14 : (ZK ZO a0 u).eval (.tmp 14) = P_ gb := (fill_out rfl).trans h14
              have hbx := hg.1.2.2 gb (Ze c16.box) hgb1 c16.boxC hgb2 hgb3
              have b0 := Zb (hbx.trans c16.box) 0 _ rfl
              have b1 := Zb (hbx.trans c16.box) 1 _ rfl
              refine ZE rfl rfl (.agg #[I_ y1, I_ y2]) wx (by generalize (ZK ZO a0 u).eval = ev at *; simp [execOp, e14, go_sem, b0, b1]) ⟨_, ZG (d := 100) rfl (fun k hk => by have := Zz hk; omega), .inl (World.grownBy.refl _ _), hg.1, ZF _ _ _⟩
            · have e100 : (ZK ZO a0 u).eval (.tmp 100) = u 7 := ZQ (by omega) rfl
              have f7 : u 7 = .agg #[I_ y1, I_ y2] := (hd 7 (by kernel_rfl)).2
              rw [f7] at e100
              refine ZE rfl rfl (.slice (some ⟨wx.heap.size, 0, none⟩) 1 1) (wx.alloc (.cells #[I_ y1, I_ y2] 94)) (by generalize (ZK ZO a0 u).eval = ev at *; simp [execOp, go_sem, e100]) ⟨_, ZG (d := 101) rfl (fun k hk => by have := Zz hk; omega), .inl (gb_none (Zd _ _)), (hg.1.grown c16 (.inl rfl) (gb_none (Zd _ _))).1, wx.heap.size, ZF _ _ _, hg.1.2.1.2.2.2, B_ _ _⟩
            · have e99 : (ZK ZO a0 u).eval (.tmp 99) = u 6 := ZQ (by omega) rfl
              have f6 : u 6 = vC := (hd 6 (by kernel_rfl)).2
              rw [f6] at e99
              have e101 : (ZK ZO a0 u).eval (.tmp 101) = u 8 := ZQ (by omega) rfl
              obtain ⟨kx, fx1, fx2, fx3⟩ : ∃ k, u 8 = .slice (some ⟨k, 0, none⟩) 1 1 /\ W0.heap.size <= k /\ wx.heap[k]? = some (.cells #[I_ y1, I_ y2] 94 (0, 0)) := (hd 8 (by kernel_rfl)).2
              rw [fx1] at e101
              obtain ⟨v9, w9, hrun, o9, g9, f9⟩ := push_any (ys := [I_ y1, I_ y2]) Tryz.underlying23 info_chan rfl (by decide) (by decide) hg.2 c16.nl rfl (fun j u hu => Zb fx3 j u (by simpa using hu)) (by intro u hu; simp at hu; first | (subst hu; rfl) | (rcases hu with rfl | rfl <;> rfl)) 23
              obtain ⟨a9, c9, e9, _⟩ := Zl o9
              refine ZE rfl rfl v9 w9 (by generalize (ZK ZO a0 u).eval = ev at *; simp only [List.getElem_toArray, List.getElem_cons_zero, List.getElem_cons_succ, execOp, resolve, invoke, builtin, Sem.run_bind, Sem.run_pure, Result.andThen_ok, List.map_toArray, List.map_cons, List.map_nil, e99, e101, hrun]) ⟨_, ZG (d := 102) rfl (fun k hk => by have := Zz hk; omega), .inr (.inl ⟨rfl, g9⟩), (hg.1.grown c16 (.inr (.inl rfl)) g9).1, ?_⟩
              show Yv W0 w9 94 2 (upd u 9 v9 9) (k + 1) (ccs (cz (cs.take k)) ++ [I_ y1, I_ y2]) vC
              rw [ZF]
              exact ⟨⟨_, _, e9⟩, o9, fun k hk => (f9 k hk).imp id (fun h => Nat.le_trans hg.1.2.1.2.2.2 h)⟩
            · have e10 : (ZK ZO a0 u).eval (.tmp 10) = P_ g := (fill_out rfl).trans h10
              refine ZE rfl rfl (P_ g) wx (by generalize (ZK ZO a0 u).eval = ev at *; simp [execOp, e10]) ⟨_, ZG (d := 103) rfl (fun k hk => by have := Zz hk; omega), .inl (World.grownBy.refl _ _), hg.1, ZF _ _ _⟩
            · have e103 : (ZK ZO a0 u).eval (.tmp 103) = u 10 := ZQ (by omega) rfl
              have f10 : u 10 = P_ g := (hd 10 (by kernel_rfl)).2
              rw [f10] at e103
              refine ZE rfl rfl (P_ g) wx (by generalize (ZK ZO a0 u).eval = ev at *; simp [execOp, e103, go_sem]) ⟨_, ZG (d := 104) rfl (fun k hk => by have := Zz hk; omega), .inl (World.grownBy.refl _ _), hg.1, ZF _ _ _⟩
            · have e104 : (ZK ZO a0 u).eval (.tmp 104) = u 11 := ZQ (by omega) rfl
              have f11 : u 11 = P_ g := (hd 11 (by kernel_rfl)).2
              rw [f11] at e104
              refine ZE rfl rfl (.pointer (some ⟨g, 3, none⟩)) wx (by generalize (ZK ZO a0 u).eval = ev at *; simp [execOp, e104, go_sem]) ⟨_, ZG (d := 105) rfl (fun k hk => by have := Zz hk; omega), .inl (World.grownBy.refl _ _), hg.1, ZF _ _ _⟩
            · have e105 : (ZK ZO a0 u).eval (.tmp 105) = u 12 := ZQ (by omega) rfl
              have f12 : u 12 = .pointer (some ⟨g, 3, none⟩) := (hd 12 (by kernel_rfl)).2
              rw [f12] at e105
              have hc : wx.cell? ⟨g, 3, none⟩ = some vS := (hl 27 (by kernel_rfl)).2
              refine ZE rfl rfl vS wx (by generalize (ZK ZO a0 u).eval = ev at *; simp [execOp, e105, go_sem, hc]) ⟨_, ZG (d := 106) rfl (fun k hk => by have := Zz hk; omega), .inl (World.grownBy.refl _ _), hg.1, ZF _ _ _⟩
            · have e100 : (ZK ZO a0 u).eval (.const (.slice none 0 0)) = .slice none 0 0 := rfl
              refine ZE rfl rfl (.slice (some ⟨wx.heap.size, 0, none⟩) 1 1) (wx.alloc (.cells #[.slice none 0 0] 65)) (by generalize (ZK ZO a0 u).eval = ev at *; simp [execOp, go_sem, e100]) ⟨_, ZG (d := 107) rfl (fun k hk => by have := Zz hk; omega), .inl (gb_none (Zd _ _)), (hg.1.grown c16 (.inl rfl) (gb_none (Zd _ _))).1, wx.heap.size, ZF _ _ _, hg.1.2.1.2.2.2, B_ _ _⟩
            · have e106 : (ZK ZO a0 u).eval (.tmp 106) = u 13 := ZQ (by omega) rfl
              have f13 : u 13 = vS := (hd 13 (by kernel_rfl)).2
              rw [f13] at e106
              have e107 : (ZK ZO a0 u).eval (.tmp 107) = u 14 := ZQ (by omega) rfl
              obtain ⟨kx, fx1, fx2, fx3⟩ : ∃ k, u 14 = .slice (some ⟨k, 0, none⟩) 1 1 /\ W0.heap.size <= k /\ wx.heap[k]? = some (.cells #[.slice none 0 0] 65 (0, 0)) := (hd 14 (by kernel_rfl)).2
              rw [fx1] at e107
              obtain ⟨v9, w9, hrun, o9, g9, f9⟩ := push_any (ys := [.slice none 0 0]) Tryz.underlying89 info_slv rfl (by decide) (by decide) hg.2 c16.nl rfl (fun j u hu => Zb fx3 j u (by simpa using hu)) (by intro u hu; simp at hu; first | (subst hu; rfl) | (rcases hu with rfl | rfl <;> rfl)) 89
              obtain ⟨a9, c9, e9, _⟩ := Zl o9
              refine ZE rfl rfl v9 w9 (by generalize (ZK ZO a0 u).eval = ev at *; simp only [List.getElem_toArray, List.getElem_cons_zero, List.getElem_cons_succ, execOp, resolve, invoke, builtin, Sem.run_bind, Sem.run_pure, Result.andThen_ok, List.map_toArray, List.map_cons, List.map_nil, e106, e107, hrun]) ⟨_, ZG (d := 108) rfl (fun k hk => by have := Zz hk; omega), .inr (.inr (.inl ⟨rfl, g9⟩)), (hg.1.grown c16 (.inr (.inr (.inl rfl))) g9).1, ?_⟩
              show Yv W0 w9 65 1 (upd u 15 v9 15) (k + 1) (ss ++ [.slice none 0 0]) vS
              rw [ZF]
              exact ⟨⟨_, _, e9⟩, o9, fun k hk => (f9 k hk).imp id (fun h => Nat.le_trans hg.1.2.1.2.2.2 h)⟩
            · have e10 : (ZK ZO a0 u).eval (.tmp 10) = P_ g := (fill_out rfl).trans h10
              refine ZE rfl rfl (P_ g) wx (by generalize (ZK ZO a0 u).eval = ev at *; simp [execOp, e10]) ⟨_, ZG (d := 109) rfl (fun k hk => by have := Zz hk; omega), .inl (World.grownBy.refl _ _), hg.1, ZF _ _ _⟩
            · have e109 : (ZK ZO a0 u).eval (.tmp 109) = u 16 := ZQ (by omega) rfl
              have f16 : u 16 = P_ g := (hd 16 (by kernel_rfl)).2
              rw [f16] at e109
              refine ZE rfl rfl (P_ g) wx (by generalize (ZK ZO a0 u).eval = ev at *; simp [execOp, e109, go_sem]) ⟨_, ZG (d := 110) rfl (fun k hk => by have := Zz hk; omega), .inl (World.grownBy.refl _ _), hg.1, ZF _ _ _⟩
            · have e110 : (ZK ZO a0 u).eval (.tmp 110) = u 17 := ZQ (by omega) rfl
              have f17 : u 17 = P_ g := (hd 17 (by kernel_rfl)).2
              rw [f17] at e110
              refine ZE rfl rfl (.pointer (some ⟨g, 4, none⟩)) wx (by generalize (ZK ZO a0 u).eval = ev at *; simp [execOp, e110, go_sem]) ⟨_, ZG (d := 111) rfl (fun k hk => by have := Zz hk; omega), .inl (World.grownBy.refl _ _), hg.1, ZF _ _ _⟩
            · have e111 : (ZK ZO a0 u).eval (.tmp 111) = u 18 := ZQ (by omega) rfl
              have f18 : u 18 = .pointer (some ⟨g, 4, none⟩) := (hd 18 (by kernel_rfl)).2
              rw [f18] at e111
              have hc : wx.cell? ⟨g, 4, none⟩ = some vT := (hl 30 (by kernel_rfl)).2
              refine ZE rfl rfl vT wx (by generalize (ZK ZO a0 u).eval = ev at *; simp [execOp, e111, go_sem, hc]) ⟨_, ZG (d := 112) rfl (fun k hk => by have := Zz hk; omega), .inl (World.grownBy.refl _ _), hg.1, ZF _ _ _⟩
            · have e100 : (ZK ZO a0 u).eval (.const (I_ 0)) = I_ 0 := rfl
              refine ZE rfl rfl (.slice (some ⟨wx.heap.size, 0, none⟩) 1 1) (wx.alloc (.cells #[I_ 0] 3)) (by generalize (ZK ZO a0 u).eval = ev at *; simp [execOp, go_sem, e100]) ⟨_, ZG (d := 113) rfl (fun k hk => by have := Zz hk; omega), .inl (gb_none (Zd _ _)), (hg.1.grown c16 (.inl rfl) (gb_none (Zd _ _))).1, wx.heap.size, ZF _ _ _, hg.1.2.1.2.2.2, B_ _ _⟩
            · have e112 : (ZK ZO a0 u).eval (.tmp 112) = u 19 := ZQ (by omega) rfl
              have f19 : u 19 = vT := (hd 19 (by kernel_rfl)).2
              rw [f19] at e112
              have e113 : (ZK ZO a0 u).eval (.tmp 113) = u 20 := ZQ (by omega) rfl
              obtain ⟨kx, fx1, fx2, fx3⟩ : ∃ k, u 20 = .slice (some ⟨k, 0, none⟩) 1 1 /\ W0.heap.size <= k /\ wx.heap[k]? = some (.cells #[I_ 0] 3 (0, 0)) := (hd 20 (by kernel_rfl)).2
              rw [fx1] at e113
              obtain ⟨v9, w9, hrun, o9, g9, f9⟩ := push_any (ys := [I_ 0]) Tryz.underlying22 info3 rfl (by decide) (by decide) hg.2 c16.nl rfl (fun j u hu => Zb fx3 j u (by simpa using hu)) (by intro u hu; simp at hu; first | (subst hu; rfl) | (rcases hu with rfl | rfl <;> rfl)) 22
              obtain ⟨a9, c9, e9, _⟩ := Zl o9
              refine ZE rfl rfl v9 w9 (by generalize (ZK ZO a0 u).eval = ev at *; simp only [List.getElem_toArray, List.getElem_cons_zero, List.getElem_cons_succ, execOp, resolve, invoke, builtin, Sem.run_bind, Sem.run_pure, Result.andThen_ok, List.map_toArray, List.map_cons, List.map_nil, e112, e113, hrun]) ⟨_, ZG (d := 114) rfl (fun k hk => by have := Zz hk; omega), .inr (.inr (.inr (.inl ⟨rfl, g9⟩))), (hg.1.grown c16 (.inr (.inr (.inr rfl))) g9).1, ?_⟩
              show Yv W0 w9 3 1 (upd u 21 v9 21) (k + 1) ((nts tk) ++ [I_ 0]) vT
              rw [ZF]
              exact ⟨⟨_, _, e9⟩, o9, fun k hk => (f9 k hk).imp id (fun h => Nat.le_trans hg.1.2.1.2.2.2 h)⟩
            · have e93 : (ZK ZO a0 u).eval (.tmp 93) = u 0 := ZQ (by omega) rfl
              have f0 : u 0 = P_ g := (hd 0 (by kernel_rfl)).2
              rw [f0] at e93
              refine ZE rfl rfl (P_ g) wx (by generalize (ZK ZO a0 u).eval = ev at *; simp [execOp, e93, go_sem]) ⟨_, ZG (d := 115) rfl (fun k hk => by have := Zz hk; omega), .inl (World.grownBy.refl _ _), hg.1, ZF _ _ _⟩
            · have e115 : (ZK ZO a0 u).eval (.tmp 115) = u 22 := ZQ (by omega) rfl
              have f22 : u 22 = P_ g := (hd 22 (by kernel_rfl)).2
              rw [f22] at e115
              refine ZE rfl rfl (.pointer (some ⟨g, 2, none⟩)) wx (by generalize (ZK ZO a0 u).eval = ev at *; simp [execOp, e115, go_sem]) ⟨_, ZG (d := 116) rfl (fun k hk => by have := Zz hk; omega), .inl (World.grownBy.refl _ _), hg.1, ZF _ _ _⟩
            · have e116 : (ZK ZO a0 u).eval (.tmp 116) = u 23 := ZQ (by omega) rfl
              have f23 : u 23 = .pointer (some ⟨g, 2, none⟩) := (hd 23 (by kernel_rfl)).2
              rw [f23] at e116
              have e102 : (ZK ZO a0 u).eval (.tmp 102) = u 9 := ZQ (by omega) rfl
              obtain ⟨⟨ax, cx, ex⟩, _⟩ : Yv W0 wx 94 2 (u 9) (k + 1) (ccs (cz (cs.take k)) ++ [I_ y1, I_ y2]) vC := (hd 9 (by kernel_rfl)).2
              have hc : wx.cell? ⟨g, 2, none⟩ = some vC := hg.2
              have hz : wx.frozen? ⟨g, 2, none⟩ = false := by obtain ⟨⟨_, _, _, hgg⟩, _⟩ := hg.1; exact Zc hgg _
              rw [ex] at e102
              refine wpOp_skip rfl rfl (wx.setCell ⟨g, 2, none⟩ (u 9)) (by rw [ex]; generalize (ZK ZO a0 u).eval = ev at *; simp [execOp, e116, e102, go_sem, hc, hz]) ⟨undef, fill_none (fun k hk => by have := Zz hk; omega), .inr (.inr (.inr (.inr (.inl ⟨rfl, rfl⟩)))), (hg.1.store 2 (by omega) _).1, ?_⟩
              show World.cell? _ ⟨g, 2, none⟩ = some (upd u 24 undef 9)
              rw [Zs u undef (by decide)]
              exact (hg.1.store 2 (by omega) _).2.1
            · have e94 : (ZK ZO a0 u).eval (.tmp 94) = u 1 := ZQ (by omega) rfl
              have f1 : u 1 = P_ g := (hd 1 (by kernel_rfl)).2
              rw [f1] at e94
              refine ZE rfl rfl (P_ g) wx (by generalize (ZK ZO a0 u).eval = ev at *; simp [execOp, e94, go_sem]) ⟨_, ZG (d := 117) rfl (fun k hk => by have := Zz hk; omega), .inl (World.grownBy.refl _ _), hg.1, ZF _ _ _⟩
            · have e117 : (ZK ZO a0 u).eval (.tmp 117) = u 25 := ZQ (by omega) rfl
              have f25 : u 25 = P_ g := (hd 25 (by kernel_rfl)).2
              rw [f25] at e117
              refine ZE rfl rfl (.pointer (some ⟨g, 3, none⟩)) wx (by generalize (ZK ZO a0 u).eval = ev at *; simp [execOp, e117, go_sem]) ⟨_, ZG (d := 118) rfl (fun k hk => by have := Zz hk; omega), .inl (World.grownBy.refl _ _), hg.1, ZF _ _ _⟩
            · have e118 : (ZK ZO a0 u).eval (.tmp 118) = u 26 := ZQ (by omega) rfl
              have f26 : u 26 = .pointer (some ⟨g, 3, none⟩) := (hd 26 (by kernel_rfl)).2
              rw [f26] at e118
              have e108 : (ZK ZO a0 u).eval (.tmp 108) = u 15 := ZQ (by omega) rfl
              obtain ⟨⟨ax, cx, ex⟩, _⟩ : Yv W0 wx 65 1 (u 15) (k + 1) (ss ++ [.slice none 0 0]) vS := (hd 15 (by kernel_rfl)).2
              have hc : wx.cell? ⟨g, 3, none⟩ = some vS := hg.2
              have hz : wx.frozen? ⟨g, 3, none⟩ = false := by obtain ⟨⟨_, _, _, hgg⟩, _⟩ := hg.1; exact Zc hgg _
              rw [ex] at e108
              refine wpOp_skip rfl rfl (wx.setCell ⟨g, 3, none⟩ (u 15)) (by rw [ex]; generalize (ZK ZO a0 u).eval = ev at *; simp [execOp, e118, e108, go_sem, hc, hz]) ⟨undef, fill_none (fun k hk => by have := Zz hk; omega), .inr (.inr (.inr (.inr (.inr (.inl ⟨rfl, rfl⟩))))), (hg.1.store 3 (by omega) _).1, ?_⟩
              show World.cell? _ ⟨g, 3, none⟩ = some (upd u 27 undef 15)
              rw [Zs u undef (by decide)]
              exact (hg.1.store 3 (by omega) _).2.1
            · have e95 : (ZK ZO a0 u).eval (.tmp 95) = u 2 := ZQ (by omega) rfl
              have f2 : u 2 = P_ g := (hd 2 (by kernel_rfl)).2
              rw [f2] at e95
              refine ZE rfl rfl (P_ g) wx (by generalize (ZK ZO a0 u).eval = ev at *; simp [execOp, e95, go_sem]) ⟨_, ZG (d := 119) rfl (fun k hk => by have := Zz hk; omega), .inl (World.grownBy.refl _ _), hg.1, ZF _ _ _⟩
            · have e119 : (ZK ZO a0 u).eval (.tmp 119) = u 28 := ZQ (by omega) rfl
              have f28 : u 28 = P_ g := (hd 28 (by kernel_rfl)).2
              rw [f28] at e119
              refine ZE rfl rfl (.pointer (some ⟨g, 4, none⟩)) wx (by generalize (ZK ZO a0 u).eval = ev at *; simp [execOp, e119, go_sem]) ⟨_, ZG (d := 120) rfl (fun k hk => by have := Zz hk; omega), .inl (World.grownBy.refl _ _), hg.1, ZF _ _ _⟩
            · have e120 : (ZK ZO a0 u).eval (.tmp 120) = u 29 := ZQ (by omega) rfl
              have f29 : u 29 = .pointer (some ⟨g, 4, none⟩) := (hd 29 (by kernel_rfl)).2
              rw [f29] at e120
              have e114 : (ZK ZO a0 u).eval (.tmp 114) = u 21 := ZQ (by omega) rfl
              obtain ⟨⟨ax, cx, ex⟩, _⟩ : Yv W0 wx 3 1 (u 21) (k + 1) ((nts tk) ++ [I_ 0]) vT := (hd 21 (by kernel_rfl)).2
              have hc : wx.cell? ⟨g, 4, none⟩ = some vT := hg.2
              have hz : wx.frozen? ⟨g, 4, none⟩ = false := by obtain ⟨⟨_, _, _, hgg⟩, _⟩ := hg.1; exact Zc hgg _
              rw [ex] at e114
              refine wpOp_skip rfl rfl (wx.setCell ⟨g, 4, none⟩ (u 21)) (by rw [ex]; generalize (ZK ZO a0 u).eval = ev at *; simp [execOp, e120, e114, go_sem, hc, hz]) ⟨undef, fill_none (fun k hk => by have := Zz hk; omega), .inr (.inr (.inr (.inr (.inr (.inr ⟨rfl, rfl⟩))))), (hg.1.store 4 (by omega) _).1, ?_⟩
              show World.cell? _ ⟨g, 4, none⟩ = some (upd u 30 undef 21)
              rw [Zs u undef (by decide)]
              exact (hg.1.store 4 (by omega) _).2.1
          · intro u wx hall
            obtain ⟨F2, R2, C2, st2⟩ := S1.chanA (n := k) (w := wx) y1 y2 HK.out.symm (by omega) ⟨r0', r8'⟩ (hall 30 (by decide)).1 (hall 9 (by decide)).2 (hall 15 (by decide)).2 (hall 21 (by decide)).2 (hall 24 (by decide)).2 (hall 27 (by decide)).2 (hall 30 (by decide)).2 HF.out.2
            have M9 : Hid (RMk w wx g ⟨zz ps, List.replicate mn false, cz (cs.take (k + 1)), List.replicate an 0⟩) := Za (by
              rw [HSN.out]
              exact ⟨_, _, _, _, _, _, _, _, _, R2, C2.low HF.out.1 HBD.out.size, HBD.out.trans (C2.bel HF.out.1 HBD.out.size), st2⟩)
            clear R2 C2 st2 hall c16 S1 hW0 h10 h14 hsz hgb1 hgb2 hgb3 S0 X0 HF HBD HLT HK HSN
            subst ha0
            simp [ZK, fillL, ZO]
            go_wp2_with fail
            go_roundw
            case rel => exact ⟨k + 1, by omega, by go_num, M9, GA2⟩
            case measure => simp [intOf]; omega
          · intro j
            rw [hW0]
            exact ng_start c16 j _
        · obtain rfl : k = lC := by omega
          have GC : Hid (cs.any badC = false) := Za (any_not cs _ (0, 0) (fun j hj => GA.out j (by have := HLC.out; omega)))
          have M3 : Hid (RMk w wr g (newS ps (mn : Nat) cs (an : Nat))) := Za (by
            have := M1.out
            rw [List.take_of_length_le (by have := HLC.out; omega)] at this
            exact this)
          clear M1 GA
          go_wp2_with fail
          go_ret2
          obtain ⟨F, vP, vL, vC, vS, vT, vA, ss, tk, h1, h2, h3, _⟩ := M3.out
          exact .inr ⟨HSZ.out GP.out GC.out, g, F, rfl, ⟨_, _, _, _, _, _, _, _, h1⟩, h2, h3⟩
end Go.Proofs.YtfojninaginnoaaGreatDoor.Ck
