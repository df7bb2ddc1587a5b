/- Rows of events of the call's own, and a boxed event. No Go text is walked here. -/
import Derived.Test.YticgmebbnnmikaaDoorOw
import Derived.Carry
namespace Go.Proofs.YticgmebbnnmikaaDoor.Ck
open Go.RowKit

theorem flat_ev : ∀ (ps : List Ev) (i j : Nat), i < ps.length → j < 4 → (ps.flatMap evC)[i * 4 + j]? = (evC (ps.getD i zE))[j]?
  | [], _, _, h, _ => absurd h (Nat.not_lt_zero _)
  | p :: ps, 0, j, _, hj => by
    rw [List.flatMap_cons, List.getElem?_append_left (by rw [show (evC p).length = 4 from rfl]; omega), Nat.zero_mul, Nat.zero_add]
    rfl
  | p :: ps, i + 1, j, h, hj => by
    rw [List.flatMap_cons, List.getElem?_append_right (by rw [show (evC p).length = 4 from rfl]; omega), show (i + 1) * 4 + j - (evC p).length = i * 4 + j by rw [show (evC p).length = 4 from rfl]; omega]
    exact flat_ev ps i j (by simpa using h) hj
theorem SlE.own {w : World} {B : Nat} {v : Value} {l : List Ev} (h : w.ownsRow B 47 4 v l.length (l.flatMap evC)) : SlE w v l := by
  obtain ⟨a, c, rfl, h1, h2⟩ := own_slice h
  refine ⟨a, c, rfl, h1, h2, fun i hi => ?_⟩
  obtain ⟨b, c', e, _⟩ := own_some h (by omega)
  injection e with e _ _
  subst e
  have q := fun j hj u hu => (own_cell h (i * 4 + j) u ((flat_ev l i j hi hj).trans hu)).1
  exact ⟨b, 0, rfl, (own_type h (k := b) rfl).2.1, by have := q 0 (by omega) _ rfl; simpa using this, by have := q 1 (by omega) _ rfl; simpa [Nat.add_assoc] using this, by have := q 2 (by omega) _ rfl; simpa [Nat.add_assoc] using this, by have := q 3 (by omega) _ rfl; simpa [Nat.add_assoc] using this⟩
theorem evC_one (e : Ev) : ∀ u ∈ evC e, u.oneCell' = true := fun u hu => by
  simp [evC] at hu
  rcases hu with rfl | rfl | rfl | rfl <;> rfl
/-- two rows of events of the call's own -/
structure RoM (w0 w : World) (v u : Value) (l m : List Ev) : Prop where
  rd : w.ownsRow w0.heap.size 47 4 v l.length (l.flatMap evC)
  ow : w.ownsRow w0.heap.size 47 4 u m.length (m.flatMap evC)
  ap : ∀ k, v.ownBlock = some k → u.ownBlock ≠ some k
  bel : Below w0.heap.size w0 w
/-- and a variable of an event -/
structure RoX (w0 w : World) (x : Nat) (e : Ev) (v u : Value) (l m : List Ev) : Prop where
  mm : RoM w0 w v u l m
  xx : w.heap[x]? = some (.cells (evC e).toArray 47 (0, 0))
  xl : w0.heap.size ≤ x
  xv : v.ownBlock ≠ some x
  xu : u.ownBlock ≠ some x
section
variable {w0 w w' : World} {x : Nat} {e : Ev} {v u : Value} {l m : List Ev}
theorem RoM.below (h : RoM w0 w v u l m) (hb : Below w.heap.size w w') : RoM w0 w' v u l m :=
  ⟨own_keep h.rd (fun k hk => hb.block k (own_type h.rd hk).2.1), own_keep h.ow (fun k hk => hb.block k (own_type h.ow hk).2.1), h.ap, h.bel.trans (hb.mono h.bel.size)⟩
theorem RoX.below (h : RoX w0 w x e v u l m) (hb : Below w.heap.size w w') : RoX w0 w' x e v u l m :=
  ⟨h.mm.below hb, (hb.block _ (lt_of_blk h.xx)).trans h.xx, h.xl, h.xv, h.xu⟩
theorem RoM.box (h : RoM w0 w v u l m) (e : Ev) : RoX w0 (w.alloc (.cells (evC e).toArray 47)) w.heap.size e v u l m :=
  ⟨h.below (bel_new w _), Go.Deep.blk_alloc_new w _, h.bel.size, fun q => by have := (own_type h.rd q).2.1; omega, fun q => by have := (own_type h.ow q).2.1; omega⟩
theorem RoX.put (h : RoX w0 w x e v u l m) : RoX w0 (w.setCell ⟨x, 2, none⟩ (.int .i64 e.g)) x { e with o := e.g } v u l m := by
  have hx : ∀ k, k ≠ x → (w.setCell ⟨x, 2, none⟩ (.int .i64 e.g)).heap[k]? = w.heap[k]? := fun k hk => Below.heap_setCell _ _ _ _ hk
  refine ⟨⟨own_keep h.mm.rd (fun k hk => hx k (fun q => h.xv (q ▸ hk))), own_keep h.mm.ow (fun k hk => hx k (fun q => h.xu (q ▸ hk))), h.mm.ap, h.mm.bel.setCell h.xl _⟩, ?_, h.xl, h.xv, h.xu⟩
  exact heap_setCell_same w x 2 _ _ _ h.xx
theorem RoM.grewR {v' : Value} {l' : List Ev} (h : RoM w0 w v u l m) (hg : w.grownBy w' v.ownBlock) (ho : w'.ownsRow w0.heap.size 47 4 v' l'.length (l'.flatMap evC)) (hat : ∀ b, v'.ownBlock = some b → v.ownBlock = some b ∨ w.heap.size ≤ b) : RoM w0 w' v' u l' m := by
  refine ⟨ho, own_keep h.ow (fun k hk => hg.block k (own_type h.ow hk).2.1 (fun q => h.ap k q.symm hk)), fun k hk hk' => ?_, ⟨hg.os.trans h.bel.os, hg.tape.trans h.bel.tape, hg.output.trans h.bel.output, Nat.le_trans h.bel.size hg.size, fun k hk => (hg.block k (Nat.lt_of_lt_of_le hk h.bel.size) (fun q => ?_)).trans (h.bel.block k hk)⟩⟩
  · rcases hat k hk with q | q
    · exact h.ap k q hk'
    · have := (own_type h.ow hk').2.1
      omega
  · have := (own_type h.rd q.symm).1
    omega
theorem RoM.flip (h : RoM w0 w v u l m) : RoM w0 w u v m l := ⟨h.ow, h.rd, fun k hk hk' => h.ap k hk' hk, h.bel⟩
theorem RoX.flip (h : RoX w0 w x e v u l m) : RoX w0 w x e u v m l := ⟨h.mm.flip, h.xx, h.xl, h.xu, h.xv⟩
theorem RoX.push (h : RoX w0 w x e v u l m) (hl : l.length ≤ 100000) (ty : TypeId) : ∃ v' w', (Builtin.append_ #[22, 22] ty #[v, .slice (some ⟨w.heap.size, 0, none⟩) 1 1]).run Tryd.prog (w.alloc (.cells (evC e).toArray 47)) = .ok v' w' ∧ ((∃ a cc, v' = .slice a (l.length + 1) cc) ∧ RoX w0 w' x e v' u (l ++ [e]) m) := by
  obtain ⟨v', w', hr, hs, ho, hg, hat⟩ := pushE (w := w) (TS := 22) Tryd.underlying22 info_ev rfl (by omega) (by omega) hl h.mm.rd h.mm.bel.size (evC e) rfl (evC_one e) ty
  have ho' : w'.ownsRow w0.heap.size 47 4 v' (l ++ [e]).length ((l ++ [e]).flatMap evC) := by rw [List.length_append, List.flatMap_append]; simpa using ho
  have hM := h.mm.grewR hg ho' hat
  refine ⟨v', w', hr, hs, hM, (hg.block x (lt_of_blk h.xx) (fun q => h.xv q.symm)).trans h.xx, h.xl, fun q => ?_, h.xu⟩
  rcases hat x q with q | q
  · exact h.xv q
  · have := lt_of_blk h.xx
    omega
theorem RoX.pushO (h : RoX w0 w x e v u l m) (hl : m.length ≤ 100000) (ty : TypeId) : ∃ v' w', (Builtin.append_ #[22, 22] ty #[u, .slice (some ⟨w.heap.size, 0, none⟩) 1 1]).run Tryd.prog (w.alloc (.cells (evC e).toArray 47)) = .ok v' w' ∧ ((∃ a cc, v' = .slice a (m.length + 1) cc) ∧ RoX w0 w' x e v v' l (m ++ [e])) := by
  obtain ⟨v', w', hr, hs, hX⟩ := h.flip.push hl ty
  exact ⟨v', w', hr, hs, hX.flip⟩
end
theorem rom_start (w0 : World) {w : World} (hb : Below w0.heap.size w0 w) : RoM w0 ((w.alloc (.cells #[] 47)).alloc (.cells #[] 47)) (.slice (some ⟨w.heap.size, 0, none⟩) 0 0) (.slice (some ⟨w.heap.size + 1, 0, none⟩) 0 0) [] [] := by
  have b1 := bel_new w (.cells #[] 47)
  have b2 := bel_new (w.alloc (.cells #[] 47)) (.cells #[] 47)
  have n1 : ((w.alloc (.cells #[] 47)).alloc (.cells #[] 47)).heap[w.heap.size]? = some (.cells #[] 47 (0, 0)) := (b2.block w.heap.size (by simp)).trans (Go.Deep.blk_alloc_new w _)
  have n2 : ((w.alloc (.cells #[] 47)).alloc (.cells #[] 47)).heap[w.heap.size + 1]? = some (.cells #[] 47 (0, 0)) := by
    have := Go.Deep.blk_alloc_new (w.alloc (.cells #[] 47)) (.cells #[] 47)
    simpa using this
  refine ⟨⟨rfl, .inr ⟨w.heap.size, 0, #[], rfl, hb.size, n1, Nat.le_refl _, Nat.zero_le _, by simp, by simp⟩⟩, ⟨rfl, .inr ⟨w.heap.size + 1, 0, #[], rfl, by have := hb.size; omega, n2, Nat.le_refl _, Nat.zero_le _, by simp, by simp⟩⟩, fun k hk hk' => ?_, bel_trans hb (b1.trans (b2.mono b1.size))⟩
  have e1 : w.heap.size = k := Option.some.inj hk
  have e2 : w.heap.size + 1 = k := Option.some.inj hk'
  omega
theorem SlN (w : World) : Sl w (.slice none 0 0) [] := Sl.nilS w
end Go.Proofs.YticgmebbnnmikaaDoor.Ck
