/- An array that is laid into a block of which only its cells are known. -/
import Derived.Test.YtejhhkhaoekkiaaDoorMix
namespace Go.Proofs.YtejhhkhaoekkiaaDoor.Ck
open Go.RowKit

theorem tn_setCells (g : Nat) : ∀ (vs : List Value) (o : Nat) (w : World), Tn g w (w.setCells g o vs) ∧ (w.setCells g o vs).heap.size = w.heap.size
  | [], _, w => ⟨Tn.refl _ _, rfl⟩
  | v :: r, o, w => by
    obtain ⟨h1, h2⟩ := tn_setCells g r (o + 1) (w.setCell ⟨g, o, none⟩ v)
    rw [World.setCells]
    have h0 : Tn g w (w.setCell ⟨g, o, none⟩ v) := ⟨rfl, rfl, rfl, by rw [size_setCell]; exact Nat.le_refl _, fun k _ hk => Below.heap_setCell _ _ _ _ hk⟩
    exact ⟨h0.trans h1, h2.trans (size_setCell _ _ _)⟩
theorem Blk.there {w : World} {g : Nat} {t : TypeId} {cs : List Value} (h : Blk w g t cs) : w.there g 0 cs.length := fun j hj => by
  rw [Nat.zero_add]
  exact ⟨by rw [h.cell, List.getElem?_eq_getElem hj]; rfl, h.frozen j⟩
theorem there_bel {w w' : World} {g n : Nat} (h : w.there g 0 n) (hg : g < w.heap.size) (hb : Below w.heap.size w w') : w'.there g 0 n := fun j hj => by
  have := h j hj
  exact ⟨by rw [hb.cell (p := ⟨g, 0 + j, none⟩) hg]; exact this.1, by rw [hb.frozen (p := ⟨g, 0 + j, none⟩) hg]; exact this.2⟩
theorem there_tn {w w' : World} {g x n : Nat} (h : w.there g 0 n) (hg : g < w.heap.size) (hb : Tn x w w') (hx : g ≠ x) : w'.there g 0 n := fun j hj => by
  have := h j hj
  exact ⟨by rw [hb.cell ⟨g, 0 + j, none⟩ hg hx]; exact this.1, by rw [hb.frozen ⟨g, 0 + j, none⟩ hg hx]; exact this.2⟩
/-- a result that lies in a block, of which its cells are known -/
theorem ret_range {fn : Func} {R : Ending → World → Prop} {a : Act} {w : World} {p : Tmp} {T : TypeId} (g : Nat) (cs : List Value) (hf : fn.results = #[.cell p T]) (hp : a.tmps.getD p undef = .pointer (some ⟨g, 0, none⟩))
    (hb : w.rangeAt g 0 cs) {d : TypeDesc} (hu : Tryd.prog.underlying T = some d) (hd : d.isRow = true) (hi : (Tryd.prog.info? T).map (·.size) = some cs.length) (hdf : a.defers = []) (hR : R (.returned (.agg cs.toArray)) w) : bodyPost Tryd.prog fn R .ret a w :=
  bodyPost_ret (by
    have hl := run_loadVar_mid (P := Tryd.prog) w g 0 T cs d hb hu hd hi
    have hp' : a.tmps[p]?.getD undef = .pointer (some ⟨g, 0, none⟩) := by simpa using hp
    simp [results, hf, hp', asAddr, hl]) hdf hR

end Go.Proofs.YtejhhkhaoekkiaaDoor.Ck
