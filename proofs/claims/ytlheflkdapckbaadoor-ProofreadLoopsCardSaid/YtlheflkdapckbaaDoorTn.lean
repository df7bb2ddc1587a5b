/- What one call writes; no Go text is walked here. -/
import Derived.Test.YtlheflkdapckbaaDoorCa
namespace Go.Proofs.YtlheflkdapckbaaDoor.Ck
open Go.RowKit

/-- nothing but the block g turned -/
structure Tn (g : Nat) (w w' : World) : Prop where
  os : w'.os = w.os
  tape : w'.tape = w.tape
  output : w'.output = w.output
  size : w.heap.size ≤ w'.heap.size
  blk : ∀ k, k < w.heap.size → k ≠ g → w'.heap[k]? = w.heap[k]?
theorem Tn.refl (g : Nat) (w : World) : Tn g w w := ⟨rfl, rfl, rfl, Nat.le_refl _, fun _ _ _ => rfl⟩
theorem Tn.trans {g : Nat} {a b c : World} (h : Tn g a b) (k : Tn g b c) : Tn g a c :=
  ⟨k.os.trans h.os, k.tape.trans h.tape, k.output.trans h.output, Nat.le_trans h.size k.size, fun x hx hs => (k.blk x (Nat.lt_of_lt_of_le hx h.size) hs).trans (h.blk x hx hs)⟩
theorem Tn.of_bel {g : Nat} {w w' : World} (h : Below w.heap.size w w') : Tn g w w' := ⟨h.os, h.tape, h.output, h.size, fun k hk _ => h.block k hk⟩
theorem Tn.bel {g : Nat} {w w' : World} (h : Tn g w w') {B : Nat} (hB : B ≤ g) (hw : B ≤ w.heap.size) : Below B w w' :=
  ⟨h.os, h.tape, h.output, h.size, fun k hk => h.blk k (by omega) (by omega)⟩
theorem set1 {w : World} {g : Nat} {c : Array Value} {t : TypeId} (h : w.heap[g]? = some (.cells c t (0, 0))) (k : Nat) (v : Value) :
    (w.setCell ⟨g, k, none⟩ v).heap[g]? = some (.cells (c.setIfInBounds k v) t (0, 0)) ∧ Tn g w (w.setCell ⟨g, k, none⟩ v) :=
  ⟨heap_setCell_same _ _ _ _ _ _ h, rfl, rfl, rfl, Nat.le_of_eq (by simp [World.setCell]), fun _ _ hk => Below.heap_setCell _ _ _ _ hk⟩
end Go.Proofs.YtlheflkdapckbaaDoor.Ck
