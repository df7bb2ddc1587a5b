/- A map of places, filled one by one. -/
import Derived.Test.YtodgkfniimgfcaaGreatDoorHzQ
import Derived.Maps.OwnSet
import Derived.Maps.Views
namespace Go.Proofs.YtodgkfniimgfcaaGreatDoor.Ck
open Go.RowKit

/-- block b is a map of at most n entries that says yes wherever G holds -/
def Mp (w : World) (b n : Nat) (G : Int → Prop) : Prop :=
  ∃ D, w.ownsMap (H := Unit) Tryz.prog 3 (plainElem Tryz.prog 4) b n D ∧ ∀ x : Int, G x → ∃ kl, keyOf Tryz.prog 3 (.int .i64 x) = some kl ∧ D.atKey kl (.lit (.bool false)) = .lit (.bool true)
theorem Mp.made (w : World) : Mp (w.alloc (.map #[] 0)) w.heap.size 0 (fun _ => False) := ⟨_, World.ownsMap_made w _ _ _, fun _ h => h.elim⟩
theorem Mp.bel {w w' : World} {b n : Nat} {G : Int → Prop} (h : Mp w b n G) (hb : Below w.heap.size w w') : Mp w' b n G := by
  obtain ⟨D, ⟨es, clock, h1, h2⟩, h3⟩ := h
  exact ⟨D, ⟨es, clock, (hb.block b (lt_of_blk h1)).trans h1, h2⟩, h3⟩
theorem Mp.lt {w : World} {b n : Nat} {G : Int → Prop} (h : Mp w b n G) : b < w.heap.size := by
  obtain ⟨D, ⟨es, clock, h1, h2⟩, h3⟩ := h
  exact lt_of_blk h1
theorem Mp.begins {w : World} {b n : Nat} {G : Int → Prop} {L : List Tk} (h : Mp w b n G) (hG : ∀ x, Bg L x → G x) : Begins w b L := by
  obtain ⟨D, h1, h2⟩ := h
  exact ⟨n, D, h1, fun x hx => h2 x (hG x hx)⟩
theorem Mp.add {w : World} {b n : Nat} {G : Int → Prop} (h : Mp w b n G) (hn : n < maxLen) (x : Int) (hw : (Lit.int .i64 x).wf = true) :
    ∃ w', (Instr.mapUpdate 44 (.map (some b)) (.int .i64 x) (.bool true)).run Tryz.prog w = .ok () w' ∧ Mp w' b (n + 1) (fun y => G y ∨ y = x) ∧ w.grownBy w' (some b) := by
  obtain ⟨D, ho, hD⟩ := h
  have hk := Go.Maps.keyOf_int_mk Tryz.underlying3 hw
  have K := Go.Maps.int_keyed Tryz.underlying3
  obtain ⟨w', r, o, g⟩ := ho.update K Tryz.underlying44 hn hk (plainElem_bool Tryz.underlying4 true)
  have hs := Go.Maps.atKey_put_same ho.isMap (K.key hk) (.lit (.bool true)) (.lit (.bool false))
  refine ⟨w', r, ⟨_, o, fun y hy => ?_⟩, g⟩
  rcases hy with hy | rfl
  · obtain ⟨kl, k1, k2⟩ := hD y hy
    by_cases e : kl = .int .i64 x
    · subst e
      exact ⟨_, k1, hs⟩
    · exact ⟨kl, k1, (Go.Maps.atKey_put_other e _ _).trans k2⟩
  · exact ⟨_, hk, hs⟩

end Go.Proofs.YtodgkfniimgfcaaGreatDoor.Ck
