/- Elements by number; what is asked of a state that only looks. -/
import Derived.Test.YtghfjnnmpmfboaaDoorMa
namespace Go.Proofs.YtghfjnnmpmfboaaDoor.Ck
open Go.RowKit

theorem lk_some {α : Type} {l : List α} {i : Int} {x : α} (h : lk l i = some x) : ∃ k : Nat, i = k ∧ l[k]? = some x := by
  unfold lk at h
  split at h
  · rename_i h0
    exact ⟨i.toNat, by omega, h⟩
  · cases h
theorem lk_none {α : Type} {l : List α} {i : Int} (h : lk l i = none) : i < 0 ∨ (l.length : Int) ≤ i := by
  unfold lk at h
  split at h
  · rename_i h0
    have := List.getElem?_eq_none_iff.1 h
    omega
  · omega
theorem lk_nat {α : Type} {l : List α} {k : Nat} : lk l (k : Int) = l[k]? := by simp [lk]
section
variable {w : World} {F : Nat → Prop} {g : Nat} {s : St} {p : List Addr}
theorem Locked_any (h : Stt w F g s) (h17 : E2 w p) (i : Int) : Calls Tryd.prog 15 #[.pointer (some ⟨g, 0, none⟩), .int .i64 i] w (Vb w (.bool ((lk s.M i).getD false))) := by
  cases hl : lk s.M i with
  | some b =>
    obtain ⟨k, rfl, hk⟩ := lk_some hl
    exact (Locked_in h k b hk).mono fun e w' ⟨he, hw⟩ => ⟨he, hw ▸ Below.refl _ _⟩
  | none => exact Locked_out h h17 i (lk_none hl)
def lenC (s : St) (i : Int) : Int := match lk s.C i with
  | some q => q.l.length
  | none => 0
def roomC (s : St) (i : Int) : Int := match lk s.C i with
  | some q => q.room
  | none => 0
theorem Len_any (h : Stt w F g s) (h17 : E2 w p) (i : Int) : Calls Tryd.prog 16 #[.pointer (some ⟨g, 0, none⟩), .int .i64 i] w (Vb w (.int .i64 (lenC s i))) := by
  unfold lenC
  cases hl : lk s.C i with
  | some q =>
    obtain ⟨k, rfl, hk⟩ := lk_some hl
    exact (Len_in h k q hk).mono fun e w' ⟨he, hw⟩ => ⟨he, hw ▸ Below.refl _ _⟩
  | none => exact Len_out h h17 i (lk_none hl)
theorem Room_any (h : Stt w F g s) (h17 : E2 w p) (i : Int) : Calls Tryd.prog 18 #[.pointer (some ⟨g, 0, none⟩), .int .i64 i] w (Vb w (.int .i64 (roomC s i))) := by
  unfold roomC
  cases hl : lk s.C i with
  | some q =>
    obtain ⟨k, rfl, hk⟩ := lk_some hl
    exact (Room_in h k q hk).mono fun e w' ⟨he, hw⟩ => ⟨he, hw ▸ Below.refl _ _⟩
  | none => exact Room_out h h17 i (lk_none hl)
end
end Go.Proofs.YtghfjnnmpmfboaaDoor.Ck
