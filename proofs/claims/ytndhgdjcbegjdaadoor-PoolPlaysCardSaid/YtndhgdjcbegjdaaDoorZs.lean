/- More of the document's runs against the program's: addresses and words. -/
import Derived.Test.YtndhgdjcbegjdaaDoorEd
namespace Go.Proofs.YtndhgdjcbegjdaaDoor.Ck
open Go.RowKit

section
variable {n : Nat} {H : List Rn} {R V : Nat → Int}

theorem WR.isEnd (h : WR n H R V) {x : Rn} (hx : x ∈ H) : IsEnd R n x.f (x.f + x.c) := by
  have hp := h.pos x hx
  refine ⟨by omega, by omega, fun k h1 h2 => h.run x hx k ⟨h1, h2⟩, fun hl e => ?_⟩
  obtain ⟨y, hy, h1⟩ := h.free (x.f + x.c) hl (by omega)
  have := h.run y hy _ h1
  have e2 : x = y := nd_inj Rn.f h.nd hx hy (by omega)
  rw [← e2] at h1
  have := h1.2
  omega
/-- a page that names itself as its run's first one is a run's first page -/
theorem WR.first (h : WR n H R V) {f : Nat} (hf : f < n) (e : R f = (f : Int) + 1) : ∃ x ∈ H, x.f = f := by
  obtain ⟨x, hx, hh⟩ := h.free f hf (by omega)
  have := h.run x hx f hh
  exact ⟨x, hx, by omega⟩
theorem WR.inRun (h : WR n H R V) (at_ : Int) : InRun R n at_ ↔ ∃ x ∈ H, x.hasW at_ := by
  constructor
  · rintro ⟨p, r, ha, hp, hr, hne⟩
    obtain ⟨x, hx, hh⟩ := h.free p hp hne
    obtain ⟨h1, h2⟩ := hh
    exact ⟨x, hx, by unfold Rn.hasW; omega⟩
  · rintro ⟨x, hx, h1, h2⟩
    have hp := h.pos x hx
    have hk : x.has (at_.toNat / 16) := ⟨by omega, by omega⟩
    have := h.run x hx _ hk
    exact ⟨at_.toNat / 16, at_.toNat % 16, by omega, by have := hk.2; omega, Nat.mod_lt _ (by omega), by omega⟩
theorem WR.uniqW (h : WR n H R V) {x y : Rn} (hx : x ∈ H) (hy : y ∈ H) {i : Nat} (h1 : 16 * x.f ≤ i) (h2 : i < 16 * (x.f + x.c)) (h3 : 16 * y.f ≤ i) (h4 : i < 16 * (y.f + y.c)) : y = x :=
  nd_inj Rn.f h.nd hy hx (h.same hy hx (k := i / 16) ⟨by omega, by omega⟩ ⟨by omega, by omega⟩)
theorem WR.set (h : WR n H R V) {x : Rn} (hx : x ∈ H) (k : Nat) (hk : k < 16 * x.c) (z : Int) : WR n H R (fun j => if j = 16 * x.f + k then z else V j) :=
  have hzero : ∀ i, i < 16 * n → R (i / 16) = 0 → (if i = 16 * x.f + k then z else V i) = 0 := fun i hi hz => by
    by_cases e : i = 16 * x.f + k
    · have := h.run x hx (i / 16) ⟨by omega, by omega⟩
      omega
    · rw [if_neg e]
      exact h.zero i hi hz
  { h with zero := hzero }
/-- free pages' words are 0 -/
theorem WR.zeroF (h : WR n H R V) {f c : Nat} (hf : f + c ≤ n) (hF : FreeH H f c) (i : Nat) (hi : i < 16 * c) : V (16 * f + i) = 0 :=
  h.zero _ (by omega) ((h.free_iff hf).1 hF _ (by omega) (by omega))

/-- Size and Free of the program against Find of the document -/
theorem WR.runOf (h : WR n H R V) {at_ : Int} {f t : Nat} (hr : RunOf R n at_ f t) {i : Int} (hi : rfind (rat H) at_ H.length i) :
    (i = -1 ∧ f = t) ∨ ∃ k : Nat, i = k ∧ k < H.length ∧ f = (rat H k).f ∧ t = (rat H k).f + (rat H k).c ∧ f < t := by
  rcases hi with ⟨rfl, hno⟩ | ⟨k, hk, rfl, hat, _⟩
  · refine .inl ⟨rfl, hr.no fun f' hf' hlt e => ?_⟩
    obtain ⟨x, hx, rfl⟩ := h.first hlt e
    obtain ⟨j, hj, rfl⟩ := List.mem_iff_getElem.1 hx
    have e2 := rat_at H j hj
    rw [List.getElem?_eq_getElem hj] at e2
    exact hno j hj (by rw [← Option.some.inj e2]; exact hf'.symm)
  · have hx : rat H k ∈ H := List.mem_of_getElem? (rat_at H k hk)
    have := hr.ok hat.symm (h.isEnd hx)
    have hp := h.pos _ hx
    exact .inr ⟨k, rfl, hk, this.1, this.2, by omega⟩
end

end Go.Proofs.YtndhgdjcbegjdaaDoor.Ck
