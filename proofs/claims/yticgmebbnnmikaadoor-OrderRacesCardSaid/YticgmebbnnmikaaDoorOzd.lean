/- A whole trace appended to a row of the call's own; an event of such a row set anew. No Go text is walked here. -/
import Derived.Test.YticgmebbnnmikaaDoorOzc
import Derived.Test.YticgmebbnnmikaaDoorOyb
namespace Go.Proofs.YticgmebbnnmikaaDoor.Ck
open Go.RowKit

theorem flat_elen : ∀ l : List Ev, (l.flatMap evC).length = l.length * 4
  | [] => rfl
  | p :: l => by
    rw [List.flatMap_cons, List.length_append, flat_elen l, List.length_cons, show (evC p).length = 4 from rfl]
    omega
theorem evs_one (T : List Ev) : ∀ u ∈ T.flatMap evC, u.oneCell' = true := fun u hu => by
  obtain ⟨e, _, he⟩ := List.mem_flatMap.1 hu
  simp [evC] at he
  rcases he with rfl | rfl | rfl | rfl <;> rfl
/-- a trace that isn't empty, appended to an empty row -/
theorem appT {w : World} {B : Nat} {v vT : Value} {T : List Ev} (hT : SlE w vT T) (h0 : 0 < T.length) (hn : T.length ≤ 100000) (ho : w.ownsRow B 47 4 v 0 []) (hB : B ≤ w.heap.size) (ty : TypeId) :
    ∃ v' w', (Builtin.append_ #[22, 22] ty #[v, vT]).run Tryd.prog w = .ok v' w' ∧ ((∃ a cc, v' = .slice a T.length cc) ∧ w'.ownsRow B 47 4 v' T.length (T.flatMap evC) ∧ w.grownBy w' v.ownBlock) := by
  obtain ⟨ie, hi, hz0, hz1, hz2⟩ := info_parts info_ev
  obtain ⟨a, cap, rfl, h1, h2, h3⟩ := hT
  obtain ⟨b, off, rfl, hb, _⟩ := h3 0 h0
  have hc : ∀ (j : Nat) (u : Value), (T.flatMap evC)[j]? = some u → w.cell? ((⟨b, off, none⟩ : Addr).add j) = some u := fun j u hu => by
    have hj : j < T.length * 4 := by
      have := (List.getElem?_eq_some_iff.1 hu).1
      rw [flat_elen] at this
      exact this
    have hi : j / 4 < T.length := by omega
    rw [show (⟨b, off, none⟩ : Addr).add j = ⟨b, off + j, none⟩ by unfold Addr.add; by_cases h : j = 0 <;> simp [h]]
    obtain ⟨q, hq⟩ : ∃ q, q = j / 4 := ⟨_, rfl⟩
    obtain ⟨r, hr⟩ : ∃ r, r = j % 4 := ⟨_, rfl⟩
    have hjq : j = q * 4 + r := by omega
    have hr4 : r < 4 := by omega
    rw [← hq] at hi
    clear hq hr
    subst hjq
    rw [flat_ev T _ _ hi hr4] at hu
    obtain ⟨b', off', e, _, c0, c1, c2, c3⟩ := h3 _ hi
    simp only [Option.some.injEq, Addr.mk.injEq, and_true] at e
    obtain ⟨rfl, rfl⟩ := e
    have key : ∀ x : Value, (evC (T.getD q zE))[r]? = some x → x = u := fun x hx => Option.some.inj (hx.symm.trans hu)
    rcases (by omega : r = 0 ∨ r = 1 ∨ r = 2 ∨ r = 3) with rfl | rfl | rfl | rfl
    · rw [← key _ rfl]; exact c0
    · rw [← key _ rfl, ← Nat.add_assoc]; exact c1
    · rw [← key _ rfl, ← Nat.add_assoc]; exact c2
    · rw [← key _ rfl, ← Nat.add_assoc]; exact c3
  obtain ⟨v', w', hr, ho', hg, _, _⟩ := run_append_own_at (P := Tryd.prog) w B 22 ty 47 ie _ 4 32 Tryd.underlying22 hi hz0 hz1 hz2 rfl (by omega) v 0 [] ho ⟨b, off, none⟩ T.length cap (T.flatMap evC) (by rw [flat_elen]) hc (evs_one T) (by unfold maxLen; omega) (Nat.le_trans (Nat.mul_le_mul (show 0 + T.length ≤ 100001 by omega) (show 32 ≤ 600 by omega)) (by decide)) hB
  rw [Nat.zero_add, List.nil_append] at ho'
  obtain ⟨a9, c9, e9, _⟩ := own_slice ho'
  exact ⟨v', w', hr, ⟨_, _, e9⟩, ho', hg⟩
/-- who holds the mutex -/
theorem Lk.low {mu : Int} {L : List Ev} {h : Int} (hL : Lk mu L h) : -1 ≤ h ∧ h < 8 := by
  induction hL with
  | none => omega
  | acc _ _ _ _ _ ih => exact ih
  | lock _ _ h0 h8 _ _ _ => omega
  | unlock _ _ _ _ _ _ _ => omega
end Go.Proofs.YticgmebbnnmikaaDoor.Ck
