/- A slice that is handed in, as a list of what its elements are. -/
import Derived.Test.YticgmebbnnmikaaDoorOpen
import Derived.Deep.Slices
import Derived.Lib.SmallJoins
import Derived.ChangeArms
namespace Go.Proofs.YticgmebbnnmikaaDoor.Ck
open Go.ChangeShapes Go.WideShapes Go.ChangeAt Go.RowKit

theorem cells_at {W : World} {ad : Addr} {n : Nat} {cs : List Value} (h : W.cells? 0 ad n = some cs) (i : Nat) (hi : i < n) : W.cell? (ad.add i) = cs[i]? := by
  unfold World.cells? at h
  rw [if_pos (Nat.zero_le _)] at h
  exact mapM_some_get h i i (by rw [List.getElem?_range hi])
theorem cells_len {W : World} {ad : Addr} {n : Nat} {cs : List Value} (h : W.cells? 0 ad n = some cs) : cs.length = n := by
  unfold World.cells? at h
  rw [if_pos (Nat.zero_le _)] at h
  simpa using mapM_some_length h
set_option maxRecDepth 100000 in
theorem rows_of {α : Type} (d0 : α) {H : Type} {enc : TypeId × Value → H} {W : World} {TS T : TypeId} {n fuel : Nat} {v : Value} {x : DataW H × List MemPlace} (hu : Tryd.prog.underlying TS = some (.slice T)) (hc : Tryd.prog.cellsOf T = n) (hn : 0 < n) (Q : α → List Value → Prop)
    (hP : ∀ (f : Nat) (cs : List Value) (y : DataW H × List MemPlace), f < fuel → DataW.trod enc Tryd.prog W 0 (fun _ => true) true f T cs = some y → ∃ x, Q x cs) (h : DataW.trod enc Tryd.prog W 0 (fun _ => true) true fuel TS [v] = some x) :
    ∃ (a : Option Addr) (cap : Nat) (l : List α), v = .slice a l.length cap ∧ l.length ≤ cap ∧ cap ≤ maxLen ∧ ∀ (i : Nat) (y : α), l[i]? = some y → ∃ (b o : Nat) (cs : List Value), a = some ⟨b, o, none⟩ ∧ b < W.heap.size ∧ Q y cs ∧ cs.length = n ∧ ∀ (j : Nat) (u : Value), cs[j]? = some u → W.cell? ⟨b, o + i * n + j, none⟩ = some u := by
  rcases DataW.trod_slice hu h with ⟨e, _⟩ | ⟨a, len, cap, elems, rest, m, hm, e, _, _, hl1, hl2, hl3, hel, _⟩
  · simp at e
    subst e
    exact ⟨none, 0, [], rfl, Nat.le_refl _, Nat.zero_le _, fun i y hy => by simp at hy⟩
  · simp at e
    subst e
    have key : ∀ i, i < len → ∃ (y : α) (b o : Nat) (cs : List Value), some a = some ⟨b, o, none⟩ ∧ b < W.heap.size ∧ Q y cs ∧ cs.length = n ∧ ∀ (j : Nat) (u : Value), cs[j]? = some u → W.cell? ⟨b, o + i * n + j, none⟩ = some u := fun i hi => by
      have h9 := hel i hi
      rw [List.getElem?_eq_getElem (show i < elems.length by omega), hc] at h9
      cases hcs : W.cells? 0 (a.add (i * n)) n with
      | none => rw [hcs] at h9; cases h9
      | some cs =>
        rw [hcs] at h9
        obtain ⟨y, hy⟩ := hP m cs _ (by omega) h9
        have hlen := cells_len hcs
        have hcell : ∀ k, k < n → W.cell? (a.add (i * n + k)) = cs[k]? := fun k hk => by
          rw [← cells_at hcs k hk, Go.Deep.add_add]
        obtain ⟨c0, hc0⟩ : ∃ c, cs[0]? = some c := ⟨_, List.getElem?_eq_getElem (by omega)⟩
        obtain ⟨b, off, spot⟩ := a
        have hspot : spot = none := by
          have h8 := hel 0 (by omega)
          rw [List.getElem?_eq_getElem (show 0 < elems.length by omega), hc] at h8
          cases hz : W.cells? 0 ((Addr.mk b off spot).add (0 * n)) n with
          | none => rw [hz] at h8; cases h8
          | some zs =>
            have h7 := cells_at hz 0 hn
            rw [List.getElem?_eq_getElem (show 0 < zs.length by rw [cells_len hz]; exact hn)] at h7
            simpa [Addr.add] using World.cell?_spot h7
        subst hspot
        have h0 := (hcell 0 hn).trans hc0
        rw [add_plain] at h0
        refine ⟨y, b, off, cs, rfl, block_lt h0, hy, hlen, fun j u hu => ?_⟩
        have hj := (List.getElem?_eq_some_iff.1 hu).1
        have := (hcell j (by omega)).trans hu
        rw [add_plain] at this
        rw [Nat.add_assoc]
        exact this
    have hch : ∃ fn : Nat → α, ∀ i, i < len → ∃ (b o : Nat) (cs : List Value), some a = some ⟨b, o, none⟩ ∧ b < W.heap.size ∧ Q (fn i) cs ∧ cs.length = n ∧ ∀ (j : Nat) (u : Value), cs[j]? = some u → W.cell? ⟨b, o + i * n + j, none⟩ = some u :=
      ⟨fun i => if h : i < len then Classical.choose (key i h) else d0, fun i hi => by dsimp only; rw [dif_pos hi]; exact Classical.choose_spec (key i hi)⟩
    obtain ⟨fn, hfn⟩ := hch
    refine ⟨some a, cap, (List.range len).map fn, by simp, by simpa using hl1, hl2, fun i y hy => ?_⟩
    obtain ⟨hj1, hj2⟩ := List.getElem?_eq_some_iff.1 hy
    simp at hj1 hj2
    rw [← hj2]
    exact hfn i hj1
theorem sl_of {H : Type} {enc : TypeId × Value → H} {W : World} {fuel : Nat} {v : Value} {x : DataW H × List MemPlace} (h : DataW.trod enc Tryd.prog W 0 (fun _ => true) true fuel 23 [v] = some x) : ∃ zs, Sl W v zs := by
  rcases DataW.trod_slice Tryd.underlying23 h with ⟨e, _⟩ | ⟨a, len, cap, elems, rest, m, hm, e, _⟩
  · simp at e
    subst e
    exact ⟨[], Sl.nilS W⟩
  · simp at e
    subst e
    exact sl_open (d := x.1) (p := x.2) ⟨fuel, h⟩
end Go.Proofs.YticgmebbnnmikaaDoor.Ck
