/- What a list of sentinel errors among the row's variables gives: each variable holds a pointer of its own, and no two are one. -/
import Derived.Test.YticgmebbnnmikaaDoorRows
import Derived.Test.YticgmebbnnmikaaDoorLaid
namespace Go.Proofs.YticgmebbnnmikaaDoor.Ck
open Go.ChangeShapes Go.WideShapes Go.RowKit

def sentD (t : List UInt8) : DataW Unit := .iface "*errors.errorString" (.ptr (.agg [.lit (.string t)]))

/-- each of the variables gs holds the pointer of the list's place, and the row behind it may be written -/
def Sents (W : World) : List Nat → List Addr → Prop
  | [], [] => True
  | g :: gs, a :: av => (g < W.heap.size ∧ W.cell? ⟨g, 0, none⟩ = some (.iface 143 (.pointer (some a))) ∧ ∃ c t, W.heap[a.block]? = some (.cells c t (0, 0))) ∧ Sents W gs av
  | _, _ => False

theorem Sents.at {W : World} {gs : List Nat} {av : List Addr} (h : Sents W gs av) (i : Nat) (hi : i < gs.length) :
    (gs.getD i 0 < W.heap.size ∧ W.cell? ⟨gs.getD i 0, 0, none⟩ = some (.iface 143 (.pointer (some (av.getD i ⟨0, 0, none⟩)))) ∧ ∃ c t, W.heap[(av.getD i ⟨0, 0, none⟩).block]? = some (.cells c t (0, 0))) := by
  induction gs generalizing av i with
  | nil => exact absurd hi (Nat.not_lt_zero _)
  | cons g gs ih =>
    cases av with
    | nil => exact absurd h (fun h => h)
    | cons a av =>
      cases i with
      | zero => exact h.1
      | succ i => exact ih h.2 i (by simpa using hi)
theorem Sents.len {W : World} {gs : List Nat} {av : List Addr} (h : Sents W gs av) : av.length = gs.length := by
  induction gs generalizing av with
  | nil => cases av with
    | nil => rfl
    | cons a av => exact absurd h (fun h => h)
  | cons g gs ih => cases av with
    | nil => exact absurd h (fun h => h)
    | cons a av => simp [ih h.2]

def placeOf (a : Addr) : MemPlace := .cell a.block a.off

set_option maxRecDepth 100000 in
theorem sents_of {W : World} (l : List (String × List UInt8)) (gs : List Nat) (ps : List MemPlace) (hlen : l.length = gs.length)
    (hg : ∀ i, i < l.length → Tryd.prog.globalNamed (l.getD i ("", [])).1 = some (gs.getD i 0) ∧ (Tryd.prog.globals[gs.getD i 0]?).map (·.type) = some 29)
    (h : DataW.LaidVars Tryd.prog W (l.map fun x => (x.1, sentD x.2)) ps)
    (hrows : ∀ b off, MemPlace.cell b off ∈ ps → (∃ c t, W.heap[b]? = some (.cells c t (0, 0))) ∧ ∀ u v, W.cell? ⟨b, off, none⟩ = some (.iface u v) → Value.okWide Tryd.prog W .any 0 u v) :
    ∃ av, Sents W gs av ∧ (av.map placeOf).Sublist ps := by
  induction l generalizing gs ps with
  | nil =>
    cases gs with
    | nil => exact ⟨[], trivial, by simp⟩
    | cons g gs => simp at hlen
  | cons x l ih =>
    cases gs with
    | nil => simp at hlen
    | cons g gs =>
      obtain ⟨g0, t0, cs0, f0, p0, q0, hg0, ht0, hv0, hd0, hq0, e0⟩ := h
      have h0 := hg 0 (by simp)
      simp at h0
      obtain rfl := Option.some.inj (h0.1.symm.trans hg0)
      have ht : t0 = 29 := by
        have h1 := ht0
        simp only [Option.map_eq_some_iff] at h1
        obtain ⟨gl, hgl, hgt⟩ := h1
        obtain ⟨gl', hgl', hgt'⟩ := h0.2
        rw [hgl] at hgl'
        cases hgl'
        exact hgt.symm.trans hgt'
      subst ht
      subst e0
      obtain ⟨l0⟩ := cs0
      obtain ⟨a, s0, rfl, hc0, _, _, rfl⟩ := errorString_of_trod Tryd.underlying29 rowEs Tryd.underlying143 Tryd.underlying168 rfl rfl Tryd.underlying9 cellsEs cells9 hd0 (fun u v e => by
        subst e
        exact (hrows g 0 (by simp [MemPlace.row])).2 u v (by simpa using World.var?_cell hg0 hv0 0))
      have hcell := World.var?_cell hg0 hv0 0
      obtain ⟨c, t, hb⟩ := (hrows a.block a.off (by simp [MemPlace.row])).1
      obtain ⟨av, hs, hsub⟩ := ih gs q0 (by simpa using hlen) (fun i hi => by simpa using hg (i + 1) (by simpa using hi)) hq0 (fun b off hm => hrows b off (List.mem_append_right _ hm))
      refine ⟨a :: av, ⟨⟨?_, by simpa using hcell, c, t, hb⟩, hs⟩, ?_⟩
      · rcases Nat.lt_or_ge g W.heap.size with h' | h'
        · exact h'
        · simp [World.cell?, Array.getElem?_eq_none h'] at hcell
      · have e1 : (placeOf a :: av.map placeOf).Sublist (MemPlace.row a 1 ++ q0) := by
          have : MemPlace.row a 1 = [placeOf a] := by simp [MemPlace.row, placeOf]
          rw [this]
          exact List.Sublist.cons_cons _ hsub
        rw [List.append_assoc]
        exact List.Sublist.trans e1 (List.sublist_append_right _ _)

end Go.Proofs.YticgmebbnnmikaaDoor.Ck
