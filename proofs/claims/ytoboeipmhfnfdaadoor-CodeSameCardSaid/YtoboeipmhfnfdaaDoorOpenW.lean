/- Arguments whose slices lie within one another, with their sizes. -/
import Derived.Test.YtoboeipmhfnfdaaDoorOpenR
import Derived.SizedLaws
namespace Go.Proofs.YtoboeipmhfnfdaaDoor.Ck
open Go.ChangeShapes Go.WideShapes Go.ChangeAt Go.RowKit

/-- no slice within takes more than the reach -/
def Wok {H : Type} (t : TypeId) (d : DataW H) : Prop := ∀ n ∈ d.weights Tryd.prog t, n ≤ reachBytes
theorem weights_all {H : Type} {e : TypeId} : ∀ {ds : List (DataW H)} {i : Nat} {d : DataW H}, ds[i]? = some d → ∀ n ∈ d.weights Tryd.prog e, n ∈ DataW.weightsAll Tryd.prog e ds
  | [], i, d, h, n, _ => by simp at h
  | x :: ds, 0, d, h, n, hn => by
    simp at h
    subst h
    simp only [DataW.weightsAll, List.mem_append]
    exact .inl hn
  | x :: ds, i + 1, d, h, n, hn => by
    simp only [DataW.weightsAll, List.mem_append]
    exact .inr (weights_all (by simpa using h) n hn)
theorem wok_elem {H : Type} {TS T : TypeId} {elems rest : List (DataW H × List MemPlace)} {i : Nat} {y : DataW H × List MemPlace} (hu : Tryd.prog.underlying TS = some (.slice T)) (h : Wok TS (DataW.slice (elems.map (·.1)) (rest.map (·.1)))) (hy : elems[i]? = some y) : Wok T y.1 := fun n hn => by
  refine h n ?_
  simp only [DataW.weights, hu, List.mem_cons, List.mem_append]
  exact .inr (.inl (weights_all (i := i) (by rw [List.getElem?_map, hy]; rfl) n hn))
theorem wok_field {H : Type} {t : TypeId} {fs : Array Field} {xs : List (DataW H × List MemPlace)} {i : Nat} {y : DataW H × List MemPlace} {f : Field} (hu : Tryd.prog.underlying t = some (.struct fs)) (h : Wok t (DataW.agg (xs.map (·.1)))) (hf : fs[i]? = some f) (hy : xs[i]? = some y) : Wok f.type y.1 := fun n hn => by
  refine h n ?_
  simp only [DataW.weights, hu]
  exact DataW.weights_mem_each (j := i) (by rw [List.getElem?_map, Array.getElem?_toList, hf]; rfl) (by rw [List.getElem?_map, hy]; rfl) n hn
set_option maxRecDepth 100000 in
theorem rows_w {α : Type} (d0 : α) {H : Type} {enc : TypeId × Value → H} {W : World} {TS T : TypeId} {n fuel : Nat} {v : Value} {x : DataW H × List MemPlace} (hu : Tryd.prog.underlying TS = some (.slice T)) (hc : Tryd.prog.cellsOf T = n) (hn : 0 < n) (Q : α → List Value → Prop)
    (hP : ∀ (f : Nat) (cs : List Value) (y : DataW H × List MemPlace), f < fuel → DataW.trod enc Tryd.prog W 0 (fun _ => true) true f T cs = some y → Wok T y.1 → ∃ x, Q x cs) (hw : Wok TS x.1) (h : DataW.trod enc Tryd.prog W 0 (fun _ => true) true fuel TS [v] = some x) :
    ∃ (a : Option Addr) (cap : Nat) (l : List α), v = .slice a l.length cap ∧ l.length ≤ cap ∧ cap ≤ maxLen ∧ l.length * Tryd.prog.bytesOf T ≤ reachBytes ∧ ∀ (i : Nat) (y : α), l[i]? = some y → ∃ (b o : Nat) (cs : List Value), a = some ⟨b, o, none⟩ ∧ b < W.heap.size ∧ Q y cs ∧ cs.length = n ∧ ∀ (j : Nat) (u : Value), cs[j]? = some u → W.cell? ⟨b, o + i * n + j, none⟩ = some u := by
  rcases DataW.trod_slice hu h with ⟨e, _⟩ | ⟨a, len, cap, elems, rest, m, hm, e, ex, _, hl1, hl2, hl3, hel, _⟩
  · simp at e
    subst e
    exact ⟨none, 0, [], rfl, Nat.le_refl _, Nat.zero_le _, by simp, fun i y hy => by simp at hy⟩
  · simp at e
    subst e
    have key : ∀ i, i < len → ∃ (y : α) (b o : Nat) (cs : List Value), some a = some ⟨b, o, none⟩ ∧ b < W.heap.size ∧ Q y cs ∧ cs.length = n ∧ ∀ (j : Nat) (u : Value), cs[j]? = some u → W.cell? ⟨b, o + i * n + j, none⟩ = some u := fun i hi => by
      have h9 := hel i hi
      rw [List.getElem?_eq_getElem (show i < elems.length by omega), hc] at h9
      cases hcs : W.cells? 0 (a.add (i * n)) n with
      | none => rw [hcs] at h9; cases h9
      | some cs =>
        rw [hcs] at h9
        obtain ⟨y, hy⟩ := hP m cs _ (by omega) h9 (wok_elem hu (by rw [ex] at hw; exact hw) (List.getElem?_eq_getElem (show i < elems.length by omega)))
        have hlen := cells_len hcs
        have hcell : ∀ k, k < n → W.cell? (a.add (i * n + k)) = cs[k]? := fun k hk => by
          rw [← cells_at hcs k hk, Go.Deep.add_add]
        obtain ⟨c0, hc0⟩ : ∃ c, cs[0]? = some c := ⟨_, List.getElem?_eq_getElem (by omega)⟩
        obtain ⟨b, off, spot⟩ := a
        have hspot : spot = none := by
          have h8 := hel 0 (by omega)
          rw [List.getElem?_eq_getElem (show 0 < elems.length by omega), hc] at h8
          cases hz : W.cells? 0 ((Addr.mk b off spot).add (0 * n)) n with
          | none => rw [hz] at h8; cases h8
          | some zs =>
            have h7 := cells_at hz 0 hn
            rw [List.getElem?_eq_getElem (show 0 < zs.length by rw [cells_len hz]; exact hn)] at h7
            simpa [Addr.add] using World.cell?_spot h7
        subst hspot
        have h0 := (hcell 0 hn).trans hc0
        rw [add_plain] at h0
        refine ⟨y, b, off, cs, rfl, block_lt h0, hy, hlen, fun j u hu => ?_⟩
        have hj := (List.getElem?_eq_some_iff.1 hu).1
        have := (hcell j (by omega)).trans hu
        rw [add_plain] at this
        rw [Nat.add_assoc]
        exact this
    have hch : ∃ fn : Nat → α, ∀ i, i < len → ∃ (b o : Nat) (cs : List Value), some a = some ⟨b, o, none⟩ ∧ b < W.heap.size ∧ Q (fn i) cs ∧ cs.length = n ∧ ∀ (j : Nat) (u : Value), cs[j]? = some u → W.cell? ⟨b, o + i * n + j, none⟩ = some u :=
      ⟨fun i => if h : i < len then Classical.choose (key i h) else d0, fun i hi => by dsimp only; rw [dif_pos hi]; exact Classical.choose_spec (key i hi)⟩
    obtain ⟨fn, hfn⟩ := hch
    refine ⟨some a, cap, (List.range len).map fn, by simp, by simpa using hl1, hl2, ?_, fun i y hy => ?_⟩
    · have h8 := hw ((elems.length + rest.length) * Tryd.prog.bytesOf T) (by rw [ex]; simp [DataW.weights, hu])
      simp only [List.length_map, List.length_range]
      exact Nat.le_trans (Nat.mul_le_mul_right _ (by omega)) h8
    obtain ⟨hj1, hj2⟩ := List.getElem?_eq_some_iff.1 hy
    simp at hj1 hj2
    rw [← hj2]
    exact hfn i hj1
section
variable {H : Type} {enc : TypeId × Value → H} {W : World} {fuel : Nat} {x : DataW H × List MemPlace}
theorem len_of {TS T : TypeId} {l c n : Nat} {a : Option Addr} (hu : Tryd.prog.underlying TS = some (.slice T)) (hb : Tryd.prog.bytesOf T = n) (hn : 0 < n) (h : DataW.trod enc Tryd.prog W 0 (fun _ => true) true fuel TS [.slice a l c] = some x) (hw : Wok TS x.1) : l ≤ 140737488351232 := by
  rcases DataW.trod_slice hu h with ⟨e, _⟩ | ⟨a', len, cap, elems, rest, m, hm, e, ex, _, hl1, hl2, hl3, hel, _⟩
  · simp at e
    omega
  · simp at e
    obtain ⟨rfl, rfl, rfl⟩ := e
    have h8 := hw ((elems.length + rest.length) * Tryd.prog.bytesOf T) (by rw [ex]; simp [DataW.weights, hu])
    rw [hb, show reachBytes = 140737488351232 from rfl] at h8
    have := Nat.le_mul_of_pos_right (elems.length + rest.length) hn
    omega
end
theorem wok_arg {H : Type} {ts : List TypeId} {ds : List (DataW H)} {j : Nat} {t : TypeId} {d : DataW H} (h : (DataW.weightsEach Tryd.prog ts ds).all (· ≤ reachBytes) = true) (ht : ts[j]? = some t) (hd : ds[j]? = some d) : Wok t d := fun n hn => by
  simpa using List.all_eq_true.1 h n (DataW.weights_mem_each ht hd n hn)
end Go.Proofs.YtoboeipmhfnfdaaDoor.Ck
