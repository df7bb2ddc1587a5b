/- Texts of this proof, packed. -/
import Derived.Test.YtidjbgemnohbnaaDoorLaidQ
import Derived.WalkKit
import Derived.ProofKit
import Derived.OpenShut
import Derived.ChangeOld
import Derived.Below
import Derived.Deep.Slices
import Derived.Lib.SmallJoins
import Derived.ChangeArms
import Derived.SizedLaws
import Derived.Test.YtidjbgemnohbnaaDoorGq1
/- From an argument's reading to the list that it holds. -/
namespace Go.Proofs.YtidjbgemnohbnaaDoor.Ck
open Go.ChangeShapes Go.WideShapes Go.ChangeAt Go.RowKit

theorem block_lt {W : World} {a : Addr} {v : Value} (hc : W.cell? a = some v) : a.block < W.heap.size := by
  rcases Nat.lt_or_ge a.block W.heap.size with h' | h'
  · exact h'
  · simp [World.cell?, Array.getElem?_eq_none h'] at hc
theorem wf_i64 {z : Int} (h : (Lit.int .i64 z).wf = true) : -9223372036854775808 ≤ z ∧ z ≤ 9223372036854775807 := by
  have := bounds_i64 h
  omega

theorem add_plain (b off i : Nat) : (Addr.mk b off none).add i = ⟨b, off + i, none⟩ := by
  unfold Addr.add
  by_cases h : i = 0 <;> simp [h]

theorem sl_open {H : Type} {enc : TypeId × Value → H} {W : World} {a : Option Addr} {len cap : Nat} {d : DataW H} {p : List MemPlace}
    (h : DataW.Trod enc Tryd.prog W 0 (fun _ => true) true 22 (.slice a len cap) d p) : ∃ zs, Sl W (.slice a len cap) zs := by
  obtain ⟨fuel, hf⟩ := h
  rcases open_ints Tryd.underlying22 Tryd.underlying3 (by kernel_rfl) hf with ⟨hcs, _⟩ | ⟨x, l, c, zs, hcs, _, hl, hm, hz, _, hcell, hwz⟩
  · simp [Value.cells] at hcs
    obtain ⟨rfl, rfl, rfl⟩ := hcs
    exact ⟨[], Sl.nilS W⟩
  · simp [Value.cells] at hcs
    obtain ⟨rfl, rfl, rfl⟩ := hcs
    have hz' : zs.length = cap := by simpa using hz
    have hlen : (zs.take len).length = len := by simp; omega
    refine ⟨zs.take len, fun z hm' => wf_i64 (hwz z (List.mem_of_mem_take hm')), some x, cap, by rw [hlen], by omega, hm, fun i hi => ?_⟩
    rw [hlen] at hi
    have hc := hcell i (by omega)
    obtain ⟨b, off, spot⟩ := x
    have hspot : spot = none := by simpa [Addr.add] using World.cell?_spot (hcell 0 (by omega))
    subst hspot
    rw [add_plain] at hc
    refine ⟨b, off, rfl, block_lt hc, ?_⟩
    have e : (zs.take len).getD i 0 = zs.getD i 0 := by simp [List.getD, hi]
    rw [e]
    exact hc

end Go.Proofs.YtidjbgemnohbnaaDoor.Ck

/- A slice that is handed in, as a list of what its elements are. -/
namespace Go.Proofs.YtidjbgemnohbnaaDoor.Ck
open Go.ChangeShapes Go.WideShapes Go.ChangeAt Go.RowKit

theorem cells_at {W : World} {ad : Addr} {n : Nat} {cs : List Value} (h : W.cells? 0 ad n = some cs) (i : Nat) (hi : i < n) : W.cell? (ad.add i) = cs[i]? := by
  unfold World.cells? at h
  rw [if_pos (Nat.zero_le _)] at h
  exact mapM_some_get h i i (by rw [List.getElem?_range hi])
theorem cells_len {W : World} {ad : Addr} {n : Nat} {cs : List Value} (h : W.cells? 0 ad n = some cs) : cs.length = n := by
  unfold World.cells? at h
  rw [if_pos (Nat.zero_le _)] at h
  simpa using mapM_some_length h
set_option maxRecDepth 100000 in
theorem rows_of {α : Type} (d0 : α) {H : Type} {enc : TypeId × Value → H} {W : World} {TS T : TypeId} {n fuel : Nat} {v : Value} {x : DataW H × List MemPlace} (hu : Tryd.prog.underlying TS = some (.slice T)) (hc : Tryd.prog.cellsOf T = n) (hn : 0 < n) (Q : α → List Value → Prop)
    (hP : ∀ (f : Nat) (cs : List Value) (y : DataW H × List MemPlace), f < fuel → DataW.trod enc Tryd.prog W 0 (fun _ => true) true f T cs = some y → ∃ x, Q x cs) (h : DataW.trod enc Tryd.prog W 0 (fun _ => true) true fuel TS [v] = some x) :
    ∃ (a : Option Addr) (cap : Nat) (l : List α), v = .slice a l.length cap ∧ l.length ≤ cap ∧ cap ≤ maxLen ∧ ∀ (i : Nat) (y : α), l[i]? = some y → ∃ (b o : Nat) (cs : List Value), a = some ⟨b, o, none⟩ ∧ b < W.heap.size ∧ Q y cs ∧ cs.length = n ∧ ∀ (j : Nat) (u : Value), cs[j]? = some u → W.cell? ⟨b, o + i * n + j, none⟩ = some u := by
  rcases DataW.trod_slice hu h with ⟨e, _⟩ | ⟨a, len, cap, elems, rest, m, hm, e, _, _, hl1, hl2, hl3, hel, _⟩
  · simp at e
    subst e
    exact ⟨none, 0, [], rfl, Nat.le_refl _, Nat.zero_le _, fun i y hy => by simp at hy⟩
  · simp at e
    subst e
    have key : ∀ i, i < len → ∃ (y : α) (b o : Nat) (cs : List Value), some a = some ⟨b, o, none⟩ ∧ b < W.heap.size ∧ Q y cs ∧ cs.length = n ∧ ∀ (j : Nat) (u : Value), cs[j]? = some u → W.cell? ⟨b, o + i * n + j, none⟩ = some u := fun i hi => by
      have h9 := hel i hi
      rw [List.getElem?_eq_getElem (show i < elems.length by omega), hc] at h9
      cases hcs : W.cells? 0 (a.add (i * n)) n with
      | none => rw [hcs] at h9; cases h9
      | some cs =>
        rw [hcs] at h9
        obtain ⟨y, hy⟩ := hP m cs _ (by omega) h9
        have hlen := cells_len hcs
        have hcell : ∀ k, k < n → W.cell? (a.add (i * n + k)) = cs[k]? := fun k hk => by
          rw [← cells_at hcs k hk, Go.Deep.add_add]
        obtain ⟨c0, hc0⟩ : ∃ c, cs[0]? = some c := ⟨_, List.getElem?_eq_getElem (by omega)⟩
        obtain ⟨b, off, spot⟩ := a
        have hspot : spot = none := by
          have h8 := hel 0 (by omega)
          rw [List.getElem?_eq_getElem (show 0 < elems.length by omega), hc] at h8
          cases hz : W.cells? 0 ((Addr.mk b off spot).add (0 * n)) n with
          | none => rw [hz] at h8; cases h8
          | some zs =>
            have h7 := cells_at hz 0 hn
            rw [List.getElem?_eq_getElem (show 0 < zs.length by rw [cells_len hz]; exact hn)] at h7
            simpa [Addr.add] using World.cell?_spot h7
        subst hspot
        have h0 := (hcell 0 hn).trans hc0
        rw [add_plain] at h0
        refine ⟨y, b, off, cs, rfl, block_lt h0, hy, hlen, fun j u hu => ?_⟩
        have hj := (List.getElem?_eq_some_iff.1 hu).1
        have := (hcell j (by omega)).trans hu
        rw [add_plain] at this
        rw [Nat.add_assoc]
        exact this
    have hch : ∃ fn : Nat → α, ∀ i, i < len → ∃ (b o : Nat) (cs : List Value), some a = some ⟨b, o, none⟩ ∧ b < W.heap.size ∧ Q (fn i) cs ∧ cs.length = n ∧ ∀ (j : Nat) (u : Value), cs[j]? = some u → W.cell? ⟨b, o + i * n + j, none⟩ = some u :=
      ⟨fun i => if h : i < len then Classical.choose (key i h) else d0, fun i hi => by dsimp only; rw [dif_pos hi]; exact Classical.choose_spec (key i hi)⟩
    obtain ⟨fn, hfn⟩ := hch
    refine ⟨some a, cap, (List.range len).map fn, by simp, by simpa using hl1, hl2, fun i y hy => ?_⟩
    obtain ⟨hj1, hj2⟩ := List.getElem?_eq_some_iff.1 hy
    simp at hj1 hj2
    rw [← hj2]
    exact hfn i hj1
theorem sl_of {H : Type} {enc : TypeId × Value → H} {W : World} {fuel : Nat} {v : Value} {x : DataW H × List MemPlace} (h : DataW.trod enc Tryd.prog W 0 (fun _ => true) true fuel 22 [v] = some x) : ∃ zs, Sl W v zs := by
  rcases DataW.trod_slice Tryd.underlying22 h with ⟨e, _⟩ | ⟨a, len, cap, elems, rest, m, hm, e, _⟩
  · simp at e
    subst e
    exact ⟨[], Sl.nilS W⟩
  · simp at e
    subst e
    exact sl_open (d := x.1) (p := x.2) ⟨fuel, h⟩
end Go.Proofs.YtidjbgemnohbnaaDoor.Ck

/- Arguments whose slices lie within one another, with their sizes. -/
namespace Go.Proofs.YtidjbgemnohbnaaDoor.Ck
open Go.ChangeShapes Go.WideShapes Go.ChangeAt Go.RowKit

/-- no slice within takes more than the reach -/
def Wok {H : Type} (t : TypeId) (d : DataW H) : Prop := ∀ n ∈ d.weights Tryd.prog t, n ≤ reachBytes
theorem weights_all {H : Type} {e : TypeId} : ∀ {ds : List (DataW H)} {i : Nat} {d : DataW H}, ds[i]? = some d → ∀ n ∈ d.weights Tryd.prog e, n ∈ DataW.weightsAll Tryd.prog e ds
  | [], i, d, h, n, _ => by simp at h
  | x :: ds, 0, d, h, n, hn => by
    simp at h
    subst h
    simp only [DataW.weightsAll, List.mem_append]
    exact .inl hn
  | x :: ds, i + 1, d, h, n, hn => by
    simp only [DataW.weightsAll, List.mem_append]
    exact .inr (weights_all (by simpa using h) n hn)
theorem wok_elem {H : Type} {TS T : TypeId} {elems rest : List (DataW H × List MemPlace)} {i : Nat} {y : DataW H × List MemPlace} (hu : Tryd.prog.underlying TS = some (.slice T)) (h : Wok TS (DataW.slice (elems.map (·.1)) (rest.map (·.1)))) (hy : elems[i]? = some y) : Wok T y.1 := fun n hn => by
  refine h n ?_
  simp only [DataW.weights, hu, List.mem_cons, List.mem_append]
  exact .inr (.inl (weights_all (i := i) (by rw [List.getElem?_map, hy]; rfl) n hn))
theorem wok_field {H : Type} {t : TypeId} {fs : Array Field} {xs : List (DataW H × List MemPlace)} {i : Nat} {y : DataW H × List MemPlace} {f : Field} (hu : Tryd.prog.underlying t = some (.struct fs)) (h : Wok t (DataW.agg (xs.map (·.1)))) (hf : fs[i]? = some f) (hy : xs[i]? = some y) : Wok f.type y.1 := fun n hn => by
  refine h n ?_
  simp only [DataW.weights, hu]
  exact DataW.weights_mem_each (j := i) (by rw [List.getElem?_map, Array.getElem?_toList, hf]; rfl) (by rw [List.getElem?_map, hy]; rfl) n hn
set_option maxRecDepth 100000 in
theorem rows_w {α : Type} (d0 : α) {H : Type} {enc : TypeId × Value → H} {W : World} {TS T : TypeId} {n fuel : Nat} {v : Value} {x : DataW H × List MemPlace} (hu : Tryd.prog.underlying TS = some (.slice T)) (hc : Tryd.prog.cellsOf T = n) (hn : 0 < n) (Q : α → List Value → Prop)
    (hP : ∀ (f : Nat) (cs : List Value) (y : DataW H × List MemPlace), f < fuel → DataW.trod enc Tryd.prog W 0 (fun _ => true) true f T cs = some y → Wok T y.1 → ∃ x, Q x cs) (hw : Wok TS x.1) (h : DataW.trod enc Tryd.prog W 0 (fun _ => true) true fuel TS [v] = some x) :
    ∃ (a : Option Addr) (cap : Nat) (l : List α), v = .slice a l.length cap ∧ l.length ≤ cap ∧ cap ≤ maxLen ∧ l.length * Tryd.prog.bytesOf T ≤ reachBytes ∧ ∀ (i : Nat) (y : α), l[i]? = some y → ∃ (b o : Nat) (cs : List Value), a = some ⟨b, o, none⟩ ∧ b < W.heap.size ∧ Q y cs ∧ cs.length = n ∧ ∀ (j : Nat) (u : Value), cs[j]? = some u → W.cell? ⟨b, o + i * n + j, none⟩ = some u := by
  rcases DataW.trod_slice hu h with ⟨e, _⟩ | ⟨a, len, cap, elems, rest, m, hm, e, ex, _, hl1, hl2, hl3, hel, _⟩
  · simp at e
    subst e
    exact ⟨none, 0, [], rfl, Nat.le_refl _, Nat.zero_le _, by simp, fun i y hy => by simp at hy⟩
  · simp at e
    subst e
    have key : ∀ i, i < len → ∃ (y : α) (b o : Nat) (cs : List Value), some a = some ⟨b, o, none⟩ ∧ b < W.heap.size ∧ Q y cs ∧ cs.length = n ∧ ∀ (j : Nat) (u : Value), cs[j]? = some u → W.cell? ⟨b, o + i * n + j, none⟩ = some u := fun i hi => by
      have h9 := hel i hi
      rw [List.getElem?_eq_getElem (show i < elems.length by omega), hc] at h9
      cases hcs : W.cells? 0 (a.add (i * n)) n with
      | none => rw [hcs] at h9; cases h9
      | some cs =>
        rw [hcs] at h9
        obtain ⟨y, hy⟩ := hP m cs _ (by omega) h9 (wok_elem hu (by rw [ex] at hw; exact hw) (List.getElem?_eq_getElem (show i < elems.length by omega)))
        have hlen := cells_len hcs
        have hcell : ∀ k, k < n → W.cell? (a.add (i * n + k)) = cs[k]? := fun k hk => by
          rw [← cells_at hcs k hk, Go.Deep.add_add]
        obtain ⟨c0, hc0⟩ : ∃ c, cs[0]? = some c := ⟨_, List.getElem?_eq_getElem (by omega)⟩
        obtain ⟨b, off, spot⟩ := a
        have hspot : spot = none := by
          have h8 := hel 0 (by omega)
          rw [List.getElem?_eq_getElem (show 0 < elems.length by omega), hc] at h8
          cases hz : W.cells? 0 ((Addr.mk b off spot).add (0 * n)) n with
          | none => rw [hz] at h8; cases h8
          | some zs =>
            have h7 := cells_at hz 0 hn
            rw [List.getElem?_eq_getElem (show 0 < zs.length by rw [cells_len hz]; exact hn)] at h7
            simpa [Addr.add] using World.cell?_spot h7
        subst hspot
        have h0 := (hcell 0 hn).trans hc0
        rw [add_plain] at h0
        refine ⟨y, b, off, cs, rfl, block_lt h0, hy, hlen, fun j u hu => ?_⟩
        have hj := (List.getElem?_eq_some_iff.1 hu).1
        have := (hcell j (by omega)).trans hu
        rw [add_plain] at this
        rw [Nat.add_assoc]
        exact this
    have hch : ∃ fn : Nat → α, ∀ i, i < len → ∃ (b o : Nat) (cs : List Value), some a = some ⟨b, o, none⟩ ∧ b < W.heap.size ∧ Q (fn i) cs ∧ cs.length = n ∧ ∀ (j : Nat) (u : Value), cs[j]? = some u → W.cell? ⟨b, o + i * n + j, none⟩ = some u :=
      ⟨fun i => if h : i < len then Classical.choose (key i h) else d0, fun i hi => by dsimp only; rw [dif_pos hi]; exact Classical.choose_spec (key i hi)⟩
    obtain ⟨fn, hfn⟩ := hch
    refine ⟨some a, cap, (List.range len).map fn, by simp, by simpa using hl1, hl2, ?_, fun i y hy => ?_⟩
    · have h8 := hw ((elems.length + rest.length) * Tryd.prog.bytesOf T) (by rw [ex]; simp [DataW.weights, hu])
      simp only [List.length_map, List.length_range]
      exact Nat.le_trans (Nat.mul_le_mul_right _ (by omega)) h8
    obtain ⟨hj1, hj2⟩ := List.getElem?_eq_some_iff.1 hy
    simp at hj1 hj2
    rw [← hj2]
    exact hfn i hj1
section
variable {H : Type} {enc : TypeId × Value → H} {W : World} {fuel : Nat} {x : DataW H × List MemPlace}
theorem len_of {TS T : TypeId} {l c n : Nat} {a : Option Addr} (hu : Tryd.prog.underlying TS = some (.slice T)) (hb : Tryd.prog.bytesOf T = n) (hn : 0 < n) (h : DataW.trod enc Tryd.prog W 0 (fun _ => true) true fuel TS [.slice a l c] = some x) (hw : Wok TS x.1) : l ≤ 140737488351232 := by
  rcases DataW.trod_slice hu h with ⟨e, _⟩ | ⟨a', len, cap, elems, rest, m, hm, e, ex, _, hl1, hl2, hl3, hel, _⟩
  · simp at e
    omega
  · simp at e
    obtain ⟨rfl, rfl, rfl⟩ := e
    have h8 := hw ((elems.length + rest.length) * Tryd.prog.bytesOf T) (by rw [ex]; simp [DataW.weights, hu])
    rw [hb, show reachBytes = 140737488351232 from rfl] at h8
    have := Nat.le_mul_of_pos_right (elems.length + rest.length) hn
    omega
end
theorem wok_arg {H : Type} {ts : List TypeId} {ds : List (DataW H)} {j : Nat} {t : TypeId} {d : DataW H} (h : (DataW.weightsEach Tryd.prog ts ds).all (· ≤ reachBytes) = true) (ht : ts[j]? = some t) (hd : ds[j]? = some d) : Wok t d := fun n hn => by
  simpa using List.all_eq_true.1 h n (DataW.weights_mem_each ht hd n hn)
end Go.Proofs.YtidjbgemnohbnaaDoor.Ck

/- A code that is handed in. -/
namespace Go.Proofs.YtidjbgemnohbnaaDoor.Ck
open Go.ChangeShapes Go.WideShapes Go.ChangeAt Go.RowKit

theorem wf_u8 {z : Int} (h : (Lit.int .u8 z).wf = true) : 0 ≤ z ∧ z < 256 := by
  simp [Lit.wf] at h
  have h' : 0 ≤ z ∧ z ≤ 255 := h
  omega
theorem wf_u64 {z : Int} (h : (Lit.int .u64 z).wf = true) : 0 ≤ z ∧ z < 18446744073709551616 := by
  simp [Lit.wf] at h
  have h' : 0 ≤ z ∧ z ≤ 18446744073709551615 := h
  omega
section
variable {H : Type} {enc : TypeId × Value → H} {W : World} {fuel : Nat} {v : Value} {cs : List Value} {x : DataW H × List MemPlace}
set_option maxRecDepth 100000 in
theorem chan_of (h : DataW.trod enc Tryd.prog W 0 (fun _ => true) true fuel 65 cs = some x) : ∃ c : Int × Int, cs = [.int .i64 c.1, .int .i64 c.2] ∧ -9223372036854775808 ≤ c.1 ∧ c.1 ≤ 9223372036854775807 := by
  obtain ⟨xs, f, hfu, _, hl, hlen, hf⟩ := DataW.trod_struct Tryd.underlying65 h
  rw [show Tryd.prog.cellsOf 65 = 2 by kernel_rfl] at hl
  clear h
  have hx : xs.length = 2 := hlen
  match cs, hl with
  | [c0, c1], _ =>
    have h0 : DataW.trod enc Tryd.prog W 0 (fun _ => true) true f 3 (([c0, c1].drop 0).take (Tryd.prog.cellsOf 3)) = xs[0]? := hf 0 _ rfl
    have h1 : DataW.trod enc Tryd.prog W 0 (fun _ => true) true f 3 (([c0, c1].drop 1).take (Tryd.prog.cellsOf 3)) = xs[1]? := hf 1 _ rfl
    clear hf
    simp only [show Tryd.prog.cellsOf 3 = 1 by kernel_rfl, List.drop_zero, List.drop_succ_cons, List.take_succ_cons, List.take_zero] at h0 h1
    rw [List.getElem?_eq_getElem (by omega)] at h0 h1
    obtain ⟨z0, q0, _, s0⟩ := DataW.trod_int Tryd.underlying3 h0
    obtain ⟨z1, q1, _⟩ := DataW.trod_int Tryd.underlying3 h1
    simp at q0 q1
    subst q0 q1
    exact ⟨(z0, z1), rfl, wf_i64 s0⟩
theorem chans_of (h : DataW.trod enc Tryd.prog W 0 (fun _ => true) true fuel 23 [v] = some x) (hw : Wok 23 x.1) : ∃ l, SlC W v l ∧ l.length ≤ 140737488351232 ∧ ∀ h ∈ l, -9223372036854775808 ≤ h.1 ∧ h.1 ≤ 9223372036854775807 := by
  obtain ⟨a, cap, l, e, h1, h2, h4, h3⟩ := rows_w ((0, 0) : Int × Int) Tryd.underlying23 (show Tryd.prog.cellsOf 65 = 2 by kernel_rfl) (by omega) (fun (c : Int × Int) cs => cs = [.int .i64 c.1, .int .i64 c.2] ∧ -9223372036854775808 ≤ c.1 ∧ c.1 ≤ 9223372036854775807) (fun f cs y _ hy _ => chan_of hy) hw h
  rw [show Tryd.prog.bytesOf 65 = 16 by kernel_rfl, show reachBytes = 140737488351232 from rfl] at h4
  refine ⟨l, ⟨a, cap, e, h1, h2, fun i hi => ?_⟩, by omega, fun y hy => ?_⟩
  · obtain ⟨b, o, cs, ea, hb, ⟨rfl, _⟩, _, hc⟩ := h3 i _ (List.getElem?_eq_getElem hi)
    have e2 : l.getD i z2 = l[i] := by simp [List.getD, hi]
    rw [e2]
    exact ⟨b, o, ea, hb, hc 0 _ rfl, hc 1 _ rfl⟩
  · obtain ⟨i, hi, rfl⟩ := List.mem_iff_getElem.1 hy
    obtain ⟨b, o, cs, ea, hb, ⟨_, hr⟩, _⟩ := h3 i _ (List.getElem?_eq_getElem hi)
    exact hr
set_option maxRecDepth 100000 in
theorem ins_of (h : DataW.trod enc Tryd.prog W 0 (fun _ => true) true fuel 44 cs = some x) : ∃ c : In5, cs = [.int .i64 c.op, .int .i64 c.a, .int .i64 c.b, .int .u64 c.bits, .int .i64 c.at_] ∧ InX c := by
  obtain ⟨xs, f, hfu, _, hl, hlen, hf⟩ := DataW.trod_struct Tryd.underlying44 h
  rw [show Tryd.prog.cellsOf 44 = 5 by kernel_rfl] at hl
  clear h
  have hx : xs.length = 5 := hlen
  match cs, hl with
  | [c0, c1, c2, c3, c4], _ =>
    have h0 : DataW.trod enc Tryd.prog W 0 (fun _ => true) true f 3 (([c0, c1, c2, c3, c4].drop 0).take (Tryd.prog.cellsOf 3)) = xs[0]? := hf 0 _ rfl
    have h1 : DataW.trod enc Tryd.prog W 0 (fun _ => true) true f 3 (([c0, c1, c2, c3, c4].drop 1).take (Tryd.prog.cellsOf 3)) = xs[1]? := hf 1 _ rfl
    have h2 : DataW.trod enc Tryd.prog W 0 (fun _ => true) true f 3 (([c0, c1, c2, c3, c4].drop 2).take (Tryd.prog.cellsOf 3)) = xs[2]? := hf 2 _ rfl
    have h3 : DataW.trod enc Tryd.prog W 0 (fun _ => true) true f 42 (([c0, c1, c2, c3, c4].drop 3).take (Tryd.prog.cellsOf 42)) = xs[3]? := hf 3 _ rfl
    have h4 : DataW.trod enc Tryd.prog W 0 (fun _ => true) true f 3 (([c0, c1, c2, c3, c4].drop 4).take (Tryd.prog.cellsOf 3)) = xs[4]? := hf 4 _ rfl
    clear hf
    simp only [show Tryd.prog.cellsOf 3 = 1 by kernel_rfl, show Tryd.prog.cellsOf 42 = 1 by kernel_rfl, List.drop_zero, List.drop_succ_cons, List.take_succ_cons, List.take_zero] at h0 h1 h2 h3 h4
    rw [List.getElem?_eq_getElem (by omega)] at h0 h1 h2 h3 h4
    obtain ⟨z0, q0, _, s0⟩ := DataW.trod_int Tryd.underlying3 h0
    obtain ⟨z1, q1, _, s1⟩ := DataW.trod_int Tryd.underlying3 h1
    obtain ⟨z2, q2, _⟩ := DataW.trod_int Tryd.underlying3 h2
    obtain ⟨z3, q3, _, s3⟩ := DataW.trod_int Tryd.underlying42 h3
    obtain ⟨z4, q4, _⟩ := DataW.trod_int Tryd.underlying3 h4
    simp at q0 q1 q2 q3 q4
    subst q0 q1 q2 q3 q4
    have r0 := wf_i64 s0
    have r1 := wf_i64 s1
    have r3 := wf_u64 s3
    exact ⟨⟨z0, z1, z2, z3, z4⟩, rfl, ⟨by show z1 < _; omega, r3⟩, r0⟩
theorem inss_of (h : DataW.trod enc Tryd.prog W 0 (fun _ => true) true fuel 25 [v] = some x) (hw : Wok 25 x.1) : ∃ l, SlB W v l ∧ l.length ≤ 140737488351232 ∧ ∀ h ∈ l, InX h := by
  obtain ⟨a, cap, l, e, h1, h2, h4, h3⟩ := rows_w zI Tryd.underlying25 (show Tryd.prog.cellsOf 44 = 5 by kernel_rfl) (by omega) (fun (c : In5) cs => cs = [.int .i64 c.op, .int .i64 c.a, .int .i64 c.b, .int .u64 c.bits, .int .i64 c.at_] ∧ InX c) (fun f cs y _ hy _ => ins_of hy) hw h
  rw [show Tryd.prog.bytesOf 44 = 40 by kernel_rfl, show reachBytes = 140737488351232 from rfl] at h4
  refine ⟨l, ⟨a, cap, e, h1, h2, fun i hi => ?_⟩, by omega, fun y hy => ?_⟩
  · obtain ⟨b, o, cs, ea, hb, ⟨rfl, _⟩, _, hc⟩ := h3 i _ (List.getElem?_eq_getElem hi)
    have e2 : l.getD i zI = l[i] := by simp [List.getD, hi]
    rw [e2]
    exact ⟨b, o, ea, hb, hc 0 _ rfl, hc 1 _ rfl, hc 2 _ rfl, hc 3 _ rfl, hc 4 _ rfl⟩
  · obtain ⟨i, hi, rfl⟩ := List.mem_iff_getElem.1 hy
    obtain ⟨b, o, cs, ea, hb, ⟨_, hr⟩, _⟩ := h3 i _ (List.getElem?_eq_getElem hi)
    exact hr
set_option maxRecDepth 100000 in
theorem entry_of (h : DataW.trod enc Tryd.prog W 0 (fun _ => true) true fuel 46 cs = some x) (hw : Wok 46 x.1) : ∃ y : Fn3 × Value, cs = [.int .i64 y.1.st, .int .i64 y.1.pa, y.2] ∧ Sl W y.2 y.1.lo ∧ y.1.lo.length ≤ 140737488351232 := by
  obtain ⟨xs, f, hfu, ex, hl, hlen, hf⟩ := DataW.trod_struct Tryd.underlying46 h
  rw [show Tryd.prog.cellsOf 46 = 3 by kernel_rfl] at hl
  clear h
  have hx : xs.length = 3 := hlen
  match cs, hl with
  | [c0, c1, c2], _ =>
    have h0 : DataW.trod enc Tryd.prog W 0 (fun _ => true) true f 3 (([c0, c1, c2].drop 0).take (Tryd.prog.cellsOf 3)) = xs[0]? := hf 0 _ rfl
    have h1 : DataW.trod enc Tryd.prog W 0 (fun _ => true) true f 3 (([c0, c1, c2].drop 1).take (Tryd.prog.cellsOf 3)) = xs[1]? := hf 1 _ rfl
    have h2 : DataW.trod enc Tryd.prog W 0 (fun _ => true) true f 22 (([c0, c1, c2].drop 2).take (Tryd.prog.cellsOf 22)) = xs[2]? := hf 2 _ rfl
    clear hf
    simp only [show Tryd.prog.cellsOf 3 = 1 by kernel_rfl, show Tryd.prog.cellsOf 22 = 1 by kernel_rfl, List.drop_zero, List.drop_succ_cons, List.take_succ_cons, List.take_zero] at h0 h1 h2
    rw [List.getElem?_eq_getElem (by omega)] at h0 h1 h2
    obtain ⟨z0, q0, _⟩ := DataW.trod_int Tryd.underlying3 h0
    obtain ⟨z1, q1, _⟩ := DataW.trod_int Tryd.underlying3 h1
    simp at q0 q1
    subst q0 q1
    obtain ⟨lo, hlo⟩ := sl_of h2
    rw [ex] at hw
    have w2 := wok_field (i := 2) Tryd.underlying46 hw rfl (List.getElem?_eq_getElem (show 2 < xs.length by omega))
    refine ⟨(⟨z0, z1, lo⟩, c2), rfl, hlo, ?_⟩
    obtain ⟨aP, lP, cP, e, hlP⟩ := hlo.slice
    subst e
    have := len_of Tryd.underlying22 (show Tryd.prog.bytesOf 3 = 8 by kernel_rfl) (by omega) h2 w2
    show lo.length ≤ _
    omega
theorem entries_of (h : DataW.trod enc Tryd.prog W 0 (fun _ => true) true fuel 24 [v] = some x) (hw : Wok 24 x.1) : ∃ l, SlF W v l ∧ l.length ≤ 140737488351232 ∧ ∀ f ∈ l, f.lo.length ≤ 140737488351232 := by
  obtain ⟨a, cap, l, e, h1, h2, h4, h3⟩ := rows_w ((zF, .slice none 0 0) : Fn3 × Value) Tryd.underlying24 (show Tryd.prog.cellsOf 46 = 3 by kernel_rfl) (by omega) (fun (y : Fn3 × Value) cs => cs = [.int .i64 y.1.st, .int .i64 y.1.pa, y.2] ∧ Sl W y.2 y.1.lo ∧ y.1.lo.length ≤ 140737488351232) (fun f cs y _ hy hz => entry_of hy hz) hw h
  rw [show Tryd.prog.bytesOf 46 = 40 by kernel_rfl, show reachBytes = 140737488351232 from rfl] at h4
  refine ⟨l.map Prod.fst, ⟨a, cap, by rw [List.length_map]; exact e, by rw [List.length_map]; exact h1, h2, fun i hi => ?_⟩, by rw [List.length_map]; omega, fun f hf => ?_⟩
  · rw [List.length_map] at hi
    obtain ⟨b, o, cs, ea, hb, ⟨rfl, hs, _⟩, _, hc⟩ := h3 i _ (List.getElem?_eq_getElem hi)
    have e2 : (l.map Prod.fst).getD i zF = l[i].1 := by simp [List.getD, hi]
    rw [e2]
    exact ⟨b, o, _, ea, hb, hc 0 _ rfl, hc 1 _ rfl, hc 2 _ rfl, hs⟩
  · obtain ⟨y, hy, rfl⟩ := List.mem_map.1 hf
    obtain ⟨i, hi, rfl⟩ := List.mem_iff_getElem.1 hy
    obtain ⟨b, o, cs, ea, hb, ⟨_, _, hr⟩, _⟩ := h3 i _ (List.getElem?_eq_getElem hi)
    exact hr
set_option maxRecDepth 100000 in
theorem code_of (h : DataW.trod enc Tryd.prog W 0 (fun _ => true) true fuel 27 cs = some x) (hw : Wok 27 x.1) : ∃ vP vC vF vB c, cs = [vP, .int .i64 c.M, .int .i64 c.A, vC, vF, .int .i64 c.mn, vB] ∧ Cv W vP vC vF vB c := by
  obtain ⟨xs, f, hfu, ex, hl, hlen, hf⟩ := DataW.trod_struct Tryd.underlying27 h
  rw [show Tryd.prog.cellsOf 27 = 7 by kernel_rfl] at hl
  clear h
  have hx : xs.length = 7 := hlen
  match cs, hl with
  | [c0, c1, c2, c3, c4, c5, c6], _ =>
    have h0 : DataW.trod enc Tryd.prog W 0 (fun _ => true) true f 22 (([c0, c1, c2, c3, c4, c5, c6].drop 0).take (Tryd.prog.cellsOf 22)) = xs[0]? := hf 0 _ rfl
    have h1 : DataW.trod enc Tryd.prog W 0 (fun _ => true) true f 3 (([c0, c1, c2, c3, c4, c5, c6].drop 1).take (Tryd.prog.cellsOf 3)) = xs[1]? := hf 1 _ rfl
    have h2 : DataW.trod enc Tryd.prog W 0 (fun _ => true) true f 3 (([c0, c1, c2, c3, c4, c5, c6].drop 2).take (Tryd.prog.cellsOf 3)) = xs[2]? := hf 2 _ rfl
    have h3 : DataW.trod enc Tryd.prog W 0 (fun _ => true) true f 23 (([c0, c1, c2, c3, c4, c5, c6].drop 3).take (Tryd.prog.cellsOf 23)) = xs[3]? := hf 3 _ rfl
    have h4 : DataW.trod enc Tryd.prog W 0 (fun _ => true) true f 24 (([c0, c1, c2, c3, c4, c5, c6].drop 4).take (Tryd.prog.cellsOf 24)) = xs[4]? := hf 4 _ rfl
    have h5 : DataW.trod enc Tryd.prog W 0 (fun _ => true) true f 3 (([c0, c1, c2, c3, c4, c5, c6].drop 5).take (Tryd.prog.cellsOf 3)) = xs[5]? := hf 5 _ rfl
    have h6 : DataW.trod enc Tryd.prog W 0 (fun _ => true) true f 25 (([c0, c1, c2, c3, c4, c5, c6].drop 6).take (Tryd.prog.cellsOf 25)) = xs[6]? := hf 6 _ rfl
    clear hf
    simp only [show Tryd.prog.cellsOf 3 = 1 by kernel_rfl, show Tryd.prog.cellsOf 22 = 1 by kernel_rfl, show Tryd.prog.cellsOf 23 = 1 by kernel_rfl, show Tryd.prog.cellsOf 24 = 1 by kernel_rfl, show Tryd.prog.cellsOf 25 = 1 by kernel_rfl, List.drop_zero, List.drop_succ_cons, List.take_succ_cons, List.take_zero] at h0 h1 h2 h3 h4 h5 h6
    rw [List.getElem?_eq_getElem (by omega)] at h0 h1 h2 h3 h4 h5 h6
    obtain ⟨z1, q1, _⟩ := DataW.trod_int Tryd.underlying3 h1
    obtain ⟨z2, q2, _⟩ := DataW.trod_int Tryd.underlying3 h2
    obtain ⟨z5, q5, _⟩ := DataW.trod_int Tryd.underlying3 h5
    simp at q1 q2 q5
    subst q1 q2 q5
    rw [ex] at hw
    have w0 := wok_field (i := 0) Tryd.underlying27 hw rfl (List.getElem?_eq_getElem (show 0 < xs.length by omega))
    have w3 := wok_field (i := 3) Tryd.underlying27 hw rfl (List.getElem?_eq_getElem (show 3 < xs.length by omega))
    have w4 := wok_field (i := 4) Tryd.underlying27 hw rfl (List.getElem?_eq_getElem (show 4 < xs.length by omega))
    have w6 := wok_field (i := 6) Tryd.underlying27 hw rfl (List.getElem?_eq_getElem (show 6 < xs.length by omega))
    obtain ⟨P, hP⟩ := sl_of h0
    obtain ⟨C, hC, lC, kC⟩ := chans_of h3 w3
    obtain ⟨F, hF, lF, kF⟩ := entries_of h4 w4
    obtain ⟨B, hB, lB, kB⟩ := inss_of h6 w6
    have lP : P.length ≤ 140737488351232 := by
      obtain ⟨aP, lP, cP, e, hlP⟩ := hP.slice
      subst e
      have := len_of Tryd.underlying22 (show Tryd.prog.bytesOf 3 = 8 by kernel_rfl) (by omega) h0 w0
      omega
    exact ⟨c0, c3, c4, c6, ⟨P, z1, z2, C, F, B, z5⟩, rfl, ⟨lP, lC, lF, lB, kF, kB, kC⟩, hP, hC, hF, hB⟩
end
theorem code_open {H : Type} {enc : TypeId × Value → H} {W : World} {a : Array Value} {d : DataW H} {p : List MemPlace} (h : DataW.Trod enc Tryd.prog W 0 (fun _ => true) true 27 (.agg a) d p) (hw : Wok 27 d) :
    ∃ vP vC vF vB c, Value.agg a = .agg #[vP, .int .i64 c.M, .int .i64 c.A, vC, vF, .int .i64 c.mn, vB] ∧ Cv W vP vC vF vB c := by
  obtain ⟨fuel, h⟩ := h
  obtain ⟨vP, vC, vF, vB, c, e, h1⟩ := code_of h hw
  refine ⟨vP, vC, vF, vB, c, ?_, h1⟩
  congr 1
  have e' : a.toList = [vP, .int .i64 c.M, .int .i64 c.A, vC, vF, .int .i64 c.mn, vB] := e
  rw [← Array.toArray_toList (xs := a), e']
end Go.Proofs.YtidjbgemnohbnaaDoor.Ck
