/- A tree that is handed in, as plain data. -/
import Derived.Test.YtodgkfniimgfcaaGreatDoorQbq
import Derived.Deep.Slices
import Derived.Lib.SmallJoins
import Derived.ChangeArms
namespace Go.Proofs.YtodgkfniimgfcaaGreatDoor.Ck
open Go.ChangeShapes Go.WideShapes Go.ChangeAt Go.RowKit

theorem cellsNode : Tryz.prog.cellsOf 26 = 9 := by kernel_rfl
theorem cell9 {W : World} {ad : Addr} {cs : List Value} (h : W.cells? 0 ad 9 = some cs) (i : Nat) (hi : i < 9) : W.cell? (ad.add i) = cs[i]? := by
  unfold World.cells? at h
  rw [if_pos (Nat.zero_le _)] at h
  exact mapM_some_get h i i (by rw [List.getElem?_range hi])
theorem RowA.of {w : World} {a : Addr} : ∀ (ks : List Nd) (o : Nat), (∀ j n, ks[j]? = some n → NodeA w a (o + 9 * j) n) → RowA w a o ks
  | [], _, _ => by unfold RowA; trivial
  | n :: ks, o, h => by
    unfold RowA
    refine ⟨by have := h 0 n rfl; simpa using this, RowA.of ks (o + 9) (fun j m hj => ?_)⟩
    have := h (j + 1) m (by simpa using hj)
    rw [show o + 9 + 9 * j = o + 9 * (j + 1) by omega]
    exact this
theorem KidsR.of {w : World} {a : Addr} {cap : Nat} (ks : List Nd) (h1 : ks.length ≤ cap) (h2 : cap ≤ maxLen) (h : ∀ j n, ks[j]? = some n → NodeA w a (9 * j) n) : KidsR w ks (.slice (some a) ks.length cap) := by
  cases ks with
  | nil =>
    unfold KidsR
    exact ⟨_, _, rfl⟩
  | cons n ks =>
    unfold KidsR
    have hr := RowA.of (n :: ks) 0 (fun j m hj => by rw [Nat.zero_add]; exact h j m hj)
    unfold RowA at hr
    exact ⟨a, cap, rfl, h1, h2, hr.1, hr.2⟩

set_option maxRecDepth 100000 in
theorem node_of {H : Type} {enc : TypeId × Value → H} {W : World} : ∀ (F fuel : Nat), fuel < F → ∀ (cs : List Value) (x : DataW H × List MemPlace), DataW.trod enc Tryz.prog W 0 (fun _ => true) true fuel 26 cs = some x → ∃ n : Nd, NodeR W n (.agg cs.toArray)
  | 0, _, hF, _, _, _ => absurd hF (Nat.not_lt_zero _)
  | F + 1, fuel, hF, cs, x, h => by
    obtain ⟨xs, f, hfu, _, hl, hlen, hf⟩ := DataW.trod_struct Tryz.underlying26 h
    rw [cellsNode] at hl
    clear h
    have hx : xs.length = 9 := hlen
    match cs, hl with
    | [c0, c1, c2, c3, c4, c5, c6, c7, c8], _ =>
      have g : ∀ i, i < 9 → ∃ y, xs[i]? = some y := fun i hi => ⟨_, List.getElem?_eq_getElem (by omega)⟩
      have h0 : DataW.trod enc Tryz.prog W 0 (fun _ => true) true f 3 (([c0, c1, c2, c3, c4, c5, c6, c7, c8].drop 0).take (Tryz.prog.cellsOf 3)) = xs[0]? := hf 0 _ rfl
      have h1 : DataW.trod enc Tryz.prog W 0 (fun _ => true) true f 3 (([c0, c1, c2, c3, c4, c5, c6, c7, c8].drop 1).take (Tryz.prog.cellsOf 3)) = xs[1]? := hf 1 _ rfl
      have h2 : DataW.trod enc Tryz.prog W 0 (fun _ => true) true f 9 (([c0, c1, c2, c3, c4, c5, c6, c7, c8].drop 2).take (Tryz.prog.cellsOf 9)) = xs[2]? := hf 2 _ rfl
      have h3 : DataW.trod enc Tryz.prog W 0 (fun _ => true) true f 3 (([c0, c1, c2, c3, c4, c5, c6, c7, c8].drop 3).take (Tryz.prog.cellsOf 3)) = xs[3]? := hf 3 _ rfl
      have h4 : DataW.trod enc Tryz.prog W 0 (fun _ => true) true f 3 (([c0, c1, c2, c3, c4, c5, c6, c7, c8].drop 4).take (Tryz.prog.cellsOf 3)) = xs[4]? := hf 4 _ rfl
      have h5 : DataW.trod enc Tryz.prog W 0 (fun _ => true) true f 3 (([c0, c1, c2, c3, c4, c5, c6, c7, c8].drop 5).take (Tryz.prog.cellsOf 3)) = xs[5]? := hf 5 _ rfl
      have h6 : DataW.trod enc Tryz.prog W 0 (fun _ => true) true f 3 (([c0, c1, c2, c3, c4, c5, c6, c7, c8].drop 6).take (Tryz.prog.cellsOf 3)) = xs[6]? := hf 6 _ rfl
      have h7 : DataW.trod enc Tryz.prog W 0 (fun _ => true) true f 23 (([c0, c1, c2, c3, c4, c5, c6, c7, c8].drop 7).take (Tryz.prog.cellsOf 23)) = xs[7]? := hf 7 _ rfl
      have h8 : DataW.trod enc Tryz.prog W 0 (fun _ => true) true f 24 (([c0, c1, c2, c3, c4, c5, c6, c7, c8].drop 8).take (Tryz.prog.cellsOf 24)) = xs[8]? := hf 8 _ rfl
      clear hf
      simp only [show Tryz.prog.cellsOf 3 = 1 by kernel_rfl, show Tryz.prog.cellsOf 9 = 1 by kernel_rfl, show Tryz.prog.cellsOf 23 = 1 by kernel_rfl, show Tryz.prog.cellsOf 24 = 1 by kernel_rfl, List.drop_zero, List.drop_succ_cons, List.take_succ_cons, List.take_zero] at h0 h1 h2 h3 h4 h5 h6 h7 h8
      obtain ⟨y0, e0⟩ := g 0 (by omega)
      obtain ⟨y1, e1⟩ := g 1 (by omega)
      obtain ⟨y2, e2⟩ := g 2 (by omega)
      obtain ⟨y3, e3⟩ := g 3 (by omega)
      obtain ⟨y4, e4⟩ := g 4 (by omega)
      obtain ⟨y5, e5⟩ := g 5 (by omega)
      obtain ⟨y6, e6⟩ := g 6 (by omega)
      obtain ⟨y7, e7⟩ := g 7 (by omega)
      obtain ⟨y8, e8⟩ := g 8 (by omega)
      rw [e0] at h0
      rw [e1] at h1
      rw [e2] at h2
      rw [e3] at h3
      rw [e4] at h4
      rw [e5] at h5
      rw [e6] at h6
      rw [e7] at h7
      rw [e8] at h8
      obtain ⟨z0, q0, _, _⟩ := DataW.trod_int Tryz.underlying3 h0
      obtain ⟨z1, q1, _, _⟩ := DataW.trod_int Tryz.underlying3 h1
      obtain ⟨z2, q2, _, _⟩ := DataW.trod_string Tryz.underlying9 h2
      obtain ⟨z3, q3, _, _⟩ := DataW.trod_int Tryz.underlying3 h3
      obtain ⟨z4, q4, _, _⟩ := DataW.trod_int Tryz.underlying3 h4
      obtain ⟨z5, q5, _, _⟩ := DataW.trod_int Tryz.underlying3 h5
      obtain ⟨z6, q6, _, _⟩ := DataW.trod_int Tryz.underlying3 h6
      obtain ⟨z7, q7, _, _⟩ := DataW.trod_int Tryz.underlying23 h7
      simp at q0 q1 q2 q3 q4 q5 q6 q7
      subst q0 q1 q2 q3 q4 q5 q6 q7
      rcases DataW.trod_slice Tryz.underlying24 h8 with ⟨q8, _⟩ | ⟨a, len, cap, elems, rest, n, hn, q8, _, _, hl1, hl2, hl3, hel, _⟩
      · simp at q8
        subst q8
        exact ⟨.mk z0 z1 z2 z3 z4 z5 z6 z7 [], by unfold NodeR; exact ⟨_, rfl, by unfold KidsR; exact ⟨_, _, rfl⟩⟩⟩
      · simp at q8
        subst q8
        have key : ∀ i, i < len → ∃ nd : Nd, NodeA W a (9 * i) nd := fun i hi => by
          have h9 := hel i hi
          rw [List.getElem?_eq_getElem (show i < elems.length by omega), cellsNode] at h9
          cases hc : W.cells? 0 (a.add (i * 9)) 9 with
          | none => rw [hc] at h9; cases h9
          | some cs' =>
            rw [hc] at h9
            obtain ⟨nd, hnd⟩ := node_of F n (by omega) cs' _ h9
            refine ⟨nd, ?_⟩
            have hc9 := fun k hk => cell9 hc k hk
            obtain ⟨k0, k1, k2, k3, k4, k5, k6, k7, k8⟩ := nd
            unfold NodeR at hnd
            obtain ⟨s, hs, hk⟩ := hnd
            injection hs with hs
            have hs2 : cs' = [.int .i64 k0, .int .i64 k1, .string k2, .int .i64 k3, .int .i64 k4, .int .i64 k5, .int .i64 k6, .int .u64 k7, s] := by simpa using hs
            unfold NodeA
            have hg : ∀ k, k < 9 → W.cell? (a.add (9 * i + k)) = cs'[k]? := fun k hk9 => by
              rw [← hc9 k hk9, Go.Deep.add_add, Nat.mul_comm 9 i]
            rw [hs2] at hg
            have g0 := hg 0 (by omega)
            rw [Nat.add_zero] at g0
            exact ⟨s, g0, hg 1 (by omega), hg 2 (by omega), hg 3 (by omega), hg 4 (by omega), hg 5 (by omega), hg 6 (by omega), hg 7 (by omega), hg 8 (by omega), hk⟩
        have hch : ∃ fn : Nat → Nd, ∀ i, i < len → NodeA W a (9 * i) (fn i) := ⟨fun i => if h : i < len then Classical.choose (key i h) else .mk 0 0 ⟨#[]⟩ 0 0 0 0 0 [], fun i hi => by dsimp only; rw [dif_pos hi]; exact Classical.choose_spec (key i hi)⟩
        obtain ⟨fn, hfn⟩ := hch
        have hkl : ((List.range len).map fn).length = len := by simp
        have hK := KidsR.of (w := W) (a := a) (cap := cap) ((List.range len).map fn) (by omega) hl2 (fun j m hj => by
          obtain ⟨hj1, hj2⟩ := List.getElem?_eq_some_iff.1 hj
          rw [hkl] at hj1
          simp at hj2
          rw [← hj2]
          exact hfn j hj1)
        rw [hkl] at hK
        exact ⟨.mk z0 z1 z2 z3 z4 z5 z6 z7 ((List.range len).map fn), by unfold NodeR; exact ⟨_, rfl, hK⟩⟩
theorem node_open {H : Type} {enc : TypeId × Value → H} {W : World} {cs : Array Value} {d : DataW H} {p : List MemPlace} (h : DataW.Trod enc Tryz.prog W 0 (fun _ => true) true 26 (.agg cs) d p) : ∃ n : Nd, NodeR W n (.agg cs) := by
  obtain ⟨fuel, hf⟩ := h
  obtain ⟨n, hn⟩ := node_of (fuel + 1) fuel (by omega) _ _ hf
  exact ⟨n, by simpa [Value.cells] using hn⟩

end Go.Proofs.YtodgkfniimgfcaaGreatDoor.Ck
