/- Texts of this proof, packed. -/
import Derived.Test.YtghfjnnmpmfboaaDoorNum
import Derived.Test.YtghfjnnmpmfboaaDoorLaid
import Derived.WalkKit
import Derived.ProofKit
import Derived.OpenShut
import Derived.ChangeOld
import Derived.Below
import Derived.Deep.Slices
import Derived.Lib.SmallJoins
import Derived.ChangeArms
import Derived.Test.YtghfjnnmpmfboaaDoorYa
import Derived.Carry
import Derived.MakeChecks
import Derived.Test.YtghfjnnmpmfboaaDoorYn
import Derived.Test.YtghfjnnmpmfboaaDoorWd
import Derived.Test.YtghfjnnmpmfboaaDoorXf
import Derived.StillTailTactics
/- What the row's list of all seventeen errors gives; and a world that meets the list. -/
namespace Go.Proofs.YtghfjnnmpmfboaaDoor.Ck
open Go.ChangeShapes Go.WideShapes Go.RowKit

def laid17 : List (String × DataW Unit) := [("stockade/api.ErrRange", Rows.laid_stockade_api_ErrRange), ("stockade/api.ErrText", Rows.laid_stockade_api_ErrText), ("stockade/api.ErrDepth", Rows.laid_stockade_api_ErrDepth), ("stockade/api.ErrName", Rows.laid_stockade_api_ErrName), ("stockade/api.ErrType", Rows.laid_stockade_api_ErrType), ("stockade/api.ErrLarge", Rows.laid_stockade_api_ErrLarge), ("stockade/api.ErrFull", Rows.laid_stockade_api_ErrFull), ("stockade/api.ErrNone", Rows.laid_stockade_api_ErrNone), ("stockade/api.ErrCode", Rows.laid_stockade_api_ErrCode), ("stockade/api.ErrState", Rows.laid_stockade_api_ErrState), ("stockade/api.ErrFrame", Rows.laid_stockade_api_ErrFrame), ("stockade/api.ErrMac", Rows.laid_stockade_api_ErrMac), ("stockade/api.ErrReplay", Rows.laid_stockade_api_ErrReplay), ("stockade/api.ErrArena", Rows.laid_stockade_api_ErrArena), ("stockade/api.ErrClock", Rows.laid_stockade_api_ErrClock), ("stockade/api.ErrQuota", Rows.laid_stockade_api_ErrQuota), ("stockade/api.ErrTenant", Rows.laid_stockade_api_ErrTenant)]
def l17 : List (String × List UInt8) := [("stockade/api.ErrRange", [115, 116, 111, 99, 107, 97, 100, 101, 58, 32, 114, 97, 110, 103, 101]), ("stockade/api.ErrText", [115, 116, 111, 99, 107, 97, 100, 101, 58, 32, 116, 101, 120, 116]), ("stockade/api.ErrDepth", [115, 116, 111, 99, 107, 97, 100, 101, 58, 32, 100, 101, 112, 116, 104]), ("stockade/api.ErrName", [115, 116, 111, 99, 107, 97, 100, 101, 58, 32, 110, 97, 109, 101]), ("stockade/api.ErrType", [115, 116, 111, 99, 107, 97, 100, 101, 58, 32, 116, 121, 112, 101]), ("stockade/api.ErrLarge", [115, 116, 111, 99, 107, 97, 100, 101, 58, 32, 108, 97, 114, 103, 101]), ("stockade/api.ErrFull", [115, 116, 111, 99, 107, 97, 100, 101, 58, 32, 102, 117, 108, 108]), ("stockade/api.ErrNone", [115, 116, 111, 99, 107, 97, 100, 101, 58, 32, 110, 111, 110, 101]), ("stockade/api.ErrCode", [115, 116, 111, 99, 107, 97, 100, 101, 58, 32, 99, 111, 100, 101]), ("stockade/api.ErrState", [115, 116, 111, 99, 107, 97, 100, 101, 58, 32, 115, 116, 97, 116, 101]), ("stockade/api.ErrFrame", [115, 116, 111, 99, 107, 97, 100, 101, 58, 32, 102, 114, 97, 109, 101]), ("stockade/api.ErrMac", [115, 116, 111, 99, 107, 97, 100, 101, 58, 32, 109, 97, 99]), ("stockade/api.ErrReplay", [115, 116, 111, 99, 107, 97, 100, 101, 58, 32, 114, 101, 112, 108, 97, 121]), ("stockade/api.ErrArena", [115, 116, 111, 99, 107, 97, 100, 101, 58, 32, 97, 114, 101, 110, 97]), ("stockade/api.ErrClock", [115, 116, 111, 99, 107, 97, 100, 101, 58, 32, 99, 108, 111, 99, 107]), ("stockade/api.ErrQuota", [115, 116, 111, 99, 107, 97, 100, 101, 58, 32, 113, 117, 111, 116, 97]), ("stockade/api.ErrTenant", [115, 116, 111, 99, 107, 97, 100, 101, 58, 32, 116, 101, 110, 97, 110, 116])]
theorem laid17_eq : laid17 = l17.map fun x => (x.1, sentD x.2) := rfl
theorem named17 : ((List.range 17).all fun i => Tryd.prog.globalNamed (l17.getD i ("", [])).1 == some (gl.getD i 0) && (Tryd.prog.globals[gl.getD i 0]?).map (·.type) == some 30) = true := by kernel_rfl

theorem nodup_of_map {l : List Addr} (h : (l.map placeOf).Nodup) : l.Nodup := by
  induction l with
  | nil => exact List.nodup_nil
  | cons a l ih =>
    simp only [List.map_cons, List.nodup_cons] at h ⊢
    exact ⟨fun hm => h.1 (List.mem_map_of_mem hm), ih h.2⟩

theorem errs17_of_laid {W : World} (h : laidMetH Tryd.prog laid17 W) : ∃ p, Errs17 W p := by
  rw [MakeChecks.laidMetH_plain _ _ _ (by kernel_rfl), laid17_eq] at h
  obtain ⟨ps, hv, hnd, hrows⟩ := h
  obtain ⟨p, hs, hsub⟩ := sents_of l17 gl ps rfl (fun i hi => by
    have h1 := List.all_eq_true.1 named17 i (List.mem_range.2 hi)
    simp only [Bool.and_eq_true, beq_iff_eq] at h1
    exact h1) hv hrows
  exact ⟨p, hs, nodup_of_map (hnd.sublist hsub)⟩

theorem door_met17 (os : Os) (args : Array Value) : laidMetH Tryd.prog laid17 ((World.doorLaid Tryd.prog 332 os).forCall (fun _ _ => 0) ⟨#[], args, []⟩).memory :=
  laidMetH_of_parts3 (fuel := 8) (laidMet_of_run' 8 (by kernel_rfl) (by kernel_rfl)) (by kernel_rfl) (by kernel_rfl)

end Go.Proofs.YtghfjnnmpmfboaaDoor.Ck

/- From an argument's reading to the list that it holds. -/
namespace Go.Proofs.YtghfjnnmpmfboaaDoor.Ck
open Go.ChangeShapes Go.WideShapes Go.ChangeAt Go.RowKit

theorem block_lt {W : World} {a : Addr} {v : Value} (hc : W.cell? a = some v) : a.block < W.heap.size := by
  rcases Nat.lt_or_ge a.block W.heap.size with h' | h'
  · exact h'
  · simp [World.cell?, Array.getElem?_eq_none h'] at hc
theorem wf_i64 {z : Int} (h : (Lit.int .i64 z).wf = true) : -9223372036854775808 ≤ z ∧ z ≤ 9223372036854775807 := by
  have := bounds_i64 h
  omega

theorem add_plain (b off i : Nat) : (Addr.mk b off none).add i = ⟨b, off + i, none⟩ := by
  unfold Addr.add
  by_cases h : i = 0 <;> simp [h]

theorem sl_open {H : Type} {enc : TypeId × Value → H} {W : World} {a : Option Addr} {len cap : Nat} {d : DataW H} {p : List MemPlace}
    (h : DataW.Trod enc Tryd.prog W 0 (fun _ => true) true 22 (.slice a len cap) d p) : ∃ zs, Sl W (.slice a len cap) zs := by
  obtain ⟨fuel, hf⟩ := h
  rcases open_ints Tryd.underlying22 Tryd.underlying3 (by kernel_rfl) hf with ⟨hcs, _⟩ | ⟨x, l, c, zs, hcs, _, hl, hm, hz, _, hcell, hwz⟩
  · simp [Value.cells] at hcs
    obtain ⟨rfl, rfl, rfl⟩ := hcs
    exact ⟨[], Sl.nilS W⟩
  · simp [Value.cells] at hcs
    obtain ⟨rfl, rfl, rfl⟩ := hcs
    have hz' : zs.length = cap := by simpa using hz
    have hlen : (zs.take len).length = len := by simp; omega
    refine ⟨zs.take len, fun z hm' => wf_i64 (hwz z (List.mem_of_mem_take hm')), some x, cap, by rw [hlen], by omega, hm, fun i hi => ?_⟩
    rw [hlen] at hi
    have hc := hcell i (by omega)
    obtain ⟨b, off, spot⟩ := x
    have hspot : spot = none := by simpa [Addr.add] using World.cell?_spot (hcell 0 (by omega))
    subst hspot
    rw [add_plain] at hc
    refine ⟨b, off, rfl, block_lt hc, ?_⟩
    have e : (zs.take len).getD i 0 = zs.getD i 0 := by simp [List.getD, hi]
    rw [e]
    exact hc

end Go.Proofs.YtghfjnnmpmfboaaDoor.Ck

/- A slice that is handed in, as a list of what its elements are. -/
namespace Go.Proofs.YtghfjnnmpmfboaaDoor.Ck
open Go.ChangeShapes Go.WideShapes Go.ChangeAt Go.RowKit

theorem cells_at {W : World} {ad : Addr} {n : Nat} {cs : List Value} (h : W.cells? 0 ad n = some cs) (i : Nat) (hi : i < n) : W.cell? (ad.add i) = cs[i]? := by
  unfold World.cells? at h
  rw [if_pos (Nat.zero_le _)] at h
  exact mapM_some_get h i i (by rw [List.getElem?_range hi])
theorem cells_len {W : World} {ad : Addr} {n : Nat} {cs : List Value} (h : W.cells? 0 ad n = some cs) : cs.length = n := by
  unfold World.cells? at h
  rw [if_pos (Nat.zero_le _)] at h
  simpa using mapM_some_length h
set_option maxRecDepth 100000 in
theorem rows_of {α : Type} (d0 : α) {H : Type} {enc : TypeId × Value → H} {W : World} {TS T : TypeId} {n fuel : Nat} {v : Value} {x : DataW H × List MemPlace} (hu : Tryd.prog.underlying TS = some (.slice T)) (hc : Tryd.prog.cellsOf T = n) (hn : 0 < n) (Q : α → List Value → Prop)
    (hP : ∀ (f : Nat) (cs : List Value) (y : DataW H × List MemPlace), f < fuel → DataW.trod enc Tryd.prog W 0 (fun _ => true) true f T cs = some y → ∃ x, Q x cs) (h : DataW.trod enc Tryd.prog W 0 (fun _ => true) true fuel TS [v] = some x) :
    ∃ (a : Option Addr) (cap : Nat) (l : List α), v = .slice a l.length cap ∧ l.length ≤ cap ∧ cap ≤ maxLen ∧ ∀ (i : Nat) (y : α), l[i]? = some y → ∃ (b o : Nat) (cs : List Value), a = some ⟨b, o, none⟩ ∧ b < W.heap.size ∧ Q y cs ∧ cs.length = n ∧ ∀ (j : Nat) (u : Value), cs[j]? = some u → W.cell? ⟨b, o + i * n + j, none⟩ = some u := by
  rcases DataW.trod_slice hu h with ⟨e, _⟩ | ⟨a, len, cap, elems, rest, m, hm, e, _, _, hl1, hl2, hl3, hel, _⟩
  · simp at e
    subst e
    exact ⟨none, 0, [], rfl, Nat.le_refl _, Nat.zero_le _, fun i y hy => by simp at hy⟩
  · simp at e
    subst e
    have key : ∀ i, i < len → ∃ (y : α) (b o : Nat) (cs : List Value), some a = some ⟨b, o, none⟩ ∧ b < W.heap.size ∧ Q y cs ∧ cs.length = n ∧ ∀ (j : Nat) (u : Value), cs[j]? = some u → W.cell? ⟨b, o + i * n + j, none⟩ = some u := fun i hi => by
      have h9 := hel i hi
      rw [List.getElem?_eq_getElem (show i < elems.length by omega), hc] at h9
      cases hcs : W.cells? 0 (a.add (i * n)) n with
      | none => rw [hcs] at h9; cases h9
      | some cs =>
        rw [hcs] at h9
        obtain ⟨y, hy⟩ := hP m cs _ (by omega) h9
        have hlen := cells_len hcs
        have hcell : ∀ k, k < n → W.cell? (a.add (i * n + k)) = cs[k]? := fun k hk => by
          rw [← cells_at hcs k hk, Go.Deep.add_add]
        obtain ⟨c0, hc0⟩ : ∃ c, cs[0]? = some c := ⟨_, List.getElem?_eq_getElem (by omega)⟩
        obtain ⟨b, off, spot⟩ := a
        have hspot : spot = none := by
          have h8 := hel 0 (by omega)
          rw [List.getElem?_eq_getElem (show 0 < elems.length by omega), hc] at h8
          cases hz : W.cells? 0 ((Addr.mk b off spot).add (0 * n)) n with
          | none => rw [hz] at h8; cases h8
          | some zs =>
            have h7 := cells_at hz 0 hn
            rw [List.getElem?_eq_getElem (show 0 < zs.length by rw [cells_len hz]; exact hn)] at h7
            simpa [Addr.add] using World.cell?_spot h7
        subst hspot
        have h0 := (hcell 0 hn).trans hc0
        rw [add_plain] at h0
        refine ⟨y, b, off, cs, rfl, block_lt h0, hy, hlen, fun j u hu => ?_⟩
        have hj := (List.getElem?_eq_some_iff.1 hu).1
        have := (hcell j (by omega)).trans hu
        rw [add_plain] at this
        rw [Nat.add_assoc]
        exact this
    have hch : ∃ fn : Nat → α, ∀ i, i < len → ∃ (b o : Nat) (cs : List Value), some a = some ⟨b, o, none⟩ ∧ b < W.heap.size ∧ Q (fn i) cs ∧ cs.length = n ∧ ∀ (j : Nat) (u : Value), cs[j]? = some u → W.cell? ⟨b, o + i * n + j, none⟩ = some u :=
      ⟨fun i => if h : i < len then Classical.choose (key i h) else d0, fun i hi => by dsimp only; rw [dif_pos hi]; exact Classical.choose_spec (key i hi)⟩
    obtain ⟨fn, hfn⟩ := hch
    refine ⟨some a, cap, (List.range len).map fn, by simp, by simpa using hl1, hl2, fun i y hy => ?_⟩
    obtain ⟨hj1, hj2⟩ := List.getElem?_eq_some_iff.1 hy
    simp at hj1 hj2
    rw [← hj2]
    exact hfn i hj1
theorem sl_of {H : Type} {enc : TypeId × Value → H} {W : World} {fuel : Nat} {v : Value} {x : DataW H × List MemPlace} (h : DataW.trod enc Tryd.prog W 0 (fun _ => true) true fuel 22 [v] = some x) : ∃ zs, Sl W v zs := by
  rcases DataW.trod_slice Tryd.underlying22 h with ⟨e, _⟩ | ⟨a, len, cap, elems, rest, m, hm, e, _⟩
  · simp at e
    subst e
    exact ⟨[], Sl.nilS W⟩
  · simp at e
    subst e
    exact sl_open (d := x.1) (p := x.2) ⟨fuel, h⟩
end Go.Proofs.YtghfjnnmpmfboaaDoor.Ck

/- A value that is handed in, as plain data. -/
namespace Go.Proofs.YtghfjnnmpmfboaaDoor.Ck
open Go.ChangeShapes Go.WideShapes Go.RowKit

theorem cellsValue : Tryd.prog.cellsOf 41 = 3 := by kernel_rfl
def In64 (z : Int) : Prop := -9223372036854775808 ≤ z ∧ z ≤ 9223372036854775807
def InU (z : Int) : Prop := 0 ≤ z ∧ z ≤ 18446744073709551615
theorem in64 {z : Int} (h : (Lit.int .i64 z).wf = true) : In64 z := by
  simp [Lit.wf] at h
  exact h
theorem inU {z : Int} (h : (Lit.int .u64 z).wf = true) : InU z := by
  simp [Lit.wf] at h
  exact h

set_option maxRecDepth 100000 in
theorem val_of {H : Type} {enc : TypeId × Value → H} {W : World} {fuel : Nat} {cs : List Value} {x : DataW H × List MemPlace} (h : DataW.trod enc Tryd.prog W 0 (fun _ => true) true fuel 41 cs = some x) :
    ∃ t n b, cs = [.int .i64 t, .int .i64 n, .int .u64 b] ∧ In64 t ∧ In64 n ∧ InU b := by
  obtain ⟨xs, f, hfu, _, hl, hlen, hf⟩ := DataW.trod_struct Tryd.underlying41 h
  rw [cellsValue] at hl
  clear h
  have hx : xs.length = 3 := hlen
  match cs, hl with
  | [c0, c1, c2], _ =>
    have g : ∀ i, i < 3 → ∃ y, xs[i]? = some y := fun i hi => ⟨_, List.getElem?_eq_getElem (by omega)⟩
    have h0 : DataW.trod enc Tryd.prog W 0 (fun _ => true) true f 3 (([c0, c1, c2].drop 0).take (Tryd.prog.cellsOf 3)) = xs[0]? := hf 0 _ rfl
    have h1 : DataW.trod enc Tryd.prog W 0 (fun _ => true) true f 3 (([c0, c1, c2].drop 1).take (Tryd.prog.cellsOf 3)) = xs[1]? := hf 1 _ rfl
    have h2 : DataW.trod enc Tryd.prog W 0 (fun _ => true) true f 39 (([c0, c1, c2].drop 2).take (Tryd.prog.cellsOf 39)) = xs[2]? := hf 2 _ rfl
    clear hf
    simp only [show Tryd.prog.cellsOf 3 = 1 by kernel_rfl, show Tryd.prog.cellsOf 39 = 1 by kernel_rfl, List.drop_zero, List.drop_succ_cons, List.take_succ_cons, List.take_zero] at h0 h1 h2
    obtain ⟨y0, e0⟩ := g 0 (by omega)
    obtain ⟨y1, e1⟩ := g 1 (by omega)
    obtain ⟨y2, e2⟩ := g 2 (by omega)
    rw [e0] at h0
    rw [e1] at h1
    rw [e2] at h2
    obtain ⟨z0, q0, r0, s0⟩ := DataW.trod_int Tryd.underlying3 h0
    obtain ⟨z1, q1, r1, s1⟩ := DataW.trod_int Tryd.underlying3 h1
    obtain ⟨z2, q2, r2, s2⟩ := DataW.trod_int Tryd.underlying39 h2
    simp at q0 q1 q2
    subst q0 q1 q2
    exact ⟨z0, z1, z2, rfl, in64 s0, in64 s1, inU s2⟩
theorem val_open {H : Type} {enc : TypeId × Value → H} {W : World} {c : Array Value} {d : DataW H} {ps : List MemPlace} (h : DataW.Trod enc Tryd.prog W 0 (fun _ => true) true 41 (.agg c) d ps) :
    ∃ t n b, Value.agg c = .agg #[.int .i64 t, .int .i64 n, .int .u64 b] ∧ In64 t ∧ In64 n ∧ InU b := by
  obtain ⟨m, hm⟩ := h
  obtain ⟨t, n, b, e, h⟩ := val_of hm
  refine ⟨t, n, b, ?_, h⟩
  congr 1
  have e' : c.toList = [.int .i64 t, .int .i64 n, .int .u64 b] := e
  rw [← Array.toArray_toList (xs := c), e']
end Go.Proofs.YtghfjnnmpmfboaaDoor.Ck

/- A slice of channels that is handed in. -/
namespace Go.Proofs.YtghfjnnmpmfboaaDoor.Ck
open Go.ChangeShapes Go.WideShapes Go.ChangeAt Go.RowKit

theorem cells1 : Tryd.prog.cellsOf 3 = 1 := by kernel_rfl
def ccl (c : Int × Int) : List Value := [.int .i64 c.1, .int .i64 c.2]
set_option maxRecDepth 100000 in
theorem chan_of {H : Type} {enc : TypeId × Value → H} {W : World} {fuel : Nat} {cs : List Value} {x : DataW H × List MemPlace} (h : DataW.trod enc Tryd.prog W 0 (fun _ => true) true fuel 52 cs = some x) : ∃ c : Int × Int, cs = ccl c := by
  obtain ⟨xs, f, hfu, _, hl, hlen, hf⟩ := DataW.trod_struct Tryd.underlying52 h
  rw [show Tryd.prog.cellsOf 52 = 2 by kernel_rfl] at hl
  clear h
  have hx : xs.length = 2 := hlen
  match cs, hl with
  | [c0, c1], _ =>
    have h0 : DataW.trod enc Tryd.prog W 0 (fun _ => true) true f 3 (([c0, c1].drop 0).take (Tryd.prog.cellsOf 3)) = xs[0]? := hf 0 _ rfl
    have h1 : DataW.trod enc Tryd.prog W 0 (fun _ => true) true f 3 (([c0, c1].drop 1).take (Tryd.prog.cellsOf 3)) = xs[1]? := hf 1 _ rfl
    clear hf
    simp only [cells1, List.drop_zero, List.drop_succ_cons, List.take_succ_cons, List.take_zero] at h0 h1
    rw [List.getElem?_eq_getElem (by omega)] at h0 h1
    obtain ⟨z0, q0, _⟩ := DataW.trod_int Tryd.underlying3 h0
    obtain ⟨z1, q1, _⟩ := DataW.trod_int Tryd.underlying3 h1
    simp at q0 q1
    subst q0 q1
    exact ⟨(z0, z1), rfl⟩
theorem chans_of {H : Type} {enc : TypeId × Value → H} {W : World} {fuel : Nat} {v : Value} {x : DataW H × List MemPlace} (h : DataW.trod enc Tryd.prog W 0 (fun _ => true) true fuel 23 [v] = some x) : ∃ cs, SlC W v cs := by
  obtain ⟨a, cap, l, e, h1, h2, h3⟩ := rows_of (0, 0) Tryd.underlying23 (show Tryd.prog.cellsOf 52 = 2 by kernel_rfl) (by omega) (fun (c : Int × Int) cs => cs = ccl c) (fun f cs y _ hy => chan_of hy) h
  refine ⟨l, a, cap, e, h1, h2, fun i hi => ?_⟩
  obtain ⟨b, o, cs, ea, hb, rfl, _, hc⟩ := h3 i _ (List.getElem?_eq_getElem hi)
  have e2 : l.getD i (0, 0) = l[i] := by simp [List.getD, hi]
  rw [e2]
  exact ⟨b, o, ea, hb, hc 0 _ rfl, hc 1 _ rfl⟩
end Go.Proofs.YtghfjnnmpmfboaaDoor.Ck

/- SyncPlays: one call on both states: a place is read. (Written by mk_y.py.) -/
namespace Go.Proofs.YtghfjnnmpmfboaaDoor.Ck
open Go.RowKit

set_option maxRecDepth 20000 in
set_option maxHeartbeats 2000000 in
theorem do_read {w0 w : World} {G R : Nat → Prop} {B g gm : Nat} {s : St} {p : List Addr} (h : Pr w0 w G R B g gm s) (h17 : Errs17 w0 p) (_hB1 : B ≤ 100000) (i n t m z : Int) : Calls Tryd.prog 13 #[.pointer (some ⟨g, 0, none⟩), .pointer (some ⟨gm, 0, none⟩), .agg #[.int .i64 1, .int .i64 i, .int .i64 n, .int .i64 t, .int .i64 m, .int .u64 z]] w (DoE w0 w G R (B + 1) g gm (s)) := by
  have hb0 := bel_new w (.cells #[.int .i64 1, .int .i64 i, .int .i64 n, .int .i64 t, .int .i64 m, .int .u64 z] 43)
  have X1 : Hid (Bx (w.alloc (.cells #[.int .i64 1, .int .i64 i, .int .i64 n, .int .i64 t, .int .i64 m, .int .u64 z] 43)) w.heap.size 1 i n t m z) := hide (Go.Deep.blk_alloc_new w (.cells #[.int .i64 1, .int .i64 i, .int .i64 n, .int .i64 t, .int .i64 m, .int .u64 z] 43))
  obtain ⟨F, F2, K⟩ := (h.bel hb0).kp
  have HN := hide (h.box K)
  have E7 := h17.below (Nat.le_refl _) K.hbl
  have H17 := hide h17
  have HB0 := hide hb0
  clear h h17 hb0
  obtain ⟨mP, mL, mC, mS, mT, mA, mss, mtk, hv⟩ := K.hm
  obtain ⟨aP, cP, eP, hcP, hmP⟩ := own_slice hv.pl
  obtain ⟨nP, hnP⟩ : ∃ n, n = s.P.length := ⟨_, rfl⟩
  rw [← hnP] at eP hcP
  subst eP
  have q0 := hide (And.intro hv.cells.1 (hv.fb gm hv.fg))
  cases hl : lk s.P i with
  | none =>
    have SR := sRead K.hs E7.e2 i
    simp only [rdM, hl] at SR
    have IN := hide (fun w3 => in_no i nP w3 (by rw [hnP]; exact lk_none hl))
    have NU := hide (fun (w3 : World) (he : Errs17 w3 p) => num_o p 1 w3 he (by omega))
    have hne := (erO_ne p 1 (by omega))
    generalize erO p 1 = ev at *
    obtain ⟨ad, rfl⟩ := hne
    have SR1 := hide SR
    have HK := hide K
    have EV := eq_vv
    clear K SR hv hl hnP hcP hmP E7
    go_enter Tryd.func13, Tryd.ntmps13
    go_wp2_with fail
    obtain ⟨b, hb⟩ : ∃ b, w.heap.size = b := ⟨_, rfl⟩
    generalize w.alloc (.cells #[.int .i64 1, .int .i64 i, .int .i64 n, .int .i64 t, .int .i64 m, .int .u64 z] 43) = wa at *
    rw [hb] at X1 HN ⊢
    clear hb
    obtain ⟨x0, x1, x2, x3, x4, x5⟩ := X1.out.all
    refine SR1.out.mono ?_
    rintro e w1 ⟨rfl, hb1⟩
    have B1 := hide (bel_al hb1 (.cells #[.int .i64 0, .int .i64 0, .int .u64 0] 41))
    obtain ⟨y0, y1, y2, y3, y4, y5⟩ := (X1.out.al B1.out).all
    have cm := (B1.out.cell (p := ⟨gm, 0, none⟩) q0.out.2).trans q0.out.1
    clear hb1 x0 x1 x2 x3 x4 x5 X1 SR1
    go_wp2_with fail
    go_quiet ((go_at_call 14; exact Calls.quiet_of_same ((IN.out _).mono fun _ _ h => ⟨h.1, h.2.symm⟩)))
    go_wp2_with fail
    refine (NU.out _ (H17.out.below (Nat.le_refl _) (bel_trans HK.out.hbl (below_drewN B1.out _)))).mono ?_
    rintro e w3 ⟨rfl, hb3⟩
    go_wp2_with fail
    go_ret
    exact DoE.mk (by simp) HB0.out (HK.out.still (bel_trans (below_drewN B1.out _) hb3))
  | some x =>
    obtain ⟨v0, v1, v2⟩ := x
    obtain ⟨k, rfl, hk⟩ := lk_some hl
    have SR := sRead K.hs E7.e2 (k : Nat)
    simp only [rdM, hl, erO] at SR
    have hkn : k < nP := by
      have := (List.getElem?_eq_some_iff.1 hk).1
      omega
    have IN := hide (fun w3 => in_yes k nP w3 hkn)
    obtain ⟨bP, eA⟩ := own_addr hv.pl (by omega)
    subst eA
    obtain ⟨p0, p1, p2⟩ := vcs_at _ _ _ hk
    have q1 := hide (And.intro (own_cell hv.pl _ _ p0).1 (And.intro (own_cell hv.pl _ _ p1).1 (And.intro (own_cell hv.pl _ _ p2).1 (own_type hv.pl (k := bP) rfl).2.1)))
    have SR1 := hide SR
    have HK := hide K
    have EV := eq_vv
    clear K SR hv hl hk p0 p1 p2 hnP hcP hmP E7
    go_enter Tryd.func13, Tryd.ntmps13
    go_wp2_with fail
    obtain ⟨b, hb⟩ : ∃ b, w.heap.size = b := ⟨_, rfl⟩
    generalize w.alloc (.cells #[.int .i64 1, .int .i64 (k : Int), .int .i64 n, .int .i64 t, .int .i64 m, .int .u64 z] 43) = wa at *
    rw [hb] at X1 HN ⊢
    clear hb
    obtain ⟨x0, x1, x2, x3, x4, x5⟩ := X1.out.all
    refine SR1.out.mono ?_
    rintro e w1 ⟨rfl, hb1⟩
    have B1 := hide (bel_al hb1 (.cells #[.int .i64 v0, .int .i64 v1, .int .u64 v2] 41))
    obtain ⟨y0, y1, y2, y3, y4, y5⟩ := (X1.out.al B1.out).all
    have cm := (B1.out.cell (p := ⟨gm, 0, none⟩) q0.out.2).trans q0.out.1
    have m0 := (B1.out.cell (p := ⟨bP, 3 * k, none⟩) q1.out.2.2.2).trans q1.out.1
    have m1 := (B1.out.cell (p := ⟨bP, 3 * k + 1, none⟩) q1.out.2.2.2).trans q1.out.2.1
    have m2 := (B1.out.cell (p := ⟨bP, 3 * k + 2, none⟩) q1.out.2.2.2).trans q1.out.2.2.1
    rw [Nat.mul_comm 3 k] at m0 m1 m2
    clear hb1 x0 x1 x2 x3 x4 x5 X1 SR1
    go_wp2_with fail
    go_quiet ((go_at_call 14; exact Calls.quiet_of_same ((IN.out _).mono fun _ _ h => ⟨h.1, h.2.symm⟩)))
    go_wp2_with fail
    go_quiet (fail)
    go_wp2_with fail
    go_ret
    exact DoE.mk (by simp) HB0.out (HK.out.still (below_drewN (below_drewN B1.out _) _))
end Go.Proofs.YtghfjnnmpmfboaaDoor.Ck

/- SyncPlays: one call on both states: an atomic is told. (Written by mk_y.py.) -/
namespace Go.Proofs.YtghfjnnmpmfboaaDoor.Ck
open Go.RowKit

/-- the variable, and the document's atomics -/
def Ga (w : World) (b gm : Nat) (v : Value) (k i n t m z : Int) (p : List Addr) : Prop := Bx w b k i n t m z ∧ w.cell? ⟨gm, 5, none⟩ = some v ∧ gm < w.heap.size ∧ Errs17 w p
theorem Ga.al {w w' : World} {b gm : Nat} {v : Value} {k i n t m z : Int} {p : List Addr} (h : Ga w b gm v k i n t m z p) (hb : Below w.heap.size w w') : Ga w' b gm v k i n t m z p := ⟨h.1.al hb, (hb.cell (p := ⟨gm, 5, none⟩) h.2.2.1).trans h.2.1, Nat.lt_of_lt_of_le h.2.2.1 hb.size, h.2.2.2.below (Nat.le_refl _) hb⟩
set_option maxRecDepth 20000 in
set_option maxHeartbeats 2000000 in
theorem do_get {w0 w : World} {G R : Nat → Prop} {B g gm : Nat} {s : St} {p : List Addr} (h : Pr w0 w G R B g gm s) (h17 : Errs17 w0 p) (_hB1 : B ≤ 100000) (i n t m z : Int) : Calls Tryd.prog 13 #[.pointer (some ⟨g, 0, none⟩), .pointer (some ⟨gm, 0, none⟩), .agg #[.int .i64 7, .int .i64 i, .int .i64 n, .int .i64 t, .int .i64 m, .int .u64 z]] w (DoE w0 w G R (B + 1) g gm (s)) := by
  have hb0 := bel_new w (.cells #[.int .i64 7, .int .i64 i, .int .i64 n, .int .i64 t, .int .i64 m, .int .u64 z] 43)
  have X1 : Hid (Bx (w.alloc (.cells #[.int .i64 7, .int .i64 i, .int .i64 n, .int .i64 t, .int .i64 m, .int .u64 z] 43)) w.heap.size 7 i n t m z) := hide (Go.Deep.blk_alloc_new w (.cells #[.int .i64 7, .int .i64 i, .int .i64 n, .int .i64 t, .int .i64 m, .int .u64 z] 43))
  obtain ⟨F, F2, K⟩ := (h.bel hb0).kp
  have HN := hide (h.box K)
  have E7 := h17.below (Nat.le_refl _) K.hbl
  have H17 := hide h17
  have HB0 := hide hb0
  clear h h17 hb0
  obtain ⟨mP, mL, mC, mS, mT, mA, mss, mtk, hv⟩ := K.hm
  obtain ⟨aA, cA, eA, hcA, hmA⟩ := own_slice hv.ato
  obtain ⟨nA, hnA⟩ : ∃ n, n = s.A.length := ⟨_, rfl⟩
  rw [← hnA] at eA hcA
  subst eA
  have q5 := hide (And.intro hv.cells.2.2.2.2.2 (hv.fb gm hv.fg))
  cases hl : lk s.A i with
  | none =>
    have IN := hide (fun w3 => in_no i nA w3 (by rw [hnA]; exact lk_none hl))
    have SG := fun (w3 : World) (hs3 : Stt w3 F g s) (he : E2 w3 p) => sGet hs3 he i
    simp only [gtM, hl] at SG
    have NU := hide (fun (w3 : World) (he : Errs17 w3 p) => num_o p 1 w3 he (by omega))
    have hne := (erO_ne p 1 (by omega))
    generalize erO p 1 = ev at *
    obtain ⟨ad, rfl⟩ := hne
    have SG1 := hide SG
    have HK := hide K
    have HE := hide E7
    have G0 := hide (show Ga _ _ gm (.slice aA nA cA) 7 i n t m z p from ⟨X1.out, q5.out.1, q5.out.2, E7⟩)
    clear K SG hv hl hnA hcA hmA E7
    go_enter Tryd.func13, Tryd.ntmps13
    go_wp2_with fail
    obtain ⟨b, hb⟩ : ∃ b, w.heap.size = b := ⟨_, rfl⟩
    generalize w.alloc (.cells #[.int .i64 7, .int .i64 i, .int .i64 n, .int .i64 t, .int .i64 m, .int .u64 z] 43) = wa at *
    rw [hb] at X1 HN G0 ⊢
    clear hb
    obtain ⟨x0, x1, x2, x3, x4, x5⟩ := X1.out.all
    have cm := q5.out.1
    go_quiet ((go_at_call 14; exact Calls.quiet_of_same ((IN.out _).mono fun _ _ h => ⟨h.1, h.2.symm⟩)))
    go_wp2_with fail
    refine (SG1.out _ (HK.out.hs.bel (below_drewN (Below.refl _ _) _)) (HE.out.e2.below (Nat.le_refl _) (below_drewN (Below.refl _ _) _))).mono ?_
    rintro e w2 ⟨rfl, hb2⟩
    have B2 := hide hb2
    have B3 := hide (bel_trans (below_drewN (Below.refl _ _) _) hb2)
    have G2 := hide ((G0.out.al (below_drewN (Below.refl _ _) _)).al hb2)
    clear hb2 G0 x0 x1 x2 x3 x4 x5 cm
    obtain ⟨x0, x1, x2, x3, x4, x5⟩ := G2.out.1.all
    go_wp2_with fail
    refine wp_region_held_drew (S := fun w' => Ga w' b gm (.slice aA nA cA) 7 i n t m z p) mixed (G2.out.al (bel_drawn (Below.refl _ _))) (fun hH => ?_)
    replace B3 := hide (bel_drawn B3.out)
    clear G2 x0 x1 x2 x3 x4 x5
    generalize World.drew _ = w3 at *
    refine wpAnyH_take (i := 0) (v := ?_) rfl (by kernel_rfl) (by kernel_rfl) (by kernel_rfl) (fun _ _ _ h => h) (Or.inl ⟨by rfl, ?_⟩) hH ?_
    rotate_left 1
    · (intro w hSw; skip; clear hSw; go_simp <;> with_reducible rfl)
    simp only [Act.put, List.getElem_toArray, List.getElem_cons_zero, List.setIfInBounds_toArray, List.set_cons_zero, List.set_cons_succ]
    refine wpAnyH_take (i := 2) (v := ?_) rfl (by kernel_rfl) (by kernel_rfl) (by kernel_rfl) (fun _ _ _ h => h) (Or.inl ⟨by rfl, ?_⟩) hH ?_
    rotate_left 1
    · (intro w hSw; skip; clear hSw; go_simp <;> with_reducible rfl)
    simp only [Act.put, List.getElem_toArray, List.getElem_cons_zero, List.getElem_cons_succ, List.setIfInBounds_toArray, List.set_cons_zero, List.set_cons_succ]
    refine wpAnyH_ready (rs := [1]) (by kernel_rfl) (by decide) ?_
    refine AllReadyH.cons rfl (fun K1 hK1 => ?_) AllReadyH.nil
    go_simp
    refine (NU.out _ hH.2.2.2).mono ?_
    rintro e d4 ⟨rfl, hb⟩
    replace B3 := hide (bel_trans B3.out hb)
    refine hK1.out _ _ (hH.al hb) (fun hH => ?_)
    clear hK1 K1 hb
    refine wpAnyH_take (i := 3) (v := ?_) rfl (by kernel_rfl) (by kernel_rfl) (by kernel_rfl) (fun _ _ _ h => h) (Or.inl ⟨by rfl, ?_⟩) hH ?_
    rotate_left 1
    · (intro w hSw; skip; clear hSw; go_simp <;> with_reducible rfl)
    simp only [Act.put, List.getElem_toArray, List.getElem_cons_zero, List.getElem_cons_succ, List.setIfInBounds_toArray, List.set_cons_zero, List.set_cons_succ]
    refine wpAnyH_take (i := 4) (v := ?_) rfl (by kernel_rfl) (by kernel_rfl) (by kernel_rfl) (fun _ _ _ h => h) (Or.inl ⟨by rfl, ?_⟩) hH ?_
    rotate_left 1
    · (intro w hSw; skip; clear hSw; go_simp <;> with_reducible rfl)
    simp only [Act.put, List.getElem_toArray, List.getElem_cons_zero, List.getElem_cons_succ, List.setIfInBounds_toArray, List.set_cons_zero, List.set_cons_succ]
    refine wpAnyH_take (i := 5) (v := ?_) rfl (by kernel_rfl) (by kernel_rfl) (by kernel_rfl) (fun _ _ _ h => h) (Or.inl ⟨by rfl, ?_⟩) hH ?_
    rotate_left 1
    · (intro w hSw; skip; clear hSw; go_simp <;> with_reducible rfl)
    simp only [Act.put, List.getElem_toArray, List.getElem_cons_zero, List.getElem_cons_succ, List.setIfInBounds_toArray, List.set_cons_zero, List.set_cons_succ]
    refine wpAnyH_take (i := 6) (v := ?_) rfl (by kernel_rfl) (by kernel_rfl) (by kernel_rfl) (fun _ _ _ h => h) (Or.inl ⟨by rfl, ?_⟩) hH ?_
    rotate_left 1
    · (intro w hSw; skip; clear hSw; go_simp <;> with_reducible rfl)
    simp only [Act.put, List.getElem_toArray, List.getElem_cons_zero, List.getElem_cons_succ, List.setIfInBounds_toArray, List.set_cons_zero, List.set_cons_succ]
    refine wpAnyH_take (i := 7) (v := ?_) rfl (by kernel_rfl) (by kernel_rfl) (by kernel_rfl) (fun _ _ _ h => h) (Or.inl ⟨by rfl, ?_⟩) hH ?_
    rotate_left 1
    · (intro w hSw; skip; clear hSw; go_simp <;> with_reducible rfl)
    simp only [Act.put, List.getElem_toArray, List.getElem_cons_zero, List.getElem_cons_succ, List.setIfInBounds_toArray, List.set_cons_zero, List.set_cons_succ]
    refine wpAnyH_take (i := 8) (v := ?_) rfl (by kernel_rfl) (by kernel_rfl) (by kernel_rfl) (fun _ _ _ h => h) (Or.inl ⟨by rfl, ?_⟩) hH ?_
    rotate_left 1
    · (intro w hSw; skip; clear hSw; go_simp <;> with_reducible rfl)
    simp only [Act.put, List.getElem_toArray, List.getElem_cons_zero, List.getElem_cons_succ, List.setIfInBounds_toArray, List.set_cons_zero, List.set_cons_succ]
    refine wpAnyH_take (i := 9) (v := ?_) rfl (by kernel_rfl) (by kernel_rfl) (by kernel_rfl) (fun _ _ _ h => h) (Or.inl ⟨by rfl, ?_⟩) hH ?_
    rotate_left 1
    · (intro w hSw; skip; clear hSw; go_simp <;> with_reducible rfl)
    simp only [Act.put, List.getElem_toArray, List.getElem_cons_zero, List.getElem_cons_succ, List.setIfInBounds_toArray, List.set_cons_zero, List.set_cons_succ]
    refine wpAnyH_take (i := 10) (v := ?_) rfl (by kernel_rfl) (by kernel_rfl) (by kernel_rfl) (fun _ _ _ h => h) (Or.inl ⟨by rfl, ?_⟩) hH ?_
    rotate_left 1
    · (intro w hSw; skip; clear hSw; go_simp <;> with_reducible rfl)
    simp only [Act.put, List.getElem_toArray, List.getElem_cons_zero, List.getElem_cons_succ, List.setIfInBounds_toArray, List.set_cons_zero, List.set_cons_succ]
    refine wpAnyH_take (i := 11) (v := ?_) rfl (by kernel_rfl) (by kernel_rfl) (by kernel_rfl) (fun _ _ _ h => h) (Or.inl ⟨by rfl, ?_⟩) hH ?_
    rotate_left 1
    · (intro w hSw; skip; clear hSw; go_simp <;> with_reducible rfl)
    simp only [Act.put, List.getElem_toArray, List.getElem_cons_zero, List.getElem_cons_succ, List.setIfInBounds_toArray, List.set_cons_zero, List.set_cons_succ]
    refine wpAnyH_take (i := 12) (v := undef) rfl (by kernel_rfl) (by kernel_rfl) (by kernel_rfl) (fun _ _ _ h => h) (Or.inr ⟨by rfl, rfl⟩) hH ?_
    simp only [Act.put, List.getElem_toArray, List.getElem_cons_zero, List.getElem_cons_succ, List.setIfInBounds_toArray, List.set_cons_zero, List.set_cons_succ]
    refine wpAnyH_take (i := 13) (v := undef) rfl (by kernel_rfl) (by kernel_rfl) (by kernel_rfl) (fun _ _ _ h => h) (Or.inr ⟨by rfl, rfl⟩) hH ?_
    simp only [Act.put, List.getElem_toArray, List.getElem_cons_zero, List.getElem_cons_succ, List.setIfInBounds_toArray, List.set_cons_zero, List.set_cons_succ]
    refine wpAnyH_take (i := 14) (v := undef) rfl (by kernel_rfl) (by kernel_rfl) (by kernel_rfl) (fun _ _ _ h => h) (Or.inr ⟨by rfl, rfl⟩) hH ?_
    simp only [Act.put, List.getElem_toArray, List.getElem_cons_zero, List.getElem_cons_succ, List.setIfInBounds_toArray, List.set_cons_zero, List.set_cons_succ]
    refine wpAnyH_take (i := 15) (v := undef) rfl (by kernel_rfl) (by kernel_rfl) (by kernel_rfl) (fun _ _ _ h => h) (Or.inr ⟨by rfl, rfl⟩) hH ?_
    simp only [Act.put, List.getElem_toArray, List.getElem_cons_zero, List.getElem_cons_succ, List.setIfInBounds_toArray, List.set_cons_zero, List.set_cons_succ]
    refine wpAnyH_take (i := 16) (v := undef) rfl (by kernel_rfl) (by kernel_rfl) (by kernel_rfl) (fun _ _ _ h => h) (Or.inr ⟨by rfl, rfl⟩) hH ?_
    simp only [Act.put, List.getElem_toArray, List.getElem_cons_zero, List.getElem_cons_succ, List.setIfInBounds_toArray, List.set_cons_zero, List.set_cons_succ]
    refine wpAnyH_take (i := 17) (v := undef) rfl (by kernel_rfl) (by kernel_rfl) (by kernel_rfl) (fun _ _ _ h => h) (Or.inr ⟨by rfl, rfl⟩) hH ?_
    simp only [Act.put, List.getElem_toArray, List.getElem_cons_zero, List.getElem_cons_succ, List.setIfInBounds_toArray, List.set_cons_zero, List.set_cons_succ]
    refine wpAnyH_take (i := 18) (v := undef) rfl (by kernel_rfl) (by kernel_rfl) (by kernel_rfl) (fun _ _ _ h => h) (Or.inr ⟨by rfl, rfl⟩) hH ?_
    simp only [Act.put, List.getElem_toArray, List.getElem_cons_zero, List.getElem_cons_succ, List.setIfInBounds_toArray, List.set_cons_zero, List.set_cons_succ]
    refine wpAnyH_take (i := 19) (v := undef) rfl (by kernel_rfl) (by kernel_rfl) (by kernel_rfl) (fun _ _ _ h => h) (Or.inr ⟨by rfl, rfl⟩) hH ?_
    simp only [Act.put, List.getElem_toArray, List.getElem_cons_zero, List.getElem_cons_succ, List.setIfInBounds_toArray, List.set_cons_zero, List.set_cons_succ]
    refine wpAnyH_take (i := 20) (v := undef) rfl (by kernel_rfl) (by kernel_rfl) (by kernel_rfl) (fun _ _ _ h => h) (Or.inr ⟨by rfl, rfl⟩) hH ?_
    simp only [Act.put, List.getElem_toArray, List.getElem_cons_zero, List.getElem_cons_succ, List.setIfInBounds_toArray, List.set_cons_zero, List.set_cons_succ]
    refine wpAnyH_take (i := 21) (v := undef) rfl (by kernel_rfl) (by kernel_rfl) (by kernel_rfl) (fun _ _ _ h => h) (Or.inr ⟨by rfl, rfl⟩) hH ?_
    simp only [Act.put, List.getElem_toArray, List.getElem_cons_zero, List.getElem_cons_succ, List.setIfInBounds_toArray, List.set_cons_zero, List.set_cons_succ]
    refine wpAnyH_take (i := 22) (v := undef) rfl (by kernel_rfl) (by kernel_rfl) (by kernel_rfl) (fun _ _ _ h => h) (Or.inr ⟨by rfl, rfl⟩) hH ?_
    simp only [Act.put, List.getElem_toArray, List.getElem_cons_zero, List.getElem_cons_succ, List.setIfInBounds_toArray, List.set_cons_zero, List.set_cons_succ]
    refine wpAnyH_take (i := 23) (v := undef) rfl (by kernel_rfl) (by kernel_rfl) (by kernel_rfl) (fun _ _ _ h => h) (Or.inr ⟨by rfl, rfl⟩) hH ?_
    simp only [Act.put, List.getElem_toArray, List.getElem_cons_zero, List.getElem_cons_succ, List.setIfInBounds_toArray, List.set_cons_zero, List.set_cons_succ]
    refine wpAnyH_take (i := 24) (v := undef) rfl (by kernel_rfl) (by kernel_rfl) (by kernel_rfl) (fun _ _ _ h => h) (Or.inr ⟨by rfl, rfl⟩) hH ?_
    simp only [Act.put, List.getElem_toArray, List.getElem_cons_zero, List.getElem_cons_succ, List.setIfInBounds_toArray, List.set_cons_zero, List.set_cons_succ]
    refine wpAnyH_take (i := 25) (v := ?_) rfl (by kernel_rfl) (by kernel_rfl) (by kernel_rfl) (fun _ _ _ h => h) (Or.inl ⟨by rfl, ?_⟩) hH ?_
    rotate_left 1
    · (intro w hSw; skip; clear hSw; go_simp <;> with_reducible rfl)
    simp only [Act.put, List.getElem_toArray, List.getElem_cons_zero, List.getElem_cons_succ, List.setIfInBounds_toArray, List.set_cons_zero, List.set_cons_succ]
    refine wpAnyH_take (i := 26) (v := ?_) rfl (by kernel_rfl) (by kernel_rfl) (by kernel_rfl) (fun _ _ _ h => h) (Or.inl ⟨by rfl, ?_⟩) hH ?_
    rotate_left 1
    · (intro w hSw; skip; clear hSw; go_simp <;> with_reducible rfl)
    simp only [Act.put, List.getElem_toArray, List.getElem_cons_zero, List.getElem_cons_succ, List.setIfInBounds_toArray, List.set_cons_zero, List.set_cons_succ]
    refine wpAnyH_take (i := 27) (v := ?_) rfl (by kernel_rfl) (by kernel_rfl) (by kernel_rfl) (fun _ _ _ h => h) (Or.inl ⟨by rfl, ?_⟩) hH ?_
    rotate_left 1
    · (intro w hSw; skip; clear hSw; go_simp <;> with_reducible rfl)
    simp only [Act.put, List.getElem_toArray, List.getElem_cons_zero, List.getElem_cons_succ, List.setIfInBounds_toArray, List.set_cons_zero, List.set_cons_succ]
    refine wpAnyH_done (by kernel_rfl) ?_ _
    clear hH
    go_wp2_with fail
    go_ret
    exact DoE.mk (by simp) HB0.out (HK.out.still B3.out)
  | some x =>
    obtain ⟨k, rfl, hk⟩ := lk_some hl
    have hkn : k < nA := by
      have := (List.getElem?_eq_some_iff.1 hk).1
      omega
    have IN := hide (fun w3 => in_yes k nA w3 hkn)
    obtain ⟨bA, eB⟩ := own_addr hv.ato (by omega)
    subst eB
    have q1 := hide (And.intro (own_cell hv.ato _ _ (nts_at hk)) (own_type hv.ato (k := bA) rfl).2.1)
    have SG := fun (w3 : World) (hs3 : Stt w3 F g s) (he : E2 w3 p) => sGet hs3 he (k : Nat)
    simp only [gtM, hl, erO] at SG
    have SG1 := hide SG
    have HK := hide K
    have HE := hide E7
    clear K SG hv hl hk hnA hcA hmA E7
    go_enter Tryd.func13, Tryd.ntmps13
    go_wp2_with fail
    obtain ⟨b, hb⟩ : ∃ b, w.heap.size = b := ⟨_, rfl⟩
    generalize w.alloc (.cells #[.int .i64 7, .int .i64 (k : Int), .int .i64 n, .int .i64 t, .int .i64 m, .int .u64 z] 43) = wa at *
    rw [hb] at X1 HN ⊢
    clear hb
    obtain ⟨x0, x1, x2, x3, x4, x5⟩ := X1.out.all
    have cm := q5.out.1
    go_quiet ((go_at_call 14; exact Calls.quiet_of_same ((IN.out _).mono fun _ _ h => ⟨h.1, h.2.symm⟩)))
    go_wp2_with fail
    refine (SG1.out _ (HK.out.hs.bel (below_drewN (Below.refl _ _) _)) (HE.out.e2.below (Nat.le_refl _) (below_drewN (Below.refl _ _) _))).mono ?_
    rintro e w2 ⟨rfl, hb2⟩
    have B3 := hide (bel_trans (below_drewN (Below.refl _ _) _) hb2)
    clear hb2 x0 x1 x2 x3 x4 x5 cm
    obtain ⟨x0, x1, x2, x3, x4, x5⟩ := (X1.out.al B3.out).all
    have cm := (B3.out.cell (p := ⟨gm, 5, none⟩) q5.out.2).trans q5.out.1
    have ca := (B3.out.cell (p := ⟨bA, k, none⟩) q1.out.2).trans q1.out.1.1
    go_wp2_with fail
    go_quiet ((go_at_call 10; exact Calls.quiet_of_same ((num_nil _).mono fun _ _ h => ⟨h.1, h.2.symm⟩)))
    go_wp2_with fail
    go_ret
    exact DoE.mk (by simp) HB0.out (HK.out.still (below_drewN B3.out _))
end Go.Proofs.YtghfjnnmpmfboaaDoor.Ck

/- SyncPlays: one call on both states: an atomic is set. (Written by mk_y.py.) -/
namespace Go.Proofs.YtghfjnnmpmfboaaDoor.Ck
open Go.RowKit

theorem still_of_quiet2 {P : Program} {ops : Array Oper} {w : World} {Q : Act → Prop} : ∀ (l : List Oper) (a : Act), wpQuiet P ops (fun w' => w' = w) Q l a → wpStill P ops w Q l a
  | [], _, h => h
  | o :: rest, a, h => by
    unfold wpQuiet at h
    unfold wpStill
    split
    · rename_i hw
      rw [if_pos hw] at h
      obtain ⟨v, hv, hn⟩ := h
      have hv := hv w rfl
      have hn := still_of_quiet2 rest _ hn
      unfold Oper.quietAt at hv
      unfold Oper.still
      generalize (execOp a.eval o).run P w = r at *
      cases r with
      | ok n w' =>
        cases n <;> simp only [Oper.quietUpon, Oper.stillUpon] at hv ⊢
        case enter f args => exact ⟨hv.1, v, hv.2, hn⟩
        case value u => exact ⟨hv.1, by rw [hv.2]; exact hn⟩
        case skip => exact ⟨hv.1, by rw [← hv.2]; exact hn⟩
      | halt x w' => simp only [Oper.quietUpon] at hv
    · rename_i hw
      rw [if_neg hw] at h
      exact still_of_quiet2 rest _ h
/-- a region that draws its order, all but the end of which only reads, and whose end is forced -/
theorem wp_quiet_tail2 {P : Program} {id : Nat} {Q : Exit → Act → World → Prop} {a : Act} {w : World} {l : List Oper} (n : Nat) (hm : P.follows .mixedOrders = true) (hB : Region.lexTailB .any l.toArray n = true)
    (h : wpQuiet P l.toArray (fun w' => w' = w.drew) (fun a' => wpList P l.toArray Q (l.drop n) a' w.drew) (l.take n) a) : (Code.region id l.toArray true).wp P Q a w :=
  wp_region_still_tail n hm hB (still_of_quiet2 _ _ h)
theorem Kp.bel {w0 w w1 : World} {G R F F2 : Nat → Prop} {B g gm : Nat} {s : St} (K : Kp w0 w G R B g gm s F F2) (h : Below w.heap.size w w1) : Kp w0 w1 G R B g gm s F F2 := ⟨K.hs.bel h, K.hm.bel h, K.d1, K.d2, K.hG, K.hlo, bel_trans K.hbl h⟩
set_option maxRecDepth 20000 in
set_option maxHeartbeats 2000000 in
theorem do_put {w0 w : World} {G R : Nat → Prop} {B g gm : Nat} {s : St} {p : List Addr} (h : Pr w0 w G R B g gm s) (h17 : Errs17 w0 p) (_hB1 : B ≤ 100000) (i n t m z : Int) : Calls Tryd.prog 13 #[.pointer (some ⟨g, 0, none⟩), .pointer (some ⟨gm, 0, none⟩), .agg #[.int .i64 8, .int .i64 i, .int .i64 n, .int .i64 t, .int .i64 m, .int .u64 z]] w (DoE w0 w G R (B + 1) g gm ((ptM s i n).2)) := by
  have hb0 := bel_new w (.cells #[.int .i64 8, .int .i64 i, .int .i64 n, .int .i64 t, .int .i64 m, .int .u64 z] 43)
  have X1 : Hid (Bx (w.alloc (.cells #[.int .i64 8, .int .i64 i, .int .i64 n, .int .i64 t, .int .i64 m, .int .u64 z] 43)) w.heap.size 8 i n t m z) := hide (Go.Deep.blk_alloc_new w (.cells #[.int .i64 8, .int .i64 i, .int .i64 n, .int .i64 t, .int .i64 m, .int .u64 z] 43))
  obtain ⟨F, F2, K⟩ := (h.bel hb0).kp
  have HN := hide (h.box K)
  have E7 := h17.below (Nat.le_refl _) K.hbl
  have H17 := hide h17
  have HB0 := hide hb0
  clear h h17 hb0
  obtain ⟨mP, mL, mC, mS, mT, mA, mss, mtk, hv⟩ := K.hm
  obtain ⟨aA, cA, eA, hcA, hmA⟩ := own_slice hv.ato
  obtain ⟨nA, hnA⟩ : ∃ n, n = s.A.length := ⟨_, rfl⟩
  rw [← hnA] at eA hcA
  subst eA
  have q5 := hide (And.intro hv.cells.2.2.2.2.2 (hv.fb gm hv.fg))
  cases hl : lk s.A i with
  | none =>
    have IN := hide (fun w3 => in_no i nA w3 (by rw [hnA]; exact lk_none hl))
    have SG := fun (w3 : World) (hs3 : Stt w3 F g s) (he : E2 w3 p) => sPut hs3 he i n
    simp only [ptM, hl] at SG ⊢
    have NU := hide (fun (w3 : World) (he : Errs17 w3 p) => num_o p 1 w3 he (by omega))
    generalize erO p 1 = ev at *
    have SG1 := hide SG
    have HK := hide K
    have HE := hide E7
    clear K SG hv hl hnA hcA hmA E7
    go_enter Tryd.func13, Tryd.ntmps13
    go_wp2_with fail
    obtain ⟨b, hb⟩ : ∃ b, w.heap.size = b := ⟨_, rfl⟩
    generalize w.alloc (.cells #[.int .i64 8, .int .i64 i, .int .i64 n, .int .i64 t, .int .i64 m, .int .u64 z] 43) = wa at *
    rw [hb] at X1 HN ⊢
    clear hb
    obtain ⟨x0, x1, x2, x3, x4, x5⟩ := X1.out.all
    have cm := q5.out.1
    go_quiet ((go_at_call 14; exact Calls.quiet_of_same ((IN.out _).mono fun _ _ h => ⟨h.1, h.2.symm⟩)))
    go_wp2_with fail
    refine (SG1.out _ (HK.out.hs.bel (below_drewN (Below.refl _ _) _)) (HE.out.e2.below (Nat.le_refl _) (below_drewN (Below.refl _ _) _))).mono ?_
    rintro e w2 ⟨rfl, F', hs2, c2⟩
    have D := hide ((HK.out.bel (below_drewN (Below.refl _ _) _)).done1 hs2 c2 (((HK.out.bel (below_drewN (Below.refl _ _) _)).m1 c2).up) (Ch.refl _ _) (fun _ h => h) (fun _ h => .inl h))
    have E3 := hide (H17.out.below (Nat.le_refl _) D.out.low)
    clear hs2 c2 HK HE
    go_wp2_with fail
    refine (NU.out _ E3.out).mono ?_
    rintro e w3 ⟨rfl, hb3⟩
    go_wp2_with fail
    go_ret
    exact DoE.mk (by simp) (below_drewN HB0.out _) (D.out.bel hb3)
  | some x =>
    obtain ⟨k, rfl, hk⟩ := lk_some hl
    have hkn : k < nA := by
      have := (List.getElem?_eq_some_iff.1 hk).1
      omega
    have IN := hide (fun w3 => in_yes k nA w3 hkn)
    obtain ⟨bA, eB⟩ := own_addr hv.ato (by omega)
    subst eB
    have q1 := hide (And.intro (own_cell hv.ato _ _ (nts_at hk)) (own_type hv.ato (k := bA) rfl).2.1)
    have SG := fun (w3 : World) (hs3 : Stt w3 F g s) (he : E2 w3 p) => sPut hs3 he (k : Nat) n
    simp only [ptM, hl, erO] at SG ⊢
    have SG1 := hide SG
    have HK := hide K
    have HV := hide hv
    have HX := hide hk
    have HNA := hide hnA
    clear K SG hv hl hk hnA hcA hmA E7
    go_enter Tryd.func13, Tryd.ntmps13
    go_wp2_with fail
    obtain ⟨b, hb⟩ : ∃ b, w.heap.size = b := ⟨_, rfl⟩
    generalize w.alloc (.cells #[.int .i64 8, .int .i64 (k : Int), .int .i64 n, .int .i64 t, .int .i64 m, .int .u64 z] 43) = wa at *
    rw [hb] at X1 HN ⊢
    clear hb
    obtain ⟨x0, x1, x2, x3, x4, x5⟩ := X1.out.all
    have cm := q5.out.1
    go_quiet ((go_at_call 14; exact Calls.quiet_of_same ((IN.out _).mono fun _ _ h => ⟨h.1, h.2.symm⟩)))
    go_wp2_with fail
    generalize hwb : World.drewN wa _ = wb
    have BB := hide (show Below wa.heap.size wa wb from hwb ▸ below_drewN (Below.refl _ _) _)
    have HV2 := HV.out.bel BB.out
    have KC := hide ((HK.out.bel BB.out).bel (bel_drawn (Below.refl _ _)))
    have HV3 := hide (HV2.bel (bel_drawn (Below.refl _ _)))
    have B3 := hide (bel_drawn (bel_trans HB0.out BB.out))
    clear hwb x0 x1 x2 x3 x4 x5 cm
    obtain ⟨x0, x1, x2, x3, x4, x5⟩ := (X1.out.al BB.out).all
    have cm := HV2.cells.2.2.2.2.2
    have ca := (own_cell HV2.ato k _ (nts_at HX.out)).1
    have Y1 := hide ((X1.out.al BB.out).al (bel_drawn (Below.refl _ _)))
    clear HV2 HK HV BB q1 q5 X1
    refine wp_quiet_tail2 9 mixed (by kernel_rfl) ?_
    simp only [List.take_succ_cons, List.take_zero, List.drop_succ_cons, List.drop_zero]
    repeat (first | go_big_quiet_skip | (go_big_quiet_want; go_big_quiet_op; go_big_quiet_on))
    refine wpQuiet_nil ?_
    clear x0 x1 x2 x3 x4 x5 cm ca
    generalize wb.drew = wc at *
    obtain ⟨ca, cf⟩ := own_cell HV3.out.ato k _ (nts_at HX.out)
    have SA := HV3.out.setA HNA.out k hkn (n)
    have SA1 := hide SA
    obtain ⟨x0, x1, x2, x3, x4, x5⟩ := (Y1.out.ch SA.2 HN.out.2).all
    clear SA HV3
    go_wp2_with fail
    generalize wc.setCell ⟨bA, k, none⟩ (.int .i64 (n)) = w4 at *
    refine (SG1.out _ (KC.out.s1 SA1.out.2) (H17.out.below (Nat.le_refl _) (KC.out.b2 SA1.out.2)).e2).mono ?_
    rintro e w5 ⟨rfl, F', hs4, c4⟩
    have D := hide (KC.out.done2 (Rt.up ⟨_, _, _, _, _, _, _, _, SA1.out.1⟩) SA1.out.2 (fun _ h => h) (fun _ h => .inl h) hs4 c4)
    clear hs4 c4 SA1
    go_wp2_with fail
    refine (num_nil _).mono ?_
    rintro e w6 ⟨rfl, rfl⟩
    go_wp2_with fail
    go_ret
    exact DoE.mk (by simp) B3.out D.out
end Go.Proofs.YtghfjnnmpmfboaaDoor.Ck

/- SyncPlays: one call on both states: an atomic is added to. (Written by mk_y.py.) -/
namespace Go.Proofs.YtghfjnnmpmfboaaDoor.Ck
open Go.RowKit

set_option maxRecDepth 20000 in
set_option maxHeartbeats 2000000 in
theorem do_add {w0 w : World} {G R : Nat → Prop} {B g gm : Nat} {s : St} {p : List Addr} (h : Pr w0 w G R B g gm s) (h17 : Errs17 w0 p) (_hB1 : B ≤ 100000) (i n t m z : Int) : Calls Tryd.prog 13 #[.pointer (some ⟨g, 0, none⟩), .pointer (some ⟨gm, 0, none⟩), .agg #[.int .i64 9, .int .i64 i, .int .i64 n, .int .i64 t, .int .i64 m, .int .u64 z]] w (DoE w0 w G R (B + 1) g gm ((adM s i n).2)) := by
  have hb0 := bel_new w (.cells #[.int .i64 9, .int .i64 i, .int .i64 n, .int .i64 t, .int .i64 m, .int .u64 z] 43)
  have X1 : Hid (Bx (w.alloc (.cells #[.int .i64 9, .int .i64 i, .int .i64 n, .int .i64 t, .int .i64 m, .int .u64 z] 43)) w.heap.size 9 i n t m z) := hide (Go.Deep.blk_alloc_new w (.cells #[.int .i64 9, .int .i64 i, .int .i64 n, .int .i64 t, .int .i64 m, .int .u64 z] 43))
  obtain ⟨F, F2, K⟩ := (h.bel hb0).kp
  have HN := hide (h.box K)
  have E7 := h17.below (Nat.le_refl _) K.hbl
  have H17 := hide h17
  have HB0 := hide hb0
  clear h h17 hb0
  obtain ⟨mP, mL, mC, mS, mT, mA, mss, mtk, hv⟩ := K.hm
  obtain ⟨aA, cA, eA, hcA, hmA⟩ := own_slice hv.ato
  obtain ⟨nA, hnA⟩ : ∃ n, n = s.A.length := ⟨_, rfl⟩
  rw [← hnA] at eA hcA
  subst eA
  have q5 := hide (And.intro hv.cells.2.2.2.2.2 (hv.fb gm hv.fg))
  cases hl : lk s.A i with
  | none =>
    have IN := hide (fun w3 => in_no i nA w3 (by rw [hnA]; exact lk_none hl))
    have SG := fun (w3 : World) (hs3 : Stt w3 F g s) (he : E2 w3 p) => sAdd hs3 he i n
    simp only [adM, hl] at SG ⊢
    have NU := hide (fun (w3 : World) (he : Errs17 w3 p) => num_o p 1 w3 he (by omega))
    generalize erO p 1 = ev at *
    have SG1 := hide SG
    have HK := hide K
    have HE := hide E7
    clear K SG hv hl hnA hcA hmA E7
    go_enter Tryd.func13, Tryd.ntmps13
    go_wp2_with fail
    obtain ⟨b, hb⟩ : ∃ b, w.heap.size = b := ⟨_, rfl⟩
    generalize w.alloc (.cells #[.int .i64 9, .int .i64 i, .int .i64 n, .int .i64 t, .int .i64 m, .int .u64 z] 43) = wa at *
    rw [hb] at X1 HN ⊢
    clear hb
    obtain ⟨x0, x1, x2, x3, x4, x5⟩ := X1.out.all
    have cm := q5.out.1
    go_quiet ((go_at_call 14; exact Calls.quiet_of_same ((IN.out _).mono fun _ _ h => ⟨h.1, h.2.symm⟩)))
    go_wp2_with fail
    refine (SG1.out _ (HK.out.hs.bel (below_drewN (Below.refl _ _) _)) (HE.out.e2.below (Nat.le_refl _) (below_drewN (Below.refl _ _) _))).mono ?_
    rintro e w2 ⟨rfl, F', hs2, c2⟩
    have D := hide ((HK.out.bel (below_drewN (Below.refl _ _) _)).done1 hs2 c2 (((HK.out.bel (below_drewN (Below.refl _ _) _)).m1 c2).up) (Ch.refl _ _) (fun _ h => h) (fun _ h => .inl h))
    have E3 := hide (H17.out.below (Nat.le_refl _) D.out.low)
    clear hs2 c2 HK HE
    go_wp2_with fail
    refine (NU.out _ E3.out).mono ?_
    rintro e w3 ⟨rfl, hb3⟩
    go_wp2_with fail
    go_ret
    exact DoE.mk (by simp) (below_drewN HB0.out _) (D.out.bel hb3)
  | some x =>
    obtain ⟨k, rfl, hk⟩ := lk_some hl
    have hkn : k < nA := by
      have := (List.getElem?_eq_some_iff.1 hk).1
      omega
    have IN := hide (fun w3 => in_yes k nA w3 hkn)
    obtain ⟨bA, eB⟩ := own_addr hv.ato (by omega)
    subst eB
    have q1 := hide (And.intro (own_cell hv.ato _ _ (nts_at hk)) (own_type hv.ato (k := bA) rfl).2.1)
    have SG := fun (w3 : World) (hs3 : Stt w3 F g s) (he : E2 w3 p) => sAdd hs3 he (k : Nat) n
    simp only [adM, hl, erO] at SG ⊢
    have SG1 := hide SG
    have HK := hide K
    have HV := hide hv
    have HX := hide hk
    have HNA := hide hnA
    clear K SG hv hl hk hnA hcA hmA E7
    go_enter Tryd.func13, Tryd.ntmps13
    go_wp2_with fail
    obtain ⟨b, hb⟩ : ∃ b, w.heap.size = b := ⟨_, rfl⟩
    generalize w.alloc (.cells #[.int .i64 9, .int .i64 (k : Int), .int .i64 n, .int .i64 t, .int .i64 m, .int .u64 z] 43) = wa at *
    rw [hb] at X1 HN ⊢
    clear hb
    obtain ⟨x0, x1, x2, x3, x4, x5⟩ := X1.out.all
    have cm := q5.out.1
    go_quiet ((go_at_call 14; exact Calls.quiet_of_same ((IN.out _).mono fun _ _ h => ⟨h.1, h.2.symm⟩)))
    go_wp2_with fail
    generalize hwb : World.drewN wa _ = wb
    have BB := hide (show Below wa.heap.size wa wb from hwb ▸ below_drewN (Below.refl _ _) _)
    have HV2 := HV.out.bel BB.out
    have KC := hide ((HK.out.bel BB.out).bel (bel_drawn (Below.refl _ _)))
    have HV3 := hide (HV2.bel (bel_drawn (Below.refl _ _)))
    have B3 := hide (bel_drawn (bel_trans HB0.out BB.out))
    clear hwb x0 x1 x2 x3 x4 x5 cm
    obtain ⟨x0, x1, x2, x3, x4, x5⟩ := (X1.out.al BB.out).all
    have cm := HV2.cells.2.2.2.2.2
    have ca := (own_cell HV2.ato k _ (nts_at HX.out)).1
    have Y1 := hide ((X1.out.al BB.out).al (bel_drawn (Below.refl _ _)))
    clear HV2 HK HV BB q1 q5 X1
    refine wp_quiet_tail2 12 mixed (by kernel_rfl) ?_
    simp only [List.take_succ_cons, List.take_zero, List.drop_succ_cons, List.drop_zero]
    repeat (first | go_big_quiet_skip | (go_big_quiet_want; go_big_quiet_op; go_big_quiet_on))
    refine wpQuiet_nil ?_
    clear x0 x1 x2 x3 x4 x5 cm ca
    generalize wb.drew = wc at *
    obtain ⟨ca, cf⟩ := own_cell HV3.out.ato k _ (nts_at HX.out)
    have SA := HV3.out.setA HNA.out k hkn (wrap64 (x + n))
    have SA1 := hide SA
    obtain ⟨x0, x1, x2, x3, x4, x5⟩ := (Y1.out.ch SA.2 HN.out.2).all
    clear SA HV3
    go_wp2_with fail
    generalize wc.setCell ⟨bA, k, none⟩ (.int .i64 (wrap64 (x + n))) = w4 at *
    refine (SG1.out _ (KC.out.s1 SA1.out.2) (H17.out.below (Nat.le_refl _) (KC.out.b2 SA1.out.2)).e2).mono ?_
    rintro e w5 ⟨rfl, F', hs4, c4⟩
    have D := hide (KC.out.done2 (Rt.up ⟨_, _, _, _, _, _, _, _, SA1.out.1⟩) SA1.out.2 (fun _ h => h) (fun _ h => .inl h) hs4 c4)
    clear hs4 c4 SA1
    go_wp2_with fail
    refine (num_nil _).mono ?_
    rintro e w6 ⟨rfl, rfl⟩
    go_wp2_with fail
    go_ret
    exact DoE.mk (by simp) B3.out D.out
end Go.Proofs.YtghfjnnmpmfboaaDoor.Ck

/- SyncPlays: one call on both states, of any kind. (Written by mk_y.py.) -/
namespace Go.Proofs.YtghfjnnmpmfboaaDoor.Ck
open Go.RowKit

set_option maxRecDepth 20000 in
set_option maxHeartbeats 2000000 in
theorem do_other {w0 w : World} {G R : Nat → Prop} {B g gm : Nat} {s : St} {p : List Addr} (h : Pr w0 w G R B g gm s) (h17 : Errs17 w0 p) (_hB1 : B ≤ 100000) (kd i n t m z : Int) (k1 : ¬ kd = 1) (k2 : ¬ kd = 2) (k3 : ¬ kd = 3) (k4 : ¬ kd = 4) (k5 : ¬ kd = 5) (k6 : ¬ kd = 6) (k7 : ¬ kd = 7) (k8 : ¬ kd = 8) (k9 : ¬ kd = 9) : Calls Tryd.prog 13 #[.pointer (some ⟨g, 0, none⟩), .pointer (some ⟨gm, 0, none⟩), .agg #[.int .i64 kd, .int .i64 i, .int .i64 n, .int .i64 t, .int .i64 m, .int .u64 z]] w (DoE w0 w G R (B + 1) g gm (s)) := by
  have hb0 := bel_new w (.cells #[.int .i64 kd, .int .i64 i, .int .i64 n, .int .i64 t, .int .i64 m, .int .u64 z] 43)
  have X1 : Hid (Bx (w.alloc (.cells #[.int .i64 kd, .int .i64 i, .int .i64 n, .int .i64 t, .int .i64 m, .int .u64 z] 43)) w.heap.size kd i n t m z) := hide (Go.Deep.blk_alloc_new w (.cells #[.int .i64 kd, .int .i64 i, .int .i64 n, .int .i64 t, .int .i64 m, .int .u64 z] 43))
  obtain ⟨F, F2, K⟩ := (h.bel hb0).kp
  have HN := hide (h.box K)
  have E7 := h17.below (Nat.le_refl _) K.hbl
  have H17 := hide h17
  have HB0 := hide hb0
  clear h h17 hb0
  obtain ⟨mP, mL, mC, mS, mT, mA, mss, mtk, hv⟩ := K.hm
  obtain ⟨aA, cA, eA, hcA, hmA⟩ := own_slice hv.ato
  obtain ⟨nA, hnA⟩ : ∃ n, n = s.A.length := ⟨_, rfl⟩
  rw [← hnA] at eA hcA
  subst eA
  have q5 := hide (And.intro hv.cells.2.2.2.2.2 (hv.fb gm hv.fg))
  have HK := hide K
  cases hl : lk s.A i with
  | none =>
    have IN := hide (fun w3 => in_no i nA w3 (by rw [hnA]; exact lk_none hl))
    clear K hv hl hnA hcA hmA E7
    go_enter Tryd.func13, Tryd.ntmps13
    go_wp2_with fail
    obtain ⟨b, hb⟩ : ∃ b, w.heap.size = b := ⟨_, rfl⟩
    generalize w.alloc (.cells #[.int .i64 kd, .int .i64 i, .int .i64 n, .int .i64 t, .int .i64 m, .int .u64 z] 43) = wa at *
    rw [hb] at X1 HN ⊢
    clear hb
    obtain ⟨x0, x1, x2, x3, x4, x5⟩ := X1.out.all
    have cm := q5.out.1
    go_quiet ((go_at_call 14; exact Calls.quiet_of_same ((IN.out _).mono fun _ _ h => ⟨h.1, h.2.symm⟩)))
    go_wp2_with fail
    all_goals
      go_ret
      exact DoE.mk rfl HB0.out (HK.out.still (below_drewN (Below.refl _ _) _))
  | some x =>
    obtain ⟨k, rfl, hk⟩ := lk_some hl
    have hkn : k < nA := by
      have := (List.getElem?_eq_some_iff.1 hk).1
      omega
    have IN := hide (fun w3 => in_yes k nA w3 hkn)
    clear K hv hl hk hnA hcA hmA E7
    go_enter Tryd.func13, Tryd.ntmps13
    go_wp2_with fail
    obtain ⟨b, hb⟩ : ∃ b, w.heap.size = b := ⟨_, rfl⟩
    generalize w.alloc (.cells #[.int .i64 kd, .int .i64 (k : Int), .int .i64 n, .int .i64 t, .int .i64 m, .int .u64 z] 43) = wa at *
    rw [hb] at X1 HN ⊢
    clear hb
    obtain ⟨x0, x1, x2, x3, x4, x5⟩ := X1.out.all
    have cm := q5.out.1
    go_quiet ((go_at_call 14; exact Calls.quiet_of_same ((IN.out _).mono fun _ _ h => ⟨h.1, h.2.symm⟩)))
    go_wp2_with fail
    all_goals
      go_ret
      exact DoE.mk rfl HB0.out (HK.out.still (below_drewN (Below.refl _ _) _))

/-- what a call of each kind makes of both states -/
def doM (s : St) (k i n : Int) (v : V3) : St :=
  if k = 2 then (wrM s i v).2 else if k = 3 then (tnM s i true).2 else if k = 4 then (tnM s i false).2 else if k = 5 then (sdM s i v).2 else if k = 6 then (rcM s i).2 else if k = 8 then (ptM s i n).2 else if k = 9 then (adM s i n).2 else s
theorem do_any {w0 w : World} {G R : Nat → Prop} {B g gm : Nat} {s : St} {p : List Addr} (h : Pr w0 w G R B g gm s) (h17 : Errs17 w0 p) (hB1 : B ≤ 100000) (k i n t m z : Int) : Calls Tryd.prog 13 #[.pointer (some ⟨g, 0, none⟩), .pointer (some ⟨gm, 0, none⟩), .agg #[.int .i64 k, .int .i64 i, .int .i64 n, .int .i64 t, .int .i64 m, .int .u64 z]] w (DoE w0 w G R (B + 1) g gm (doM s k i n (t, m, z))) := by
  by_cases h1 : k = 1
  · subst h1; exact do_read h h17 hB1 i n t m z
  by_cases h2 : k = 2
  · subst h2; exact do_write h h17 hB1 i n t m z
  by_cases h3 : k = 3
  · subst h3; exact do_lock h h17 hB1 i n t m z
  by_cases h4 : k = 4
  · subst h4; exact do_unlock h h17 hB1 i n t m z
  by_cases h5 : k = 5
  · subst h5; exact do_send h h17 hB1 i n t m z
  by_cases h6 : k = 6
  · subst h6; exact do_recv h h17 hB1 i n t m z
  by_cases h7 : k = 7
  · subst h7; exact do_get h h17 hB1 i n t m z
  by_cases h8 : k = 8
  · subst h8; exact do_put h h17 hB1 i n t m z
  by_cases h9 : k = 9
  · subst h9; exact do_add h h17 hB1 i n t m z
  have e : doM s k i n (t, m, z) = s := by simp [doM, h2, h3, h4, h5, h6, h8, h9]
  rw [e]
  exact do_other h h17 hB1 k i n t m z h1 h2 h3 h4 h5 h6 h7 h8 h9
theorem Pr.small {w0 w : World} {G R : Nat → Prop} {B g gm : Nat} {s : St} (h : Pr w0 w G R B g gm s) : (s.P.length ≤ 128 ∧ s.M.length ≤ 32 ∧ s.C.length ≤ 32 ∧ s.A.length ≤ 32) ∧ ∀ q ∈ s.C, 0 ≤ q.room ∧ q.room ≤ 8 ∧ (q.l.length : Int) ≤ q.room := by
  obtain ⟨F, F2, ⟨_, _, _, _, _, h1⟩, _⟩ := h
  exact ⟨h1.small, h1.rooms⟩
/-- a value less in a channel -/
theorem rc_less {s : St} {i : Nat} (h : 0 < lenC s i) : lenC (rcM s i).2 i = lenC s i - 1 ∧ (rcM s i).2.C.length = s.C.length := by
  cases hq : s.C[i]? with
  | none => simp [lenC, lk_nat, hq] at h
  | some q =>
    have hi := (List.getElem?_eq_some_iff.1 hq).1
    cases hl : q.l with
    | nil => simp [lenC, lk_nat, hq, hl] at h
    | cons v l =>
      have hr : rcM s (i : Int) = ((v, true, 0), { s with C := s.C.set i { q with l := l } }) := by
        unfold rcM
        rw [lk_nat, hq]
        simp [hl]
      rw [hr]
      simp [lenC, lk_nat, hq, hl, List.getElem?_set_self hi]
theorem len_eight {w0 w : World} {G R : Nat → Prop} {B g gm : Nat} {s : St} (h : Pr w0 w G R B g gm s) (i : Int) : 0 ≤ lenC s i ∧ lenC s i ≤ 8 := by
  unfold lenC
  cases hl : lk s.C i with
  | none => simp
  | some q =>
    obtain ⟨k, rfl, hk⟩ := lk_some hl
    have := h.small.2 q (List.mem_of_getElem? hk)
    simp only
    omega
end Go.Proofs.YtghfjnnmpmfboaaDoor.Ck

/- SyncPlays: a copy is looked at. (Written by mk_y.py.) -/
namespace Go.Proofs.YtghfjnnmpmfboaaDoor.Ck
open Go.RowKit

def LkE (w0 : World) (e : Ending) (w' : World) : Prop := e = .returned (.bool true) ∧ Below w0.heap.size w0 w'
set_option maxRecDepth 20000 in
set_option maxHeartbeats 2000000 in
theorem looked_any {w0 w : World} {G R : Nat → Prop} {B g gm : Nat} {s : St} {p : List Addr} (h : Pr w0 w G R B g gm s) (h17 : Errs17 w0 p) (hB1 : B ≤ 1000) : Calls Tryd.prog 21 #[.pointer (some ⟨g, 0, none⟩), .pointer (some ⟨gm, 0, none⟩)] w (LkE w0) := by
  have hsm := h.small.1
  obtain ⟨nP, hnP⟩ : ∃ n, n = s.P.length := ⟨_, rfl⟩
  obtain ⟨nA, hnA⟩ : ∃ n, n = s.A.length := ⟨_, rfl⟩
  obtain ⟨nC, hnC⟩ : ∃ n, n = s.C.length := ⟨_, rfl⟩
  rw [← hnP, ← hnA, ← hnC] at hsm
  have CM : ∀ (w1 : World) (G1 R1 : Nat → Prop) (B1 : Nat) (s1 : St), Pr w0 w1 G1 R1 B1 g gm s1 → (∃ a c, w1.cell? ⟨gm, 0, none⟩ = some (.slice a s1.P.length c)) ∧ (∃ a c, w1.cell? ⟨gm, 5, none⟩ = some (.slice a s1.A.length c)) ∧ ∃ a c, w1.cell? ⟨gm, 2, none⟩ = some (.slice a s1.C.length c) := fun w1 G1 R1 B1 s1 h1 => by
    obtain ⟨F, F2, K⟩ := h1.kp
    obtain ⟨mP, mL, mC, mS, mT, mA, mss, mtk, hv⟩ := K.hm
    obtain ⟨aP, cP, eP, _⟩ := own_slice hv.pl
    obtain ⟨aA, cA, eA, _⟩ := own_slice hv.ato
    obtain ⟨aC, cC, eC, _⟩ := own_slice hv.ch
    subst eP eA eC
    exact ⟨⟨_, _, hv.cells.1⟩, ⟨_, _, hv.cells.2.2.2.2.2⟩, _, _, hv.cells.2.2.1⟩
  have CM1 := hide CM
  obtain ⟨⟨aP, cP, q0⟩, _, _⟩ := CM w G R B s h
  rw [← hnP] at q0
  have H0 := hide (show ∃ G R, Pr w0 w G R (B + 0) g gm s from ⟨G, R, h⟩)
  have H17 := hide h17
  have HNP := hide hnP
  have HNA := hide hnA
  have HNC := hide hnC
  have hsm1 := hsm.1
  have hsm2 := hsm.2.2.2
  have hsm3 := hsm.2.2.1
  clear h h17 CM hnP hnA hnC hsm
  go_enter Tryd.func21, Tryd.ntmps21
  go_wp2_with fail
  go_loopw [5, 13] (fun x5 x wr => ∃ k : Nat, k ≤ nP ∧ x = .int .i64 k ∧ Hid (∃ G R, Pr w0 wr G R (B + k) g gm s)) (fun x5 x _ => nP - (intOf x).toNat)
  case atStart => exact ⟨0, Nat.zero_le _, rfl, H0⟩
  case round =>
    obtain ⟨k, hk, rfl, H1⟩ := hrel
    clear H0 q0
    by_cases hlt : k < nP
    · have hlt' : (k : Int) < (nP : Int) := by omega
      obtain ⟨G1, R1, h1⟩ := H1.out
      have DO := hide (do_read h1 H17.out (by omega) k 0 0 0 0)
      clear h1
      go_wp2_with fail
      refine DO.out.mono ?_
      rintro e w2 ⟨rfl, G2, R2, h2, _⟩
      have H2 := hide (show ∃ G R, Pr w0 w2 G R (B + (k + 1)) g gm s from ⟨G2, R2, h2⟩)
      clear h2 DO
      go_wp2_with fail
      go_roundw
      case rel => exact ⟨k + 1, by omega, by go_num, H2⟩
      case measure => simp [intOf]; omega
    · have hkn : k = nP := by omega
      have hge : (nP : Int) ≤ (k : Int) := by omega
      have H3 : Hid (∃ G R, Pr w0 wr G R (B + 128 + 0) g gm s) := by
        obtain ⟨G1, R1, F, F2, h1, h2, h3⟩ := H1.out
        exact ⟨G1, R1, F, F2, h1, h2.more (by omega) (fun _ h => h) h2.rb h2.fr, h3⟩
      obtain ⟨_, ⟨aA, cA, q5⟩, _⟩ := CM1.out _ _ _ _ _ H3.out.choose_spec.choose_spec
      rw [← HNA.out] at q5
      clear H1 hkn hk
      go_wp2_with fail
      go_loopw [6, 28] (fun x6 x wr => ∃ k : Nat, k ≤ nA ∧ x = .int .i64 k ∧ Hid (∃ G R, Pr w0 wr G R (B + 128 + k) g gm s)) (fun x6 x _ => nA - (intOf x).toNat)
      case atStart => exact ⟨0, Nat.zero_le _, rfl, H3⟩
      case round =>
        obtain ⟨k, hk, rfl, H1⟩ := hrel
        clear H3 q5
        by_cases hlt2 : k < nA
        · have hlt' : (k : Int) < (nA : Int) := by omega
          obtain ⟨G1, R1, h1⟩ := H1.out
          have DO := hide (do_get h1 H17.out (by omega) k 0 0 0 0)
          clear h1
          go_wp2_with fail
          refine DO.out.mono ?_
          rintro e w2 ⟨rfl, G2, R2, h2, _⟩
          have H2 := hide (show ∃ G R, Pr w0 w2 G R (B + 128 + (k + 1)) g gm s from ⟨G2, R2, h2⟩)
          clear h2 DO
          go_wp2_with fail
          go_roundw
          case rel => exact ⟨k + 1, by omega, by go_num, H2⟩
          case measure => simp [intOf]; omega
        · have hge2 : (nA : Int) ≤ (k : Int) := by omega
          have H3 : Hid (∃ G R, Pr w0 wr G R (B + 160) g gm s) := by
            obtain ⟨G1, R1, F, F2, h1, h2, h3⟩ := H1.out
            exact ⟨G1, R1, F, F2, h1, h2.more (by omega) (fun _ h => h) h2.rb h2.fr, h3⟩
          obtain ⟨_, _, aC, cC, q2⟩ := CM1.out _ _ _ _ _ H3.out.choose_spec.choose_spec
          rw [← HNC.out] at q2
          have H4 : Hid (∃ G R s' b, s'.C.length = nC ∧ b ≤ B + 160 + 8 * 0 ∧ Pr w0 wr G R b g gm s') := by
            obtain ⟨G1, R1, h1⟩ := H3.out
            exact ⟨G1, R1, s, _, HNC.out.symm, by omega, h1⟩
          clear H1 H3 hk CM1
          go_wp2_with fail
          go_loopw [7, 43] (fun x7 x wr => ∃ k : Nat, k ≤ nC ∧ x = .int .i64 k ∧ Hid (∃ G R s' b, s'.C.length = nC ∧ b ≤ B + 160 + 8 * k ∧ Pr w0 wr G R b g gm s')) (fun x7 x _ => nC - (intOf x).toNat)
          case atStart => exact ⟨0, Nat.zero_le _, rfl, H4⟩
          case round =>
            obtain ⟨k, hk, rfl, H1⟩ := hrel
            clear H4 q2
            by_cases hlt3 : k < nC
            · have hlt' : (k : Int) < (nC : Int) := by omega
              have H5 : Hid (∃ G R s' b n, s'.C.length = nC ∧ lenC s' k = (n : Nat) ∧ n ≤ 8 ∧ b + n ≤ B + 160 + 8 * k + 8 ∧ Pr w0 wr G R b g gm s') := by
                obtain ⟨G1, R1, s1, b1, e1, e2, h1⟩ := H1.out
                have h8 := len_eight h1 k
                exact ⟨G1, R1, s1, b1, (lenC s1 k).toNat, e1, by omega, by omega, by omega, h1⟩
              obtain ⟨n0, H6⟩ : ∃ n0 : Nat, Hid (∃ G R s' b, s'.C.length = nC ∧ lenC s' k = (n0 : Nat) ∧ n0 ≤ 8 ∧ b + n0 ≤ B + 160 + 8 * k + 8 ∧ Pr w0 wr G R b g gm s') := by
                obtain ⟨G1, R1, s1, b1, n1, h1⟩ := H5.out
                exact ⟨n1, G1, R1, s1, b1, h1⟩
              clear H1 H5
              go_wp2_with fail
              go_loopg [] n0 (fun gk wr => Hid (∃ G R s' b, s'.C.length = nC ∧ lenC s' k = (gk : Nat) ∧ gk ≤ 8 ∧ b + gk ≤ B + 160 + 8 * k + 8 ∧ Pr w0 wr G R b g gm s'))
              case atStart => exact H6
              case round =>
                clear H6
                obtain ⟨G1, R1, s1, b1, e1, e2, e3, e4, h1⟩ := hrel.out
                obtain ⟨F1, F2, K1⟩ := h1.kp
                have MH := hide (mHeld K1.hm (by omega) (k : Int))
                rw [e2] at MH
                have H7 := hide (And.intro e1 (And.intro e2 (And.intro e4 h1)))
                clear hrel e1 e2 h1 K1
                by_cases hn : 0 < gk
                · have hn' : (0 : Int) < (gk : Int) := by omega
                  go_wp2_with fail
                  refine MH.out.mono ?_
                  rintro e w2 ⟨rfl, kk, rfl⟩
                  have DO := hide (do_recv (H7.out.2.2.2.bel (below_drewN (Below.refl _ _) kk)) H17.out (by have := H7.out.2.2.1; omega) k 0 0 0 0)
                  clear MH
                  go_wp2_with fail
                  refine DO.out.mono ?_
                  rintro e w3 ⟨rfl, G2, R2, h2, _⟩
                  have H8 := hide h2
                  clear h2 DO
                  go_wp2_with fail
                  go_roundg (gk - 1)
                  case rel =>
                    have rl := rc_less (s := s1) (i := k) (by rw [H7.out.2.1]; omega)
                    refine ⟨G2, R2, _, _, rl.2.trans H7.out.1, ?_, by omega, ?_, H8.out⟩
                    · rw [rl.1, H7.out.2.1]; omega
                    · have := H7.out.2.2.1; omega
                  case measure => omega
                · have hn' : (gk : Int) ≤ 0 := by omega
                  go_wp2_with fail
                  refine MH.out.mono ?_
                  rintro e w2 ⟨rfl, kk, rfl⟩
                  have H8 := hide (H7.out.2.2.2.bel (below_drewN (Below.refl _ _) kk))
                  clear MH
                  go_wp2_with fail
                  go_roundw
                  case rel => exact ⟨k + 1, by omega, by go_num, G1, R1, s1, b1, H7.out.1, by have := H7.out.2.2.1; omega, H8.out⟩
                  case measure => simp [intOf]; omega
            · have hge3 : (nC : Int) ≤ (k : Int) := by omega
              have BL : Hid (Below w0.heap.size w0 wr) := by
                obtain ⟨G1, R1, s1, b1, _, _, h1⟩ := H1.out
                exact h1.low
              go_wp2_with fail
              go_ret
              exact ⟨rfl, BL.out⟩
end Go.Proofs.YtghfjnnmpmfboaaDoor.Ck

/- SyncPlays: a state, its copy and the document's two. (Written by mk_y.py.) -/
namespace Go.Proofs.YtghfjnnmpmfboaaDoor.Ck
open Go.RowKit

theorem Pr.up {w0 w : World} {G R : Nat → Prop} {B g gm : Nat} {s : St} (h : Pr w0 w G R B g gm s) : Pr w0 w G R (B + 1) g gm s := by
  obtain ⟨F, F2, h1, h2, h3⟩ := h
  exact ⟨F, F2, h1, h2.up, h3⟩
theorem Pr.glo {w0 w : World} {G R : Nat → Prop} {B g gm : Nat} {s : St} (h : Pr w0 w G R B g gm s) : ∀ k, G k → w0.heap.size ≤ k := by
  obtain ⟨F, F2, h1, h2, _, _, _, h3, _⟩ := h
  exact h3
/-- the states and their copies: two pairs that share nothing that is written -/
def JJ (w0 w : World) (B g gm gc gd : Nat) (s sc : St) : Prop := ∃ G R Gc Rc, Pr w0 w G R B g gm s ∧ Pr w0 w Gc Rc B gc gd sc ∧ (∀ k, Gc k → ¬ G k) ∧ (∀ k, Rc k → ¬ G k) ∧ ∀ k, R k → ¬ Gc k
section
variable {w0 w w1 w2 : World} {G R Gc Rc F F' : Nat → Prop} {B g gm gc gd : Nat} {s s' sc : St}
theorem JJ.bel (h : JJ w0 w B g gm gc gd s sc) (hb : Below w.heap.size w w1) : JJ w0 w1 B g gm gc gd s sc := by
  obtain ⟨G, R, Gc, Rc, h1, h2, h3⟩ := h
  exact ⟨G, R, Gc, Rc, h1.bel hb, h2.bel hb, h3⟩
theorem JJ.up (h : JJ w0 w B g gm gc gd s sc) : JJ w0 w (B + 1) g gm gc gd s sc := by
  obtain ⟨G, R, Gc, Rc, h1, h2, h3⟩ := h
  exact ⟨G, R, Gc, Rc, h1.up, h2.up, h3⟩
theorem JJ.step (h1 : Pr w0 w G R B g gm s) (h2 : Pr w0 w Gc Rc B gc gd sc) (d1 : ∀ k, Gc k → ¬ G k) (d2 : ∀ k, Rc k → ¬ G k) (d3 : ∀ k, R k → ¬ Gc k) (h : DoP w0 w G R (B + 1) g gm s' w1) : JJ w0 w1 (B + 1) g gm gc gd s' sc := by
  obtain ⟨G', R', h1', c, r1, r2⟩ := h
  obtain ⟨q1, q2, q3⟩ := h2.ch c h1.glo d1 d2
  refine ⟨G', R', Gc, Rc, h1', q1.up, q2, q3, fun k hk hc => ?_⟩
  rcases r2 k hk with h | h
  · exact d3 k h hc
  · have := h2.fb k hc
    omega
theorem JJ.copy (h1 : Pr w0 w G R B g gm s) (hm : Mk w w1 gc s) (hr : Rt w2 F' R B gd s) (hn : ∀ k, F' k → w1.heap.size ≤ k) (hb : Below w1.heap.size w1 w2) : JJ w0 w2 B g gm gc gd s s := by
  obtain ⟨F, hs, hF, hb1⟩ := hm
  have hb2 := bel_trans hb1 hb
  refine ⟨G, R, fun k => F k ∨ F' k, R, h1.bel hb2, ⟨F, F', hs.bel hb, hr, fun k h h' => ?_, fun k h h' => ?_, fun _ => Iff.rfl, fun k h => ?_, bel_trans h1.low hb2⟩, fun k h h' => ?_, h1.gr, fun k h h' => ?_⟩
  · have := hn k h'
    have := hs.fb k h
    omega
  · have := hF k h
    have := h1.rb k h'
    omega
  · have := h1.low.size
    rcases h with h | h
    · have := hF k h
      omega
    · have := hn k h
      have := hb1.size
      omega
  · have := h1.fb k h'
    rcases h with h | h
    · have := hF k h
      omega
    · have := hn k h
      have := hb1.size
      omega
  · have := h1.rb k h
    rcases h' with h | h
    · have := hF k h
      omega
    · have := hn k h
      have := hb1.size
      omega
/-- both new -/
theorem Pr.new (hl : Below w.heap.size w w1) (hs : Stt w1 F g s) (hF : ∀ k, F k → w.heap.size ≤ k) (hr : Rt w2 F' (fun _ => False) 0 gm s) (hn : ∀ k, F' k → w1.heap.size ≤ k) (hb : Below w1.heap.size w1 w2) : Pr w w2 (fun k => F k ∨ F' k) (fun _ => False) 0 g gm s :=
  ⟨F, F', hs.bel hb, hr, fun k h h' => by
    have := hn k h'
    have := hs.fb k h
    omega, fun k h h' => h', fun _ => Iff.rfl, fun k h => by
    rcases h with h | h
    · exact hF k h
    · have := hn k h
      have := hl.size
      omega, bel_trans hl hb⟩
end
theorem sameC_self : ∀ C, sameC C C = true := fun C => sameC_all C C rfl fun j q q' h h' => by
  rw [h] at h'
  cases h'
  simp [eqQ, sameV]
theorem sameS_self (s : St) : sameS s s = true := by simp [sameS, sameV, sameC_self]
/-- the script: a slice of calls -/
structure Opn where
  k : Int
  i : Int
  n : Int
  v : V3
def ocs (x : Opn) : List Value := [.int .i64 x.k, .int .i64 x.i, .int .i64 x.n, .int .i64 x.v.1, .int .i64 x.v.2.1, .int .u64 x.v.2.2]
def SOp (w : World) (v : Value) (l : List Opn) : Prop := ∃ (a : Option Addr) (c : Nat), v = .slice a l.length c ∧ l.length ≤ c ∧ c ≤ maxLen ∧ ∀ (i : Nat) (x : Opn), l[i]? = some x → ∃ (b o : Nat), a = some ⟨b, o, none⟩ ∧ b < w.heap.size ∧ ∀ (j : Nat) (u : Value), (ocs x)[j]? = some u → w.cell? ⟨b, o + i * 6 + j, none⟩ = some u
end Go.Proofs.YtghfjnnmpmfboaaDoor.Ck

/- What SyncPlays is handed: a shape, and a row of calls. -/
namespace Go.Proofs.YtghfjnnmpmfboaaDoor.Ck
open Go.ChangeShapes Go.WideShapes Go.ChangeAt Go.RowKit

set_option maxRecDepth 100000 in
theorem op_of {H : Type} {enc : TypeId × Value → H} {W : World} {fuel : Nat} {cs : List Value} {x : DataW H × List MemPlace} (h : DataW.trod enc Tryd.prog W 0 (fun _ => true) true fuel 43 cs = some x) : ∃ o : Opn, cs = ocs o := by
  obtain ⟨xs, f, hfu, _, hl, hlen, hf⟩ := DataW.trod_struct Tryd.underlying43 h
  rw [show Tryd.prog.cellsOf 43 = 6 by kernel_rfl] at hl
  clear h
  have hx : xs.length = 4 := hlen
  match cs, hl with
  | [c0, c1, c2, c3, c4, c5], _ =>
    have h0 : DataW.trod enc Tryd.prog W 0 (fun _ => true) true f 3 (([c0, c1, c2, c3, c4, c5].drop 0).take (Tryd.prog.cellsOf 3)) = xs[0]? := hf 0 _ rfl
    have h1 : DataW.trod enc Tryd.prog W 0 (fun _ => true) true f 3 (([c0, c1, c2, c3, c4, c5].drop 1).take (Tryd.prog.cellsOf 3)) = xs[1]? := hf 1 _ rfl
    have h2 : DataW.trod enc Tryd.prog W 0 (fun _ => true) true f 3 (([c0, c1, c2, c3, c4, c5].drop 2).take (Tryd.prog.cellsOf 3)) = xs[2]? := hf 2 _ rfl
    have h3 : DataW.trod enc Tryd.prog W 0 (fun _ => true) true f 41 (([c0, c1, c2, c3, c4, c5].drop 3).take (Tryd.prog.cellsOf 41)) = xs[3]? := hf 3 _ rfl
    clear hf
    simp only [cells1, cellsValue, List.drop_zero, List.drop_succ_cons, List.take_succ_cons, List.take_zero] at h0 h1 h2 h3
    rw [List.getElem?_eq_getElem (by omega)] at h0 h1 h2 h3
    obtain ⟨z0, q0, _⟩ := DataW.trod_int Tryd.underlying3 h0
    obtain ⟨z1, q1, _⟩ := DataW.trod_int Tryd.underlying3 h1
    obtain ⟨z2, q2, _⟩ := DataW.trod_int Tryd.underlying3 h2
    obtain ⟨t, n, b, q3, _⟩ := val_of h3
    simp at q0 q1 q2 q3
    obtain ⟨rfl, rfl, rfl⟩ := q3
    subst q0 q1 q2
    exact ⟨⟨z0, z1, z2, (t, n, b)⟩, rfl⟩
theorem ops_open {H : Type} {enc : TypeId × Value → H} {W : World} {a : Option Addr} {len cap : Nat} {d : DataW H} {p : List MemPlace} (h : DataW.Trod enc Tryd.prog W 0 (fun _ => true) true 26 (.slice a len cap) d p) : ∃ l, SOp W (.slice a len cap) l := by
  obtain ⟨fuel, hf⟩ := h
  obtain ⟨a', cap', l, e, h1, h2, h3⟩ := rows_of (⟨0, 0, 0, (0, 0, 0)⟩ : Opn) Tryd.underlying26 (show Tryd.prog.cellsOf 43 = 6 by kernel_rfl) (by omega) (fun (c : Opn) cs => cs = ocs c) (fun f cs y _ hy => op_of hy) hf
  refine ⟨l, a', cap', e, h1, h2, fun i x hx => ?_⟩
  obtain ⟨b, o, cs, ea, hb, rfl, _, hc⟩ := h3 i x hx
  exact ⟨b, o, ea, hb, hc⟩
set_option maxRecDepth 100000 in
theorem shape_open {H : Type} {enc : TypeId × Value → H} {W : World} {c : Array Value} {d : DataW H} {p : List MemPlace} (h : DataW.Trod enc Tryd.prog W 0 (fun _ => true) true 25 (.agg c) d p) :
    ∃ vP m a vC ps cs, Value.agg c = .agg #[vP, .int .i64 m, .int .i64 a, vC] ∧ Sl W vP ps ∧ SlC W vC cs := by
  obtain ⟨fuel, h⟩ := h
  obtain ⟨xs, f, hfu, _, hl, hlen, hf⟩ := DataW.trod_struct Tryd.underlying25 h
  rw [show Tryd.prog.cellsOf 25 = 4 by kernel_rfl] at hl
  clear h
  have hx : xs.length = 4 := hlen
  have hcs : (Value.agg c).cells.toList = c.toList := rfl
  rw [hcs] at hl hf
  obtain ⟨cs, rfl⟩ : ∃ cs : List Value, c = cs.toArray := ⟨c.toList, by simp⟩
  simp only at hl hf
  match cs, hl with
  | [c0, c1, c2, c3], _ =>
    have h0 : DataW.trod enc Tryd.prog W 0 (fun _ => true) true f 22 (([c0, c1, c2, c3].drop 0).take (Tryd.prog.cellsOf 22)) = xs[0]? := hf 0 _ rfl
    have h1 : DataW.trod enc Tryd.prog W 0 (fun _ => true) true f 3 (([c0, c1, c2, c3].drop 1).take (Tryd.prog.cellsOf 3)) = xs[1]? := hf 1 _ rfl
    have h2 : DataW.trod enc Tryd.prog W 0 (fun _ => true) true f 3 (([c0, c1, c2, c3].drop 2).take (Tryd.prog.cellsOf 3)) = xs[2]? := hf 2 _ rfl
    have h3 : DataW.trod enc Tryd.prog W 0 (fun _ => true) true f 23 (([c0, c1, c2, c3].drop 3).take (Tryd.prog.cellsOf 23)) = xs[3]? := hf 3 _ rfl
    clear hf
    simp only [cells1, show Tryd.prog.cellsOf 22 = 1 by kernel_rfl, show Tryd.prog.cellsOf 23 = 1 by kernel_rfl, List.drop_zero, List.drop_succ_cons, List.take_succ_cons, List.take_zero] at h0 h1 h2 h3
    rw [List.getElem?_eq_getElem (by omega)] at h0 h1 h2 h3
    obtain ⟨z1, q1, _⟩ := DataW.trod_int Tryd.underlying3 h1
    obtain ⟨z2, q2, _⟩ := DataW.trod_int Tryd.underlying3 h2
    simp at q1 q2
    subst q1 q2
    obtain ⟨ps, hp⟩ := sl_of h0
    obtain ⟨cs, hc⟩ := chans_of h3
    exact ⟨c0, z1, z2, c3, ps, cs, rfl, hp, hc⟩
end Go.Proofs.YtghfjnnmpmfboaaDoor.Ck

/- The walk of the statement SyncPlays. (Written by mk_y.py.) -/
namespace Go.Proofs.YtghfjnnmpmfboaaDoor.Ck
open Go.RowKit

theorem lk_far {α : Type} {l : List α} {i : Int} (h : i < 0 ∨ (l.length : Int) ≤ i) : lk l i = none := by
  unfold lk
  split
  · exact List.getElem?_eq_none (by omega)
  · rfl
set_option maxRecDepth 20000 in
set_option maxHeartbeats 4000000 in
theorem plays_main (vP vC vS : Value) (ps : List Int) (cs : List (Int × Int)) (m a : Int) (ops : List Opn) {w : World} {p : List Addr} (h17 : Errs17 w p) (hP : Sl w vP ps) (hC : SlC w vC cs) (hS : SOp w vS ops) : Calls Tryd.prog 3 #[.agg #[vP, .int .i64 m, .int .i64 a, vC], vS] w (Vb w (.bool true)) := by
  obtain ⟨_, aP, cP, eP, _⟩ := id hP
  obtain ⟨aC, cC, eC, _⟩ := id hC
  obtain ⟨aS, cS, eS, _, _, hS⟩ := hS
  obtain ⟨nP, hnP⟩ : ∃ n, n = ps.length := ⟨_, rfl⟩
  obtain ⟨nC, hnC⟩ : ∃ n, n = cs.length := ⟨_, rfl⟩
  obtain ⟨n, hn⟩ : ∃ n, n = ops.length := ⟨_, rfl⟩
  rw [← hnP] at eP
  rw [← hnC] at eC
  rw [← hn] at eS
  subst eP eC eS
  have hb0 := bel_new w (.cells #[.slice aP nP cP, .int .i64 m, .int .i64 a, .slice aC nC cC] 25)
  have AL := hide (alive_any (h17.below (Nat.le_refl _) hb0).e2)
  have N0 := hide (fun w1 (hb : Below w.heap.size w w1) (hok : okN ps m cs a = false) => new_bad _ _ ps cs m a (h17.below (Nat.le_refl _) hb).e2 (hP.below (Nat.le_refl _) hb) (hC.below hb) hok)
  have N1 := hide (fun w1 (hb : Below w.heap.size w w1) (hok : okN ps m cs a = true) => new_ok _ _ ps cs m a (hP.below (Nat.le_refl _) hb) (hC.below hb) hok)
  have N2 := hide (fun w1 (hb : Below w.heap.size w w1) => rnew_any _ _ ps cs m a (hP.below (Nat.le_refl _) hb) (hC.below hb))
  have H17 := hide h17
  have HS := hide hS
  have HN := hide hn
  have HB0 := hide hb0
  have Y0 := hide (Go.Deep.blk_alloc_new w (.cells #[.slice aP nP cP, .int .i64 m, .int .i64 a, .slice aC nC cC] 25))
  generalize newS ps m cs a = s0 at *
  clear h17 hP hC hS hn hb0 hnP hnC
  go_enter Tryd.func3, Tryd.ntmps3
  go_wp2_with fail
  obtain ⟨bS, hsz⟩ : ∃ b, w.heap.size = b := ⟨_, rfl⟩
  generalize w.alloc (.cells #[.slice aP nP cP, .int .i64 m, .int .i64 a, .slice aC nC cC] 25) = wa at *
  rw [hsz] at Y0 ⊢
  clear hsz
  refine AL.out.mono ?_
  rintro e w1 ⟨rfl, hb1⟩
  have B1 := hide (bel_trans HB0.out hb1)
  have Y1 := hide ((hb1.block bS (lt_of_blk Y0.out)).trans Y0.out)
  have y0 := blk_cell Y1.out 0 _ rfl
  have y1 := blk_cell Y1.out 1 _ rfl
  have y2 := blk_cell Y1.out 2 _ rfl
  have y3 := blk_cell Y1.out 3 _ rfl
  clear hb1 AL Y0
  by_cases h1 : 1000 < nP
  · have h1' : (1000 : Int) < (nP : Int) := by omega
    go_wp2_with fail
    go_ret
    exact Vb.mk rfl B1.out
  have h1' : (nP : Int) ≤ 1000 := by omega
  by_cases h2 : 1000 < nC
  · have h2' : (1000 : Int) < (nC : Int) := by omega
    go_wp2_with fail
    go_ret
    exact Vb.mk rfl B1.out
  have h2' : (nC : Int) ≤ 1000 := by omega
  clear h1 h2
  cases hok : okN ps m cs a with
  | false =>
    have HOK := hide hok
    clear hok
    go_wp2_with fail
    refine (N0.out _ B1.out HOK.out).mono ?_
    rintro e w2 ⟨rfl, hb2⟩
    have B2 := hide (bel_trans B1.out hb2)
    have Y2 := hide ((hb2.block bS (lt_of_blk Y1.out)).trans Y1.out)
    have y0 := blk_cell Y2.out 0 _ rfl
    have y1 := blk_cell Y2.out 1 _ rfl
    have y2 := blk_cell Y2.out 2 _ rfl
    have y3 := blk_cell Y2.out 3 _ rfl
    have NU := hide (fun w3 (he : Errs17 w3 p) => num_err p 0 w3 he (by omega))
    unfold errV at *
    generalize adr p 0 = ad at *
    clear hb2 Y1 B1 N0 N1
    go_wp2_with fail
    refine (N2.out _ B2.out).mono ?_
    rintro e w3 (⟨_, rfl, hb3⟩ | ⟨hx, _⟩)
    · have B3 := hide (bel_trans B2.out hb3)
      clear hb3
      go_wp2_with fail
      refine (NU.out _ (H17.out.below (Nat.le_refl _) B3.out)).mono ?_
      rintro e w4 ⟨rfl, hb4⟩
      go_wp2_with fail
      go_ret
      exact Vb.mk (by simp) (bel_trans B3.out hb4)
    · rw [HOK.out] at hx
      cases hx
  | true =>
    have HOK := hide hok
    clear hok
    go_wp2_with fail
    refine (N1.out _ B1.out HOK.out).mono ?_
    rintro e w2 ⟨g, F, rfl, hs, hF, hb2⟩
    have B2 := hide (bel_trans B1.out hb2)
    have Y2 := hide ((hb2.block bS (lt_of_blk Y1.out)).trans Y1.out)
    have y0 := blk_cell Y2.out 0 _ rfl
    have y1 := blk_cell Y2.out 1 _ rfl
    have y2 := blk_cell Y2.out 2 _ rfl
    have y3 := blk_cell Y2.out 3 _ rfl
    have HS2 := hide (And.intro hs (fun k hk => Nat.le_trans B1.out.size (hF k hk)))
    clear hs hF hb2 Y1 B1 N0 N1
    go_wp2_with fail
    refine (N2.out _ B2.out).mono ?_
    rintro e w3 (⟨hx, _⟩ | ⟨_, gm, F', rfl, hr, hn, hb3⟩)
    · rw [HOK.out] at hx
      cases hx
    · have P0 := hide (Pr.new B2.out HS2.out.1 HS2.out.2 hr hn hb3)
      clear hr hn hb3 HS2 y0 y1 y2 y3 Y2 N2 HOK B2
      obtain ⟨F5, F6, K5⟩ := P0.out.kp
      have CP := hide (Copy_any K5.hs)
      have CR := hide (fun wz (hb : Below w3.heap.size w3 wz) => rCopy_any (K5.hm.bel hb) (by omega))
      clear K5
      go_wp2_with fail
      refine CP.out.mono ?_
      rintro e w6 ⟨gc2, rfl, hmk⟩
      have MK := hide hmk
      have B6 := hide hmk.below
      clear hmk CP
      go_wp2_with fail
      refine (CR.out _ B6.out).mono ?_
      rintro e w7 ⟨gd2, Fd, rfl, hrd, hnd, hb7⟩
      have J0 : Hid (∃ s sc, JJ w w7 0 g gm gc2 gd2 s sc) := hide ⟨_, _, JJ.copy P0.out MK.out hrd hnd hb7⟩
      clear hrd hnd hb7 MK CR B6 P0
      go_wp2_with fail
      go_loopw [9, 10, 11, 12, 13, 14, 72] (fun x9 x10 x11 x12 x13 x14 x wr => ∃ kk0 : Nat, kk0 ≤ n ∧ kk0 ≤ 151 ∧ ∃ gc gd : Nat, x = .int .i64 kk0 ∧ x9 = .pointer (some ⟨gc, 0, none⟩) ∧ x10 = .pointer (some ⟨gd, 0, none⟩) ∧ Hid (∃ s sc, JJ w wr kk0 g gm gc gd s sc)) (fun x9 x10 x11 x12 x13 x14 x _ => n - (intOf x).toNat)
      case atStart => exact ⟨0, Nat.zero_le _, by omega, gc2, gd2, rfl, rfl, rfl, J0⟩
      case round =>
        obtain ⟨kk0, hk, hk3, gc, gd, rfl, rfl, rfl, JR⟩ := hrel
        clear J0
        by_cases hlt : kk0 < n
        · have hlt' : (kk0 : Int) < (n : Int) := by omega
          obtain ⟨x, hx⟩ : ∃ x, ops[kk0]? = some x := ⟨_, List.getElem?_eq_getElem (by have := HN.out; omega)⟩
          obtain ⟨b1, o1, e1, hb1, hc1⟩ := HS.out kk0 x hx
          obtain ⟨kd, i, on, t, mm, z⟩ := x
          subst e1
          have LB : Hid (Below w.heap.size w wr) := by
            obtain ⟨s1, sc1, G1, R1, Gc1, Rc1, p1, _⟩ := JR.out
            exact p1.low
          have u0 : wr.cell? ⟨b1, o1 + kk0 * 6, none⟩ = some (.int .i64 kd) := (LB.out.cell (p := ⟨b1, o1 + kk0 * 6 + 0, none⟩) hb1).trans (hc1 0 _ rfl)
          have u1 : wr.cell? ⟨b1, o1 + kk0 * 6 + 1, none⟩ = some (.int .i64 i) := (LB.out.cell (p := ⟨b1, o1 + kk0 * 6 + 1, none⟩) hb1).trans (hc1 1 _ rfl)
          have u2 : wr.cell? ⟨b1, o1 + kk0 * 6 + 2, none⟩ = some (.int .i64 on) := (LB.out.cell (p := ⟨b1, o1 + kk0 * 6 + 2, none⟩) hb1).trans (hc1 2 _ rfl)
          have u3 : wr.cell? ⟨b1, o1 + kk0 * 6 + 3, none⟩ = some (.int .i64 t) := (LB.out.cell (p := ⟨b1, o1 + kk0 * 6 + 3, none⟩) hb1).trans (hc1 3 _ rfl)
          have u4 : wr.cell? ⟨b1, o1 + kk0 * 6 + 4, none⟩ = some (.int .i64 mm) := (LB.out.cell (p := ⟨b1, o1 + kk0 * 6 + 4, none⟩) hb1).trans (hc1 4 _ rfl)
          have u5 : wr.cell? ⟨b1, o1 + kk0 * 6 + 5, none⟩ = some (.int .u64 z) := (LB.out.cell (p := ⟨b1, o1 + kk0 * 6 + 5, none⟩) hb1).trans (hc1 5 _ rfl)
          clear hc1 hx
          by_cases h150 : 150 < kk0
          · have h150' : (150 : Int) < (kk0 : Int) := by omega
            have JT : Hid (∃ s sc, JJ w (wr.alloc (.cells #[.int .i64 kd, .int .i64 i, .int .i64 on, .int .i64 t, .int .i64 mm, .int .u64 z] 43)) kk0 g gm gc gd s sc) := by
              obtain ⟨s1, sc1, j1⟩ := JR.out
              exact ⟨s1, sc1, j1.bel (bel_new _ _)⟩
            clear JR LB
            go_wp2_with fail
            generalize wr.alloc (.cells #[.int .i64 kd, .int .i64 i, .int .i64 on, .int .i64 t, .int .i64 mm, .int .u64 z] 43) = wx at *
            obtain ⟨s1, sc1, J1⟩ := JT.out
            obtain ⟨G1, R1, Gc1, Rc1, p1, p2, d1, d2, d3⟩ := J1
            obtain ⟨F1, F2, K1⟩ := p1.kp
            obtain ⟨Fc1, Fc2, Kc1⟩ := p2.kp
            have SS := hide (Same_any K1.hs Kc1.hs)
            have MS := hide (fun w3 (hb : Below wx.heap.size wx w3) => rSame_any (K1.hm.bel hb) (Kc1.hm.bel hb) (by omega) (by omega))
            have CP := hide (fun w3 (hb : Below wx.heap.size wx w3) => Copy_any (K1.hs.bel hb))
            have HS := hide K1.hs
            have LO := hide (fun w3 (hb : Below wx.heap.size wx w3) => looked_any (p2.bel hb) H17.out (by omega))
            generalize sameS s1 sc1 = sm at *
            clear K1 Kc1 p1 p2 d1 d2 d3
            refine SS.out.mono ?_
            rintro e w3 ⟨rfl, hb3⟩
            have B3 := hide hb3
            clear hb3 SS
            go_wp2_with fail
            refine (MS.out _ B3.out).mono ?_
            rintro e w4 ⟨rfl, hb4⟩
            have B4 := hide (bel_trans B3.out hb4)
            clear hb4 B3 MS
            go_wp2_with fail
            refine (CP.out _ B4.out).mono ?_
            rintro e w5 ⟨gx, rfl, Fx, hx, hlx, hb5⟩
            have B5 := hide (bel_trans B4.out hb5)
            have SX := hide (Same_any (HS.out.bel B5.out) hx)
            rw [sameS_self] at SX
            clear hb5 hx hlx CP B4
            go_wp2_with fail
            refine SX.out.mono ?_
            rintro e w6 ⟨rfl, hb6⟩
            have B6 := hide (bel_trans B5.out hb6)
            clear hb6 SX B5
            go_wp2_with fail
            refine (LO.out _ B6.out).mono ?_
            rintro e w7 ⟨rfl, hb7⟩
            go_wp2_with fail
            go_ret
            exact Vb.mk (by simp) hb7
          · have h150' : (kk0 : Int) ≤ 150 := by omega
            have hk15 : kk0 ≤ 150 := by omega
            obtain ⟨s1, sc1, G1, R1, Gc1, Rc1, p1, p2, d1, d2, d3⟩ := JR.out
            clear JR
            by_cases h10 : kd = 10
            · subst h10
              have PX := p1.bel (bel_new wr (.cells #[.int .i64 10, .int .i64 i, .int .i64 on, .int .i64 t, .int .i64 mm, .int .u64 z] 43))
              have HPX := hide PX
              clear p1 p2 d1 d2 d3
              obtain ⟨F5, F6, K5⟩ := PX.kp
              have CP := hide (Copy_any K5.hs)
              have CR := hide (fun wz (hb : Below (wr.alloc (.cells #[.int .i64 10, .int .i64 i, .int .i64 on, .int .i64 t, .int .i64 mm, .int .u64 z] 43)).heap.size (wr.alloc (.cells #[.int .i64 10, .int .i64 i, .int .i64 on, .int .i64 t, .int .i64 mm, .int .u64 z] 43)) wz) => rCopy_any (K5.hm.bel hb) (by omega))
              clear K5
              clear PX
              go_wp2_with fail
              generalize wr.alloc (.cells #[.int .i64 10, .int .i64 i, .int .i64 on, .int .i64 t, .int .i64 mm, .int .u64 z] 43) = wx at *
              refine CP.out.mono ?_
              rintro e w6 ⟨gc2, rfl, hmk⟩
              have MK := hide hmk
              have B6 := hide hmk.below
              clear hmk CP
              go_wp2_with fail
              refine (CR.out _ B6.out).mono ?_
              rintro e w7 ⟨gd2, Fd, rfl, hrd, hnd, hb7⟩
              have J2 := hide (JJ.copy HPX.out MK.out hrd hnd hb7).up
              clear hrd hnd hb7 MK CR B6 HPX
              go_wp2_with fail
              go_roundw
              case rel => exact ⟨kk0 + 1, by omega, by omega, gc2, gd2, by go_num, rfl, rfl, hide ⟨_, _, J2.out⟩⟩
              case measure => simp [intOf]; omega
            · by_cases hi0 : i < 0
              · clear LB
                have DO := hide (do_any (p1.bel (bel_new wr (.cells #[.int .i64 kd, .int .i64 i, .int .i64 on, .int .i64 t, .int .i64 mm, .int .u64 z] 43))) H17.out (by omega) kd i on t mm z)
                have X1 : Hid (Bx (wr.alloc (.cells #[.int .i64 kd, .int .i64 i, .int .i64 on, .int .i64 t, .int .i64 mm, .int .u64 z] 43)) wr.heap.size kd i on t mm z) := hide (Go.Deep.blk_alloc_new wr (.cells #[.int .i64 kd, .int .i64 i, .int .i64 on, .int .i64 t, .int .i64 mm, .int .u64 z] 43))
                have NB : Hid (¬ G1 wr.heap.size) := hide (fun e => by have := p1.fb _ e; omega)
                have PP := hide (And.intro (p1.bel (bel_new wr (.cells #[.int .i64 kd, .int .i64 i, .int .i64 on, .int .i64 t, .int .i64 mm, .int .u64 z] 43))) (And.intro (p2.bel (bel_new wr (.cells #[.int .i64 kd, .int .i64 i, .int .i64 on, .int .i64 t, .int .i64 mm, .int .u64 z] 43))) (And.intro d1 (And.intro d2 d3))))
                clear p1 p2 d1 d2 d3
                go_wp2_with fail
                obtain ⟨b, hb⟩ : ∃ b, wr.heap.size = b := ⟨_, rfl⟩
                generalize wr.alloc (.cells #[.int .i64 kd, .int .i64 i, .int .i64 on, .int .i64 t, .int .i64 mm, .int .u64 z] 43) = w1 at *
                rw [hb] at X1 NB ⊢
                clear hb
                refine DO.out.mono ?_
                rintro e w2 ⟨rfl, dp⟩
                have J2 := hide (JJ.step PP.out.1 PP.out.2.1 PP.out.2.2.1 PP.out.2.2.2.1 PP.out.2.2.2.2 dp)
                obtain ⟨G3, R3, h3, c3, _⟩ := dp
                have X2 := hide (X1.out.ch c3 NB.out)
                obtain ⟨s2, hs2⟩ : ∃ x, doM s1 kd i on (t, mm, z) = x := ⟨_, rfl⟩
                rw [hs2] at J2 h3
                clear hs2 c3 DO PP NB X1
                obtain ⟨F3, F4, K3⟩ := h3.kp
                have E3 := H17.out.below (Nat.le_refl _) K3.hbl
                have LK := fun (w3 : World) (hb : Below w2.heap.size w2 w3) => Locked_any (K3.hs.bel hb) (E3.e2.below (Nat.le_refl _) hb) i
                have LE := hide (fun (w3 : World) (hb : Below w2.heap.size w2 w3) => Len_any (K3.hs.bel hb) (E3.e2.below (Nat.le_refl _) hb) i)
                have RM := fun (w3 : World) (hb : Below w2.heap.size w2 w3) => Room_any (K3.hs.bel hb) (E3.e2.below (Nat.le_refl _) hb) i
                have HD := hide (fun (w3 : World) (hb : Below w2.heap.size w2 w3) => mHeld (K3.hm.bel hb) (by omega) i)
                obtain ⟨mP, mL, mC, mS, mT, mA, mss, mtk, hv⟩ := K3.hm
                obtain ⟨aL, cL0, eL, _⟩ := own_slice hv.lo
                obtain ⟨aC2, cC0, eC2, _⟩ := own_slice hv.ch
                obtain ⟨nM, hnM⟩ : ∃ n, n = s2.M.length := ⟨_, rfl⟩
                obtain ⟨nC2, hnC2⟩ : ∃ n, n = s2.C.length := ⟨_, rfl⟩
                rw [← hnM] at eL
                rw [← hnC2] at eC2
                subst eL eC2
                have cL := hv.cells.2.1
                have cC2 := hv.cells.2.2.1
                clear K3 h3 E3
                have hkM : i < 0 ∨ (nM : Int) ≤ i := .inl hi0
                have hkC : i < 0 ∨ (nC2 : Int) ≤ i := .inl hi0
                have hgm := hide (hv.fb gm hv.fg)
                have IM := hide (fun w3 => in_no i nM w3 hkM)
                have elo : (lk s2.M i).getD false = false := by rw [lk_far (by rw [← hnM]; exact hkM)]; rfl
                have IC := hide (fun w3 => in_no i nC2 w3 hkC)
                have ero : roomC s2 i = 0 := by unfold roomC; rw [lk_far (by rw [← hnC2]; exact hkC)]
                rw [elo] at LK
                rw [ero] at RM
                have LK1 := hide LK
                have RM1 := hide RM
                clear LK RM elo ero hv hnM hnC2
                generalize lenC s2 i = le at *
                obtain ⟨x0, x1, x2, x3, x4, x5⟩ := X2.out.all
                go_wp2_with fail
                go_quiet ((go_at_call 14; exact Calls.quiet_of_same ((IM.out _).mono fun _ _ h => ⟨h.1, h.2.symm⟩)))
                go_wp2_with fail
                generalize hwq : World.drewN w2 _ = wq
                have BQ := hide (show Below w2.heap.size w2 wq from hwq ▸ below_drewN (Below.refl _ _) _)
                clear hwq x0 x1 x2 x3 x4 x5
                obtain ⟨x0, x1, x2, x3, x4, x5⟩ := (X2.out.al BQ.out).all
                have cC3 := (BQ.out.cell (p := ⟨gm, 2, none⟩) hgm.out).trans cC2
                clear cL cC2
                go_quiet ((go_at_call 14; exact Calls.quiet_of_same ((IC.out _).mono fun _ _ h => ⟨h.1, h.2.symm⟩)))
                go_wp2_with fail
                refine wp_region_held_drew (S := fun w' => Bx w' b kd i on t mm z ∧ Below w2.heap.size w2 w') mixed ⟨X2.out.al (bel_drawn (below_drewN BQ.out _)), bel_drawn (below_drewN BQ.out _)⟩ (fun hH => ?_)
                clear x0 x1 x2 x3 x4 x5 cC3
                generalize World.drew _ = w3 at *
                refine wpAnyH_take (i := 0) (v := ?_) rfl (by kernel_rfl) (by kernel_rfl) (by kernel_rfl) (fun _ _ _ h => h) (Or.inl ⟨by rfl, ?_⟩) hH ?_
                rotate_left 1
                · (intro w hSw; skip; clear hSw; go_simp <;> with_reducible rfl)
                simp only [Act.put, List.getElem_toArray, List.getElem_cons_zero, List.setIfInBounds_toArray, List.set_cons_zero, List.set_cons_succ]
                refine wpAnyH_take (i := 1) (v := ?_) rfl (by kernel_rfl) (by kernel_rfl) (by kernel_rfl) (fun _ _ _ h => h) (Or.inl ⟨by rfl, ?_⟩) hH ?_
                rotate_left 1
                · (intro w hSw; skip; clear hSw; go_simp <;> with_reducible rfl)
                simp only [Act.put, List.getElem_toArray, List.getElem_cons_zero, List.getElem_cons_succ, List.setIfInBounds_toArray, List.set_cons_zero, List.set_cons_succ]
                refine wpAnyH_take (i := 2) (v := ?_) rfl (by kernel_rfl) (by kernel_rfl) (by kernel_rfl) (fun _ _ _ h => h) (Or.inl ⟨by rfl, ?_⟩) hH ?_
                rotate_left 1
                · (intro w hSw; have q := hSw.1.all; clear hSw; go_simp <;> with_reducible rfl)
                simp only [Act.put, List.getElem_toArray, List.getElem_cons_zero, List.getElem_cons_succ, List.setIfInBounds_toArray, List.set_cons_zero, List.set_cons_succ]
                refine wpAnyH_take (i := 4) (v := ?_) rfl (by kernel_rfl) (by kernel_rfl) (by kernel_rfl) (fun _ _ _ h => h) (Or.inl ⟨by rfl, ?_⟩) hH ?_
                rotate_left 1
                · (intro w hSw; skip; clear hSw; go_simp <;> with_reducible rfl)
                simp only [Act.put, List.getElem_toArray, List.getElem_cons_zero, List.getElem_cons_succ, List.setIfInBounds_toArray, List.set_cons_zero, List.set_cons_succ]
                refine wpAnyH_ready (rs := [3]) (by kernel_rfl) (by decide) ?_
                refine AllReadyH.cons rfl (fun K1 hK1 => ?_) AllReadyH.nil
                go_simp
                refine (LK1.out _ hH.2).mono ?_
                rintro e d4 ⟨rfl, hb⟩
                refine hK1.out _ _ ⟨hH.1.al hb, bel_trans hH.2 hb⟩ (fun hH => ?_)
                clear hK1 K1 hb
                refine wpAnyH_take (i := 5) (v := ?_) rfl (by kernel_rfl) (by kernel_rfl) (by kernel_rfl) (fun _ _ _ h => h) (Or.inl ⟨by rfl, ?_⟩) hH ?_
                rotate_left 1
                · (intro w hSw; skip; clear hSw; go_simp <;> with_reducible rfl)
                simp only [Act.put, List.getElem_toArray, List.getElem_cons_zero, List.getElem_cons_succ, List.setIfInBounds_toArray, List.set_cons_zero, List.set_cons_succ]
                refine wpAnyH_take (i := 6) (v := ?_) rfl (by kernel_rfl) (by kernel_rfl) (by kernel_rfl) (fun _ _ _ h => h) (Or.inl ⟨by rfl, ?_⟩) hH ?_
                rotate_left 1
                · (intro w hSw; skip; clear hSw; go_simp <;> with_reducible rfl)
                simp only [Act.put, List.getElem_toArray, List.getElem_cons_zero, List.getElem_cons_succ, List.setIfInBounds_toArray, List.set_cons_zero, List.set_cons_succ]
                refine wpAnyH_take (i := 7) (v := ?_) rfl (by kernel_rfl) (by kernel_rfl) (by kernel_rfl) (fun _ _ _ h => h) (Or.inl ⟨by rfl, ?_⟩) hH ?_
                rotate_left 1
                · (intro w hSw; skip; clear hSw; go_simp <;> with_reducible rfl)
                simp only [Act.put, List.getElem_toArray, List.getElem_cons_zero, List.getElem_cons_succ, List.setIfInBounds_toArray, List.set_cons_zero, List.set_cons_succ]
                refine wpAnyH_take (i := 8) (v := ?_) rfl (by kernel_rfl) (by kernel_rfl) (by kernel_rfl) (fun _ _ _ h => h) (Or.inl ⟨by rfl, ?_⟩) hH ?_
                rotate_left 1
                · (intro w hSw; skip; clear hSw; go_simp <;> with_reducible rfl)
                simp only [Act.put, List.getElem_toArray, List.getElem_cons_zero, List.getElem_cons_succ, List.setIfInBounds_toArray, List.set_cons_zero, List.set_cons_succ]
                refine wpAnyH_take (i := 9) (v := ?_) rfl (by kernel_rfl) (by kernel_rfl) (by kernel_rfl) (fun _ _ _ h => h) (Or.inl ⟨by rfl, ?_⟩) hH ?_
                rotate_left 1
                · (intro w hSw; have q := hSw.1.all; clear hSw; go_simp <;> with_reducible rfl)
                simp only [Act.put, List.getElem_toArray, List.getElem_cons_zero, List.getElem_cons_succ, List.setIfInBounds_toArray, List.set_cons_zero, List.set_cons_succ]
                refine wpAnyH_take (i := 11) (v := ?_) rfl (by kernel_rfl) (by kernel_rfl) (by kernel_rfl) (fun _ _ _ h => h) (Or.inl ⟨by rfl, ?_⟩) hH ?_
                rotate_left 1
                · (intro w hSw; skip; clear hSw; go_simp <;> with_reducible rfl)
                simp only [Act.put, List.getElem_toArray, List.getElem_cons_zero, List.getElem_cons_succ, List.setIfInBounds_toArray, List.set_cons_zero, List.set_cons_succ]
                refine wpAnyH_take (i := 12) (v := ?_) rfl (by kernel_rfl) (by kernel_rfl) (by kernel_rfl) (fun _ _ _ h => h) (Or.inl ⟨by rfl, ?_⟩) hH ?_
                rotate_left 1
                · (intro w hSw; skip; clear hSw; go_simp <;> with_reducible rfl)
                simp only [Act.put, List.getElem_toArray, List.getElem_cons_zero, List.getElem_cons_succ, List.setIfInBounds_toArray, List.set_cons_zero, List.set_cons_succ]
                refine wpAnyH_take (i := 13) (v := ?_) rfl (by kernel_rfl) (by kernel_rfl) (by kernel_rfl) (fun _ _ _ h => h) (Or.inl ⟨by rfl, ?_⟩) hH ?_
                rotate_left 1
                · (intro w hSw; have q := hSw.1.all; clear hSw; go_simp <;> with_reducible rfl)
                simp only [Act.put, List.getElem_toArray, List.getElem_cons_zero, List.getElem_cons_succ, List.setIfInBounds_toArray, List.set_cons_zero, List.set_cons_succ]
                refine wpAnyH_ready (rs := [10]) (by kernel_rfl) (by decide) ?_
                refine AllReadyH.cons rfl (fun K1 hK1 => ?_) AllReadyH.nil
                go_simp
                refine (LE.out _ hH.2).mono ?_
                rintro e d4 ⟨rfl, hb⟩
                refine hK1.out _ _ ⟨hH.1.al hb, bel_trans hH.2 hb⟩ (fun hH => ?_)
                clear hK1 K1 hb
                refine wpAnyH_ready (rs := [14]) (by kernel_rfl) (by decide) ?_
                refine AllReadyH.cons rfl (fun K1 hK1 => ?_) AllReadyH.nil
                go_simp
                refine (HD.out _ hH.2).mono ?_
                rintro e d4 ⟨rfl, kk, rfl⟩
                refine hK1.out _ _ ⟨hH.1.al (below_drewN (Below.refl _ _) kk), below_drewN hH.2 kk⟩ (fun hH => ?_)
                clear hK1 K1
                refine wpAnyH_take (i := 15) (v := ?_) rfl (by kernel_rfl) (by kernel_rfl) (by kernel_rfl) (fun _ _ _ h => h) (Or.inl ⟨by rfl, ?_⟩) hH ?_
                rotate_left 1
                · (intro w hSw; skip; clear hSw; go_simp <;> with_reducible rfl)
                simp only [Act.put, List.getElem_toArray, List.getElem_cons_zero, List.getElem_cons_succ, List.setIfInBounds_toArray, List.set_cons_zero, List.set_cons_succ]
                refine wpAnyH_take (i := 16) (v := ?_) rfl (by kernel_rfl) (by kernel_rfl) (by kernel_rfl) (fun _ _ _ h => h) (Or.inl ⟨by rfl, ?_⟩) hH ?_
                rotate_left 1
                · (intro w hSw; skip; clear hSw; go_simp <;> with_reducible rfl)
                simp only [Act.put, List.getElem_toArray, List.getElem_cons_zero, List.getElem_cons_succ, List.setIfInBounds_toArray, List.set_cons_zero, List.set_cons_succ]
                refine wpAnyH_take (i := 17) (v := ?_) rfl (by kernel_rfl) (by kernel_rfl) (by kernel_rfl) (fun _ _ _ h => h) (Or.inl ⟨by rfl, ?_⟩) hH ?_
                rotate_left 1
                · (intro w hSw; skip; clear hSw; go_simp <;> with_reducible rfl)
                simp only [Act.put, List.getElem_toArray, List.getElem_cons_zero, List.getElem_cons_succ, List.setIfInBounds_toArray, List.set_cons_zero, List.set_cons_succ]
                refine wpAnyH_take (i := 18) (v := ?_) rfl (by kernel_rfl) (by kernel_rfl) (by kernel_rfl) (fun _ _ _ h => h) (Or.inl ⟨by rfl, ?_⟩) hH ?_
                rotate_left 1
                · (intro w hSw; skip; clear hSw; go_simp <;> with_reducible rfl)
                simp only [Act.put, List.getElem_toArray, List.getElem_cons_zero, List.getElem_cons_succ, List.setIfInBounds_toArray, List.set_cons_zero, List.set_cons_succ]
                refine wpAnyH_take (i := 19) (v := ?_) rfl (by kernel_rfl) (by kernel_rfl) (by kernel_rfl) (fun _ _ _ h => h) (Or.inl ⟨by rfl, ?_⟩) hH ?_
                rotate_left 1
                · (intro w hSw; skip; clear hSw; go_simp <;> with_reducible rfl)
                simp only [Act.put, List.getElem_toArray, List.getElem_cons_zero, List.getElem_cons_succ, List.setIfInBounds_toArray, List.set_cons_zero, List.set_cons_succ]
                refine wpAnyH_take (i := 20) (v := ?_) rfl (by kernel_rfl) (by kernel_rfl) (by kernel_rfl) (fun _ _ _ h => h) (Or.inl ⟨by rfl, ?_⟩) hH ?_
                rotate_left 1
                · (intro w hSw; have q := hSw.1.all; clear hSw; go_simp <;> with_reducible rfl)
                simp only [Act.put, List.getElem_toArray, List.getElem_cons_zero, List.getElem_cons_succ, List.setIfInBounds_toArray, List.set_cons_zero, List.set_cons_succ]
                refine wpAnyH_take (i := 22) (v := ?_) rfl (by kernel_rfl) (by kernel_rfl) (by kernel_rfl) (fun _ _ _ h => h) (Or.inl ⟨by rfl, ?_⟩) hH ?_
                rotate_left 1
                · (intro w hSw; skip; clear hSw; go_simp <;> with_reducible rfl)
                simp only [Act.put, List.getElem_toArray, List.getElem_cons_zero, List.getElem_cons_succ, List.setIfInBounds_toArray, List.set_cons_zero, List.set_cons_succ]
                refine wpAnyH_ready (rs := [21]) (by kernel_rfl) (by decide) ?_
                refine AllReadyH.cons rfl (fun K1 hK1 => ?_) AllReadyH.nil
                go_simp
                refine (RM1.out _ hH.2).mono ?_
                rintro e d4 ⟨rfl, hb⟩
                refine hK1.out _ _ ⟨hH.1.al hb, bel_trans hH.2 hb⟩ (fun hH => ?_)
                clear hK1 K1 hb
                refine wpAnyH_take (i := 23) (v := ?_) rfl (by kernel_rfl) (by kernel_rfl) (by kernel_rfl) (fun _ _ _ h => h) (Or.inl ⟨by rfl, ?_⟩) hH ?_
                rotate_left 1
                · (intro w hSw; skip; clear hSw; go_simp <;> with_reducible rfl)
                simp only [Act.put, List.getElem_toArray, List.getElem_cons_zero, List.getElem_cons_succ, List.setIfInBounds_toArray, List.set_cons_zero, List.set_cons_succ]
                refine wpAnyH_take (i := 24) (v := ?_) rfl (by kernel_rfl) (by kernel_rfl) (by kernel_rfl) (fun _ _ _ h => h) (Or.inl ⟨by rfl, ?_⟩) hH ?_
                rotate_left 1
                · (intro w hSw; skip; clear hSw; go_simp <;> with_reducible rfl)
                simp only [Act.put, List.getElem_toArray, List.getElem_cons_zero, List.getElem_cons_succ, List.setIfInBounds_toArray, List.set_cons_zero, List.set_cons_succ]
                refine wpAnyH_done (by kernel_rfl) ?_ _
                have J3 := hide (J2.out.bel hH.2)
                clear hH J2
                go_wp2_with fail
                go_roundw
                case rel => exact ⟨kk0 + 1, by omega, by omega, gc, gd, by go_num, rfl, rfl, hide ⟨_, _, J3.out⟩⟩
                case measure => simp [intOf]; omega
              · obtain ⟨k, rfl⟩ := Int.eq_ofNat_of_zero_le (show 0 ≤ i by omega)
                clear LB hi0
                have DO := hide (do_any (p1.bel (bel_new wr (.cells #[.int .i64 kd, .int .i64 (k : Int), .int .i64 on, .int .i64 t, .int .i64 mm, .int .u64 z] 43))) H17.out (by omega) kd (k : Int) on t mm z)
                have X1 : Hid (Bx (wr.alloc (.cells #[.int .i64 kd, .int .i64 (k : Int), .int .i64 on, .int .i64 t, .int .i64 mm, .int .u64 z] 43)) wr.heap.size kd (k : Int) on t mm z) := hide (Go.Deep.blk_alloc_new wr (.cells #[.int .i64 kd, .int .i64 (k : Int), .int .i64 on, .int .i64 t, .int .i64 mm, .int .u64 z] 43))
                have NB : Hid (¬ G1 wr.heap.size) := hide (fun e => by have := p1.fb _ e; omega)
                have PP := hide (And.intro (p1.bel (bel_new wr (.cells #[.int .i64 kd, .int .i64 (k : Int), .int .i64 on, .int .i64 t, .int .i64 mm, .int .u64 z] 43))) (And.intro (p2.bel (bel_new wr (.cells #[.int .i64 kd, .int .i64 (k : Int), .int .i64 on, .int .i64 t, .int .i64 mm, .int .u64 z] 43))) (And.intro d1 (And.intro d2 d3))))
                clear p1 p2 d1 d2 d3
                go_wp2_with fail
                obtain ⟨b, hb⟩ : ∃ b, wr.heap.size = b := ⟨_, rfl⟩
                generalize wr.alloc (.cells #[.int .i64 kd, .int .i64 (k : Int), .int .i64 on, .int .i64 t, .int .i64 mm, .int .u64 z] 43) = w1 at *
                rw [hb] at X1 NB ⊢
                clear hb
                refine DO.out.mono ?_
                rintro e w2 ⟨rfl, dp⟩
                have J2 := hide (JJ.step PP.out.1 PP.out.2.1 PP.out.2.2.1 PP.out.2.2.2.1 PP.out.2.2.2.2 dp)
                obtain ⟨G3, R3, h3, c3, _⟩ := dp
                have X2 := hide (X1.out.ch c3 NB.out)
                obtain ⟨s2, hs2⟩ : ∃ x, doM s1 kd (k : Int) on (t, mm, z) = x := ⟨_, rfl⟩
                rw [hs2] at J2 h3
                clear hs2 c3 DO PP NB X1
                obtain ⟨F3, F4, K3⟩ := h3.kp
                have E3 := H17.out.below (Nat.le_refl _) K3.hbl
                have LK := fun (w3 : World) (hb : Below w2.heap.size w2 w3) => Locked_any (K3.hs.bel hb) (E3.e2.below (Nat.le_refl _) hb) (k : Int)
                have LE := hide (fun (w3 : World) (hb : Below w2.heap.size w2 w3) => Len_any (K3.hs.bel hb) (E3.e2.below (Nat.le_refl _) hb) (k : Int))
                have RM := fun (w3 : World) (hb : Below w2.heap.size w2 w3) => Room_any (K3.hs.bel hb) (E3.e2.below (Nat.le_refl _) hb) (k : Int)
                have HD := hide (fun (w3 : World) (hb : Below w2.heap.size w2 w3) => mHeld (K3.hm.bel hb) (by omega) (k : Int))
                obtain ⟨mP, mL, mC, mS, mT, mA, mss, mtk, hv⟩ := K3.hm
                obtain ⟨aL, cL0, eL, _⟩ := own_slice hv.lo
                obtain ⟨aC2, cC0, eC2, _⟩ := own_slice hv.ch
                obtain ⟨nM, hnM⟩ : ∃ n, n = s2.M.length := ⟨_, rfl⟩
                obtain ⟨nC2, hnC2⟩ : ∃ n, n = s2.C.length := ⟨_, rfl⟩
                rw [← hnM] at eL
                rw [← hnC2] at eC2
                subst eL eC2
                have cL := hv.cells.2.1
                have cC2 := hv.cells.2.2.1
                clear K3 h3 E3
                by_cases hkM : k < nM
                · by_cases hkC : k < nC2
                  · have hgm := hide (hv.fb gm hv.fg)
                    have IM := hide (fun w3 => in_yes k nM w3 hkM)
                    obtain ⟨bM, eM⟩ := own_addr hv.lo (by omega)
                    subst eM
                    obtain ⟨lo, hlo⟩ : ∃ x, s2.M[k]? = some x := ⟨_, List.getElem?_eq_getElem (by omega)⟩
                    have um := (own_cell hv.lo _ _ (bls_at hlo)).1
                    have elo : (lk s2.M (k : Int)).getD false = lo := by rw [lk_nat, hlo]; rfl
                    have IC := hide (fun w3 => in_yes k nC2 w3 hkC)
                    obtain ⟨bC, eC⟩ := own_addr hv.ch (by omega)
                    subst eC
                    obtain ⟨qq, hqq⟩ : ∃ x, s2.C[k]? = some x := ⟨_, List.getElem?_eq_getElem (by omega)⟩
                    have uc := (own_cell hv.ch _ _ (ccs_at _ _ _ hqq).2).1
                    rw [Nat.mul_comm 2 k] at uc
                    have hbC := hide (own_type hv.ch (k := bC) rfl).2.1
                    have ero : roomC s2 (k : Int) = qq.room := by unfold roomC; rw [lk_nat, hqq]
                    rw [elo] at LK
                    rw [ero] at RM
                    have LK1 := hide LK
                    have RM1 := hide RM
                    clear LK RM elo ero hlo hqq hv hnM hnC2
                    generalize lenC s2 (k : Int) = le at *
                    generalize qq.room = rq at *
                    obtain ⟨x0, x1, x2, x3, x4, x5⟩ := X2.out.all
                    go_wp2_with fail
                    go_quiet ((go_at_call 14; exact Calls.quiet_of_same ((IM.out _).mono fun _ _ h => ⟨h.1, h.2.symm⟩)))
                    go_wp2_with fail
                    generalize hwq : World.drewN w2 _ = wq
                    have BQ := hide (show Below w2.heap.size w2 wq from hwq ▸ below_drewN (Below.refl _ _) _)
                    clear hwq x0 x1 x2 x3 x4 x5
                    obtain ⟨x0, x1, x2, x3, x4, x5⟩ := (X2.out.al BQ.out).all
                    have cC3 := (BQ.out.cell (p := ⟨gm, 2, none⟩) hgm.out).trans cC2
                    have uc3 := (BQ.out.cell (p := ⟨bC, k * 2 + 1, none⟩) hbC.out).trans uc
                    clear cL cC2 um uc
                    go_quiet ((go_at_call 14; exact Calls.quiet_of_same ((IC.out _).mono fun _ _ h => ⟨h.1, h.2.symm⟩)))
                    go_wp2_with fail
                    go_quiet (fail)
                    go_wp2_with fail
                    refine wp_region_held_drew (S := fun w' => Bx w' b kd (k : Int) on t mm z ∧ Below w2.heap.size w2 w') mixed ⟨X2.out.al (bel_drawn (below_drewN (below_drewN BQ.out _) _)), bel_drawn (below_drewN (below_drewN BQ.out _) _)⟩ (fun hH => ?_)
                    clear x0 x1 x2 x3 x4 x5 cC3 uc3
                    generalize World.drew _ = w3 at *
                    refine wpAnyH_take (i := 0) (v := ?_) rfl (by kernel_rfl) (by kernel_rfl) (by kernel_rfl) (fun _ _ _ h => h) (Or.inl ⟨by rfl, ?_⟩) hH ?_
                    rotate_left 1
                    · (intro w hSw; skip; clear hSw; go_simp <;> with_reducible rfl)
                    simp only [Act.put, List.getElem_toArray, List.getElem_cons_zero, List.setIfInBounds_toArray, List.set_cons_zero, List.set_cons_succ]
                    refine wpAnyH_take (i := 1) (v := ?_) rfl (by kernel_rfl) (by kernel_rfl) (by kernel_rfl) (fun _ _ _ h => h) (Or.inl ⟨by rfl, ?_⟩) hH ?_
                    rotate_left 1
                    · (intro w hSw; skip; clear hSw; go_simp <;> with_reducible rfl)
                    simp only [Act.put, List.getElem_toArray, List.getElem_cons_zero, List.getElem_cons_succ, List.setIfInBounds_toArray, List.set_cons_zero, List.set_cons_succ]
                    refine wpAnyH_take (i := 2) (v := ?_) rfl (by kernel_rfl) (by kernel_rfl) (by kernel_rfl) (fun _ _ _ h => h) (Or.inl ⟨by rfl, ?_⟩) hH ?_
                    rotate_left 1
                    · (intro w hSw; have q := hSw.1.all; clear hSw; go_simp <;> with_reducible rfl)
                    simp only [Act.put, List.getElem_toArray, List.getElem_cons_zero, List.getElem_cons_succ, List.setIfInBounds_toArray, List.set_cons_zero, List.set_cons_succ]
                    refine wpAnyH_take (i := 4) (v := ?_) rfl (by kernel_rfl) (by kernel_rfl) (by kernel_rfl) (fun _ _ _ h => h) (Or.inl ⟨by rfl, ?_⟩) hH ?_
                    rotate_left 1
                    · (intro w hSw; skip; clear hSw; go_simp <;> with_reducible rfl)
                    simp only [Act.put, List.getElem_toArray, List.getElem_cons_zero, List.getElem_cons_succ, List.setIfInBounds_toArray, List.set_cons_zero, List.set_cons_succ]
                    refine wpAnyH_ready (rs := [3]) (by kernel_rfl) (by decide) ?_
                    refine AllReadyH.cons rfl (fun K1 hK1 => ?_) AllReadyH.nil
                    go_simp
                    refine (LK1.out _ hH.2).mono ?_
                    rintro e d4 ⟨rfl, hb⟩
                    refine hK1.out _ _ ⟨hH.1.al hb, bel_trans hH.2 hb⟩ (fun hH => ?_)
                    clear hK1 K1 hb
                    refine wpAnyH_take (i := 5) (v := ?_) rfl (by kernel_rfl) (by kernel_rfl) (by kernel_rfl) (fun _ _ _ h => h) (Or.inl ⟨by rfl, ?_⟩) hH ?_
                    rotate_left 1
                    · (intro w hSw; skip; clear hSw; go_simp <;> with_reducible rfl)
                    simp only [Act.put, List.getElem_toArray, List.getElem_cons_zero, List.getElem_cons_succ, List.setIfInBounds_toArray, List.set_cons_zero, List.set_cons_succ]
                    refine wpAnyH_take (i := 6) (v := ?_) rfl (by kernel_rfl) (by kernel_rfl) (by kernel_rfl) (fun _ _ _ h => h) (Or.inl ⟨by rfl, ?_⟩) hH ?_
                    rotate_left 1
                    · (intro w hSw; skip; clear hSw; go_simp <;> with_reducible rfl)
                    simp only [Act.put, List.getElem_toArray, List.getElem_cons_zero, List.getElem_cons_succ, List.setIfInBounds_toArray, List.set_cons_zero, List.set_cons_succ]
                    refine wpAnyH_take (i := 7) (v := ?_) rfl (by kernel_rfl) (by kernel_rfl) (by kernel_rfl) (fun _ _ _ h => h) (Or.inl ⟨by rfl, ?_⟩) hH ?_
                    rotate_left 1
                    · (intro w hSw; skip; clear hSw; go_simp <;> with_reducible rfl)
                    simp only [Act.put, List.getElem_toArray, List.getElem_cons_zero, List.getElem_cons_succ, List.setIfInBounds_toArray, List.set_cons_zero, List.set_cons_succ]
                    refine wpAnyH_take (i := 8) (v := ?_) rfl (by kernel_rfl) (by kernel_rfl) (by kernel_rfl) (fun _ _ _ h => h) (Or.inl ⟨by rfl, ?_⟩) hH ?_
                    rotate_left 1
                    · (intro w hSw; skip; clear hSw; go_simp <;> with_reducible rfl)
                    simp only [Act.put, List.getElem_toArray, List.getElem_cons_zero, List.getElem_cons_succ, List.setIfInBounds_toArray, List.set_cons_zero, List.set_cons_succ]
                    refine wpAnyH_take (i := 9) (v := ?_) rfl (by kernel_rfl) (by kernel_rfl) (by kernel_rfl) (fun _ _ _ h => h) (Or.inl ⟨by rfl, ?_⟩) hH ?_
                    rotate_left 1
                    · (intro w hSw; have q := hSw.1.all; clear hSw; go_simp <;> with_reducible rfl)
                    simp only [Act.put, List.getElem_toArray, List.getElem_cons_zero, List.getElem_cons_succ, List.setIfInBounds_toArray, List.set_cons_zero, List.set_cons_succ]
                    refine wpAnyH_take (i := 11) (v := ?_) rfl (by kernel_rfl) (by kernel_rfl) (by kernel_rfl) (fun _ _ _ h => h) (Or.inl ⟨by rfl, ?_⟩) hH ?_
                    rotate_left 1
                    · (intro w hSw; skip; clear hSw; go_simp <;> with_reducible rfl)
                    simp only [Act.put, List.getElem_toArray, List.getElem_cons_zero, List.getElem_cons_succ, List.setIfInBounds_toArray, List.set_cons_zero, List.set_cons_succ]
                    refine wpAnyH_take (i := 12) (v := ?_) rfl (by kernel_rfl) (by kernel_rfl) (by kernel_rfl) (fun _ _ _ h => h) (Or.inl ⟨by rfl, ?_⟩) hH ?_
                    rotate_left 1
                    · (intro w hSw; skip; clear hSw; go_simp <;> with_reducible rfl)
                    simp only [Act.put, List.getElem_toArray, List.getElem_cons_zero, List.getElem_cons_succ, List.setIfInBounds_toArray, List.set_cons_zero, List.set_cons_succ]
                    refine wpAnyH_take (i := 13) (v := ?_) rfl (by kernel_rfl) (by kernel_rfl) (by kernel_rfl) (fun _ _ _ h => h) (Or.inl ⟨by rfl, ?_⟩) hH ?_
                    rotate_left 1
                    · (intro w hSw; have q := hSw.1.all; clear hSw; go_simp <;> with_reducible rfl)
                    simp only [Act.put, List.getElem_toArray, List.getElem_cons_zero, List.getElem_cons_succ, List.setIfInBounds_toArray, List.set_cons_zero, List.set_cons_succ]
                    refine wpAnyH_ready (rs := [10]) (by kernel_rfl) (by decide) ?_
                    refine AllReadyH.cons rfl (fun K1 hK1 => ?_) AllReadyH.nil
                    go_simp
                    refine (LE.out _ hH.2).mono ?_
                    rintro e d4 ⟨rfl, hb⟩
                    refine hK1.out _ _ ⟨hH.1.al hb, bel_trans hH.2 hb⟩ (fun hH => ?_)
                    clear hK1 K1 hb
                    refine wpAnyH_ready (rs := [14]) (by kernel_rfl) (by decide) ?_
                    refine AllReadyH.cons rfl (fun K1 hK1 => ?_) AllReadyH.nil
                    go_simp
                    refine (HD.out _ hH.2).mono ?_
                    rintro e d4 ⟨rfl, kk, rfl⟩
                    refine hK1.out _ _ ⟨hH.1.al (below_drewN (Below.refl _ _) kk), below_drewN hH.2 kk⟩ (fun hH => ?_)
                    clear hK1 K1
                    refine wpAnyH_take (i := 15) (v := ?_) rfl (by kernel_rfl) (by kernel_rfl) (by kernel_rfl) (fun _ _ _ h => h) (Or.inl ⟨by rfl, ?_⟩) hH ?_
                    rotate_left 1
                    · (intro w hSw; skip; clear hSw; go_simp <;> with_reducible rfl)
                    simp only [Act.put, List.getElem_toArray, List.getElem_cons_zero, List.getElem_cons_succ, List.setIfInBounds_toArray, List.set_cons_zero, List.set_cons_succ]
                    refine wpAnyH_take (i := 16) (v := ?_) rfl (by kernel_rfl) (by kernel_rfl) (by kernel_rfl) (fun _ _ _ h => h) (Or.inl ⟨by rfl, ?_⟩) hH ?_
                    rotate_left 1
                    · (intro w hSw; skip; clear hSw; go_simp <;> with_reducible rfl)
                    simp only [Act.put, List.getElem_toArray, List.getElem_cons_zero, List.getElem_cons_succ, List.setIfInBounds_toArray, List.set_cons_zero, List.set_cons_succ]
                    refine wpAnyH_take (i := 17) (v := ?_) rfl (by kernel_rfl) (by kernel_rfl) (by kernel_rfl) (fun _ _ _ h => h) (Or.inl ⟨by rfl, ?_⟩) hH ?_
                    rotate_left 1
                    · (intro w hSw; skip; clear hSw; go_simp <;> with_reducible rfl)
                    simp only [Act.put, List.getElem_toArray, List.getElem_cons_zero, List.getElem_cons_succ, List.setIfInBounds_toArray, List.set_cons_zero, List.set_cons_succ]
                    refine wpAnyH_take (i := 18) (v := ?_) rfl (by kernel_rfl) (by kernel_rfl) (by kernel_rfl) (fun _ _ _ h => h) (Or.inl ⟨by rfl, ?_⟩) hH ?_
                    rotate_left 1
                    · (intro w hSw; skip; clear hSw; go_simp <;> with_reducible rfl)
                    simp only [Act.put, List.getElem_toArray, List.getElem_cons_zero, List.getElem_cons_succ, List.setIfInBounds_toArray, List.set_cons_zero, List.set_cons_succ]
                    refine wpAnyH_take (i := 19) (v := ?_) rfl (by kernel_rfl) (by kernel_rfl) (by kernel_rfl) (fun _ _ _ h => h) (Or.inl ⟨by rfl, ?_⟩) hH ?_
                    rotate_left 1
                    · (intro w hSw; skip; clear hSw; go_simp <;> with_reducible rfl)
                    simp only [Act.put, List.getElem_toArray, List.getElem_cons_zero, List.getElem_cons_succ, List.setIfInBounds_toArray, List.set_cons_zero, List.set_cons_succ]
                    refine wpAnyH_take (i := 20) (v := ?_) rfl (by kernel_rfl) (by kernel_rfl) (by kernel_rfl) (fun _ _ _ h => h) (Or.inl ⟨by rfl, ?_⟩) hH ?_
                    rotate_left 1
                    · (intro w hSw; have q := hSw.1.all; clear hSw; go_simp <;> with_reducible rfl)
                    simp only [Act.put, List.getElem_toArray, List.getElem_cons_zero, List.getElem_cons_succ, List.setIfInBounds_toArray, List.set_cons_zero, List.set_cons_succ]
                    refine wpAnyH_take (i := 22) (v := ?_) rfl (by kernel_rfl) (by kernel_rfl) (by kernel_rfl) (fun _ _ _ h => h) (Or.inl ⟨by rfl, ?_⟩) hH ?_
                    rotate_left 1
                    · (intro w hSw; skip; clear hSw; go_simp <;> with_reducible rfl)
                    simp only [Act.put, List.getElem_toArray, List.getElem_cons_zero, List.getElem_cons_succ, List.setIfInBounds_toArray, List.set_cons_zero, List.set_cons_succ]
                    refine wpAnyH_ready (rs := [21]) (by kernel_rfl) (by decide) ?_
                    refine AllReadyH.cons rfl (fun K1 hK1 => ?_) AllReadyH.nil
                    go_simp
                    refine (RM1.out _ hH.2).mono ?_
                    rintro e d4 ⟨rfl, hb⟩
                    refine hK1.out _ _ ⟨hH.1.al hb, bel_trans hH.2 hb⟩ (fun hH => ?_)
                    clear hK1 K1 hb
                    refine wpAnyH_take (i := 23) (v := ?_) rfl (by kernel_rfl) (by kernel_rfl) (by kernel_rfl) (fun _ _ _ h => h) (Or.inl ⟨by rfl, ?_⟩) hH ?_
                    rotate_left 1
                    · (intro w hSw; skip; clear hSw; go_simp <;> with_reducible rfl)
                    simp only [Act.put, List.getElem_toArray, List.getElem_cons_zero, List.getElem_cons_succ, List.setIfInBounds_toArray, List.set_cons_zero, List.set_cons_succ]
                    refine wpAnyH_take (i := 24) (v := ?_) rfl (by kernel_rfl) (by kernel_rfl) (by kernel_rfl) (fun _ _ _ h => h) (Or.inl ⟨by rfl, ?_⟩) hH ?_
                    rotate_left 1
                    · (intro w hSw; skip; clear hSw; go_simp <;> with_reducible rfl)
                    simp only [Act.put, List.getElem_toArray, List.getElem_cons_zero, List.getElem_cons_succ, List.setIfInBounds_toArray, List.set_cons_zero, List.set_cons_succ]
                    refine wpAnyH_done (by kernel_rfl) ?_ _
                    have J3 := hide (J2.out.bel hH.2)
                    clear hH J2
                    go_wp2_with fail
                    go_roundw
                    case rel => exact ⟨kk0 + 1, by omega, by omega, gc, gd, by go_num, rfl, rfl, hide ⟨_, _, J3.out⟩⟩
                    case measure => simp [intOf]; omega
                  · replace hkC : (k : Int) < 0 ∨ (nC2 : Int) ≤ (k : Int) := .inr (by omega)
                    have hgm := hide (hv.fb gm hv.fg)
                    have IM := hide (fun w3 => in_yes k nM w3 hkM)
                    obtain ⟨bM, eM⟩ := own_addr hv.lo (by omega)
                    subst eM
                    obtain ⟨lo, hlo⟩ : ∃ x, s2.M[k]? = some x := ⟨_, List.getElem?_eq_getElem (by omega)⟩
                    have um := (own_cell hv.lo _ _ (bls_at hlo)).1
                    have elo : (lk s2.M (k : Int)).getD false = lo := by rw [lk_nat, hlo]; rfl
                    have IC := hide (fun w3 => in_no (k : Int) nC2 w3 hkC)
                    have ero : roomC s2 (k : Int) = 0 := by unfold roomC; rw [lk_far (by rw [← hnC2]; exact hkC)]
                    rw [elo] at LK
                    rw [ero] at RM
                    have LK1 := hide LK
                    have RM1 := hide RM
                    clear LK RM elo ero hlo hv hnM hnC2
                    generalize lenC s2 (k : Int) = le at *
                    obtain ⟨x0, x1, x2, x3, x4, x5⟩ := X2.out.all
                    go_wp2_with fail
                    go_quiet ((go_at_call 14; exact Calls.quiet_of_same ((IM.out _).mono fun _ _ h => ⟨h.1, h.2.symm⟩)))
                    go_wp2_with fail
                    generalize hwq : World.drewN w2 _ = wq
                    have BQ := hide (show Below w2.heap.size w2 wq from hwq ▸ below_drewN (Below.refl _ _) _)
                    clear hwq x0 x1 x2 x3 x4 x5
                    obtain ⟨x0, x1, x2, x3, x4, x5⟩ := (X2.out.al BQ.out).all
                    have cC3 := (BQ.out.cell (p := ⟨gm, 2, none⟩) hgm.out).trans cC2
                    clear cL cC2 um
                    go_quiet ((go_at_call 14; exact Calls.quiet_of_same ((IC.out _).mono fun _ _ h => ⟨h.1, h.2.symm⟩)))
                    go_wp2_with fail
                    refine wp_region_held_drew (S := fun w' => Bx w' b kd (k : Int) on t mm z ∧ Below w2.heap.size w2 w') mixed ⟨X2.out.al (bel_drawn (below_drewN BQ.out _)), bel_drawn (below_drewN BQ.out _)⟩ (fun hH => ?_)
                    clear x0 x1 x2 x3 x4 x5 cC3
                    generalize World.drew _ = w3 at *
                    refine wpAnyH_take (i := 0) (v := ?_) rfl (by kernel_rfl) (by kernel_rfl) (by kernel_rfl) (fun _ _ _ h => h) (Or.inl ⟨by rfl, ?_⟩) hH ?_
                    rotate_left 1
                    · (intro w hSw; skip; clear hSw; go_simp <;> with_reducible rfl)
                    simp only [Act.put, List.getElem_toArray, List.getElem_cons_zero, List.setIfInBounds_toArray, List.set_cons_zero, List.set_cons_succ]
                    refine wpAnyH_take (i := 1) (v := ?_) rfl (by kernel_rfl) (by kernel_rfl) (by kernel_rfl) (fun _ _ _ h => h) (Or.inl ⟨by rfl, ?_⟩) hH ?_
                    rotate_left 1
                    · (intro w hSw; skip; clear hSw; go_simp <;> with_reducible rfl)
                    simp only [Act.put, List.getElem_toArray, List.getElem_cons_zero, List.getElem_cons_succ, List.setIfInBounds_toArray, List.set_cons_zero, List.set_cons_succ]
                    refine wpAnyH_take (i := 2) (v := ?_) rfl (by kernel_rfl) (by kernel_rfl) (by kernel_rfl) (fun _ _ _ h => h) (Or.inl ⟨by rfl, ?_⟩) hH ?_
                    rotate_left 1
                    · (intro w hSw; have q := hSw.1.all; clear hSw; go_simp <;> with_reducible rfl)
                    simp only [Act.put, List.getElem_toArray, List.getElem_cons_zero, List.getElem_cons_succ, List.setIfInBounds_toArray, List.set_cons_zero, List.set_cons_succ]
                    refine wpAnyH_take (i := 4) (v := ?_) rfl (by kernel_rfl) (by kernel_rfl) (by kernel_rfl) (fun _ _ _ h => h) (Or.inl ⟨by rfl, ?_⟩) hH ?_
                    rotate_left 1
                    · (intro w hSw; skip; clear hSw; go_simp <;> with_reducible rfl)
                    simp only [Act.put, List.getElem_toArray, List.getElem_cons_zero, List.getElem_cons_succ, List.setIfInBounds_toArray, List.set_cons_zero, List.set_cons_succ]
                    refine wpAnyH_ready (rs := [3]) (by kernel_rfl) (by decide) ?_
                    refine AllReadyH.cons rfl (fun K1 hK1 => ?_) AllReadyH.nil
                    go_simp
                    refine (LK1.out _ hH.2).mono ?_
                    rintro e d4 ⟨rfl, hb⟩
                    refine hK1.out _ _ ⟨hH.1.al hb, bel_trans hH.2 hb⟩ (fun hH => ?_)
                    clear hK1 K1 hb
                    refine wpAnyH_take (i := 5) (v := ?_) rfl (by kernel_rfl) (by kernel_rfl) (by kernel_rfl) (fun _ _ _ h => h) (Or.inl ⟨by rfl, ?_⟩) hH ?_
                    rotate_left 1
                    · (intro w hSw; skip; clear hSw; go_simp <;> with_reducible rfl)
                    simp only [Act.put, List.getElem_toArray, List.getElem_cons_zero, List.getElem_cons_succ, List.setIfInBounds_toArray, List.set_cons_zero, List.set_cons_succ]
                    refine wpAnyH_take (i := 6) (v := ?_) rfl (by kernel_rfl) (by kernel_rfl) (by kernel_rfl) (fun _ _ _ h => h) (Or.inl ⟨by rfl, ?_⟩) hH ?_
                    rotate_left 1
                    · (intro w hSw; skip; clear hSw; go_simp <;> with_reducible rfl)
                    simp only [Act.put, List.getElem_toArray, List.getElem_cons_zero, List.getElem_cons_succ, List.setIfInBounds_toArray, List.set_cons_zero, List.set_cons_succ]
                    refine wpAnyH_take (i := 7) (v := ?_) rfl (by kernel_rfl) (by kernel_rfl) (by kernel_rfl) (fun _ _ _ h => h) (Or.inl ⟨by rfl, ?_⟩) hH ?_
                    rotate_left 1
                    · (intro w hSw; skip; clear hSw; go_simp <;> with_reducible rfl)
                    simp only [Act.put, List.getElem_toArray, List.getElem_cons_zero, List.getElem_cons_succ, List.setIfInBounds_toArray, List.set_cons_zero, List.set_cons_succ]
                    refine wpAnyH_take (i := 8) (v := ?_) rfl (by kernel_rfl) (by kernel_rfl) (by kernel_rfl) (fun _ _ _ h => h) (Or.inl ⟨by rfl, ?_⟩) hH ?_
                    rotate_left 1
                    · (intro w hSw; skip; clear hSw; go_simp <;> with_reducible rfl)
                    simp only [Act.put, List.getElem_toArray, List.getElem_cons_zero, List.getElem_cons_succ, List.setIfInBounds_toArray, List.set_cons_zero, List.set_cons_succ]
                    refine wpAnyH_take (i := 9) (v := ?_) rfl (by kernel_rfl) (by kernel_rfl) (by kernel_rfl) (fun _ _ _ h => h) (Or.inl ⟨by rfl, ?_⟩) hH ?_
                    rotate_left 1
                    · (intro w hSw; have q := hSw.1.all; clear hSw; go_simp <;> with_reducible rfl)
                    simp only [Act.put, List.getElem_toArray, List.getElem_cons_zero, List.getElem_cons_succ, List.setIfInBounds_toArray, List.set_cons_zero, List.set_cons_succ]
                    refine wpAnyH_take (i := 11) (v := ?_) rfl (by kernel_rfl) (by kernel_rfl) (by kernel_rfl) (fun _ _ _ h => h) (Or.inl ⟨by rfl, ?_⟩) hH ?_
                    rotate_left 1
                    · (intro w hSw; skip; clear hSw; go_simp <;> with_reducible rfl)
                    simp only [Act.put, List.getElem_toArray, List.getElem_cons_zero, List.getElem_cons_succ, List.setIfInBounds_toArray, List.set_cons_zero, List.set_cons_succ]
                    refine wpAnyH_take (i := 12) (v := ?_) rfl (by kernel_rfl) (by kernel_rfl) (by kernel_rfl) (fun _ _ _ h => h) (Or.inl ⟨by rfl, ?_⟩) hH ?_
                    rotate_left 1
                    · (intro w hSw; skip; clear hSw; go_simp <;> with_reducible rfl)
                    simp only [Act.put, List.getElem_toArray, List.getElem_cons_zero, List.getElem_cons_succ, List.setIfInBounds_toArray, List.set_cons_zero, List.set_cons_succ]
                    refine wpAnyH_take (i := 13) (v := ?_) rfl (by kernel_rfl) (by kernel_rfl) (by kernel_rfl) (fun _ _ _ h => h) (Or.inl ⟨by rfl, ?_⟩) hH ?_
                    rotate_left 1
                    · (intro w hSw; have q := hSw.1.all; clear hSw; go_simp <;> with_reducible rfl)
                    simp only [Act.put, List.getElem_toArray, List.getElem_cons_zero, List.getElem_cons_succ, List.setIfInBounds_toArray, List.set_cons_zero, List.set_cons_succ]
                    refine wpAnyH_ready (rs := [10]) (by kernel_rfl) (by decide) ?_
                    refine AllReadyH.cons rfl (fun K1 hK1 => ?_) AllReadyH.nil
                    go_simp
                    refine (LE.out _ hH.2).mono ?_
                    rintro e d4 ⟨rfl, hb⟩
                    refine hK1.out _ _ ⟨hH.1.al hb, bel_trans hH.2 hb⟩ (fun hH => ?_)
                    clear hK1 K1 hb
                    refine wpAnyH_ready (rs := [14]) (by kernel_rfl) (by decide) ?_
                    refine AllReadyH.cons rfl (fun K1 hK1 => ?_) AllReadyH.nil
                    go_simp
                    refine (HD.out _ hH.2).mono ?_
                    rintro e d4 ⟨rfl, kk, rfl⟩
                    refine hK1.out _ _ ⟨hH.1.al (below_drewN (Below.refl _ _) kk), below_drewN hH.2 kk⟩ (fun hH => ?_)
                    clear hK1 K1
                    refine wpAnyH_take (i := 15) (v := ?_) rfl (by kernel_rfl) (by kernel_rfl) (by kernel_rfl) (fun _ _ _ h => h) (Or.inl ⟨by rfl, ?_⟩) hH ?_
                    rotate_left 1
                    · (intro w hSw; skip; clear hSw; go_simp <;> with_reducible rfl)
                    simp only [Act.put, List.getElem_toArray, List.getElem_cons_zero, List.getElem_cons_succ, List.setIfInBounds_toArray, List.set_cons_zero, List.set_cons_succ]
                    refine wpAnyH_take (i := 16) (v := ?_) rfl (by kernel_rfl) (by kernel_rfl) (by kernel_rfl) (fun _ _ _ h => h) (Or.inl ⟨by rfl, ?_⟩) hH ?_
                    rotate_left 1
                    · (intro w hSw; skip; clear hSw; go_simp <;> with_reducible rfl)
                    simp only [Act.put, List.getElem_toArray, List.getElem_cons_zero, List.getElem_cons_succ, List.setIfInBounds_toArray, List.set_cons_zero, List.set_cons_succ]
                    refine wpAnyH_take (i := 17) (v := ?_) rfl (by kernel_rfl) (by kernel_rfl) (by kernel_rfl) (fun _ _ _ h => h) (Or.inl ⟨by rfl, ?_⟩) hH ?_
                    rotate_left 1
                    · (intro w hSw; skip; clear hSw; go_simp <;> with_reducible rfl)
                    simp only [Act.put, List.getElem_toArray, List.getElem_cons_zero, List.getElem_cons_succ, List.setIfInBounds_toArray, List.set_cons_zero, List.set_cons_succ]
                    refine wpAnyH_take (i := 18) (v := ?_) rfl (by kernel_rfl) (by kernel_rfl) (by kernel_rfl) (fun _ _ _ h => h) (Or.inl ⟨by rfl, ?_⟩) hH ?_
                    rotate_left 1
                    · (intro w hSw; skip; clear hSw; go_simp <;> with_reducible rfl)
                    simp only [Act.put, List.getElem_toArray, List.getElem_cons_zero, List.getElem_cons_succ, List.setIfInBounds_toArray, List.set_cons_zero, List.set_cons_succ]
                    refine wpAnyH_take (i := 19) (v := ?_) rfl (by kernel_rfl) (by kernel_rfl) (by kernel_rfl) (fun _ _ _ h => h) (Or.inl ⟨by rfl, ?_⟩) hH ?_
                    rotate_left 1
                    · (intro w hSw; skip; clear hSw; go_simp <;> with_reducible rfl)
                    simp only [Act.put, List.getElem_toArray, List.getElem_cons_zero, List.getElem_cons_succ, List.setIfInBounds_toArray, List.set_cons_zero, List.set_cons_succ]
                    refine wpAnyH_take (i := 20) (v := ?_) rfl (by kernel_rfl) (by kernel_rfl) (by kernel_rfl) (fun _ _ _ h => h) (Or.inl ⟨by rfl, ?_⟩) hH ?_
                    rotate_left 1
                    · (intro w hSw; have q := hSw.1.all; clear hSw; go_simp <;> with_reducible rfl)
                    simp only [Act.put, List.getElem_toArray, List.getElem_cons_zero, List.getElem_cons_succ, List.setIfInBounds_toArray, List.set_cons_zero, List.set_cons_succ]
                    refine wpAnyH_take (i := 22) (v := ?_) rfl (by kernel_rfl) (by kernel_rfl) (by kernel_rfl) (fun _ _ _ h => h) (Or.inl ⟨by rfl, ?_⟩) hH ?_
                    rotate_left 1
                    · (intro w hSw; skip; clear hSw; go_simp <;> with_reducible rfl)
                    simp only [Act.put, List.getElem_toArray, List.getElem_cons_zero, List.getElem_cons_succ, List.setIfInBounds_toArray, List.set_cons_zero, List.set_cons_succ]
                    refine wpAnyH_ready (rs := [21]) (by kernel_rfl) (by decide) ?_
                    refine AllReadyH.cons rfl (fun K1 hK1 => ?_) AllReadyH.nil
                    go_simp
                    refine (RM1.out _ hH.2).mono ?_
                    rintro e d4 ⟨rfl, hb⟩
                    refine hK1.out _ _ ⟨hH.1.al hb, bel_trans hH.2 hb⟩ (fun hH => ?_)
                    clear hK1 K1 hb
                    refine wpAnyH_take (i := 23) (v := ?_) rfl (by kernel_rfl) (by kernel_rfl) (by kernel_rfl) (fun _ _ _ h => h) (Or.inl ⟨by rfl, ?_⟩) hH ?_
                    rotate_left 1
                    · (intro w hSw; skip; clear hSw; go_simp <;> with_reducible rfl)
                    simp only [Act.put, List.getElem_toArray, List.getElem_cons_zero, List.getElem_cons_succ, List.setIfInBounds_toArray, List.set_cons_zero, List.set_cons_succ]
                    refine wpAnyH_take (i := 24) (v := ?_) rfl (by kernel_rfl) (by kernel_rfl) (by kernel_rfl) (fun _ _ _ h => h) (Or.inl ⟨by rfl, ?_⟩) hH ?_
                    rotate_left 1
                    · (intro w hSw; skip; clear hSw; go_simp <;> with_reducible rfl)
                    simp only [Act.put, List.getElem_toArray, List.getElem_cons_zero, List.getElem_cons_succ, List.setIfInBounds_toArray, List.set_cons_zero, List.set_cons_succ]
                    refine wpAnyH_done (by kernel_rfl) ?_ _
                    have J3 := hide (J2.out.bel hH.2)
                    clear hH J2
                    go_wp2_with fail
                    go_roundw
                    case rel => exact ⟨kk0 + 1, by omega, by omega, gc, gd, by go_num, rfl, rfl, hide ⟨_, _, J3.out⟩⟩
                    case measure => simp [intOf]; omega
                · replace hkM : (k : Int) < 0 ∨ (nM : Int) ≤ (k : Int) := .inr (by omega)
                  by_cases hkC : k < nC2
                  · have hgm := hide (hv.fb gm hv.fg)
                    have IM := hide (fun w3 => in_no (k : Int) nM w3 hkM)
                    have elo : (lk s2.M (k : Int)).getD false = false := by rw [lk_far (by rw [← hnM]; exact hkM)]; rfl
                    have IC := hide (fun w3 => in_yes k nC2 w3 hkC)
                    obtain ⟨bC, eC⟩ := own_addr hv.ch (by omega)
                    subst eC
                    obtain ⟨qq, hqq⟩ : ∃ x, s2.C[k]? = some x := ⟨_, List.getElem?_eq_getElem (by omega)⟩
                    have uc := (own_cell hv.ch _ _ (ccs_at _ _ _ hqq).2).1
                    rw [Nat.mul_comm 2 k] at uc
                    have hbC := hide (own_type hv.ch (k := bC) rfl).2.1
                    have ero : roomC s2 (k : Int) = qq.room := by unfold roomC; rw [lk_nat, hqq]
                    rw [elo] at LK
                    rw [ero] at RM
                    have LK1 := hide LK
                    have RM1 := hide RM
                    clear LK RM elo ero hqq hv hnM hnC2
                    generalize lenC s2 (k : Int) = le at *
                    generalize qq.room = rq at *
                    obtain ⟨x0, x1, x2, x3, x4, x5⟩ := X2.out.all
                    go_wp2_with fail
                    go_quiet ((go_at_call 14; exact Calls.quiet_of_same ((IM.out _).mono fun _ _ h => ⟨h.1, h.2.symm⟩)))
                    go_wp2_with fail
                    generalize hwq : World.drewN w2 _ = wq
                    have BQ := hide (show Below w2.heap.size w2 wq from hwq ▸ below_drewN (Below.refl _ _) _)
                    clear hwq x0 x1 x2 x3 x4 x5
                    obtain ⟨x0, x1, x2, x3, x4, x5⟩ := (X2.out.al BQ.out).all
                    have cC3 := (BQ.out.cell (p := ⟨gm, 2, none⟩) hgm.out).trans cC2
                    have uc3 := (BQ.out.cell (p := ⟨bC, k * 2 + 1, none⟩) hbC.out).trans uc
                    clear cL cC2 uc
                    go_quiet ((go_at_call 14; exact Calls.quiet_of_same ((IC.out _).mono fun _ _ h => ⟨h.1, h.2.symm⟩)))
                    go_wp2_with fail
                    go_quiet (fail)
                    go_wp2_with fail
                    refine wp_region_held_drew (S := fun w' => Bx w' b kd (k : Int) on t mm z ∧ Below w2.heap.size w2 w') mixed ⟨X2.out.al (bel_drawn (below_drewN (below_drewN BQ.out _) _)), bel_drawn (below_drewN (below_drewN BQ.out _) _)⟩ (fun hH => ?_)
                    clear x0 x1 x2 x3 x4 x5 cC3 uc3
                    generalize World.drew _ = w3 at *
                    refine wpAnyH_take (i := 0) (v := ?_) rfl (by kernel_rfl) (by kernel_rfl) (by kernel_rfl) (fun _ _ _ h => h) (Or.inl ⟨by rfl, ?_⟩) hH ?_
                    rotate_left 1
                    · (intro w hSw; skip; clear hSw; go_simp <;> with_reducible rfl)
                    simp only [Act.put, List.getElem_toArray, List.getElem_cons_zero, List.setIfInBounds_toArray, List.set_cons_zero, List.set_cons_succ]
                    refine wpAnyH_take (i := 1) (v := ?_) rfl (by kernel_rfl) (by kernel_rfl) (by kernel_rfl) (fun _ _ _ h => h) (Or.inl ⟨by rfl, ?_⟩) hH ?_
                    rotate_left 1
                    · (intro w hSw; skip; clear hSw; go_simp <;> with_reducible rfl)
                    simp only [Act.put, List.getElem_toArray, List.getElem_cons_zero, List.getElem_cons_succ, List.setIfInBounds_toArray, List.set_cons_zero, List.set_cons_succ]
                    refine wpAnyH_take (i := 2) (v := ?_) rfl (by kernel_rfl) (by kernel_rfl) (by kernel_rfl) (fun _ _ _ h => h) (Or.inl ⟨by rfl, ?_⟩) hH ?_
                    rotate_left 1
                    · (intro w hSw; have q := hSw.1.all; clear hSw; go_simp <;> with_reducible rfl)
                    simp only [Act.put, List.getElem_toArray, List.getElem_cons_zero, List.getElem_cons_succ, List.setIfInBounds_toArray, List.set_cons_zero, List.set_cons_succ]
                    refine wpAnyH_take (i := 4) (v := ?_) rfl (by kernel_rfl) (by kernel_rfl) (by kernel_rfl) (fun _ _ _ h => h) (Or.inl ⟨by rfl, ?_⟩) hH ?_
                    rotate_left 1
                    · (intro w hSw; skip; clear hSw; go_simp <;> with_reducible rfl)
                    simp only [Act.put, List.getElem_toArray, List.getElem_cons_zero, List.getElem_cons_succ, List.setIfInBounds_toArray, List.set_cons_zero, List.set_cons_succ]
                    refine wpAnyH_ready (rs := [3]) (by kernel_rfl) (by decide) ?_
                    refine AllReadyH.cons rfl (fun K1 hK1 => ?_) AllReadyH.nil
                    go_simp
                    refine (LK1.out _ hH.2).mono ?_
                    rintro e d4 ⟨rfl, hb⟩
                    refine hK1.out _ _ ⟨hH.1.al hb, bel_trans hH.2 hb⟩ (fun hH => ?_)
                    clear hK1 K1 hb
                    refine wpAnyH_take (i := 5) (v := ?_) rfl (by kernel_rfl) (by kernel_rfl) (by kernel_rfl) (fun _ _ _ h => h) (Or.inl ⟨by rfl, ?_⟩) hH ?_
                    rotate_left 1
                    · (intro w hSw; skip; clear hSw; go_simp <;> with_reducible rfl)
                    simp only [Act.put, List.getElem_toArray, List.getElem_cons_zero, List.getElem_cons_succ, List.setIfInBounds_toArray, List.set_cons_zero, List.set_cons_succ]
                    refine wpAnyH_take (i := 6) (v := ?_) rfl (by kernel_rfl) (by kernel_rfl) (by kernel_rfl) (fun _ _ _ h => h) (Or.inl ⟨by rfl, ?_⟩) hH ?_
                    rotate_left 1
                    · (intro w hSw; skip; clear hSw; go_simp <;> with_reducible rfl)
                    simp only [Act.put, List.getElem_toArray, List.getElem_cons_zero, List.getElem_cons_succ, List.setIfInBounds_toArray, List.set_cons_zero, List.set_cons_succ]
                    refine wpAnyH_take (i := 7) (v := ?_) rfl (by kernel_rfl) (by kernel_rfl) (by kernel_rfl) (fun _ _ _ h => h) (Or.inl ⟨by rfl, ?_⟩) hH ?_
                    rotate_left 1
                    · (intro w hSw; skip; clear hSw; go_simp <;> with_reducible rfl)
                    simp only [Act.put, List.getElem_toArray, List.getElem_cons_zero, List.getElem_cons_succ, List.setIfInBounds_toArray, List.set_cons_zero, List.set_cons_succ]
                    refine wpAnyH_take (i := 8) (v := ?_) rfl (by kernel_rfl) (by kernel_rfl) (by kernel_rfl) (fun _ _ _ h => h) (Or.inl ⟨by rfl, ?_⟩) hH ?_
                    rotate_left 1
                    · (intro w hSw; skip; clear hSw; go_simp <;> with_reducible rfl)
                    simp only [Act.put, List.getElem_toArray, List.getElem_cons_zero, List.getElem_cons_succ, List.setIfInBounds_toArray, List.set_cons_zero, List.set_cons_succ]
                    refine wpAnyH_take (i := 9) (v := ?_) rfl (by kernel_rfl) (by kernel_rfl) (by kernel_rfl) (fun _ _ _ h => h) (Or.inl ⟨by rfl, ?_⟩) hH ?_
                    rotate_left 1
                    · (intro w hSw; have q := hSw.1.all; clear hSw; go_simp <;> with_reducible rfl)
                    simp only [Act.put, List.getElem_toArray, List.getElem_cons_zero, List.getElem_cons_succ, List.setIfInBounds_toArray, List.set_cons_zero, List.set_cons_succ]
                    refine wpAnyH_take (i := 11) (v := ?_) rfl (by kernel_rfl) (by kernel_rfl) (by kernel_rfl) (fun _ _ _ h => h) (Or.inl ⟨by rfl, ?_⟩) hH ?_
                    rotate_left 1
                    · (intro w hSw; skip; clear hSw; go_simp <;> with_reducible rfl)
                    simp only [Act.put, List.getElem_toArray, List.getElem_cons_zero, List.getElem_cons_succ, List.setIfInBounds_toArray, List.set_cons_zero, List.set_cons_succ]
                    refine wpAnyH_take (i := 12) (v := ?_) rfl (by kernel_rfl) (by kernel_rfl) (by kernel_rfl) (fun _ _ _ h => h) (Or.inl ⟨by rfl, ?_⟩) hH ?_
                    rotate_left 1
                    · (intro w hSw; skip; clear hSw; go_simp <;> with_reducible rfl)
                    simp only [Act.put, List.getElem_toArray, List.getElem_cons_zero, List.getElem_cons_succ, List.setIfInBounds_toArray, List.set_cons_zero, List.set_cons_succ]
                    refine wpAnyH_take (i := 13) (v := ?_) rfl (by kernel_rfl) (by kernel_rfl) (by kernel_rfl) (fun _ _ _ h => h) (Or.inl ⟨by rfl, ?_⟩) hH ?_
                    rotate_left 1
                    · (intro w hSw; have q := hSw.1.all; clear hSw; go_simp <;> with_reducible rfl)
                    simp only [Act.put, List.getElem_toArray, List.getElem_cons_zero, List.getElem_cons_succ, List.setIfInBounds_toArray, List.set_cons_zero, List.set_cons_succ]
                    refine wpAnyH_ready (rs := [10]) (by kernel_rfl) (by decide) ?_
                    refine AllReadyH.cons rfl (fun K1 hK1 => ?_) AllReadyH.nil
                    go_simp
                    refine (LE.out _ hH.2).mono ?_
                    rintro e d4 ⟨rfl, hb⟩
                    refine hK1.out _ _ ⟨hH.1.al hb, bel_trans hH.2 hb⟩ (fun hH => ?_)
                    clear hK1 K1 hb
                    refine wpAnyH_ready (rs := [14]) (by kernel_rfl) (by decide) ?_
                    refine AllReadyH.cons rfl (fun K1 hK1 => ?_) AllReadyH.nil
                    go_simp
                    refine (HD.out _ hH.2).mono ?_
                    rintro e d4 ⟨rfl, kk, rfl⟩
                    refine hK1.out _ _ ⟨hH.1.al (below_drewN (Below.refl _ _) kk), below_drewN hH.2 kk⟩ (fun hH => ?_)
                    clear hK1 K1
                    refine wpAnyH_take (i := 15) (v := ?_) rfl (by kernel_rfl) (by kernel_rfl) (by kernel_rfl) (fun _ _ _ h => h) (Or.inl ⟨by rfl, ?_⟩) hH ?_
                    rotate_left 1
                    · (intro w hSw; skip; clear hSw; go_simp <;> with_reducible rfl)
                    simp only [Act.put, List.getElem_toArray, List.getElem_cons_zero, List.getElem_cons_succ, List.setIfInBounds_toArray, List.set_cons_zero, List.set_cons_succ]
                    refine wpAnyH_take (i := 16) (v := ?_) rfl (by kernel_rfl) (by kernel_rfl) (by kernel_rfl) (fun _ _ _ h => h) (Or.inl ⟨by rfl, ?_⟩) hH ?_
                    rotate_left 1
                    · (intro w hSw; skip; clear hSw; go_simp <;> with_reducible rfl)
                    simp only [Act.put, List.getElem_toArray, List.getElem_cons_zero, List.getElem_cons_succ, List.setIfInBounds_toArray, List.set_cons_zero, List.set_cons_succ]
                    refine wpAnyH_take (i := 17) (v := ?_) rfl (by kernel_rfl) (by kernel_rfl) (by kernel_rfl) (fun _ _ _ h => h) (Or.inl ⟨by rfl, ?_⟩) hH ?_
                    rotate_left 1
                    · (intro w hSw; skip; clear hSw; go_simp <;> with_reducible rfl)
                    simp only [Act.put, List.getElem_toArray, List.getElem_cons_zero, List.getElem_cons_succ, List.setIfInBounds_toArray, List.set_cons_zero, List.set_cons_succ]
                    refine wpAnyH_take (i := 18) (v := ?_) rfl (by kernel_rfl) (by kernel_rfl) (by kernel_rfl) (fun _ _ _ h => h) (Or.inl ⟨by rfl, ?_⟩) hH ?_
                    rotate_left 1
                    · (intro w hSw; skip; clear hSw; go_simp <;> with_reducible rfl)
                    simp only [Act.put, List.getElem_toArray, List.getElem_cons_zero, List.getElem_cons_succ, List.setIfInBounds_toArray, List.set_cons_zero, List.set_cons_succ]
                    refine wpAnyH_take (i := 19) (v := ?_) rfl (by kernel_rfl) (by kernel_rfl) (by kernel_rfl) (fun _ _ _ h => h) (Or.inl ⟨by rfl, ?_⟩) hH ?_
                    rotate_left 1
                    · (intro w hSw; skip; clear hSw; go_simp <;> with_reducible rfl)
                    simp only [Act.put, List.getElem_toArray, List.getElem_cons_zero, List.getElem_cons_succ, List.setIfInBounds_toArray, List.set_cons_zero, List.set_cons_succ]
                    refine wpAnyH_take (i := 20) (v := ?_) rfl (by kernel_rfl) (by kernel_rfl) (by kernel_rfl) (fun _ _ _ h => h) (Or.inl ⟨by rfl, ?_⟩) hH ?_
                    rotate_left 1
                    · (intro w hSw; have q := hSw.1.all; clear hSw; go_simp <;> with_reducible rfl)
                    simp only [Act.put, List.getElem_toArray, List.getElem_cons_zero, List.getElem_cons_succ, List.setIfInBounds_toArray, List.set_cons_zero, List.set_cons_succ]
                    refine wpAnyH_take (i := 22) (v := ?_) rfl (by kernel_rfl) (by kernel_rfl) (by kernel_rfl) (fun _ _ _ h => h) (Or.inl ⟨by rfl, ?_⟩) hH ?_
                    rotate_left 1
                    · (intro w hSw; skip; clear hSw; go_simp <;> with_reducible rfl)
                    simp only [Act.put, List.getElem_toArray, List.getElem_cons_zero, List.getElem_cons_succ, List.setIfInBounds_toArray, List.set_cons_zero, List.set_cons_succ]
                    refine wpAnyH_ready (rs := [21]) (by kernel_rfl) (by decide) ?_
                    refine AllReadyH.cons rfl (fun K1 hK1 => ?_) AllReadyH.nil
                    go_simp
                    refine (RM1.out _ hH.2).mono ?_
                    rintro e d4 ⟨rfl, hb⟩
                    refine hK1.out _ _ ⟨hH.1.al hb, bel_trans hH.2 hb⟩ (fun hH => ?_)
                    clear hK1 K1 hb
                    refine wpAnyH_take (i := 23) (v := ?_) rfl (by kernel_rfl) (by kernel_rfl) (by kernel_rfl) (fun _ _ _ h => h) (Or.inl ⟨by rfl, ?_⟩) hH ?_
                    rotate_left 1
                    · (intro w hSw; skip; clear hSw; go_simp <;> with_reducible rfl)
                    simp only [Act.put, List.getElem_toArray, List.getElem_cons_zero, List.getElem_cons_succ, List.setIfInBounds_toArray, List.set_cons_zero, List.set_cons_succ]
                    refine wpAnyH_take (i := 24) (v := ?_) rfl (by kernel_rfl) (by kernel_rfl) (by kernel_rfl) (fun _ _ _ h => h) (Or.inl ⟨by rfl, ?_⟩) hH ?_
                    rotate_left 1
                    · (intro w hSw; skip; clear hSw; go_simp <;> with_reducible rfl)
                    simp only [Act.put, List.getElem_toArray, List.getElem_cons_zero, List.getElem_cons_succ, List.setIfInBounds_toArray, List.set_cons_zero, List.set_cons_succ]
                    refine wpAnyH_done (by kernel_rfl) ?_ _
                    have J3 := hide (J2.out.bel hH.2)
                    clear hH J2
                    go_wp2_with fail
                    go_roundw
                    case rel => exact ⟨kk0 + 1, by omega, by omega, gc, gd, by go_num, rfl, rfl, hide ⟨_, _, J3.out⟩⟩
                    case measure => simp [intOf]; omega
                  · replace hkC : (k : Int) < 0 ∨ (nC2 : Int) ≤ (k : Int) := .inr (by omega)
                    have hgm := hide (hv.fb gm hv.fg)
                    have IM := hide (fun w3 => in_no (k : Int) nM w3 hkM)
                    have elo : (lk s2.M (k : Int)).getD false = false := by rw [lk_far (by rw [← hnM]; exact hkM)]; rfl
                    have IC := hide (fun w3 => in_no (k : Int) nC2 w3 hkC)
                    have ero : roomC s2 (k : Int) = 0 := by unfold roomC; rw [lk_far (by rw [← hnC2]; exact hkC)]
                    rw [elo] at LK
                    rw [ero] at RM
                    have LK1 := hide LK
                    have RM1 := hide RM
                    clear LK RM elo ero hv hnM hnC2
                    generalize lenC s2 (k : Int) = le at *
                    obtain ⟨x0, x1, x2, x3, x4, x5⟩ := X2.out.all
                    go_wp2_with fail
                    go_quiet ((go_at_call 14; exact Calls.quiet_of_same ((IM.out _).mono fun _ _ h => ⟨h.1, h.2.symm⟩)))
                    go_wp2_with fail
                    generalize hwq : World.drewN w2 _ = wq
                    have BQ := hide (show Below w2.heap.size w2 wq from hwq ▸ below_drewN (Below.refl _ _) _)
                    clear hwq x0 x1 x2 x3 x4 x5
                    obtain ⟨x0, x1, x2, x3, x4, x5⟩ := (X2.out.al BQ.out).all
                    have cC3 := (BQ.out.cell (p := ⟨gm, 2, none⟩) hgm.out).trans cC2
                    clear cL cC2
                    go_quiet ((go_at_call 14; exact Calls.quiet_of_same ((IC.out _).mono fun _ _ h => ⟨h.1, h.2.symm⟩)))
                    go_wp2_with fail
                    refine wp_region_held_drew (S := fun w' => Bx w' b kd (k : Int) on t mm z ∧ Below w2.heap.size w2 w') mixed ⟨X2.out.al (bel_drawn (below_drewN BQ.out _)), bel_drawn (below_drewN BQ.out _)⟩ (fun hH => ?_)
                    clear x0 x1 x2 x3 x4 x5 cC3
                    generalize World.drew _ = w3 at *
                    refine wpAnyH_take (i := 0) (v := ?_) rfl (by kernel_rfl) (by kernel_rfl) (by kernel_rfl) (fun _ _ _ h => h) (Or.inl ⟨by rfl, ?_⟩) hH ?_
                    rotate_left 1
                    · (intro w hSw; skip; clear hSw; go_simp <;> with_reducible rfl)
                    simp only [Act.put, List.getElem_toArray, List.getElem_cons_zero, List.setIfInBounds_toArray, List.set_cons_zero, List.set_cons_succ]
                    refine wpAnyH_take (i := 1) (v := ?_) rfl (by kernel_rfl) (by kernel_rfl) (by kernel_rfl) (fun _ _ _ h => h) (Or.inl ⟨by rfl, ?_⟩) hH ?_
                    rotate_left 1
                    · (intro w hSw; skip; clear hSw; go_simp <;> with_reducible rfl)
                    simp only [Act.put, List.getElem_toArray, List.getElem_cons_zero, List.getElem_cons_succ, List.setIfInBounds_toArray, List.set_cons_zero, List.set_cons_succ]
                    refine wpAnyH_take (i := 2) (v := ?_) rfl (by kernel_rfl) (by kernel_rfl) (by kernel_rfl) (fun _ _ _ h => h) (Or.inl ⟨by rfl, ?_⟩) hH ?_
                    rotate_left 1
                    · (intro w hSw; have q := hSw.1.all; clear hSw; go_simp <;> with_reducible rfl)
                    simp only [Act.put, List.getElem_toArray, List.getElem_cons_zero, List.getElem_cons_succ, List.setIfInBounds_toArray, List.set_cons_zero, List.set_cons_succ]
                    refine wpAnyH_take (i := 4) (v := ?_) rfl (by kernel_rfl) (by kernel_rfl) (by kernel_rfl) (fun _ _ _ h => h) (Or.inl ⟨by rfl, ?_⟩) hH ?_
                    rotate_left 1
                    · (intro w hSw; skip; clear hSw; go_simp <;> with_reducible rfl)
                    simp only [Act.put, List.getElem_toArray, List.getElem_cons_zero, List.getElem_cons_succ, List.setIfInBounds_toArray, List.set_cons_zero, List.set_cons_succ]
                    refine wpAnyH_ready (rs := [3]) (by kernel_rfl) (by decide) ?_
                    refine AllReadyH.cons rfl (fun K1 hK1 => ?_) AllReadyH.nil
                    go_simp
                    refine (LK1.out _ hH.2).mono ?_
                    rintro e d4 ⟨rfl, hb⟩
                    refine hK1.out _ _ ⟨hH.1.al hb, bel_trans hH.2 hb⟩ (fun hH => ?_)
                    clear hK1 K1 hb
                    refine wpAnyH_take (i := 5) (v := ?_) rfl (by kernel_rfl) (by kernel_rfl) (by kernel_rfl) (fun _ _ _ h => h) (Or.inl ⟨by rfl, ?_⟩) hH ?_
                    rotate_left 1
                    · (intro w hSw; skip; clear hSw; go_simp <;> with_reducible rfl)
                    simp only [Act.put, List.getElem_toArray, List.getElem_cons_zero, List.getElem_cons_succ, List.setIfInBounds_toArray, List.set_cons_zero, List.set_cons_succ]
                    refine wpAnyH_take (i := 6) (v := ?_) rfl (by kernel_rfl) (by kernel_rfl) (by kernel_rfl) (fun _ _ _ h => h) (Or.inl ⟨by rfl, ?_⟩) hH ?_
                    rotate_left 1
                    · (intro w hSw; skip; clear hSw; go_simp <;> with_reducible rfl)
                    simp only [Act.put, List.getElem_toArray, List.getElem_cons_zero, List.getElem_cons_succ, List.setIfInBounds_toArray, List.set_cons_zero, List.set_cons_succ]
                    refine wpAnyH_take (i := 7) (v := ?_) rfl (by kernel_rfl) (by kernel_rfl) (by kernel_rfl) (fun _ _ _ h => h) (Or.inl ⟨by rfl, ?_⟩) hH ?_
                    rotate_left 1
                    · (intro w hSw; skip; clear hSw; go_simp <;> with_reducible rfl)
                    simp only [Act.put, List.getElem_toArray, List.getElem_cons_zero, List.getElem_cons_succ, List.setIfInBounds_toArray, List.set_cons_zero, List.set_cons_succ]
                    refine wpAnyH_take (i := 8) (v := ?_) rfl (by kernel_rfl) (by kernel_rfl) (by kernel_rfl) (fun _ _ _ h => h) (Or.inl ⟨by rfl, ?_⟩) hH ?_
                    rotate_left 1
                    · (intro w hSw; skip; clear hSw; go_simp <;> with_reducible rfl)
                    simp only [Act.put, List.getElem_toArray, List.getElem_cons_zero, List.getElem_cons_succ, List.setIfInBounds_toArray, List.set_cons_zero, List.set_cons_succ]
                    refine wpAnyH_take (i := 9) (v := ?_) rfl (by kernel_rfl) (by kernel_rfl) (by kernel_rfl) (fun _ _ _ h => h) (Or.inl ⟨by rfl, ?_⟩) hH ?_
                    rotate_left 1
                    · (intro w hSw; have q := hSw.1.all; clear hSw; go_simp <;> with_reducible rfl)
                    simp only [Act.put, List.getElem_toArray, List.getElem_cons_zero, List.getElem_cons_succ, List.setIfInBounds_toArray, List.set_cons_zero, List.set_cons_succ]
                    refine wpAnyH_take (i := 11) (v := ?_) rfl (by kernel_rfl) (by kernel_rfl) (by kernel_rfl) (fun _ _ _ h => h) (Or.inl ⟨by rfl, ?_⟩) hH ?_
                    rotate_left 1
                    · (intro w hSw; skip; clear hSw; go_simp <;> with_reducible rfl)
                    simp only [Act.put, List.getElem_toArray, List.getElem_cons_zero, List.getElem_cons_succ, List.setIfInBounds_toArray, List.set_cons_zero, List.set_cons_succ]
                    refine wpAnyH_take (i := 12) (v := ?_) rfl (by kernel_rfl) (by kernel_rfl) (by kernel_rfl) (fun _ _ _ h => h) (Or.inl ⟨by rfl, ?_⟩) hH ?_
                    rotate_left 1
                    · (intro w hSw; skip; clear hSw; go_simp <;> with_reducible rfl)
                    simp only [Act.put, List.getElem_toArray, List.getElem_cons_zero, List.getElem_cons_succ, List.setIfInBounds_toArray, List.set_cons_zero, List.set_cons_succ]
                    refine wpAnyH_take (i := 13) (v := ?_) rfl (by kernel_rfl) (by kernel_rfl) (by kernel_rfl) (fun _ _ _ h => h) (Or.inl ⟨by rfl, ?_⟩) hH ?_
                    rotate_left 1
                    · (intro w hSw; have q := hSw.1.all; clear hSw; go_simp <;> with_reducible rfl)
                    simp only [Act.put, List.getElem_toArray, List.getElem_cons_zero, List.getElem_cons_succ, List.setIfInBounds_toArray, List.set_cons_zero, List.set_cons_succ]
                    refine wpAnyH_ready (rs := [10]) (by kernel_rfl) (by decide) ?_
                    refine AllReadyH.cons rfl (fun K1 hK1 => ?_) AllReadyH.nil
                    go_simp
                    refine (LE.out _ hH.2).mono ?_
                    rintro e d4 ⟨rfl, hb⟩
                    refine hK1.out _ _ ⟨hH.1.al hb, bel_trans hH.2 hb⟩ (fun hH => ?_)
                    clear hK1 K1 hb
                    refine wpAnyH_ready (rs := [14]) (by kernel_rfl) (by decide) ?_
                    refine AllReadyH.cons rfl (fun K1 hK1 => ?_) AllReadyH.nil
                    go_simp
                    refine (HD.out _ hH.2).mono ?_
                    rintro e d4 ⟨rfl, kk, rfl⟩
                    refine hK1.out _ _ ⟨hH.1.al (below_drewN (Below.refl _ _) kk), below_drewN hH.2 kk⟩ (fun hH => ?_)
                    clear hK1 K1
                    refine wpAnyH_take (i := 15) (v := ?_) rfl (by kernel_rfl) (by kernel_rfl) (by kernel_rfl) (fun _ _ _ h => h) (Or.inl ⟨by rfl, ?_⟩) hH ?_
                    rotate_left 1
                    · (intro w hSw; skip; clear hSw; go_simp <;> with_reducible rfl)
                    simp only [Act.put, List.getElem_toArray, List.getElem_cons_zero, List.getElem_cons_succ, List.setIfInBounds_toArray, List.set_cons_zero, List.set_cons_succ]
                    refine wpAnyH_take (i := 16) (v := ?_) rfl (by kernel_rfl) (by kernel_rfl) (by kernel_rfl) (fun _ _ _ h => h) (Or.inl ⟨by rfl, ?_⟩) hH ?_
                    rotate_left 1
                    · (intro w hSw; skip; clear hSw; go_simp <;> with_reducible rfl)
                    simp only [Act.put, List.getElem_toArray, List.getElem_cons_zero, List.getElem_cons_succ, List.setIfInBounds_toArray, List.set_cons_zero, List.set_cons_succ]
                    refine wpAnyH_take (i := 17) (v := ?_) rfl (by kernel_rfl) (by kernel_rfl) (by kernel_rfl) (fun _ _ _ h => h) (Or.inl ⟨by rfl, ?_⟩) hH ?_
                    rotate_left 1
                    · (intro w hSw; skip; clear hSw; go_simp <;> with_reducible rfl)
                    simp only [Act.put, List.getElem_toArray, List.getElem_cons_zero, List.getElem_cons_succ, List.setIfInBounds_toArray, List.set_cons_zero, List.set_cons_succ]
                    refine wpAnyH_take (i := 18) (v := ?_) rfl (by kernel_rfl) (by kernel_rfl) (by kernel_rfl) (fun _ _ _ h => h) (Or.inl ⟨by rfl, ?_⟩) hH ?_
                    rotate_left 1
                    · (intro w hSw; skip; clear hSw; go_simp <;> with_reducible rfl)
                    simp only [Act.put, List.getElem_toArray, List.getElem_cons_zero, List.getElem_cons_succ, List.setIfInBounds_toArray, List.set_cons_zero, List.set_cons_succ]
                    refine wpAnyH_take (i := 19) (v := ?_) rfl (by kernel_rfl) (by kernel_rfl) (by kernel_rfl) (fun _ _ _ h => h) (Or.inl ⟨by rfl, ?_⟩) hH ?_
                    rotate_left 1
                    · (intro w hSw; skip; clear hSw; go_simp <;> with_reducible rfl)
                    simp only [Act.put, List.getElem_toArray, List.getElem_cons_zero, List.getElem_cons_succ, List.setIfInBounds_toArray, List.set_cons_zero, List.set_cons_succ]
                    refine wpAnyH_take (i := 20) (v := ?_) rfl (by kernel_rfl) (by kernel_rfl) (by kernel_rfl) (fun _ _ _ h => h) (Or.inl ⟨by rfl, ?_⟩) hH ?_
                    rotate_left 1
                    · (intro w hSw; have q := hSw.1.all; clear hSw; go_simp <;> with_reducible rfl)
                    simp only [Act.put, List.getElem_toArray, List.getElem_cons_zero, List.getElem_cons_succ, List.setIfInBounds_toArray, List.set_cons_zero, List.set_cons_succ]
                    refine wpAnyH_take (i := 22) (v := ?_) rfl (by kernel_rfl) (by kernel_rfl) (by kernel_rfl) (fun _ _ _ h => h) (Or.inl ⟨by rfl, ?_⟩) hH ?_
                    rotate_left 1
                    · (intro w hSw; skip; clear hSw; go_simp <;> with_reducible rfl)
                    simp only [Act.put, List.getElem_toArray, List.getElem_cons_zero, List.getElem_cons_succ, List.setIfInBounds_toArray, List.set_cons_zero, List.set_cons_succ]
                    refine wpAnyH_ready (rs := [21]) (by kernel_rfl) (by decide) ?_
                    refine AllReadyH.cons rfl (fun K1 hK1 => ?_) AllReadyH.nil
                    go_simp
                    refine (RM1.out _ hH.2).mono ?_
                    rintro e d4 ⟨rfl, hb⟩
                    refine hK1.out _ _ ⟨hH.1.al hb, bel_trans hH.2 hb⟩ (fun hH => ?_)
                    clear hK1 K1 hb
                    refine wpAnyH_take (i := 23) (v := ?_) rfl (by kernel_rfl) (by kernel_rfl) (by kernel_rfl) (fun _ _ _ h => h) (Or.inl ⟨by rfl, ?_⟩) hH ?_
                    rotate_left 1
                    · (intro w hSw; skip; clear hSw; go_simp <;> with_reducible rfl)
                    simp only [Act.put, List.getElem_toArray, List.getElem_cons_zero, List.getElem_cons_succ, List.setIfInBounds_toArray, List.set_cons_zero, List.set_cons_succ]
                    refine wpAnyH_take (i := 24) (v := ?_) rfl (by kernel_rfl) (by kernel_rfl) (by kernel_rfl) (fun _ _ _ h => h) (Or.inl ⟨by rfl, ?_⟩) hH ?_
                    rotate_left 1
                    · (intro w hSw; skip; clear hSw; go_simp <;> with_reducible rfl)
                    simp only [Act.put, List.getElem_toArray, List.getElem_cons_zero, List.getElem_cons_succ, List.setIfInBounds_toArray, List.set_cons_zero, List.set_cons_succ]
                    refine wpAnyH_done (by kernel_rfl) ?_ _
                    have J3 := hide (J2.out.bel hH.2)
                    clear hH J2
                    go_wp2_with fail
                    go_roundw
                    case rel => exact ⟨kk0 + 1, by omega, by omega, gc, gd, by go_num, rfl, rfl, hide ⟨_, _, J3.out⟩⟩
                    case measure => simp [intOf]; omega
        · have hge : (n : Int) ≤ (kk0 : Int) := by omega
          go_wp2_with fail
          obtain ⟨s1, sc1, J1⟩ := JR.out
          obtain ⟨G1, R1, Gc1, Rc1, p1, p2, d1, d2, d3⟩ := J1
          obtain ⟨F1, F2, K1⟩ := p1.kp
          obtain ⟨Fc1, Fc2, Kc1⟩ := p2.kp
          have SS := hide (Same_any K1.hs Kc1.hs)
          have MS := hide (fun w3 (hb : Below wr.heap.size wr w3) => rSame_any (K1.hm.bel hb) (Kc1.hm.bel hb) (by omega) (by omega))
          have CP := hide (fun w3 (hb : Below wr.heap.size wr w3) => Copy_any (K1.hs.bel hb))
          have HS := hide K1.hs
          have LO := hide (fun w3 (hb : Below wr.heap.size wr w3) => looked_any (p2.bel hb) H17.out (by omega))
          generalize sameS s1 sc1 = sm at *
          clear K1 Kc1 p1 p2 d1 d2 d3
          refine SS.out.mono ?_
          rintro e w3 ⟨rfl, hb3⟩
          have B3 := hide hb3
          clear hb3 SS
          go_wp2_with fail
          refine (MS.out _ B3.out).mono ?_
          rintro e w4 ⟨rfl, hb4⟩
          have B4 := hide (bel_trans B3.out hb4)
          clear hb4 B3 MS
          go_wp2_with fail
          refine (CP.out _ B4.out).mono ?_
          rintro e w5 ⟨gx, rfl, Fx, hx, hlx, hb5⟩
          have B5 := hide (bel_trans B4.out hb5)
          have SX := hide (Same_any (HS.out.bel B5.out) hx)
          rw [sameS_self] at SX
          clear hb5 hx hlx CP B4
          go_wp2_with fail
          refine SX.out.mono ?_
          rintro e w6 ⟨rfl, hb6⟩
          have B6 := hide (bel_trans B5.out hb6)
          clear hb6 SX B5
          go_wp2_with fail
          refine (LO.out _ B6.out).mono ?_
          rintro e w7 ⟨rfl, hb7⟩
          go_wp2_with fail
          go_ret
          exact Vb.mk (by simp) hb7
end Go.Proofs.YtghfjnnmpmfboaaDoor.Ck
