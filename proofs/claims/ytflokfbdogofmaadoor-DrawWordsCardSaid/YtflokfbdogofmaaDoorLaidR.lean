/- What the row's short list (the table of the turns, and one error) gives; a world that meets the list; from an argument's reading to the bytes that it holds. -/
import Derived.Test.YtflokfbdogofmaaDoorAl
import Derived.Test.YtflokfbdogofmaaDoorSent
import Derived.Test.YtflokfbdogofmaaDoorOpen
import Derived.Lib.LaidTab
namespace Go.Proofs.YtflokfbdogofmaaDoor.Ck
open Go.ChangeShapes Go.WideShapes Go.ChangeAt Go.RowKit

def laidR : List (String × DataW Unit) := [("stockade/digest.turns", Rows.laid_stockade_digest_turns), ("stockade/api.ErrRange", Rows.laid_stockade_api_ErrRange)]
def lR : List (String × List UInt8) := [("stockade/api.ErrRange", [115, 116, 111, 99, 107, 97, 100, 101, 58, 32, 114, 97, 110, 103, 101])]
theorem laidR_eq : laidR = ("stockade/digest.turns", Lib.tabData .u32 kTab) :: lR.map fun x => (x.1, sentD x.2) := rfl
theorem namedR : ((List.range 1).all fun i => Tryd.prog.globalNamed (lR.getD i ("", [])).1 == some ([0].getD i 0) && (Tryd.prog.globals[[0].getD i 0]?).map (·.type) == some 37) = true := by kernel_rfl

theorem tab_of_head {W : World} {l : List (String × DataW Unit)} (h : laidMet Tryd.prog (("stockade/digest.turns", Lib.tabData .u32 kTab) :: l) W) : Tab W := by
  have ht := Lib.tabIs_of_head (g := 17) (t := 111) (e := 68) (n := 64) (by kernel_rfl) (by kernel_rfl) Tryd.underlying111 Tryd.underlying68 (by kernel_rfl) (by kernel_rfl) h
  have hc := fun i hi => ht.cell (g := 17) (by kernel_rfl) i hi
  refine ⟨?_, fun i hi => hc i hi⟩
  exact World.block_lt_of_cell? W ⟨17, 0, none⟩ (hc 0 (by decide))

theorem of_laidR {W : World} (h : laidMetH Tryd.prog laidR W) : Tab W ∧ ∃ a, W.cell? ⟨0, 0, none⟩ = some (.iface 115 (.pointer (some a))) ∧ 0 < W.heap.size := by
  rw [MakeChecks.laidMetH_plain _ _ _ (by kernel_rfl), laidR_eq] at h
  refine ⟨tab_of_head h, ?_⟩
  obtain ⟨ps, hv, hnd, hrows⟩ := h
  obtain ⟨g0, t0, cs0, f0, p0, q0, hg0, ht0, hv0, hd0, hq0, e0⟩ := hv
  subst e0
  obtain ⟨p, hs, hsub⟩ := sents_of lR [0] q0 rfl (fun i hi => by
    have h1 := List.all_eq_true.1 namedR i (List.mem_range.2 hi)
    simp only [Bool.and_eq_true, beq_iff_eq] at h1
    exact h1) hq0 (fun b off hm => hrows b off (List.mem_append_right _ hm))
  have := hs.at 0 (by decide)
  exact ⟨_, this.2.1, this.1⟩

theorem door_metR (os : Os) (args : Array Value) : laidMetH Tryd.prog laidR ((World.doorLaid Tryd.prog 337 os).forCall (fun _ _ => 0) ⟨#[], args, []⟩).memory :=
  laidMetH_of_parts3 (fuel := 8) (laidMet_of_run' 8 (by kernel_rfl) (by kernel_rfl)) (by kernel_rfl) (by kernel_rfl)

theorem wf_u8 {z : Int} (h : (Lit.int .u8 z).wf = true) : 0 ≤ z ∧ z < 256 := by
  simp [Lit.wf, IntKind.min, IntKind.max, IntKind.bits, IntKind.signed] at h
  omega

theorem sb_open {H : Type} {enc : TypeId × Value → H} {W : World} {a : Option Addr} {len cap : Nat} {d : DataW H} {p : List MemPlace}
    (h : DataW.Trod enc Tryd.prog W 0 (fun _ => true) true 22 (.slice a len cap) d p) : ∃ zs, SB W (.slice a len cap) zs := by
  obtain ⟨fuel, hf⟩ := h
  rcases open_ints Tryd.underlying22 Tryd.underlying5 (by kernel_rfl) hf with ⟨hcs, _⟩ | ⟨x, l, c, zs, hcs, _, hl, hm, hz, _, hcell, hwz⟩
  · simp [Value.cells] at hcs
    obtain ⟨rfl, rfl, rfl⟩ := hcs
    exact ⟨[], SB.nilS W⟩
  · simp [Value.cells] at hcs
    obtain ⟨rfl, rfl, rfl⟩ := hcs
    have hz' : zs.length = cap := by simpa using hz
    have hlen : (zs.take len).length = len := by simp; omega
    refine ⟨zs.take len, fun z hm' => wf_u8 (hwz z (List.mem_of_mem_take hm')), some x, cap, by rw [hlen], by omega, hm, fun i hi => ?_⟩
    rw [hlen] at hi
    have hc := hcell i (by omega)
    obtain ⟨b, off, spot⟩ := x
    have hspot : spot = none := by simpa [Addr.add] using World.cell?_spot (hcell 0 (by omega))
    subst hspot
    rw [add_plain] at hc
    refine ⟨b, off, rfl, block_lt hc, ?_⟩
    have e : (zs.take len).getD i 0 = zs.getD i 0 := by simp [List.getD, hi]
    rw [e]
    exact hc

end Go.Proofs.YtflokfbdogofmaaDoor.Ck
