/- What the row's list (three tables, all seventeen errors, the library's two) gives; and a world that meets the list. -/
import Derived.Test.YtpeebpnoldadjaaDoorTx
namespace Go.Proofs.YtpeebpnoldadjaaDoor.Ck
open Go.ChangeShapes Go.WideShapes Go.RowKit

def laidK : List (String × DataW Unit) := [("math/bits.deBruijn32tab", Rows.laid_math_bits_deBruijn32tab), ("math/bits.deBruijn64tab", Rows.laid_math_bits_deBruijn64tab), ("internal/strconv.uint64pow10", Rows.laid_internal_strconv_uint64pow10), ("stockade/api.ErrRange", Rows.laid_stockade_api_ErrRange), ("stockade/api.ErrText", Rows.laid_stockade_api_ErrText), ("stockade/api.ErrDepth", Rows.laid_stockade_api_ErrDepth), ("stockade/api.ErrName", Rows.laid_stockade_api_ErrName), ("stockade/api.ErrType", Rows.laid_stockade_api_ErrType), ("stockade/api.ErrLarge", Rows.laid_stockade_api_ErrLarge), ("stockade/api.ErrFull", Rows.laid_stockade_api_ErrFull), ("stockade/api.ErrNone", Rows.laid_stockade_api_ErrNone), ("stockade/api.ErrCode", Rows.laid_stockade_api_ErrCode), ("stockade/api.ErrState", Rows.laid_stockade_api_ErrState), ("stockade/api.ErrFrame", Rows.laid_stockade_api_ErrFrame), ("stockade/api.ErrMac", Rows.laid_stockade_api_ErrMac), ("stockade/api.ErrReplay", Rows.laid_stockade_api_ErrReplay), ("stockade/api.ErrArena", Rows.laid_stockade_api_ErrArena), ("stockade/api.ErrClock", Rows.laid_stockade_api_ErrClock), ("stockade/api.ErrQuota", Rows.laid_stockade_api_ErrQuota), ("stockade/api.ErrTenant", Rows.laid_stockade_api_ErrTenant), ("strconv.ErrRange", Rows.laid_strconv_ErrRange), ("strconv.ErrSyntax", Rows.laid_strconv_ErrSyntax)]
def l19 : List (String × List UInt8) := [("stockade/api.ErrRange", [115, 116, 111, 99, 107, 97, 100, 101, 58, 32, 114, 97, 110, 103, 101]), ("stockade/api.ErrText", [115, 116, 111, 99, 107, 97, 100, 101, 58, 32, 116, 101, 120, 116]), ("stockade/api.ErrDepth", [115, 116, 111, 99, 107, 97, 100, 101, 58, 32, 100, 101, 112, 116, 104]), ("stockade/api.ErrName", [115, 116, 111, 99, 107, 97, 100, 101, 58, 32, 110, 97, 109, 101]), ("stockade/api.ErrType", [115, 116, 111, 99, 107, 97, 100, 101, 58, 32, 116, 121, 112, 101]), ("stockade/api.ErrLarge", [115, 116, 111, 99, 107, 97, 100, 101, 58, 32, 108, 97, 114, 103, 101]), ("stockade/api.ErrFull", [115, 116, 111, 99, 107, 97, 100, 101, 58, 32, 102, 117, 108, 108]), ("stockade/api.ErrNone", [115, 116, 111, 99, 107, 97, 100, 101, 58, 32, 110, 111, 110, 101]), ("stockade/api.ErrCode", [115, 116, 111, 99, 107, 97, 100, 101, 58, 32, 99, 111, 100, 101]), ("stockade/api.ErrState", [115, 116, 111, 99, 107, 97, 100, 101, 58, 32, 115, 116, 97, 116, 101]), ("stockade/api.ErrFrame", [115, 116, 111, 99, 107, 97, 100, 101, 58, 32, 102, 114, 97, 109, 101]), ("stockade/api.ErrMac", [115, 116, 111, 99, 107, 97, 100, 101, 58, 32, 109, 97, 99]), ("stockade/api.ErrReplay", [115, 116, 111, 99, 107, 97, 100, 101, 58, 32, 114, 101, 112, 108, 97, 121]), ("stockade/api.ErrArena", [115, 116, 111, 99, 107, 97, 100, 101, 58, 32, 97, 114, 101, 110, 97]), ("stockade/api.ErrClock", [115, 116, 111, 99, 107, 97, 100, 101, 58, 32, 99, 108, 111, 99, 107]), ("stockade/api.ErrQuota", [115, 116, 111, 99, 107, 97, 100, 101, 58, 32, 113, 117, 111, 116, 97]), ("stockade/api.ErrTenant", [115, 116, 111, 99, 107, 97, 100, 101, 58, 32, 116, 101, 110, 97, 110, 116]), ("strconv.ErrRange", [118, 97, 108, 117, 101, 32, 111, 117, 116, 32, 111, 102, 32, 114, 97, 110, 103, 101]), ("strconv.ErrSyntax", [105, 110, 118, 97, 108, 105, 100, 32, 115, 121, 110, 116, 97, 120])]
def gl19 : List Nat := [0, 1, 2, 3, 4, 5, 6, 7, 8, 9, 10, 11, 12, 13, 14, 15, 16, 19, 18]
theorem laidK_eq : laidK = ("math/bits.deBruijn32tab", Rows.laid_math_bits_deBruijn32tab) :: ("math/bits.deBruijn64tab", Rows.laid_math_bits_deBruijn64tab) :: ("internal/strconv.uint64pow10", Rows.laid_internal_strconv_uint64pow10) :: l19.map fun x => (x.1, sentD x.2) := rfl
theorem named19 : ((List.range 19).all fun i => Tryd.prog.globalNamed (l19.getD i ("", [])).1 == some (gl19.getD i 0) && (Tryd.prog.globals[gl19.getD i 0]?).map (·.type) == some 25) = true := by kernel_rfl
theorem named_dB : Tryd.prog.globalNamed "math/bits.deBruijn64tab" = some 22 := by kernel_rfl

theorem nodup_of_map {l : List Addr} (h : (l.map placeOf).Nodup) : l.Nodup := by
  induction l with
  | nil => exact List.nodup_nil
  | cons a l ih =>
    simp only [List.map_cons, List.nodup_cons] at h ⊢
    exact ⟨fun hm => h.1 (List.mem_map_of_mem hm), ih h.2⟩
theorem Sents.take {W : World} : ∀ (gs hs : List Nat) (av : List Addr), Sents W (gs ++ hs) av → Sents W gs (av.take gs.length) ∧ Sents W hs (av.drop gs.length)
  | [], _, _, h => ⟨trivial, h⟩
  | _ :: _, _, [], h => absurd h (fun h => h)
  | _ :: gs, hs, _ :: av, h => ⟨⟨h.1, (Sents.take gs hs av h.2).1⟩, (Sents.take gs hs av h.2).2⟩

theorem ev_of_laid {W : World} (h : laidMetH Tryd.prog laidK W) : ∃ p, Ev W p := by
  rw [MakeChecks.laidMetH_plain _ _ _ (by kernel_rfl), laidK_eq] at h
  obtain ⟨ps, hv, hnd, hrows⟩ := h
  obtain ⟨g0, t0, cs0, f0, p0, q0, hg0, ht0, hv0, hd0, hq0, e0⟩ := hv
  obtain ⟨g1, t1, cs1, f1, p1, q1, hg1, ht1, hv1, hd1, hq1, e1⟩ := hq0
  obtain ⟨g2, t2, cs2, f2, p2, q2, hg2, ht2, hv2, hd2, hq2, e2⟩ := hq1
  subst e0 e1 e2
  have hbig : 23 ≤ W.heap.size := by
    simp only [World.var?, named_dB, Option.bind_some] at hv1
    rcases Nat.lt_or_ge 22 W.heap.size with h' | h'
    · omega
    · simp [Array.getElem?_eq_none h'] at hv1
  obtain ⟨p, hs, hsub⟩ := sents_of l19 gl19 q2 rfl (fun i hi => by
    have h1 := List.all_eq_true.1 named19 i (List.mem_range.2 hi)
    simp only [Bool.and_eq_true, beq_iff_eq] at h1
    exact h1) hq2 (fun b off hm => hrows b off (List.mem_append_right _ (List.mem_append_right _ (List.mem_append_right _ hm))))
  have hn := nodup_of_map (hnd.sublist (hsub.trans ((List.sublist_append_right _ _).trans ((List.sublist_append_right _ _).trans (List.sublist_append_right _ _)))))
  obtain ⟨s1, s2⟩ := Sents.take gl [19, 18] p hs
  refine ⟨p.take gl.length, ⟨s1, hn.sublist (List.take_sublist _ _)⟩, ?_, hbig⟩
  cases hd : p.drop gl.length with
  | nil => rw [hd] at s2; exact absurd s2 (fun h => h)
  | cons a r =>
    rw [hd] at s2
    exact ⟨_, _, s2.1.2.1⟩

theorem door_metK (os : Os) (args : Array Value) : laidMetH Tryd.prog laidK ((World.doorLaid Tryd.prog 385 os).forCall (fun _ _ => 0) ⟨#[], args, []⟩).memory :=
  laidMetH_of_parts3 (fuel := 8) (laidMet_of_run' 8 (by kernel_rfl) (by kernel_rfl)) (by kernel_rfl) (by kernel_rfl)

end Go.Proofs.YtpeebpnoldadjaaDoor.Ck
