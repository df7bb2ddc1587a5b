/- Package sync: a state that is refused. (Written by mk_y.py.) -/
import Derived.Test.YtghfjnnmpmfboaaDoorYo
import Derived.Lib.SmallJoins
namespace Go.Proofs.YtghfjnnmpmfboaaDoor.Ck
open Go.RowKit

def fitB (n : Int) : Bool := decide (0 ≤ n) && decide (n ≤ 32)
/-- may there be such a state? -/
def okN (ps : List Int) (m : Int) (cs : List (Int × Int)) (a : Int) : Bool := !decide (128 < ps.length) && (fitB m && (fitB cs.length && (fitB a && (!ps.any badT && !cs.any badC))))
def newS (ps : List Int) (m : Int) (cs : List (Int × Int)) (a : Int) : St := ⟨ps.map fun t => (t, 0, 0), List.replicate m.toNat false, cs.map fun c => ⟨c.1, c.2, []⟩, List.replicate a.toNat 0⟩
/-- what New leaves of a state that there may be -/
def NewP (w : World) (s : St) (e : Ending) (w' : World) : Prop := ∃ g F, e = .returned (.tuple #[.pointer (some ⟨g, 0, none⟩), .nilIface]) ∧ Stt w' F g s ∧ (∀ k, F k → w.heap.size ≤ k) ∧ Below w.heap.size w w'
theorem run_mkB (n : Nat) (hn : n ≤ 32) (w : World) : (Instr.makeSlice 47 (.int .i64 (n : Nat)) (.int .i64 (n : Nat))).run Tryd.prog w = .ok (.slice (some ⟨w.heap.size, 0, none⟩) n n) (w.alloc (.cells (madeCells #[.bool false] n) 4)) := by
  have hinfo : (Tryd.prog.info? 4).map (fun i => (i.zero, i.size, i.bytes)) = some (some (.bool false), 1, 1) := by kernel_rfl
  obtain ⟨i, hi, hz0, hz1, hz2⟩ := info_parts hinfo
  have hr := run_make (P := Tryd.prog) w 47 4 i (.bool false) Tryd.underlying47 hi hz0 .i64 .i64 n n (by omega) (by omega) (by rw [hz2]; omega) (by omega)
  simp only [Int.toNat_natCast, hz1, Nat.mul_one] at hr
  exact hr
theorem run_mkI (n : Nat) (hn : n ≤ 32) (w : World) : (Instr.makeSlice 22 (.int .i64 (n : Nat)) (.int .i64 (n : Nat))).run Tryd.prog w = .ok (.slice (some ⟨w.heap.size, 0, none⟩) n n) (w.alloc (.cells (madeCells #[.int .i64 0] n) 3)) := by
  obtain ⟨i, hi, hz0, hz1, hz2⟩ := info_parts info3
  have hr := run_make (P := Tryd.prog) w 22 3 i (.int .i64 0) Tryd.underlying22 hi hz0 .i64 .i64 n n (by omega) (by omega) (by rw [hz2]; omega) (by omega)
  simp only [Int.toNat_natCast, hz1, Nat.mul_one] at hr
  exact hr
theorem own_made (w : World) (z : Value) (n : Nat) (T : TypeId) (hn : n ≤ 32) : (w.alloc (.cells (madeCells #[z] n) T)).ownsRow 0 T 1 (.slice (some ⟨w.heap.size, 0, none⟩) n n) n (List.replicate n z) :=
  ⟨by simp, .inr ⟨w.heap.size, n, _, rfl, Nat.zero_le _, Go.Deep.blk_alloc_new _ _, Nat.le_refl _, by unfold maxLen; omega, by simp [madeCells], by
    apply List.ext_getElem
    · simp [madeCells]
    · intro i h1 h2
      simp [madeCells, Nat.mod_one]⟩⟩
set_option maxRecDepth 20000 in
set_option maxHeartbeats 1000000 in
theorem new_bad (vP vC : Value) (ps : List Int) (cs : List (Int × Int)) (m a : Int) {w : World} {p : List Addr} (h17 : E2 w p) (hP : Sl w vP ps) (hC : SlC w vC cs) (hok : okN ps m cs a = false) : Calls Tryd.prog 8 #[vP, .int .i64 m, vC, .int .i64 a] w (Vb w (.tuple #[.pointer none, errV p 0])) := by
  obtain ⟨aP, lP, cP, rfl, hlP⟩ := hP.slice
  obtain ⟨aC, cC, eC, _⟩ := id hC
  obtain ⟨lC, hlC⟩ : ∃ n, n = cs.length := ⟨_, rfl⟩
  rw [← hlC] at eC
  subst eC
  have CI := hide (fun w' hb => contains_int (.slice aP lP cP) ps w' (hP.below (Nat.le_refl _) hb))
  have CC := hide (fun w' (hb : Below w.heap.size w w') => contains_chan (.slice aC lC cC) cs w' (hC.below hb))
  have FM : ∀ w, Calls Tryd.prog 35 #[.int .i64 m] w fun e w' => e = .returned (.bool (fitB m)) ∧ w = w' := fun w => fits_any m w
  have FC : ∀ w, Calls Tryd.prog 35 #[.int .i64 (lC : Nat)] w fun e w' => e = .returned (.bool (fitB lC)) ∧ w = w' := fun w => fits_any lC w
  have FA : ∀ w, Calls Tryd.prog 35 #[.int .i64 a] w fun e w' => e = .returned (.bool (fitB a)) ∧ w = w' := fun w => fits_any a w
  unfold okN at hok
  rw [← hlP, ← hlC] at hok
  have H7 := hide h17
  clear hP hC h17 hlP hlC
  generalize fitB m = b1 at *
  generalize fitB lC = b2 at *
  generalize fitB a = b3 at *
  generalize ps.any badT = b4 at *
  generalize cs.any badC = b5 at *
  by_cases h0 : 128 < lP
  · have h0' : (128 : Int) < (lP : Int) := by omega
    go_enter Tryd.func8, Tryd.ntmps8
    go_wp2_with fail
    have x0 : w.cell? ⟨0, 0, none⟩ = some (errV p 0) := (H7.out).c0
    clear hok
    generalize errV p 0 = ev at *
    go_wp2_with fail
    go_quiet (fail)
    go_wp2_with fail
    go_ret2
    exact Vb.mk rfl (below_drewN (Below.refl _ _) _)
  have h0' : (lP : Int) ≤ 128 := by omega
  cases b1 with
  | false =>
    go_enter Tryd.func8, Tryd.ntmps8
    go_wp2_with fail
    refine (FM _).mono ?_
    rintro e wx ⟨rfl, rfl⟩
    have x0 : w.cell? ⟨0, 0, none⟩ = some (errV p 0) := (H7.out).c0
    clear hok
    generalize errV p 0 = ev at *
    go_wp2_with fail
    go_quiet (fail)
    go_wp2_with fail
    go_ret2
    exact Vb.mk rfl (below_drewN (Below.refl _ _) _)
  | true =>
  cases b2 with
  | false =>
    go_enter Tryd.func8, Tryd.ntmps8
    go_wp2_with fail
    refine (FM _).mono ?_
    rintro e wx ⟨rfl, rfl⟩
    go_wp2_with fail
    refine (FC _).mono ?_
    rintro e wx ⟨rfl, rfl⟩
    have x0 : w.cell? ⟨0, 0, none⟩ = some (errV p 0) := (H7.out).c0
    clear hok
    generalize errV p 0 = ev at *
    go_wp2_with fail
    go_quiet (fail)
    go_wp2_with fail
    go_ret2
    exact Vb.mk rfl (below_drewN (Below.refl _ _) _)
  | true =>
  cases b3 with
  | false =>
    go_enter Tryd.func8, Tryd.ntmps8
    go_wp2_with fail
    refine (FM _).mono ?_
    rintro e wx ⟨rfl, rfl⟩
    go_wp2_with fail
    refine (FC _).mono ?_
    rintro e wx ⟨rfl, rfl⟩
    go_wp2_with fail
    refine (FA _).mono ?_
    rintro e wx ⟨rfl, rfl⟩
    have x0 : w.cell? ⟨0, 0, none⟩ = some (errV p 0) := (H7.out).c0
    clear hok
    generalize errV p 0 = ev at *
    go_wp2_with fail
    go_quiet (fail)
    go_wp2_with fail
    go_ret2
    exact Vb.mk rfl (below_drewN (Below.refl _ _) _)
  | true =>
  cases b4 with
  | true =>
    go_enter Tryd.func8, Tryd.ntmps8
    go_wp2_with fail
    refine (FM _).mono ?_
    rintro e wx ⟨rfl, rfl⟩
    go_wp2_with fail
    refine (FC _).mono ?_
    rintro e wx ⟨rfl, rfl⟩
    go_wp2_with fail
    refine (FA _).mono ?_
    rintro e wx ⟨rfl, rfl⟩
    go_wp2_with fail
    refine (CI.out _ (Below.refl _ _)).mono ?_
    rintro e w1 ⟨rfl, hb1⟩
    have x0 : w1.cell? ⟨0, 0, none⟩ = some (errV p 0) := (H7.out.below (Nat.le_refl _) hb1).c0
    clear hok
    generalize errV p 0 = ev at *
    go_wp2_with fail
    go_quiet (fail)
    go_wp2_with fail
    go_ret2
    exact Vb.mk rfl (below_drewN (hb1) _)
  | false =>
  cases b5 with
  | true =>
    go_enter Tryd.func8, Tryd.ntmps8
    go_wp2_with fail
    refine (FM _).mono ?_
    rintro e wx ⟨rfl, rfl⟩
    go_wp2_with fail
    refine (FC _).mono ?_
    rintro e wx ⟨rfl, rfl⟩
    go_wp2_with fail
    refine (FA _).mono ?_
    rintro e wx ⟨rfl, rfl⟩
    go_wp2_with fail
    refine (CI.out _ (Below.refl _ _)).mono ?_
    rintro e w1 ⟨rfl, hb1⟩
    go_wp2_with fail
    refine (CC.out _ hb1).mono ?_
    rintro e w2 ⟨rfl, hb2⟩
    have x0 : w2.cell? ⟨0, 0, none⟩ = some (errV p 0) := (H7.out.below (Nat.le_refl _) (bel_trans hb1 hb2)).c0
    clear hok
    generalize errV p 0 = ev at *
    go_wp2_with fail
    go_quiet (fail)
    go_wp2_with fail
    go_ret2
    exact Vb.mk rfl (below_drewN (bel_trans hb1 hb2) _)
  | false =>
    simp [h0] at hok
end Go.Proofs.YtghfjnnmpmfboaaDoor.Ck
