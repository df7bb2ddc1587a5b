/- Package code: a code's form. (Written by mk_c.py.) -/
import Derived.Test.YtlheflkdapckbaaDoorCj
namespace Go.Proofs.YtlheflkdapckbaaDoor.Ck
open Go.RowKit

theorem cells7 {w : World} {g : Nat} {v0 v1 v2 v3 v4 v5 v6 : Value} {T : TypeId} (h : w.heap[g]? = some (.cells #[v0, v1, v2, v3, v4, v5, v6] T (0, 0))) :
    w.cell? ⟨g, 0, none⟩ = some v0 ∧ w.cell? ⟨g, 1, none⟩ = some v1 ∧ w.cell? ⟨g, 2, none⟩ = some v2 ∧ w.cell? ⟨g, 3, none⟩ = some v3 ∧ w.cell? ⟨g, 4, none⟩ = some v4 ∧ w.cell? ⟨g, 5, none⟩ = some v5 ∧ w.cell? ⟨g, 6, none⟩ = some v6 :=
  ⟨blk_cell h 0 _ rfl, blk_cell h 1 _ rfl, blk_cell h 2 _ rfl, blk_cell h 3 _ rfl, blk_cell h 4 _ rfl, blk_cell h 5 _ rfl, blk_cell h 6 _ rfl⟩

/-- the package's way of asking for the form -/
def formG (c : Cd) : Bool := sizesB c && (c.P.all typB && (c.C.all chB && (funsB c && c.B.all (insG c))))
theorem sl_one (w : World) (t : Int) (h : -9223372036854775808 ≤ t ∧ t ≤ 9223372036854775807) : Sl (w.alloc (.cells #[.int .i64 t] 3)) (.slice (some ⟨w.heap.size, 0, none⟩) 1 1) [t] := by
  refine Sl.of_row (t := 3) (zs := [t]) (n := 1) (f := fun _ => .int .i64 t) ⟨_, Go.Deep.blk_alloc_new _ _, by simp, fun i hi => ?_⟩ (by simp) (by unfold maxLen; omega) (fun z hz => by simp at hz; omega) (fun i hi => ?_)
  · obtain rfl : i = 0 := by omega
    rfl
  · have : i = 0 := by simpa using hi
    subst this
    rfl
set_option maxRecDepth 20000 in
set_option maxHeartbeats 4000000 in
theorem form_any {w : World} {p : List Addr} {vP vC vF vB : Value} {c : Cd} (hc : Ec w p) (h : Cv w vP vC vF vB c) : Calls Tryd.prog 33 #[codeA vP vC vF vB c] w (Gt p w (formG c) (.tuple #[])) := by
  have B0 := hide (bel_new w (codeO vP vC vF vB c))
  have C0 := hide (fun wz (hb : Below (w.alloc (codeO vP vC vF vB c)).heap.size (w.alloc (codeO vP vC vF vB c)) wz) => hc.bel (bel_trans B0.out hb))
  have V0 := hide (fun wz (hb : Below (w.alloc (codeO vP vC vF vB c)).heap.size (w.alloc (codeO vP vC vF vB c)) wz) => h.bel (bel_trans B0.out hb))
  have X0 := hide (fun wz (hb : Below (w.alloc (codeO vP vC vF vB c)).heap.size (w.alloc (codeO vP vC vF vB c)) wz) => (hb.block w.heap.size (by simp)).trans (show (w.alloc (codeO vP vC vF vB c)).heap[w.heap.size]? = some (codeO vP vC vF vB c) from Go.Deep.blk_alloc_new _ _))
  have S0 := hide (sizes_any (C0.out _ (Below.refl _ _)) (V0.out _ (Below.refl _ _)))
  obtain ⟨aP, cP, rfl, _, hmP⟩ := h.P.form
  obtain ⟨aC, cC, rfl, _, hmC⟩ := h.C.form
  obtain ⟨aF, cF, rfl, _, hmF⟩ := h.F.form
  obtain ⟨aB, cB, rfl, _, hmB⟩ := h.B.form
  obtain ⟨r, hr⟩ : ∃ r, formG c = r := ⟨_, rfl⟩
  rw [hr]
  have HR := hide hr
  unfold formG at HR
  have HC64 := hide (fun k (hk : k < c.C.length) => (show -9223372036854775808 ≤ (c.C.getD k z2).1 ∧ (c.C.getD k z2).1 ≤ 9223372036854775807 by
    refine h.L.K _ ?_
    rw [List.getD_eq_getElem?_getD, List.getElem?_eq_getElem hk]
    exact List.getElem_mem hk))
  clear hr hc h hmP hmC hmF hmB
  have BB : Hid (∀ wz, Below (w.alloc (.cells #[.slice aP c.P.length cP, .int .i64 c.M, .int .i64 c.A, .slice aC c.C.length cC, .slice aF c.F.length cF, .int .i64 c.mn, .slice aB c.B.length cB] 27)).heap.size (w.alloc (.cells #[.slice aP c.P.length cP, .int .i64 c.M, .int .i64 c.A, .slice aC c.C.length cC, .slice aF c.F.length cF, .int .i64 c.mn, .slice aB c.B.length cB] 27)) wz → Below w.heap.size w wz) := hide (fun wz hb => bel_trans B0.out hb)
  unfold codeA codeO at *
  go_enter Tryd.func33, Tryd.ntmps33
  go_wp2_with fail
  refine S0.out.mono ?_
  intro e w2 hp
  generalize w.alloc (.cells #[.slice aP c.P.length cP, .int .i64 c.M, .int .i64 c.A, .slice aC c.C.length cC, .slice aF c.F.length cF, .int .i64 c.mn, .slice aB c.B.length cB] 27) = W1 at *
  rcases hp.both with ⟨h1, rfl, hb⟩ | ⟨h1, rfl, hb⟩
  case inr => exact ⟨rfl, Gt.no (by rw [← HR.out, h1]; rfl) (BB.out _ hb)⟩
  have B2 := hide hb
  have HS := hide h1
  rw [h1] at HR
  clear hb h1 S0 hp
  have g0 : w2.cell? ⟨w.heap.size, 0, none⟩ = some (.slice aP c.P.length cP) := blk_cell (X0.out _ B2.out) 0 _ rfl
  go_wp2_with fail
  refine (types_any (C0.out _ B2.out) (V0.out _ B2.out).P).mono ?_
  intro e w3 hp
  rcases hp.both with ⟨h1, rfl, hb⟩ | ⟨h1, rfl, hb⟩
  case inr => exact ⟨rfl, Gt.no (by rw [← HR.out, h1]; rfl) (BB.out _ (bel_trans B2.out hb))⟩
  have B3 := hide (bel_trans B2.out hb)
  rw [h1] at HR
  clear hb h1 hp B2 g0
  have g3 : w3.cell? ⟨w.heap.size, 3, none⟩ = some (.slice aC c.C.length cC) := blk_cell (X0.out _ B3.out) 3 _ rfl
  have hC := hide (fun wz (hb : Below W1.heap.size W1 wz) i (hi : i < c.C.length) => (by
    obtain ⟨a, cp, e, _, _, h⟩ := (V0.out wz hb).C
    cases e
    exact h i hi : ∃ b off, aC = some ⟨b, off, none⟩ ∧ b < _ ∧ _))
  have HY := hide (fun (h : ∀ k, k < c.C.length → chB (c.C.getD k z2) = true) => (show c.C.all chB = true from all_yes h))
  have HN := hide (fun k (hk : k < c.C.length) (h1 : chB (c.C.getD k z2) = false) => (show r = false by rw [← HR.out, all_not k hk h1]; simp))
  have s6 : c.C.length ≤ 32 := by
    have := HS.out
    simp only [sizesB, Bool.and_eq_true, decide_eq_true_eq] at this
    omega
  go_wp2_with fail
  generalize hnC : c.C.length = nC at *
  clear hnC g3
  go_loopw [3, 12] (fun u3 i wr => ∃ k : Nat, k ≤ nC ∧ i = .int .i64 k ∧ Hid (∀ j, j < k → chB (c.C.getD j z2) = true) ∧ Hid (Below W1.heap.size W1 wr)) (fun u3 i _ => nC - (intOf i).toNat)
  case atStart => exact ⟨0, Nat.zero_le _, rfl, fun j hj => absurd hj (Nat.not_lt_zero _), B3.out⟩
  case round =>
    obtain ⟨k, hk, rfl, hall, hbel⟩ := hrel
    clear B3
    by_cases hlt : k < nC
    · have h1 : (k : Int) < (nC : Int) := by omega
      obtain ⟨b1, o1, rfl, hbk, f1, f2⟩ := hC.out _ hbel.out k hlt
      have hne := hide (HN.out k hlt)
      have hstep : Hid (chB (c.C.getD k z2) = true → ∀ j, j < k + 1 → chB (c.C.getD j z2) = true) := fun e j hj => by
        by_cases ej : j = k
        · rw [ej]; exact e
        · exact hall.out j (by omega)
      have hr64 : -9223372036854775808 ≤ (c.C.getD k z2).1 ∧ (c.C.getD k z2).1 ≤ 9223372036854775807 := HC64.out k hlt
      generalize c.C.getD k z2 = x at *
      obtain ⟨t, rm⟩ := x
      have f1' : wr.cell? ⟨b1, o1 + k * 2, none⟩ = some (.int .i64 t) := f1
      have f2' : wr.cell? ⟨b1, o1 + k * 2 + 1, none⟩ = some (.int .i64 rm) := f2
      clear f1 f2
      have Bb := hide (bel_trans hbel.out (bel_new wr (.cells #[.int .i64 t, .int .i64 rm] 67)))
      have D5 := hide (bel_trans Bb.out (bel_new _ (.cells #[.int .i64 t] 3)))
      have TY := hide (types_any (C0.out _ D5.out) (sl_one (wr.alloc (.cells #[.int .i64 t, .int .i64 rm] 67)) t hr64))
      have e0 : (wr.alloc (.cells #[.int .i64 t, .int .i64 rm] 67)).heap.size = wr.heap.size + 1 := by simp
      rw [e0] at TY
      have KI : Hid (∀ wz, Below ((wr.alloc (.cells #[.int .i64 t, .int .i64 rm] 67)).alloc (.cells #[.int .i64 t] 3)).heap.size ((wr.alloc (.cells #[.int .i64 t, .int .i64 rm] 67)).alloc (.cells #[.int .i64 t] 3)) wz → wz.cell? ⟨wr.heap.size, 1, none⟩ = some (.int .i64 rm)) := hide (fun wz hb =>
        blk_cell ((hb.block wr.heap.size (by simp; omega)).trans (((bel_new _ (.cells #[.int .i64 t] 3)).block wr.heap.size (by simp)).trans (Go.Deep.blk_alloc_new wr (.cells #[.int .i64 t, .int .i64 rm] 67)))) 1 _ rfl)
      clear hall hC HY HN hr64 e0
      go_wp2_with fail
      refine TY.out.mono ?_
      intro e w4 hp
      rcases hp.both with ⟨h5, rfl, hb⟩ | ⟨h5, rfl, hb⟩
      case inr => exact ⟨rfl, Gt.no (hne.out (by simp at h5; unfold chB; rw [h5]; rfl)) (BB.out _ (bel_trans D5.out hb))⟩
      have j1 := KI.out _ hb
      have D6 := hide (bel_trans D5.out hb)
      have ht : Hid (typB t = true) := hide (by simpa using h5)
      clear h5 hb hp KI TY
      by_cases h0 : 0 ≤ rm
      case neg =>
        have h0' : decide (0 ≤ rm) = false := decide_eq_false h0
        go_wp2_with fail
        refine (must_no (C0.out _ D6.out)).mono ?_
        rintro e w9 ⟨rfl, rfl⟩
        exact ⟨rfl, Gt.no (hne.out (by unfold chB; simp only; rw [h0', ht.out]; rfl)) (BB.out _ D6.out)⟩
      go_wp2_with fail
      refine (must_any (C0.out _ D6.out) _).mono ?_
      rintro e w7 ⟨⟨h5, rfl⟩ | ⟨h5, rfl⟩, rfl⟩
      case inr => exact ⟨rfl, Gt.no (hne.out (by unfold chB; simp only; rw [h5]; simp)) (BB.out _ D6.out)⟩
      have h6 := hide h5
      have h7 := hide h0
      clear h5 h0
      go_wp2_with fail
      go_roundw
      case rel => exact ⟨k + 1, by omega, by go_num, hstep.out (by unfold chB; simp only; rw [ht.out, decide_eq_true h7.out, h6.out]; rfl), D6.out⟩
      case measure => simp [intOf]; omega
    · obtain rfl : k = nC := by omega
      have hrC := HY.out hall.out
      rw [hrC] at HR
      have s7 : c.F.length ≤ 16 := by
        have := HS.out
        simp only [sizesB, Bool.and_eq_true, decide_eq_true_eq] at this
        exact this.1.2
      have FN := hide (functions_any (C0.out _ hbel.out) (V0.out _ hbel.out) s7)
      have VF := hide (fun wz (hb : Below W1.heap.size W1 wz) => body_any (C0.out _ hb) (V0.out _ hb) HS.out)
      have G7 : ∀ wz, Below W1.heap.size W1 wz → wz.heap[w.heap.size]? = some (.cells #[.slice aP c.P.length cP, .int .i64 c.M, .int .i64 c.A, .slice aC k cC, .slice aF c.F.length cF, .int .i64 c.mn, .slice aB c.B.length cB] 27) := fun wz hb => X0.out wz hb
      have HG := hide G7
      obtain ⟨g0, g1, g2, g3, g4, g5, g6⟩ := cells7 (G7 _ hbel.out)
      clear hrC hC HY HN G7
      unfold codeA at FN VF
      go_wp2_with fail
      refine FN.out.mono ?_
      intro e w4 hp
      rcases hp.both with ⟨h5, rfl, hb⟩ | ⟨h5, rfl, hb⟩
      case inr => exact ⟨rfl, Gt.no (by rw [← HR.out, h5]; rfl) (BB.out _ (bel_trans hbel.out hb))⟩
      have D6 := hide (bel_trans hbel.out hb)
      rw [h5] at HR
      clear g0 g1 g2 g3 g4 g5 g6 h5 hb hp FN
      obtain ⟨g0, g1, g2, g3, g4, g5, g6⟩ := cells7 (HG.out _ D6.out)
      go_wp2_with fail
      refine (VF.out _ D6.out).mono ?_
      intro e w5 hp
      rcases hp.both with ⟨h5, rfl, hb⟩ | ⟨h5, rfl, hb⟩
      case inr => exact ⟨rfl, Gt.no (by rw [← HR.out, h5]; rfl) (BB.out _ (bel_trans D6.out hb))⟩
      have D7 := hide (bel_trans D6.out hb)
      rw [h5] at HR
      clear h5 hb hp
      go_wp2_with fail
      go_end0
      exact Gt.yes HR.out.symm (BB.out _ D7.out)
end Go.Proofs.YtlheflkdapckbaaDoor.Ck
