/- Package code: Put. (Written by mk_d.py.) -/
import Derived.Test.YtoboeipmhfnfdaaDoorDd
namespace Go.Proofs.YtoboeipmhfnfdaaDoor.Ck
open Go.RowKit

/-- bytes of a call's own, in a block that was made after w -/
structure SlY (w w' : World) (v : Value) (l : List Int) : Prop where
  own : w'.ownsRow 0 5 1 v l.length (yys l)
  new : ∀ k, v.ownBlock = some k → w.heap.size ≤ k
theorem Wr.start (w : World) : Wr (w.alloc (.cells #[.slice none 0 0] 66)) w.heap.size (fun k => k = w.heap.size) [] :=
  ⟨.slice none 0 0, Go.Deep.blk_alloc_new _ _, ⟨rfl, .inl ⟨rfl, rfl⟩⟩, fun e => (by cases e), fun k => ⟨fun e => .inl e, fun e => e.elim id (fun e => (by cases e))⟩⟩
set_option maxRecDepth 20000 in
set_option maxHeartbeats 4000000 in
theorem put_any {w : World} {p : List Addr} {vP vC vF vB : Value} {c : Cd} (hc : Ec w p) (h : Cv w vP vC vF vB c) : Calls Tryd.prog 11 #[codeA vP vC vF vB c] w fun e w' =>
    (formB c = false ∧ e = .returned (.tuple #[.slice none 0 0, errV p 8]) ∨ formB c = true ∧ ∃ v, e = .returned (.tuple #[v, .nilIface]) ∧ SlY w w' v (bytesL c)) ∧ Below w.heap.size w w' := by
  have B0 := hide (bel_new w (codeO vP vC vF vB c))
  have K0 := hide (show (w.alloc (codeO vP vC vF vB c)).heap[w.heap.size]? = some (.cells #[vP, .int .i64 c.M, .int .i64 c.A, vC, vF, .int .i64 c.mn, vB] 27 (0, 0)) from Go.Deep.blk_alloc_new _ _)
  have CK := hide (check_any (hc.bel B0.out) (h.bel B0.out))
  have V0 := hide h
  obtain ⟨g0, g1, g2, g3, g4, g5, g6⟩ := cells7 K0.out
  obtain ⟨aP, cP, eP, _, hmP⟩ := h.P.form
  obtain ⟨aC, cC, eC, _, hmC⟩ := h.C.form
  obtain ⟨aF, cF, eF, _, hmF⟩ := h.F.form
  obtain ⟨aB, cB, eB, _, hmB⟩ := h.B.form
  subst eP eC eF eB
  clear h hc hmP hmC hmF hmB g0 g1 g2 g3 g4 g5 g6
  unfold codeA codeO at *
  go_enter Tryd.func11, Tryd.ntmps11
  go_wp2_with fail
  refine CK.out.mono ?_
  rintro e w2 ⟨rfl, b2⟩
  have B2 := hide (bel_trans B0.out b2)
  have K2 := hide ((b2.block _ (lt_of_blk K0.out)).trans K0.out)
  clear b2 CK K0
  cases hf : formB c with
  | false =>
    rw [show erK p false = .iface 127 (.pointer (some (adr p 8))) from rfl]
    go_wp2_with fail
    go_ret2
    exact ⟨.inl ⟨hf, rfl⟩, B2.out⟩
  | true =>
    rw [show erK p true = .nilIface from rfl]
    have B3 := hide (bel_trans B2.out (bel_new w2 (.cells #[.slice none 0 0] 66)))
    have K3 := hide (((bel_new w2 (.cells #[.slice none 0 0] 66)).block _ (lt_of_blk K2.out)).trans K2.out)
    have WC := hide (wcode_any (Wr.start w2) V0.out B3.out (fun k hk => by rw [hk]; exact B2.out.size) hf)
    obtain ⟨g0, g1, g2, g3, g4, g5, g6⟩ := cells7 K3.out
    have HF := hide hf
    clear hf
    unfold codeA at WC
    go_wp2_with fail
    refine WC.out.mono ?_
    rintro e w4 ⟨rfl, G4, x4, c4⟩
    have B4 := hide (B3.out.trans (c4.bel (B := w.heap.size) (fun k hk => by rw [hk]; exact B2.out.size) B3.out.size))
    have N4 : Hid (∀ k, G4 k → w.heap.size ≤ k) := hide (c4.low (fun k hk => by rw [hk]; exact B2.out.size) B3.out.size)
    clear c4 WC g0 g1 g2 g3 g4 g5 g6 K3
    obtain ⟨v4, y4⟩ := x4
    obtain ⟨a4, k4, e4, _⟩ := own_slice y4.own
    have c0 := blk_cell y4.at_ 0 _ rfl
    have Y4 := hide y4
    clear y4
    subst e4
    go_wp2_with fail
    go_ret2
    exact ⟨.inr ⟨HF.out, _, rfl, Y4.out.own, fun k hk => N4.out k ((Y4.out.gg k).2 (.inr hk))⟩, B4.out⟩
end Go.Proofs.YtoboeipmhfnfdaaDoor.Ck
