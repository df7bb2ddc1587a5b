/- Texts of this proof, packed. -/
import Derived.Test.YtidjbgemnohbnaaDoorGq4
/- What the statements of layer 14 ask of a code's length (long). -/
namespace Go.Proofs.YtidjbgemnohbnaaDoor.Ck
open Go.RowKit

theorem wrapS {z : Int} (h1 : 0 ≤ z) (h2 : z ≤ 9000000000000000000) : wrap64 z = z := by unfold wrap64; omega
theorem add_len {m n : Nat} (h1 : m ≤ 422212465053696) (h2 : n ≤ 140737488351232) : wrap64 (1 + (n : Int)) = 1 + (n : Int) ∧ wrap64 ((m : Int) + (1 + (n : Int))) = ((m + (1 + n) : Nat) : Int) := by
  refine ⟨wrapS (by omega) (by omega), ?_⟩
  have e := wrapS (z := (m : Int) + (1 + (n : Int))) (by omega) (by omega)
  rw [e]
  omega
theorem big_of {m2 m N s n : Nat} (h1 : m2 = m + (1 + n)) (h2 : m = N + s) (h : 20000 < m2) : 20000 < N + s + (1 + n) := by omega
theorem next_of {m2 m N s s2 n : Nat} (h1 : m2 = m + (1 + n)) (h2 : m = N + s) (h3 : s2 = s + (1 + n)) : m2 = N + s2 := by omega
theorem dec_cast (m : Nat) : decide ((20000 : Int) < (m : Int)) = decide (20000 < m) := decide_eq_decide.2 (by omega)
theorem succ_len {k n : Nat} (h : k < n) (h2 : n ≤ 140737488351232) : wrap64 ((k : Int) + 1) = ((k + 1 : Nat) : Int) := by
  rw [wrapS (z := (k : Int) + 1) (by omega) (by omega)]
  omega
theorem three_len {a b d n : Nat} (h1 : a ≤ 140737488351232) (h2 : b ≤ 140737488351232) (h3 : d ≤ 140737488351232) (hn : n = a + b + d) : wrap64 ((a : Int) + (b : Int)) = (a : Int) + (b : Int) ∧ wrap64 ((a : Int) + (b : Int) + (d : Int)) = (n : Int) ∧ n ≤ 422212465053696 := by
  refine ⟨wrapS (by omega) (by omega), ?_, by omega⟩
  rw [wrapS (by omega) (by omega)]
  omega
theorem meas_len {n k : Nat} {z : Int} (h : z = ((k + 1 : Nat) : Int)) (hlt : k < n) : n - (intOf (.int .i64 z)).toNat < n - (intOf (.int .i64 (k : Int))).toNat := by
  subst h
  simp only [intOf, Int.toNat_natCast]
  omega
def sumL (F : List Fn3) : Nat := (F.map (fun f => 1 + f.lo.length)).sum
def lenC (c : Cd) : Nat := c.P.length + c.C.length + c.B.length + sumL c.F
def longB (c : Cd) : Bool := decide (20000 < lenC c)
theorem sum_take (F : List Fn3) (k : Nat) (h : k < F.length) : sumL (F.take (k + 1)) = sumL (F.take k) + (1 + (F.getD k zF).lo.length) := by
  unfold sumL
  rw [List.take_add_one, List.getD_eq_getElem?_getD, List.getElem?_eq_getElem h]
  simp only [Option.toList_some, List.map_append, List.map_cons, List.map_nil, List.sum_append, List.sum_cons, List.sum_nil, Option.getD_some, Nat.add_zero]
theorem sum_le (F : List Fn3) (k : Nat) : sumL (F.take k) ≤ sumL F := by
  have h := congrArg (fun l => sumL l) (List.take_append_drop k F)
  simp only [sumL, List.map_append, List.sum_append] at h ⊢
  omega
end Go.Proofs.YtidjbgemnohbnaaDoor.Ck

/- What the statements of layer 16 ask of a code (long). (Cra with another bound.) -/
namespace Go.Proofs.YtidjbgemnohbnaaDoor.Ck
open Go.RowKit

theorem big_of3 {m2 m N s n : Nat} (h1 : m2 = m + (1 + n)) (h2 : m = N + s) (h : 3000 < m2) : 3000 < N + s + (1 + n) := by omega
theorem dec_cast3 (m : Nat) : decide ((3000 : Int) < (m : Int)) = decide (3000 < m) := decide_eq_decide.2 (by omega)
def lon3B (c : Cd) : Bool := decide (3000 < lenC c)

set_option maxRecDepth 3000 in
set_option maxHeartbeats 4000000 in
theorem long3_any {w : World} {vP vC vF vB : Value} {c : Cd} (h : Cv w vP vC vF vB c) : Calls Tryd.prog 6 #[codeA vP vC vF vB c] w (Vb w (.bool (lon3B c))) := by
  have B0 := hide (bel_new w (codeO vP vC vF vB c))
  have V0 := hide (fun wz (hb : Below (w.alloc (codeO vP vC vF vB c)).heap.size (w.alloc (codeO vP vC vF vB c)) wz) => h.bel (bel_trans B0.out hb))
  have X0 := hide (fun wz (hb : Below (w.alloc (codeO vP vC vF vB c)).heap.size (w.alloc (codeO vP vC vF vB c)) wz) => (hb.block w.heap.size (by simp)).trans (show (w.alloc (codeO vP vC vF vB c)).heap[w.heap.size]? = some (codeO vP vC vF vB c) from Go.Deep.blk_alloc_new _ _))
  have hL := h.L
  obtain ⟨aP, cP, rfl, _, hmP⟩ := h.P.form
  obtain ⟨aC, cC, rfl, _, hmC⟩ := h.C.form
  obtain ⟨aF, cF, rfl, _, hmF⟩ := h.F.form
  obtain ⟨aB, cB, rfl, _, hmB⟩ := h.B.form
  have hF := hide (fun wz (hb : Below (w.alloc (.cells #[.slice aP c.P.length cP, .int .i64 c.M, .int .i64 c.A, .slice aC c.C.length cC, .slice aF c.F.length cF, .int .i64 c.mn, .slice aB c.B.length cB] 27)).heap.size (w.alloc (.cells #[.slice aP c.P.length cP, .int .i64 c.M, .int .i64 c.A, .slice aC c.C.length cC, .slice aF c.F.length cF, .int .i64 c.mn, .slice aB c.B.length cB] 27)) wz) i (hi : i < c.F.length) => (by
    obtain ⟨a, cp, e, _, _, h⟩ := (V0.out wz hb).F
    cases e
    exact h i hi : ∃ b off vl, aF = some ⟨b, off, none⟩ ∧ b < _ ∧ _))
  have HLo := hide (fun k (hk : k < c.F.length) => (show (c.F.getD k zF).lo.length ≤ 140737488351232 by
    refine hL.L _ ?_
    rw [List.getD_eq_getElem?_getD, List.getElem?_eq_getElem hk]
    exact List.getElem_mem hk))
  have l1 := hL.P
  have l2 := hL.C
  have l3 := hL.B
  have HLF := hide hL.F
  obtain ⟨N0, hN0⟩ : ∃ N0, N0 = c.P.length + c.C.length + c.B.length := ⟨_, rfl⟩
  have HY := hide (fun k (hk : k < c.F.length) (hs : 3000 < N0 + sumL (c.F.take k) + (1 + (c.F.getD k zF).lo.length)) => (show lon3B c = true by
    have h1 := sum_take c.F k hk
    have h2 := sum_le c.F (k + 1)
    unfold lon3B lenC
    rw [decide_eq_true_eq]
    omega))
  have HZ : Hid (lon3B c = decide (3000 < N0 + sumL c.F)) := hide (by unfold lon3B lenC; rw [hN0])
  obtain ⟨hn1, hn2, hN1⟩ := three_len l1 l2 l3 hN0
  generalize lon3B c = r at *
  clear h hL hmP hmC hmF hmB hN0 l1 l2 l3
  unfold codeA codeO at *
  go_enter Tryd.func6, Tryd.ntmps6
  go_wp2_with fail
  generalize w.alloc (.cells #[.slice aP c.P.length cP, .int .i64 c.M, .int .i64 c.A, .slice aC c.C.length cC, .slice aF c.F.length cF, .int .i64 c.mn, .slice aB c.B.length cB] 27) = W1 at *
  generalize hnF : c.F.length = nF at *
  have HnF := hide hnF
  have HN2 := hide hn2
  have HN1 := hide hN1
  clear hnF hn1 hn2 hN1
  go_loopw [3, 5, 20] (fun a u5 i wr => ∃ (k m : Nat), k ≤ nF ∧ i = .int .i64 k ∧ a = .int .i64 m ∧ Hid (m = N0 + sumL (c.F.take k)) ∧ Hid (k = 0 ∨ m ≤ 3000) ∧ Hid (Below W1.heap.size W1 wr)) (fun a u5 i _ => nF - (intOf i).toNat)
  case atStart => exact ⟨0, N0, Nat.zero_le _, rfl, congrArg (Value.int .i64) HN2.out, hide (by simp [sumL]), hide (.inl rfl), hide (Below.refl _ _)⟩
  case round =>
    obtain ⟨k, m, hk, rfl, rfl, hm, hm2, hbel⟩ := hrel
    by_cases hlt : k < nF
    · have h1 : (k : Int) < (nF : Int) := by omega
      obtain ⟨b1, o1, vk, rfl, hbk, f1, f2, f3, f4⟩ := hF.out _ hbel.out k hlt
      have hlo := HLo.out k hlt
      have hy := hide (HY.out k hlt)
      have hst := hide (sum_take c.F k (by rw [HnF.out]; exact hlt))
      obtain ⟨ak, ck, rfl, _, _⟩ := f4.form
      generalize c.F.getD k zF = f at *
      have HM : Hid (m ≤ 422212465053696) := hide (hm2.out.elim (fun h => by
        have h9 := hm.out
        rw [h] at h9
        simp [sumL] at h9
        rw [h9]
        exact HN1.out) (fun h => Nat.le_trans h (by decide)))
      obtain ⟨e1, e2⟩ := add_len HM.out hlo
      obtain ⟨m2, hm3⟩ : ∃ m2 : Nat, m2 = m + (1 + f.lo.length) := ⟨_, rfl⟩
      rw [← hm3] at e2
      have HM3 := hide hm3
      have Bb := hide (bel_trans hbel.out (bel_new wr (.cells #[.int .i64 f.st, .int .i64 f.pa, .slice ak f.lo.length ck] 46)))
      clear hlo hm3 HM f4 HLo hF HY HZ hm2
      generalize f.lo.length = nk at *
      by_cases hbig : 3000 < m2
      · have hb1 : decide ((3000 : Int) < (m2 : Int)) = true := by rw [dec_cast3]; exact decide_eq_true hbig
        have hr := hy.out (big_of3 HM3.out hm.out hbig)
        subst hr
        clear hbig
        go_wp2_with fail
        go_ret
        exact ⟨rfl, bel_trans B0.out Bb.out⟩
      · have hb1 : decide ((3000 : Int) < (m2 : Int)) = false := by rw [dec_cast3]; exact decide_eq_false hbig
        have E2 := hide e2
        have HK1 := hide (succ_len hlt HLF.out)
        have HB2 : Hid (m2 ≤ 3000) := hide (Nat.le_of_not_lt hbig)
        clear hbig
        go_wp2_with fail
        clear e1 e2 hb1 h1
        refine ⟨⟨k + 1, m2, Nat.succ_le_of_lt hlt, ?_, ?_, hide (next_of HM3.out hm.out hst.out), hide (Or.inr HB2.out), Bb⟩, ?_⟩
        · rw [HK1.out]
        · rw [E2.out]
        · exact meas_len HK1.out hlt
    · obtain rfl : k = nF := by omega
      have hm' : m = N0 + sumL c.F := by rw [hm.out, ← HnF.out, List.take_length]
      rw [← hm'] at HZ
      have hz := HZ.out
      have HBB := hide (bel_trans B0.out hbel.out)
      rw [← dec_cast3] at hz
      subst hz
      clear hF HY HLo hm hm2 hm' HnF
      go_wp2_with fail
      go_ret
      exact ⟨rfl, HBB.out⟩
end Go.Proofs.YtidjbgemnohbnaaDoor.Ck
