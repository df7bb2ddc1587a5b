/- Texts of this proof, packed. -/
import Derived.Test.YtaccdblbnogigaaDoorGq11
import Derived.Test.YtaccdblbnogigaaDoorGq13
import Derived.Test.YtaccdblbnogigaaDoorNumQ
import Derived.Test.YtaccdblbnogigaaDoorGq4
import Derived.Test.YtaccdblbnogigaaDoorQtQ
/- The examples of the chapter (alive's code of one function). -/
namespace Go.Proofs.YtaccdblbnogigaaDoor.Ck
open Go.RowKit

set_option maxRecDepth 20000 in
set_option maxHeartbeats 2000000 in
theorem alive1_any {w : World} {vB : Value} {B : List In5} (h : SlB w vB B) (hI : ∀ x ∈ B, InX x) (hl : B.length ≤ 100000) : Calls Tryd.prog 14 #[vB] w (fun e w' => ∃ vF, e = .returned (codeA (.slice none 0 0) (.slice none 0 0) vF vB (oneF B)) ∧ Cv w' (.slice none 0 0) (.slice none 0 0) vF vB (oneF B) ∧ Below w.heap.size w w') := by
  obtain ⟨aB, cB, rfl, _⟩ := h.form
  have HB := hide (And.intro h (And.intro hI hl))
  obtain ⟨n, hn⟩ : ∃ n, n = B.length := ⟨_, rfl⟩
  rw [← hn] at HB ⊢
  have HN := hide hn
  unfold codeA
  clear h hI hl hn
  go_enter Tryd.func14, Tryd.ntmps14
  go_wp2_with fail
  obtain ⟨h, hI, hl⟩ := HB.out
  have b1 := bel_new w (.cells #[.slice none 0 0, .int .i64 0, .int .i64 0, .slice none 0 0, .slice (some ⟨w.heap.size + 1, 0, none⟩) 1 1, .int .i64 0, .slice aB n cB] 27)
  have k1 : (w.alloc (.cells #[.slice none 0 0, .int .i64 0, .int .i64 0, .slice none 0 0, .slice (some ⟨w.heap.size + 1, 0, none⟩) 1 1, .int .i64 0, .slice aB n cB] 27)).heap[w.heap.size]? = some (.cells #[.slice none 0 0, .int .i64 0, .int .i64 0, .slice none 0 0, .slice (some ⟨w.heap.size + 1, 0, none⟩) 1 1, .int .i64 0, .slice aB n cB] 27 (0, 0)) := Go.Deep.blk_alloc_new _ _
  have s1 : (w.alloc (.cells #[.slice none 0 0, .int .i64 0, .int .i64 0, .slice none 0 0, .slice (some ⟨w.heap.size + 1, 0, none⟩) 1 1, .int .i64 0, .slice aB n cB] 27)).heap.size = w.heap.size + 1 := by simp
  generalize w.alloc (.cells #[.slice none 0 0, .int .i64 0, .int .i64 0, .slice none 0 0, .slice (some ⟨w.heap.size + 1, 0, none⟩) 1 1, .int .i64 0, .slice aB n cB] 27) = w1 at *
  have b2 := bel_new w1 (.cells #[.int .i64 0, .int .i64 0, .slice none 0 0] 46)
  have k2 : (w1.alloc (.cells #[.int .i64 0, .int .i64 0, .slice none 0 0] 46)).heap[w1.heap.size]? = some (.cells #[.int .i64 0, .int .i64 0, .slice none 0 0] 46 (0, 0)) := Go.Deep.blk_alloc_new _ _
  rw [s1] at k2
  have k1' := (b2.block _ (lt_of_blk k1)).trans k1
  have B2 := bel_trans b1 b2
  exact ret_agg w.heap.size _ rfl rfl rfl k1' Tryd.underlying27 (by kernel_rfl) rfl ⟨_, rfl, Cv.one k2 (h.bel B2) hI (by have e := HN.out; omega), B2⟩
end Go.Proofs.YtaccdblbnogigaaDoor.Ck

/- The examples of the chapter (alive). -/
namespace Go.Proofs.YtaccdblbnogigaaDoor.Ck
open Go.RowKit

theorem SlB.ofL {w : World} {g : Nat} {l : List In5} (h : w.heap[g]? = some (.cells (insL l).toArray 44 (0, 0))) (hl : l.length ≤ 100000) : SlB w (.slice (some ⟨g, 0, none⟩) l.length l.length) l :=
  OwnB.sl (B := 0) ⟨insL_len l, .inr ⟨g, l.length, (insL l).toArray, rfl, Nat.zero_le _, h, Nat.le_refl _, by unfold maxLen; omega, by rw [List.size_toArray, insL_len], by rw [List.take_of_length_le]; rw [insL_len]; exact Nat.le_refl _⟩⟩ hl
abbrev codeN (vF vB : Value) : Value := .agg #[.slice none 0 0, .int .i64 0, .int .i64 0, .slice none 0 0, vF, .int .i64 0, vB]
/-- alive's code, made and asked for -/
theorem alive1_at {w wz : World} (hz : Below w.heap.size w wz) (B : List In5) (n : Nat) (hn : n = B.length) (hI : ∀ x ∈ B, InX x) (hl : B.length ≤ 100000) : Calls Tryd.prog 14 #[.slice (some ⟨wz.heap.size, 0, none⟩) n n] (wz.alloc (.cells (insL B).toArray 44)) (fun e w' => ∃ vF, e = .returned (codeN vF (.slice (some ⟨wz.heap.size, 0, none⟩) n n)) ∧ Cv w' (.slice none 0 0) (.slice none 0 0) vF (.slice (some ⟨wz.heap.size, 0, none⟩) n n) (oneF B) ∧ Below w.heap.size w w') := by
  subst hn
  exact (alive1_any (SlB.ofL (Go.Deep.blk_alloc_new wz _) hl) hI hl).mono fun _ _ ⟨vF, h1, h2, h3⟩ => ⟨vF, h1, h2, hz.trans (((bel_new wz _).mono hz.size).trans (h3.mono (Nat.le_trans hz.size (bel_new wz _).size)))⟩
def x24 : In5 := ⟨24, 0, 0, 0, 0⟩
def x12 : In5 := ⟨12, 0, 0, 0, 0⟩
def x1 : In5 := ⟨1, 1, 0, 0, 0⟩
def x25 : In5 := ⟨25, 0, 0, 0, 0⟩
theorem read_a : readM (oneF [x24, x12]) = some [[], []] := by kernel_rfl
theorem read_b : readM (oneF [x12]) = none := by kernel_rfl
theorem read_c : readM (oneF [x1, x25]) = none := by kernel_rfl
theorem inX_a : ∀ x ∈ [x24, x12], InX x := fun x hx => by
  simp at hx
  rcases hx with rfl | rfl <;> exact inX_of (by decide) (by decide) (by decide)
theorem inX_b : ∀ x ∈ [x12], InX x := fun x hx => by
  simp at hx
  rcases hx with rfl <;> exact inX_of (by decide) (by decide) (by decide)
theorem inX_c : ∀ x ∈ [x1, x25], InX x := fun x hx => by
  simp at hx
  rcases hx with rfl | rfl <;> exact inX_of (by decide) (by decide) (by decide)
set_option maxRecDepth 20000 in
set_option maxHeartbeats 2000000 in
theorem alive16_any {w : World} {p : List Addr} (ev : Errs17 w p) : Calls Tryd.prog 5 #[] w (Vb w (.bool true)) := by
  have P1 := hide (fun wz (hz : Below w.heap.size w wz) => alive1_at hz [x24, x12] 2 rfl inX_a (by decide))
  have P2 := hide (fun wz (hz : Below w.heap.size w wz) => alive1_at hz [x12] 1 rfl inX_b (by decide))
  have P3 := hide (fun wz (hz : Below w.heap.size w wz) => alive1_at hz [x1, x25] 2 rfl inX_c (by decide))
  have PC := hide (fun wz (hz : Below w.heap.size w wz) vF vB B (h : Cv wz (.slice none 0 0) (.slice none 0 0) vF vB (oneF B)) => (show Calls Tryd.prog 8 #[codeN vF vB] wz (Vb wz (erR p (readM (oneF B)))) from pcheck_any (p := p) ((show Ec w p from ev.cell 8 (by omega)).bel hz) h))
  have PN := hide (fun wz (hz : Below w.heap.size w wz) => (show Calls Tryd.prog 11 #[errV p 8] wz (fun e w' => e = .returned (.int .i64 9) ∧ Below wz.heap.size wz w') from num_err p 8 wz (ev.below (Nat.le_refl _) hz) (by omega)))
  clear ev
  go_enter Tryd.func5, Tryd.ntmps5
  go_wp2_with fail
  refine (P1.out _ (Below.refl _ _)).mono ?_
  rintro e w2 ⟨vF, rfl, c2, b2⟩
  have CK := hide (PC.out _ b2 _ _ _ c2)
  have B2 := hide b2
  rw [show erR p (readM (oneF [x24, x12])) = .nilIface by rw [read_a]; rfl] at CK
  clear c2 b2 P1
  go_wp2_with fail
  refine CK.out.mono ?_
  rintro e w3 ⟨rfl, b3⟩
  have B3 := hide (bel_trans B2.out b3)
  clear b3 B2 CK
  go_wp2_with fail
  refine (P2.out _ B3.out).mono ?_
  rintro e w4 ⟨vF, rfl, c2, b2⟩
  have CK := hide (PC.out _ b2 _ _ _ c2)
  have B4 := hide b2
  rw [show erR p (readM (oneF [x12])) = errV p 8 by rw [read_b]; rfl] at CK
  clear c2 b2 P2
  go_wp2_with fail
  refine CK.out.mono ?_
  rintro e w5 ⟨rfl, b3⟩
  have B5 := hide (bel_trans B4.out b3)
  clear b3 B4 CK
  go_wp2_with fail
  refine (PN.out _ B5.out).mono ?_
  rintro e w6 ⟨rfl, b3⟩
  have B6 := hide (bel_trans B5.out b3)
  clear b3 B5
  go_wp2_with fail
  refine (P3.out _ B6.out).mono ?_
  rintro e w7 ⟨vF, rfl, c2, b2⟩
  have CK := hide (PC.out _ b2 _ _ _ c2)
  have B7 := hide b2
  rw [show erR p (readM (oneF [x1, x25])) = errV p 8 by rw [read_c]; rfl] at CK
  clear c2 b2 P3
  go_wp2_with fail
  refine CK.out.mono ?_
  rintro e w8 ⟨rfl, b3⟩
  have B8 := hide (bel_trans B7.out b3)
  clear b3 B7 CK
  go_wp2_with fail
  refine (PN.out _ B8.out).mono ?_
  rintro e w9 ⟨rfl, b3⟩
  have B9 := hide (bel_trans B8.out b3)
  clear b3 B8
  go_wp2_with fail
  go_ret
  exact ⟨rfl, B9.out⟩
end Go.Proofs.YtaccdblbnogigaaDoor.Ck

/- What the statements of layer 14 ask of a code's length (long). -/
namespace Go.Proofs.YtaccdblbnogigaaDoor.Ck
open Go.RowKit

theorem wrapS {z : Int} (h1 : 0 ≤ z) (h2 : z ≤ 9000000000000000000) : wrap64 z = z := by unfold wrap64; omega
theorem add_len {m n : Nat} (h1 : m ≤ 422212465053696) (h2 : n ≤ 140737488351232) : wrap64 (1 + (n : Int)) = 1 + (n : Int) ∧ wrap64 ((m : Int) + (1 + (n : Int))) = ((m + (1 + n) : Nat) : Int) := by
  refine ⟨wrapS (by omega) (by omega), ?_⟩
  have e := wrapS (z := (m : Int) + (1 + (n : Int))) (by omega) (by omega)
  rw [e]
  omega
theorem big_of {m2 m N s n : Nat} (h1 : m2 = m + (1 + n)) (h2 : m = N + s) (h : 20000 < m2) : 20000 < N + s + (1 + n) := by omega
theorem next_of {m2 m N s s2 n : Nat} (h1 : m2 = m + (1 + n)) (h2 : m = N + s) (h3 : s2 = s + (1 + n)) : m2 = N + s2 := by omega
theorem dec_cast (m : Nat) : decide ((20000 : Int) < (m : Int)) = decide (20000 < m) := decide_eq_decide.2 (by omega)
theorem succ_len {k n : Nat} (h : k < n) (h2 : n ≤ 140737488351232) : wrap64 ((k : Int) + 1) = ((k + 1 : Nat) : Int) := by
  rw [wrapS (z := (k : Int) + 1) (by omega) (by omega)]
  omega
theorem three_len {a b d n : Nat} (h1 : a ≤ 140737488351232) (h2 : b ≤ 140737488351232) (h3 : d ≤ 140737488351232) (hn : n = a + b + d) : wrap64 ((a : Int) + (b : Int)) = (a : Int) + (b : Int) ∧ wrap64 ((a : Int) + (b : Int) + (d : Int)) = (n : Int) ∧ n ≤ 422212465053696 := by
  refine ⟨wrapS (by omega) (by omega), ?_, by omega⟩
  rw [wrapS (by omega) (by omega)]
  omega
theorem meas_len {n k : Nat} {z : Int} (h : z = ((k + 1 : Nat) : Int)) (hlt : k < n) : n - (intOf (.int .i64 z)).toNat < n - (intOf (.int .i64 (k : Int))).toNat := by
  subst h
  simp only [intOf, Int.toNat_natCast]
  omega
def sumL (F : List Fn3) : Nat := (F.map (fun f => 1 + f.lo.length)).sum
def lenC (c : Cd) : Nat := c.P.length + c.C.length + c.B.length + sumL c.F
def longB (c : Cd) : Bool := decide (20000 < lenC c)
theorem sum_take (F : List Fn3) (k : Nat) (h : k < F.length) : sumL (F.take (k + 1)) = sumL (F.take k) + (1 + (F.getD k zF).lo.length) := by
  unfold sumL
  rw [List.take_add_one, List.getD_eq_getElem?_getD, List.getElem?_eq_getElem h]
  simp only [Option.toList_some, List.map_append, List.map_cons, List.map_nil, List.sum_append, List.sum_cons, List.sum_nil, Option.getD_some, Nat.add_zero]
theorem sum_le (F : List Fn3) (k : Nat) : sumL (F.take k) ≤ sumL F := by
  have h := congrArg (fun l => sumL l) (List.take_append_drop k F)
  simp only [sumL, List.map_append, List.sum_append] at h ⊢
  omega
end Go.Proofs.YtaccdblbnogigaaDoor.Ck

/- What the statements of layer 16 ask of a code (long). (Cra with another bound.) -/
namespace Go.Proofs.YtaccdblbnogigaaDoor.Ck
open Go.RowKit

theorem big_of3 {m2 m N s n : Nat} (h1 : m2 = m + (1 + n)) (h2 : m = N + s) (h : 3000 < m2) : 3000 < N + s + (1 + n) := by omega
theorem dec_cast3 (m : Nat) : decide ((3000 : Int) < (m : Int)) = decide (3000 < m) := decide_eq_decide.2 (by omega)
def lon3B (c : Cd) : Bool := decide (3000 < lenC c)

set_option maxRecDepth 3000 in
set_option maxHeartbeats 4000000 in
theorem long3_any {w : World} {vP vC vF vB : Value} {c : Cd} (h : Cv w vP vC vF vB c) : Calls Tryd.prog 6 #[codeA vP vC vF vB c] w (Vb w (.bool (lon3B c))) := by
  have B0 := hide (bel_new w (codeO vP vC vF vB c))
  have V0 := hide (fun wz (hb : Below (w.alloc (codeO vP vC vF vB c)).heap.size (w.alloc (codeO vP vC vF vB c)) wz) => h.bel (bel_trans B0.out hb))
  have X0 := hide (fun wz (hb : Below (w.alloc (codeO vP vC vF vB c)).heap.size (w.alloc (codeO vP vC vF vB c)) wz) => (hb.block w.heap.size (by simp)).trans (show (w.alloc (codeO vP vC vF vB c)).heap[w.heap.size]? = some (codeO vP vC vF vB c) from Go.Deep.blk_alloc_new _ _))
  have hL := h.L
  obtain ⟨aP, cP, rfl, _, hmP⟩ := h.P.form
  obtain ⟨aC, cC, rfl, _, hmC⟩ := h.C.form
  obtain ⟨aF, cF, rfl, _, hmF⟩ := h.F.form
  obtain ⟨aB, cB, rfl, _, hmB⟩ := h.B.form
  have hF := hide (fun wz (hb : Below (w.alloc (.cells #[.slice aP c.P.length cP, .int .i64 c.M, .int .i64 c.A, .slice aC c.C.length cC, .slice aF c.F.length cF, .int .i64 c.mn, .slice aB c.B.length cB] 27)).heap.size (w.alloc (.cells #[.slice aP c.P.length cP, .int .i64 c.M, .int .i64 c.A, .slice aC c.C.length cC, .slice aF c.F.length cF, .int .i64 c.mn, .slice aB c.B.length cB] 27)) wz) i (hi : i < c.F.length) => (by
    obtain ⟨a, cp, e, _, _, h⟩ := (V0.out wz hb).F
    cases e
    exact h i hi : ∃ b off vl, aF = some ⟨b, off, none⟩ ∧ b < _ ∧ _))
  have HLo := hide (fun k (hk : k < c.F.length) => (show (c.F.getD k zF).lo.length ≤ 140737488351232 by
    refine hL.L _ ?_
    rw [List.getD_eq_getElem?_getD, List.getElem?_eq_getElem hk]
    exact List.getElem_mem hk))
  have l1 := hL.P
  have l2 := hL.C
  have l3 := hL.B
  have HLF := hide hL.F
  obtain ⟨N0, hN0⟩ : ∃ N0, N0 = c.P.length + c.C.length + c.B.length := ⟨_, rfl⟩
  have HY := hide (fun k (hk : k < c.F.length) (hs : 3000 < N0 + sumL (c.F.take k) + (1 + (c.F.getD k zF).lo.length)) => (show lon3B c = true by
    have h1 := sum_take c.F k hk
    have h2 := sum_le c.F (k + 1)
    unfold lon3B lenC
    rw [decide_eq_true_eq]
    omega))
  have HZ : Hid (lon3B c = decide (3000 < N0 + sumL c.F)) := hide (by unfold lon3B lenC; rw [hN0])
  obtain ⟨hn1, hn2, hN1⟩ := three_len l1 l2 l3 hN0
  generalize lon3B c = r at *
  clear h hL hmP hmC hmF hmB hN0 l1 l2 l3
  unfold codeA codeO at *
  go_enter Tryd.func6, Tryd.ntmps6
  go_wp2_with fail
  generalize w.alloc (.cells #[.slice aP c.P.length cP, .int .i64 c.M, .int .i64 c.A, .slice aC c.C.length cC, .slice aF c.F.length cF, .int .i64 c.mn, .slice aB c.B.length cB] 27) = W1 at *
  generalize hnF : c.F.length = nF at *
  have HnF := hide hnF
  have HN2 := hide hn2
  have HN1 := hide hN1
  clear hnF hn1 hn2 hN1
  go_loopw [3, 5, 20] (fun a u5 i wr => ∃ (k m : Nat), k ≤ nF ∧ i = .int .i64 k ∧ a = .int .i64 m ∧ Hid (m = N0 + sumL (c.F.take k)) ∧ Hid (k = 0 ∨ m ≤ 3000) ∧ Hid (Below W1.heap.size W1 wr)) (fun a u5 i _ => nF - (intOf i).toNat)
  case atStart => exact ⟨0, N0, Nat.zero_le _, rfl, congrArg (Value.int .i64) HN2.out, hide (by simp [sumL]), hide (.inl rfl), hide (Below.refl _ _)⟩
  case round =>
    obtain ⟨k, m, hk, rfl, rfl, hm, hm2, hbel⟩ := hrel
    by_cases hlt : k < nF
    · have h1 : (k : Int) < (nF : Int) := by omega
      obtain ⟨b1, o1, vk, rfl, hbk, f1, f2, f3, f4⟩ := hF.out _ hbel.out k hlt
      have hlo := HLo.out k hlt
      have hy := hide (HY.out k hlt)
      have hst := hide (sum_take c.F k (by rw [HnF.out]; exact hlt))
      obtain ⟨ak, ck, rfl, _, _⟩ := f4.form
      generalize c.F.getD k zF = f at *
      have HM : Hid (m ≤ 422212465053696) := hide (hm2.out.elim (fun h => by
        have h9 := hm.out
        rw [h] at h9
        simp [sumL] at h9
        rw [h9]
        exact HN1.out) (fun h => Nat.le_trans h (by decide)))
      obtain ⟨e1, e2⟩ := add_len HM.out hlo
      obtain ⟨m2, hm3⟩ : ∃ m2 : Nat, m2 = m + (1 + f.lo.length) := ⟨_, rfl⟩
      rw [← hm3] at e2
      have HM3 := hide hm3
      have Bb := hide (bel_trans hbel.out (bel_new wr (.cells #[.int .i64 f.st, .int .i64 f.pa, .slice ak f.lo.length ck] 46)))
      clear hlo hm3 HM f4 HLo hF HY HZ hm2
      generalize f.lo.length = nk at *
      by_cases hbig : 3000 < m2
      · have hb1 : decide ((3000 : Int) < (m2 : Int)) = true := by rw [dec_cast3]; exact decide_eq_true hbig
        have hr := hy.out (big_of3 HM3.out hm.out hbig)
        subst hr
        clear hbig
        go_wp2_with fail
        go_ret
        exact ⟨rfl, bel_trans B0.out Bb.out⟩
      · have hb1 : decide ((3000 : Int) < (m2 : Int)) = false := by rw [dec_cast3]; exact decide_eq_false hbig
        have E2 := hide e2
        have HK1 := hide (succ_len hlt HLF.out)
        have HB2 : Hid (m2 ≤ 3000) := hide (Nat.le_of_not_lt hbig)
        clear hbig
        go_wp2_with fail
        clear e1 e2 hb1 h1
        refine ⟨⟨k + 1, m2, Nat.succ_le_of_lt hlt, ?_, ?_, hide (next_of HM3.out hm.out hst.out), hide (Or.inr HB2.out), Bb⟩, ?_⟩
        · rw [HK1.out]
        · rw [E2.out]
        · exact meas_len HK1.out hlt
    · obtain rfl : k = nF := by omega
      have hm' : m = N0 + sumL c.F := by rw [hm.out, ← HnF.out, List.take_length]
      rw [← hm'] at HZ
      have hz := HZ.out
      have HBB := hide (bel_trans B0.out hbel.out)
      rw [← dec_cast3] at hz
      subst hz
      clear hF HY HLo hm hm2 hm' HnF
      go_wp2_with fail
      go_ret
      exact ⟨rfl, HBB.out⟩
end Go.Proofs.YtaccdblbnogigaaDoor.Ck

/- The statement ProofreadCodes. -/
namespace Go.Proofs.YtaccdblbnogigaaDoor.Ck
open Go.RowKit

theorem suml_len (F : List Fn3) : F.length ≤ sumL F := by
  unfold sumL
  induction F with
  | nil => simp
  | cons f F ih => simp at ih ⊢; omega
theorem suml_mem (F : List Fn3) (f : Fn3) (hf : f ∈ F) : f.lo.length ≤ sumL F := by
  unfold sumL
  induction F with
  | nil => cases hf
  | cons g F ih =>
    rw [List.mem_cons] at hf
    rcases hf with rfl | hf
    · simp; omega
    · have := ih hf
      simp at this ⊢
      omega
theorem sml3 {c : Cd} (h : lon3B c = false) : Sml c := by
  unfold lon3B lenC at h
  have h' := of_decide_eq_false h
  have h2 := suml_len c.F
  exact ⟨by omega, by omega, by omega, by omega, fun f hf => by have := suml_mem c.F f hf; omega⟩
theorem row_sl {w : World} {B : Nat} {v : Value} {t : List Int} (o : w.ownsRow B 3 1 v t.length (nts t)) (hf : Fits t) : Sl w v t := by
  obtain ⟨a, cc, rfl, e1, e2⟩ := own_slice o
  refine ⟨hf, a, cc, rfl, e1, e2, fun j hj => ?_⟩
  obtain ⟨b, c', eb, _⟩ := own_some o (by omega)
  cases eb
  refine ⟨b, 0, rfl, (own_type o (k := b) rfl).2.1, ?_⟩
  rw [Nat.zero_add]
  exact (own_cell o _ _ (nts_at (by rw [List.getD_eq_getElem?_getD, List.getElem?_eq_getElem hj]; rfl))).1
set_option maxRecDepth 20000 in
set_option maxHeartbeats 4000000 in
theorem sameInts_any {w : World} {v1 v2 : Value} {l1 l2 : List Int} (h1 : Sl w v1 l1) (h2 : Sl w v2 l2) (hn : l1.length ≤ 100000 ∧ l2.length ≤ 100000) : Calls Tryd.prog 12 #[v1, v2] w (Dr w (.bool (sameL eqN l1 l2))) := by
  obtain ⟨_, a1, c1, e1, p1, p2, h1⟩ := h1
  obtain ⟨_, a2, c2, e2, p3, p4, h2⟩ := h2
  subst e1 e2
  by_cases hl : l1.length = l2.length
  · obtain ⟨n, hn1⟩ : ∃ n, n = l1.length := ⟨_, rfl⟩
    have hs : Hid ((∀ j, j < n → eqN (l1.getD j 0) (l2.getD j 0) = true) → sameL eqN l1 l2 = true) := fun h => sameL_all 0 l1 l2 hl (fun j hj => h j (by omega))
    have hs2 : Hid (∀ k : Nat, k < n → eqN (l1.getD k 0) (l2.getD k 0) = false → sameL eqN l1 l2 = false) := fun k hk => sameL_not 0 l1 l2 k (by omega) (by omega)
    have H1 := hide h1
    have H2 := hide h2
    have HL := hide (And.intro hn1 hl)
    have hnn : n ≤ 100000 := by omega
    rw [← hl, ← hn1]
    clear hl hn1 h1 h2 hn p1 p2 p3 p4
    generalize sameL eqN l1 l2 = r at *
    go_enter Tryd.func12, Tryd.ntmps12
    go_wp2_with fail
    go_loopw [5, 13] (fun x5 i wr => ∃ k : Nat, k ≤ n ∧ i = .int .i64 k ∧ Hid (∀ j, j < k → eqN (l1.getD j 0) (l2.getD j 0) = true) ∧ Hid (∃ q, wr = w.drewN q)) (fun x5 i _ => n - (intOf i).toNat)
    case atStart => exact ⟨0, Nat.zero_le _, rfl, fun j hj => absurd hj (Nat.not_lt_zero _), 0, rfl⟩
    case round =>
      obtain ⟨k, hk, rfl, hall, hw⟩ := hrel
      obtain ⟨q, hq⟩ := hw.out
      have HQ := hide hq
      clear hw
      by_cases hlt : k < n
      · have hlt' : (k : Int) < (n : Int) := by omega
        obtain ⟨b1, o1, e1, hb1, r1⟩ := H1.out k (by have := HL.out; omega)
        obtain ⟨b2, o2, e2, hb2, s1⟩ := H2.out k (by have := HL.out; omega)
        subst e1 e2
        have t0 := drew_at hq r1
        have t1 := drew_at hq s1
        have hb1' := drew_lt hq hb1
        have hb2' := drew_lt hq hb2
        have HY : Hid (eqN (l1.getD k 0) (l2.getD k 0) = true → ∀ j, j < k + 1 → eqN (l1.getD j 0) (l2.getD j 0) = true) := fun e j hj => by
          by_cases ej : j = k
          · rw [ej]; exact e
          · exact hall.out j (by omega)
        have HNO : Hid (eqN (l1.getD k 0) (l2.getD k 0) = false → r = false) := fun e => hs2.out k hlt e
        clear hs hs2 hall H1 H2 hq hb1 hb2 r1 s1
        generalize l1.getD k 0 = x at *
        generalize l2.getD k 0 = y at *
        cases hxy : eqN x y with
        | true =>
          have hy2 := hide (HY.out hxy)
          have hne : (x != y) = false := by rw [eq_of_beq hxy]; simp
          clear HY HNO hxy
          go_wp2_with fail
          go_quiet (fail)
          go_wp2_with fail
          go_roundw
          case rel => exact ⟨k + 1, by omega, by go_num, hy2, q + _, drew_more HQ.out _⟩
          case measure => simp [intOf]; omega
        | false =>
          have hn2 := HNO.out hxy
          subst hn2
          have hne : (x != y) = true := by simpa [eqN] using hxy
          clear HY HNO hxy
          go_wp2_with fail
          go_quiet (fail)
          go_wp2_with fail
          go_ret
          exact ⟨rfl, q + _, drew_more HQ.out _⟩
      · obtain rfl : k = n := by omega
        have hr := hs.out hall.out
        subst hr
        clear hs hs2 hall H1 H2 hq
        go_wp2_with fail
        go_ret
        exact ⟨rfl, q, HQ.out⟩
  · rw [sameL_len l1 l2 hl]
    have ht : ((l1.length : Int) != (l2.length : Int)) = true := by rw [bne_iff_ne]; omega
    clear h1 h2 hl
    go_enter Tryd.func12, Tryd.ntmps12
    go_wp2_with fail
    go_ret
    exact ⟨rfl, 0, rfl⟩
set_option maxRecDepth 20000 in
set_option maxHeartbeats 8000000 in
theorem codes_main {w : World} {p : List Addr} (ev : Errs17 w p) {vP vC vF vB : Value} {c : Cd} (h : Cv w vP vC vF vB c) : Calls Tryd.prog 3 #[codeA vP vC vF vB c] w (Vb w (.bool true)) := by
  have B0 := hide (bel_new w (codeO vP vC vF vB c))
  have AL := hide (alive16_any (ev.below (Nat.le_refl _) B0.out))
  have V0 := Go.Deep.blk_alloc_new w (codeO vP vC vF vB c)
  have K0 := hide V0
  have HV := hide h
  have HE := hide ev
  obtain ⟨g0, g1, g2, g3, g4, g5, g6⟩ := cells7 V0
  have LG := hide (fun wz (b : Below w.heap.size w wz) => long3_any (h.bel b))
  have PS := hide (fun wz (b : Below w.heap.size w wz) => pstacks_any (p := p) ((show Ec w p from ev.cell 8 (by omega)).bel b) (h.bel b))
  have PC := hide (fun wz (b : Below w.heap.size w wz) => pcheck_any (p := p) ((show Ec w p from ev.cell 8 (by omega)).bel b) (h.bel b))
  have PD := hide (fun wz (b : Below w.heap.size w wz) => pdeep_any (p := p) ((show Ec w p from ev.cell 8 (by omega)).bel b) (h.bel b))
  have RS := hide (fun wz (b : Below w.heap.size w wz) (hs : Sml c) => rstacks_any (h.bel b) hs)
  have PN := hide (fun wz (hz : Below w.heap.size w wz) => (show Calls Tryd.prog 11 #[errV p 8] wz (fun e w' => e = .returned (.int .i64 9) ∧ Below wz.heap.size wz w') from num_err p 8 wz (ev.below (Nat.le_refl _) hz) (by omega)))
  obtain ⟨bz, hbz⟩ : ∃ b, b = w.heap.size := ⟨_, rfl⟩
  unfold codeO at *
  unfold codeA at LG PS PC PD RS ⊢
  clear h ev V0
  go_enter Tryd.func3, Tryd.ntmps3
  go_wp2_with fail
  refine AL.out.mono ?_
  rintro e w2 ⟨rfl, b2⟩
  have B2 := hide (bel_trans B0.out b2)
  have K2 := hide ((b2.block _ (lt_of_blk K0.out)).trans K0.out)
  clear b2 AL g0 g1 g2 g3 g4 g5 g6 K0
  obtain ⟨g0, g1, g2, g3, g4, g5, g6⟩ := cells7 K2.out
  go_wp2_with fail
  refine (LG.out _ B2.out).mono ?_
  rintro e w3 ⟨rfl, b3⟩
  have B3 := hide (bel_trans B2.out b3)
  have K3 := hide ((b3.block _ (lt_of_blk K2.out)).trans K2.out)
  clear b3 LG g0 g1 g2 g3 g4 g5 g6 K2 B2
  obtain ⟨g0, g1, g2, g3, g4, g5, g6⟩ := cells7 K3.out
  cases hl : lon3B c with
  | true =>
    go_wp2_with fail
    go_ret
    exact ⟨rfl, B3.out⟩
  | false =>
    have SM := hide (sml3 hl)
    clear hl
    go_wp2_with fail
    refine (PS.out _ B3.out).mono ?_
    intro e w4 hp4
    obtain ⟨b4, hp4⟩ := hp4
    have B4 := hide (bel_trans B3.out b4)
    have K4 := hide ((b4.block _ (lt_of_blk K3.out)).trans K3.out)
    obtain ⟨l0, l1, l2, l3, l4, l5, l6⟩ := cells7 K4.out
    have CK := hide (PC.out _ B4.out)
    cases hr : readM c with
    | none =>
      rw [hr] at hp4 CK
      subst hp4
      rw [show erR p none = errV p 8 from rfl] at CK
      have HR := hide hr
      clear b4 PS g0 g1 g2 g3 g4 g5 g6 K3 B3 hr
      go_wp2_with fail
      refine CK.out.mono ?_
      rintro e w5 ⟨rfl, b5⟩
      have B5 := hide (bel_trans B4.out b5)
      have K5 := hide ((b5.block _ (lt_of_blk K4.out)).trans K4.out)
      have DK := hide (PD.out _ B5.out)
      rw [HR.out, show erR p none = errV p 8 from rfl, show deepO none = 0 from rfl] at DK
      clear b5 CK l0 l1 l2 l3 l4 l5 l6 K4 B4
      obtain ⟨g0, g1, g2, g3, g4, g5, g6⟩ := cells7 K5.out
      go_wp2_with fail
      refine DK.out.mono ?_
      rintro e w6 ⟨rfl, b6⟩
      have B6 := hide (bel_trans B5.out b6)
      have K6 := hide ((b6.block _ (lt_of_blk K5.out)).trans K5.out)
      have RK := hide (RS.out _ B6.out SM.out)
      clear b6 DK g0 g1 g2 g3 g4 g5 g6 K5 B5
      obtain ⟨g0, g1, g2, g3, g4, g5, g6⟩ := cells7 K6.out
      go_wp2_with fail
      refine RK.out.mono ?_
      intro e w7 hp7
      obtain ⟨b7, hp7⟩ := hp7
      rw [HR.out] at hp7
      subst hp7
      have B7 := hide (bel_trans B6.out b7)
      clear b7 RK g0 g1 g2 g3 g4 g5 g6 K6 B6
      go_wp2_with fail
      refine (PN.out _ B7.out).mono ?_
      rintro e w8 ⟨rfl, b8⟩
      have B8 := hide (bel_trans B7.out b8)
      clear b8 B7
      go_wp2_with fail
      refine (PN.out _ B8.out).mono ?_
      rintro e w9 ⟨rfl, b9⟩
      have B9 := hide (bel_trans B8.out b9)
      clear b9 B8
      go_wp2_with fail
      refine (PN.out _ B9.out).mono ?_
      rintro e wA ⟨rfl, bA⟩
      have BA := hide (bel_trans B9.out bA)
      clear bA B9
      go_wp2_with fail
      go_ret
      exact ⟨rfl, BA.out⟩
    | some st =>
      rw [hr] at hp4 CK
      obtain ⟨v, vs, rfl, hst, hv, hrow⟩ := hp4
      have HST := hide hst
      have OV := hide hv
      have OR := hide hrow
      obtain ⟨av, cv, rfl, _⟩ := own_slice hv
      rw [show erR p (some st) = .nilIface from rfl] at CK
      have HR := hide hr
      obtain ⟨n, hn⟩ : ∃ q, q = st.length := ⟨_, rfl⟩
      have HN := hide hn
      rw [← hn]
      have hn9 : n ≤ 8192 := by omega
      clear b4 PS g0 g1 g2 g3 g4 g5 g6 K3 B3 hr hst hv hrow hn
      go_wp2_with fail
      refine CK.out.mono ?_
      rintro e w5 ⟨rfl, b5⟩
      have B5 := hide (bel_trans B4.out b5)
      have K5 := hide ((b5.block _ (lt_of_blk K4.out)).trans K4.out)
      have DK := hide (PD.out _ B5.out)
      rw [HR.out, show erR p (some st) = .nilIface from rfl, show deepO (some st) = (deepM st : Int) from rfl] at DK
      have C5 := hide b5
      clear b5 CK l0 l1 l2 l3 l4 l5 l6 K4 B4
      obtain ⟨g0, g1, g2, g3, g4, g5, g6⟩ := cells7 K5.out
      go_wp2_with fail
      refine DK.out.mono ?_
      rintro e w6 ⟨rfl, b6⟩
      have B6 := hide (bel_trans B5.out b6)
      have K6 := hide ((b6.block _ (lt_of_blk K5.out)).trans K5.out)
      have RK := hide (RS.out _ B6.out SM.out)
      have C6 := hide (bel_trans C5.out b6)
      clear b6 DK g0 g1 g2 g3 g4 g5 g6 K5 B5 C5
      obtain ⟨g0, g1, g2, g3, g4, g5, g6⟩ := cells7 K6.out
      go_wp2_with fail
      refine RK.out.mono ?_
      intro e w7 hp7
      obtain ⟨b7, hp7⟩ := hp7
      rw [HR.out] at hp7
      obtain ⟨u, us, rfl, hsl, hu, hrow⟩ := hp7
      obtain ⟨au, cu, rfl, _⟩ := own_slice hu
      have B7 := hide (bel_trans B6.out b7)
      have C7 := hide (bel_trans C6.out b7)
      have OU := hide hu
      have OR2 := hide hrow
      rw [← HN.out]
      clear b7 RK g0 g1 g2 g3 g4 g5 g6 K6 B6 C6 hsl hu hrow PC PD RS PN
      have DM : Hid (∀ k, k < n → deepM (st.take (k + 1)) = max (deepM (st.take k)) (st.getD k []).length) := hide (fun k hk => by
        rw [List.take_add_one, List.getD_eq_getElem?_getD, List.getElem?_eq_getElem (by rw [← HN.out]; exact hk)]
        exact deep_snoc _ _)
      have DE : Hid (st.take n = st) := hide (by rw [HN.out, List.take_length])
      have AT := hide (fun (q : Nat) (k : Nat) (hk : k < n) => (show ∃ b1 b2 x1 y1, av = some ⟨b1, 0, none⟩ ∧ au = some ⟨b2, 0, none⟩ ∧ w7.cell? ⟨b1, k, none⟩ = some x1 ∧ w7.cell? ⟨b2, k, none⟩ = some y1 ∧ (∃ a c, y1 = .slice a (st.getD k []).length c) ∧ ∀ m, Calls Tryd.prog 12 #[x1, y1] ((w7.drewN q).drewN m) (Dr ((w7.drewN q).drewN m) (.bool true)) from by
        obtain ⟨b1, c1, e1, _⟩ := own_some OV.out (by rw [← HN.out]; omega)
        cases e1
        obtain ⟨b2, c2, e2, _⟩ := own_some OU.out (by rw [← HN.out]; omega)
        cases e2
        have hks : k < st.length := by rw [← HN.out]; exact hk
        obtain ⟨x1, hx1⟩ : ∃ x, vs[k]? = some x := ⟨_, List.getElem?_eq_getElem (by have := OV.out.1; omega)⟩
        obtain ⟨y1, hy1⟩ : ∃ x, us[k]? = some x := ⟨_, List.getElem?_eq_getElem (by have := OU.out.1; omega)⟩
        have hs : st[k]? = some (st.getD k []) := by rw [List.getD_eq_getElem?_getD, List.getElem?_eq_getElem hks]; rfl
        obtain ⟨r1, r2, r3⟩ := OR.out k _ x1 hs hx1
        obtain ⟨t1, t2, t3⟩ := OR2.out k _ y1 hs hy1
        have z1 := (own_cell OV.out k x1 hx1).1
        have z2 := (own_cell OU.out k y1 hy1).1
        obtain ⟨a9, c9, e9, _⟩ := own_slice t1
        refine ⟨b1, b2, x1, y1, rfl, rfl, (C7.out.cell (p := ⟨b1, k, none⟩) (own_type OV.out (k := b1) rfl).2.1).trans z1, z2, ⟨a9, c9, e9⟩, fun m => ?_⟩
        have s1 : Sl ((w7.drewN q).drewN m) x1 (st.getD k []) := (row_sl (own_keep r1 (fun z hz => C7.out.block z (own_type r1 hz).2.1)) r2).bel (below_drewN (below_drewN (Below.refl _ _) q) m)
        have s2 : Sl ((w7.drewN q).drewN m) y1 (st.getD k []) := (row_sl t1 t2).bel (below_drewN (below_drewN (Below.refl _ _) q) m)
        have h9 := sameInts_any s1 s2 ⟨by omega, by omega⟩
        rw [eq_list, decide_eq_true rfl] at h9
        exact h9))
      clear OV OU OR OR2 C7
      have D0 : Hid (deepM (st.take 0) = 0) := hide rfl
      go_wp2_with fail
      go_loopw [10, 76] (fun x10 x76 wr => ∃ k q dk : Nat, k ≤ n ∧ x10 = .int .i64 (dk : Nat) ∧ x76 = .int .i64 (k : Nat) ∧ Hid (wr = w7.drewN q ∧ dk = deepM (st.take k))) (fun x10 x76 _ => n - (intOf x76).toNat)
      case atStart => exact ⟨0, 0, 0, Nat.zero_le _, rfl, rfl, hide ⟨rfl, rfl⟩⟩
      case round =>
        obtain ⟨k, q, dk, hk, rfl, rfl, hw⟩ := hrel
        obtain ⟨hwr, hdk⟩ := hw.out
        have HWR := hide hwr
        clear hw
        have HDK := hide hdk
        clear hdk
        by_cases hlt : k < n
        · have hlt' : (k : Int) < (n : Int) := by omega
          obtain ⟨b1, b2, x1, y1, e1, e2, z1, z2, ⟨a9, c9, e9⟩, cc⟩ := AT.out q k hlt
          subst e1 e2 e9
          have z1 : wr.cell? ⟨b1, k, none⟩ = some x1 := by rw [hwr]; exact z1
          have z2 : wr.cell? ⟨b2, k, none⟩ = some (.slice a9 (st.getD k []).length c9) := by rw [hwr]; exact z2
          rw [← hwr] at cc
          have CC := hide cc
          have DK := hide (DM.out k hlt)
          obtain ⟨lk, hlk⟩ : ∃ z, z = (st.getD k []).length := ⟨_, rfl⟩
          rw [← hlk] at CC DK z2
          have MS : Hid (n - (k + 1) < n - k) := hide (by omega)
          have KL := hide hlt
          clear hlk AT cc hwr
          go_wp2_with fail
          go_quiet ((go_at_call 12; exact Calls.quiet_of (CC.out _)))
          clear CC
          go_wp2_with fail
          go_roundw
          case rel => exact ⟨k + 1, _, max dk lk, KL.out, by first | rfl | (congr 1; omega) | go_num, by first | rfl | go_num, hide ⟨by rw [HWR.out]; exact World.drewN_drewN _ _ _, by rw [DK.out, HDK.out]⟩⟩
          case measure => simp [intOf]; omega
        · obtain rfl : k = n := by omega
          have e : dk = deepM st := by rw [HDK.out, DE.out]
          subst e
          have BW := hide (show Below w.heap.size w wr by rw [hwr]; exact below_drewN B7.out _)
          clear AT hwr
          go_wp2_with fail
          go_ret
          exact ⟨by simp, BW.out⟩
end Go.Proofs.YtaccdblbnogigaaDoor.Ck
