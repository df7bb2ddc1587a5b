/- The examples of the chapter (alive). -/
import Derived.Test.YtidjbgemnohbnaaDoorQcQ
import Derived.Test.YtidjbgemnohbnaaDoorNumQ
namespace Go.Proofs.YtidjbgemnohbnaaDoor.Ck
open Go.RowKit

theorem SlB.ofL {w : World} {g : Nat} {l : List In5} (h : w.heap[g]? = some (.cells (insL l).toArray 44 (0, 0))) (hl : l.length ≤ 100000) : SlB w (.slice (some ⟨g, 0, none⟩) l.length l.length) l :=
  OwnB.sl (B := 0) ⟨insL_len l, .inr ⟨g, l.length, (insL l).toArray, rfl, Nat.zero_le _, h, Nat.le_refl _, by unfold maxLen; omega, by rw [List.size_toArray, insL_len], by rw [List.take_of_length_le]; rw [insL_len]; exact Nat.le_refl _⟩⟩ hl
abbrev codeN (vF vB : Value) : Value := .agg #[.slice none 0 0, .int .i64 0, .int .i64 0, .slice none 0 0, vF, .int .i64 0, vB]
/-- alive's code, made and asked for -/
theorem alive1_at {w wz : World} (hz : Below w.heap.size w wz) (B : List In5) (n : Nat) (hn : n = B.length) (hI : ∀ x ∈ B, InX x) (hl : B.length ≤ 100000) : Calls Tryd.prog 14 #[.slice (some ⟨wz.heap.size, 0, none⟩) n n] (wz.alloc (.cells (insL B).toArray 44)) (fun e w' => ∃ vF, e = .returned (codeN vF (.slice (some ⟨wz.heap.size, 0, none⟩) n n)) ∧ Cv w' (.slice none 0 0) (.slice none 0 0) vF (.slice (some ⟨wz.heap.size, 0, none⟩) n n) (oneF B) ∧ Below w.heap.size w w') := by
  subst hn
  exact (alive1_any (SlB.ofL (Go.Deep.blk_alloc_new wz _) hl) hI hl).mono fun _ _ ⟨vF, h1, h2, h3⟩ => ⟨vF, h1, h2, hz.trans (((bel_new wz _).mono hz.size).trans (h3.mono (Nat.le_trans hz.size (bel_new wz _).size)))⟩
def x24 : In5 := ⟨24, 0, 0, 0, 0⟩
def x12 : In5 := ⟨12, 0, 0, 0, 0⟩
def x1 : In5 := ⟨1, 1, 0, 0, 0⟩
def x25 : In5 := ⟨25, 0, 0, 0, 0⟩
theorem read_a : readM (oneF [x24, x12]) = some [[], []] := by kernel_rfl
theorem read_b : readM (oneF [x12]) = none := by kernel_rfl
theorem read_c : readM (oneF [x1, x25]) = none := by kernel_rfl
theorem inX_a : ∀ x ∈ [x24, x12], InX x := fun x hx => by
  simp at hx
  rcases hx with rfl | rfl <;> exact inX_of (by decide) (by decide) (by decide)
theorem inX_b : ∀ x ∈ [x12], InX x := fun x hx => by
  simp at hx
  rcases hx with rfl <;> exact inX_of (by decide) (by decide) (by decide)
theorem inX_c : ∀ x ∈ [x1, x25], InX x := fun x hx => by
  simp at hx
  rcases hx with rfl | rfl <;> exact inX_of (by decide) (by decide) (by decide)
set_option maxRecDepth 20000 in
set_option maxHeartbeats 2000000 in
theorem alive16_any {w : World} {p : List Addr} (ev : Errs17 w p) : Calls Tryd.prog 5 #[] w (Vb w (.bool true)) := by
  have P1 := hide (fun wz (hz : Below w.heap.size w wz) => alive1_at hz [x24, x12] 2 rfl inX_a (by decide))
  have P2 := hide (fun wz (hz : Below w.heap.size w wz) => alive1_at hz [x12] 1 rfl inX_b (by decide))
  have P3 := hide (fun wz (hz : Below w.heap.size w wz) => alive1_at hz [x1, x25] 2 rfl inX_c (by decide))
  have PC := hide (fun wz (hz : Below w.heap.size w wz) vF vB B (h : Cv wz (.slice none 0 0) (.slice none 0 0) vF vB (oneF B)) => (show Calls Tryd.prog 8 #[codeN vF vB] wz (Vb wz (erR p (readM (oneF B)))) from pcheck_any (p := p) ((show Ec w p from ev.cell 8 (by omega)).bel hz) h))
  have PN := hide (fun wz (hz : Below w.heap.size w wz) => (show Calls Tryd.prog 11 #[errV p 8] wz (fun e w' => e = .returned (.int .i64 9) ∧ Below wz.heap.size wz w') from num_err p 8 wz (ev.below (Nat.le_refl _) hz) (by omega)))
  clear ev
  go_enter Tryd.func5, Tryd.ntmps5
  go_wp2_with fail
  refine (P1.out _ (Below.refl _ _)).mono ?_
  rintro e w2 ⟨vF, rfl, c2, b2⟩
  have CK := hide (PC.out _ b2 _ _ _ c2)
  have B2 := hide b2
  rw [show erR p (readM (oneF [x24, x12])) = .nilIface by rw [read_a]; rfl] at CK
  clear c2 b2 P1
  go_wp2_with fail
  refine CK.out.mono ?_
  rintro e w3 ⟨rfl, b3⟩
  have B3 := hide (bel_trans B2.out b3)
  clear b3 B2 CK
  go_wp2_with fail
  refine (P2.out _ B3.out).mono ?_
  rintro e w4 ⟨vF, rfl, c2, b2⟩
  have CK := hide (PC.out _ b2 _ _ _ c2)
  have B4 := hide b2
  rw [show erR p (readM (oneF [x12])) = errV p 8 by rw [read_b]; rfl] at CK
  clear c2 b2 P2
  go_wp2_with fail
  refine CK.out.mono ?_
  rintro e w5 ⟨rfl, b3⟩
  have B5 := hide (bel_trans B4.out b3)
  clear b3 B4 CK
  go_wp2_with fail
  refine (PN.out _ B5.out).mono ?_
  rintro e w6 ⟨rfl, b3⟩
  have B6 := hide (bel_trans B5.out b3)
  clear b3 B5
  go_wp2_with fail
  refine (P3.out _ B6.out).mono ?_
  rintro e w7 ⟨vF, rfl, c2, b2⟩
  have CK := hide (PC.out _ b2 _ _ _ c2)
  have B7 := hide b2
  rw [show erR p (readM (oneF [x1, x25])) = errV p 8 by rw [read_c]; rfl] at CK
  clear c2 b2 P3
  go_wp2_with fail
  refine CK.out.mono ?_
  rintro e w8 ⟨rfl, b3⟩
  have B8 := hide (bel_trans B7.out b3)
  clear b3 B7 CK
  go_wp2_with fail
  refine (PN.out _ B8.out).mono ?_
  rintro e w9 ⟨rfl, b3⟩
  have B9 := hide (bel_trans B8.out b3)
  clear b3 B8
  go_wp2_with fail
  go_ret
  exact ⟨rfl, B9.out⟩
end Go.Proofs.YtidjbgemnohbnaaDoor.Ck
