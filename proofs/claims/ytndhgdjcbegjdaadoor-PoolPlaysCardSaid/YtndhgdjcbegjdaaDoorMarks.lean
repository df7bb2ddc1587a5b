/- The contracts of the statements' own Ints (a copy with marked room behind) and KeptInts. -/
import Derived.Test.YtndhgdjcbegjdaaDoorApp
import Derived.Test.YtndhgdjcbegjdaaDoorSame
namespace Go.Proofs.YtndhgdjcbegjdaaDoor.Ck
open Go.RowKit

def marks : List Int := [-91, -92, -93, -94]

theorem run_make0 (c : Nat) (hc : c ≤ 17592186044500) (w : World) :
    (Instr.makeSlice 22 (.int .i64 0) (.int .i64 (c : Int))).run Tryd.prog w = .ok (.slice (some ⟨w.heap.size, 0, none⟩) 0 c) (w.alloc (.cells (madeCells #[.int .i64 0] c) 3)) := by
  obtain ⟨i, hi, hz0, hz1, hz2⟩ := info_parts info3
  have hr := run_make (P := Tryd.prog) w 22 3 i (.int .i64 0) Tryd.underlying22 hi hz0 .i64 .i64 0 c (by omega) (by omega) (by rw [hz2]; omega) (by omega)
  simp only [Int.toNat_natCast, hz1, Nat.mul_one] at hr
  exact hr

theorem Own.below {w w' : World} {B g cap : Nat} {zs : List Int} (h : Own w B g cap zs) (hb : Below w.heap.size w w') : Own w' B g cap zs := by
  obtain ⟨cur, h1, hg, h3, h4, h5, h6⟩ := h.parts
  exact Own.mk cur h1 ((hb.block g (Array.getElem?_eq_some_iff.1 hg).1).trans hg) h3 h4 h5 h6
theorem Own.alloc {w : World} {B g cap : Nat} {zs : List Int} (h : Own w B g cap zs) (o : Obj) : Own (w.alloc o) B g cap zs := h.below (bel_new w o)
theorem Own.made (w : World) (c : Nat) (hc : c ≤ 17592186044500) : Own (w.alloc (.cells (madeCells #[.int .i64 0] c) 3)) w.heap.size w.heap.size c [] :=
  Own.mk _ (Nat.le_refl _) (Go.Deep.blk_alloc_new _ _) (Nat.zero_le _) (by unfold maxLen; omega) (by simp [madeCells]) (by simp [ints])

theorem marks_built (w : World) : Sl (w.alloc (.cells #[.int .i64 (-91), .int .i64 (-92), .int .i64 (-93), .int .i64 (-94)] 3)) (.slice (some ⟨w.heap.size, 0, none⟩) 4 4) marks := by
  refine Sl.of_row (t := 3) (zs := marks) (n := 4) (f := fun i => .int .i64 (marks.getD i 0)) ⟨_, Go.Deep.blk_alloc_new _ _, by simp, fun i hi => ?_⟩ (by simp [marks]) (by unfold maxLen; omega) (fun z hz => by simp [marks] at hz; omega) (fun i _ => rfl)
  have : i = 0 ∨ i = 1 ∨ i = 2 ∨ i = 3 := by omega
  rcases this with h | h | h | h <;> subst h <;> rfl

theorem ints_second {w w1 : World} {n : Nat} {a : List Int} (En : n = a.length) (ho : Own w1 w.heap.size w.heap.size (n + 4) a) (hb : Below w.heap.size w w1) (ty : TypeId) :
    ∃ v' w', (Builtin.append_ #[22, 22] ty #[.slice (some ⟨w.heap.size, 0, none⟩) n (n + 4), .slice (some ⟨w1.heap.size, 0, none⟩) 4 4]).run Tryd.prog (w1.alloc (.cells #[.int .i64 (-91), .int .i64 (-92), .int .i64 (-93), .int .i64 (-94)] 3)) = .ok v' w' ∧
      (v' = .slice (some ⟨w.heap.size, 0, none⟩) (n + 4) (n + 4) ∧ Own w' w.heap.size w.heap.size (n + 4) (a ++ marks) ∧ Below w.heap.size w w') := by
  have hm : marks.length = 4 := rfl
  obtain ⟨w', hr, h2, hg⟩ := app_fits (ms := marks) ty (ho.alloc _) (marks_built w1) (by rw [hm]; omega)
  rw [← En, hm] at hr
  exact ⟨_, w', hr, rfl, h2, (bel_al hb _).grown hg (by have := hb.size; simp; omega) (fun k hk => by cases hk; exact Nat.le_refl _)⟩

set_option maxRecDepth 10000 in
set_option maxHeartbeats 400000 in
theorem ints_any (va : Value) (a : List Int) (w : World) (ha : Sl w va a) (hla : a.length ≤ 17592186044416) :
    Calls Tryd.prog 5 #[va] w fun e w' => (∃ g, e = .returned (.slice (some ⟨g, 0, none⟩) a.length (a.length + 4)) ∧ Own w' w.heap.size g (a.length + 4) (a ++ marks)) ∧ Below w.heap.size w w' := by
  obtain ⟨n, en⟩ : ∃ n, n = a.length := ⟨_, rfl⟩
  have hn : n ≤ 17592186044416 := by omega
  have hva : ∃ aa ca, va = .slice aa n ca := by obtain ⟨_, aa, ca, rfl, _⟩ := ha; exact ⟨aa, ca, by rw [en]⟩
  obtain ⟨aa, ca, rfl⟩ := hva
  rw [← en]
  have En : Hid (n = a.length) := en
  clear en hla
  have hmk := run_make0 (n + 4) (by omega)
  have ec : ((n + 4 : Nat) : Int) = (n : Int) + 4 := by omega
  rw [ec] at hmk
  have h1 := fun ty => app_fits ty (Own.made w (n + 4) (by omega)) (ha.below (Nat.le_refl _) (bel_new w _)) (by simp; have := En.out; omega)
  have H1 : Hid (∀ ty, ∃ v' w', (Builtin.append_ #[22, 22] ty #[.slice (some ⟨w.heap.size, 0, none⟩) 0 (n + 4), .slice aa n ca]).run Tryd.prog (w.alloc (.cells (madeCells #[.int .i64 0] (n + 4)) 3)) = .ok v' w' ∧
      (v' = .slice (some ⟨w.heap.size, 0, none⟩) n (n + 4) ∧ Own w' w.heap.size w.heap.size (n + 4) a ∧ Below w.heap.size w w')) := fun ty => by
    obtain ⟨w', hr, ho, hg⟩ := h1 ty
    refine ⟨_, w', hr, by simp only [List.length_nil, Nat.zero_add, ← En.out], by simpa using ho, (bel_new w _).grown hg (by simp) (fun k hk => by cases hk; exact Nat.le_refl _)⟩
  clear h1
  go_enter Tryd.func5, Tryd.ntmps5
  go_wp2_with (first | (at_builtin; refine wpList_app rfl (.tmp 7) (.tmp 8) rfl _ _ rfl rfl _ (H1.out _) ?_; rintro v1 w1 ⟨rfl, ho1, hb1⟩) | (at_builtin; refine wpList_app rfl (.tmp 9) (.tmp 10) rfl _ _ rfl rfl _ (ints_second En.out ho1 hb1 _) ?_; rintro v2 w2 ⟨rfl, ho2, hb2⟩))
  go_ret
  exact ⟨⟨_, rfl, ho2⟩, hb2⟩

theorem marks_at (a : List Int) (k : Nat) (hk : k < 4) : (a ++ marks).getD (a.length + k) 0 = -91 - k := by
  have : k = 0 ∨ k = 1 ∨ k = 2 ∨ k = 3 := by omega
  rcases this with h | h | h | h <;> subst h <;> simp [List.getD, marks]

set_option maxHeartbeats 400000 in
theorem kept_any (vw : Value) (a : List Int) (g B : Nat) (w : World) (ha : Sl w vw a) (ho : Own w B g (a.length + 4) (a ++ marks)) (hla : a.length ≤ 17592186044416) :
    Calls Tryd.prog 10 #[.slice (some ⟨g, 0, none⟩) a.length (a.length + 4), vw] w fun e w' => e = .returned (.bool true) ∧ Below w.heap.size w w' := by
  obtain ⟨n, en⟩ : ∃ n, n = a.length := ⟨_, rfl⟩
  have hn : n ≤ 17592186044416 := by omega
  have hva : ∃ aa ca, vw = .slice aa n ca := by obtain ⟨_, aa, ca, rfl, _⟩ := ha; exact ⟨aa, ca, by rw [en]⟩
  obtain ⟨aa, ca, rfl⟩ := hva
  have hf := ha.fits
  have hc : ∀ k, k < 4 → w.cell? ⟨g, n + k, none⟩ = some (.int .i64 (-91 - k)) := fun k hk => by
    rw [ho.cell (n + k) (by simp [marks]; omega), en, marks_at a k hk]
  have hlt : g < w.heap.size := by
    obtain ⟨cur, _, hg, _⟩ := ho.parts
    exact (Array.getElem?_eq_some_iff.1 hg).1
  have hs : Sl w (.slice (some ⟨g, 0, none⟩) n (n + 4)) a := by
    refine ⟨hf, some ⟨g, 0, none⟩, n + 4, by rw [en], by omega, by unfold maxLen; omega, fun i hi => ⟨g, 0, rfl, hlt, ?_⟩⟩
    rw [Nat.zero_add, ho.cell i (by simp; omega)]
    simp only [List.getD, List.getElem?_append_left hi]
  have hsame : Hid (sameB a a = true) := by simp [Hid, sameB]
  have HC : Hid (∀ k, k < 4 → w.cell? ⟨g, n + k, none⟩ = some (.int .i64 (-91 - k))) := hc
  rw [← en]
  clear hc ho en hf hla
  go_enter Tryd.func10, Tryd.ntmps10
  go_wp2_with fail
  refine (sameInts_any _ _ _ _ _ hs ha).mono ?_
  rintro e w1 ⟨rfl, hb1⟩
  rw [hsame.out]
  go_wp2_with fail
  go_loop [6] (fun i => ∃ k : Nat, k ≤ 4 ∧ i = .int .i64 k) (fun i => 4 - (intOf i).toNat)
  case atStart => exact ⟨0, Nat.zero_le _, rfl⟩
  case round =>
    obtain ⟨k, hk, rfl⟩ := hrel
    by_cases hk4 : k < 4
    · have hcell : w1.cell? ⟨g, n + k, none⟩ = some (.int .i64 (-91 - k)) := (hb1.cell (p := ⟨g, n + k, none⟩) hlt).trans (HC.out k hk4)
      have hx : ((-91 - (k : Int)) != (-91 - (k : Int))) = false := by simp
      go_wp2_with fail
      go_round
      case rel => exact ⟨k + 1, by omega, by go_num⟩
      case measure => simp [intOf]; omega
    · have e : k = 4 := by omega
      subst e
      go_wp2_with fail
      go_ret
      exact ⟨rfl, hb1⟩

end Go.Proofs.YtndhgdjcbegjdaaDoor.Ck
