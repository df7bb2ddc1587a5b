/- The contracts of pool's Dump and Pages. -/
import Derived.Test.YtndhgdjcbegjdaaDoorMany
import Derived.Test.YtndhgdjcbegjdaaDoorApp
import Derived.Test.YtndhgdjcbegjdaaDoorMarks
namespace Go.Proofs.YtndhgdjcbegjdaaDoor.Ck
open Go.RowKit

def row16 (D : Nat → Int) (k : Nat) : List Int := [D (k * 16), D (k * 16 + 1), D (k * 16 + 2), D (k * 16 + 3), D (k * 16 + 4), D (k * 16 + 5), D (k * 16 + 6), D (k * 16 + 7), D (k * 16 + 8), D (k * 16 + 9), D (k * 16 + 10), D (k * 16 + 11), D (k * 16 + 12), D (k * 16 + 13), D (k * 16 + 14), D (k * 16 + 15)]
theorem rng_app (D : Nat → Int) (k : Nat) : (List.range (k * 16)).map D ++ row16 D k = (List.range ((k + 1) * 16)).map D := by
  have e : (k + 1) * 16 = k * 16 + 16 := by omega
  rw [e, List.range_add, List.map_append]
  rfl

theorem pages_any {w : World} {B pp pb qb m pages : Nat} {s : List Int} {rb : Nat → Nat} {k : Nat} {R V : Nat → Nat → Int} (h : PoolIs w B pp pb qb m pages s rb k R V) (_hp : pages ≤ 256) :
    Calls Tryd.prog 9 #[.pointer (some ⟨pp, 0, none⟩)] w fun e w' => e = .returned (.int .i64 pages) ∧ w = w' := by
  have hph := h.ph
  clear h
  go_enter Tryd.func9, Tryd.ntmps9
  go_wp2_with fail
  go_ret
  exact ⟨rfl, rfl⟩

set_option maxHeartbeats 1000000 in
set_option maxRecDepth 10000 in
theorem dump_row (D : Nat → Int) (pp pb pages : Nat) (w : World) (hp : pages ≤ 256) (hl1 : pp < w.heap.size) (hl2 : pb < w.heap.size) (hph : w.cell? ⟨pp, 0, none⟩ = some (.slice (some ⟨pb, 0, none⟩) pages pages))
    (hw : ∀ i, i < 16 * pages → w.cell? ⟨pb, i, none⟩ = some (.int .i64 (D i))) (hf : ∀ i, -9223372036854775808 ≤ D i ∧ D i ≤ 9223372036854775807) :
    Calls Tryd.prog 20 #[.pointer (some ⟨pp, 0, none⟩)] w fun e w' => (∃ g, e = .returned (.slice (some ⟨g, 0, none⟩) (16 * pages) (16 * pages)) ∧ Sl w' (.slice (some ⟨g, 0, none⟩) (16 * pages) (16 * pages)) ((List.range (16 * pages)).map D)) ∧ Below w.heap.size w w' := by
  have hmk := run_make0 (pages * 16) (by omega)
  have ec : ((pages * 16 : Nat) : Int) = (pages : Int) * 16 := by omega
  rw [ec] at hmk
  have HW := hide hw
  have HF := hide hf
  have o0 := Own.made w (pages * 16) (by omega)
  have O0 := hide (And.intro o0 (bel_new w (.cells (madeCells #[.int .i64 0] (pages * 16)) 3)))
  have hph2 : (w.alloc (.cells (madeCells #[.int .i64 0] (pages * 16)) 3)).cell? ⟨pp, 0, none⟩ = some (.slice (some ⟨pb, 0, none⟩) pages pages) := ((bel_new w _).cell (p := ⟨pp, 0, none⟩) hl1).trans hph
  clear o0 hw hf
  go_enter Tryd.func20, Tryd.ntmps20
  go_wp2_with fail
  go_loopw [3, 18] (fun x i wr => ∃ k : Nat, k ≤ pages ∧ i = .int .i64 k ∧ x = .slice (some ⟨w.heap.size, 0, none⟩) (k * 16) (pages * 16) ∧ Hid (Own wr w.heap.size w.heap.size (pages * 16) ((List.range (k * 16)).map D) ∧ Below w.heap.size w wr)) (fun _ i _ => pages - (intOf i).toNat)
  case atStart => exact ⟨0, Nat.zero_le _, rfl, by rw [Nat.zero_mul], O0.out⟩
  case round =>
    obtain ⟨k, hk, rfl, rfl, I⟩ := hrel
    clear O0 hmk hph hph2
    by_cases hkp : k < pages
    · have hW : Hid (∀ k, k < pages → ∀ j, j < 16 → wr.cell? ⟨pb, k * 16 + j, none⟩ = some (.int .i64 (D (k * 16 + j)))) := fun k hk j hj => (I.out.2.cell (p := ⟨pb, k * 16 + j, none⟩) hl2).trans (HW.out _ (by omega))
      have c0 := hW.out k hkp 0 (by omega)
      rw [Nat.add_zero] at c0
      have c1 := hW.out k hkp 1 (by omega)
      have c2 := hW.out k hkp 2 (by omega)
      have c3 := hW.out k hkp 3 (by omega)
      have c4 := hW.out k hkp 4 (by omega)
      have c5 := hW.out k hkp 5 (by omega)
      have c6 := hW.out k hkp 6 (by omega)
      have c7 := hW.out k hkp 7 (by omega)
      have c8 := hW.out k hkp 8 (by omega)
      have c9 := hW.out k hkp 9 (by omega)
      have c10 := hW.out k hkp 10 (by omega)
      have c11 := hW.out k hkp 11 (by omega)
      have c12 := hW.out k hkp 12 (by omega)
      have c13 := hW.out k hkp 13 (by omega)
      have c14 := hW.out k hkp 14 (by omega)
      have c15 := hW.out k hkp 15 (by omega)
      have hs : Sl (wr.alloc (.cells #[.int .i64 (D (k * 16)), .int .i64 (D (k * 16 + 1)), .int .i64 (D (k * 16 + 2)), .int .i64 (D (k * 16 + 3)), .int .i64 (D (k * 16 + 4)), .int .i64 (D (k * 16 + 5)), .int .i64 (D (k * 16 + 6)), .int .i64 (D (k * 16 + 7)), .int .i64 (D (k * 16 + 8)), .int .i64 (D (k * 16 + 9)), .int .i64 (D (k * 16 + 10)), .int .i64 (D (k * 16 + 11)), .int .i64 (D (k * 16 + 12)), .int .i64 (D (k * 16 + 13)), .int .i64 (D (k * 16 + 14)), .int .i64 (D (k * 16 + 15))] 71)) (.slice (some ⟨wr.heap.size, 0, none⟩) 16 16) (row16 D k) := by
        refine ⟨fun z hz => ?_, _, _, rfl, Nat.le_refl _, by unfold maxLen; omega, fun i hi => ⟨wr.heap.size, 0, rfl, by simp, ?_⟩⟩
        · obtain ⟨j, hj, rfl⟩ := List.mem_iff_getElem.1 hz
          have hj16 : j < 16 := hj
          have : (row16 D k)[j] = D (k * 16 + j) := by
            have : j = 0 ∨ j = 1 ∨ j = 2 ∨ j = 3 ∨ j = 4 ∨ j = 5 ∨ j = 6 ∨ j = 7 ∨ j = 8 ∨ j = 9 ∨ j = 10 ∨ j = 11 ∨ j = 12 ∨ j = 13 ∨ j = 14 ∨ j = 15 := by omega
            rcases this with h | h | h | h | h | h | h | h | h | h | h | h | h | h | h | h <;> subst h <;> rfl
          have h3 := HF.out (k * 16 + j)
          rw [← this] at h3
          exact h3
        · have hi16 : i < 16 := hi
          have hr := World.rowIs_alloc wr #[.int .i64 (D (k * 16)), .int .i64 (D (k * 16 + 1)), .int .i64 (D (k * 16 + 2)), .int .i64 (D (k * 16 + 3)), .int .i64 (D (k * 16 + 4)), .int .i64 (D (k * 16 + 5)), .int .i64 (D (k * 16 + 6)), .int .i64 (D (k * 16 + 7)), .int .i64 (D (k * 16 + 8)), .int .i64 (D (k * 16 + 9)), .int .i64 (D (k * 16 + 10)), .int .i64 (D (k * 16 + 11)), .int .i64 (D (k * 16 + 12)), .int .i64 (D (k * 16 + 13)), .int .i64 (D (k * 16 + 14)), .int .i64 (D (k * 16 + 15))] 71 (fun j => .int .i64 ((row16 D k).getD j 0)) (fun j hj => by
            have hj16 : j < 16 := hj
            have : j = 0 ∨ j = 1 ∨ j = 2 ∨ j = 3 ∨ j = 4 ∨ j = 5 ∨ j = 6 ∨ j = 7 ∨ j = 8 ∨ j = 9 ∨ j = 10 ∨ j = 11 ∨ j = 12 ∨ j = 13 ∨ j = 14 ∨ j = 15 := by omega
            rcases this with h | h | h | h | h | h | h | h | h | h | h | h | h | h | h | h <;> subst h <;> rfl)
          rw [Nat.zero_add]
          exact hr.cell hi16
      have AP : Hid (∀ ty, ∃ v' w', (Builtin.append_ #[22, 22] ty #[.slice (some ⟨w.heap.size, 0, none⟩) (k * 16) (pages * 16), .slice (some ⟨wr.heap.size, 0, none⟩) 16 16]).run Tryd.prog (wr.alloc (.cells #[.int .i64 (D (k * 16)), .int .i64 (D (k * 16 + 1)), .int .i64 (D (k * 16 + 2)), .int .i64 (D (k * 16 + 3)), .int .i64 (D (k * 16 + 4)), .int .i64 (D (k * 16 + 5)), .int .i64 (D (k * 16 + 6)), .int .i64 (D (k * 16 + 7)), .int .i64 (D (k * 16 + 8)), .int .i64 (D (k * 16 + 9)), .int .i64 (D (k * 16 + 10)), .int .i64 (D (k * 16 + 11)), .int .i64 (D (k * 16 + 12)), .int .i64 (D (k * 16 + 13)), .int .i64 (D (k * 16 + 14)), .int .i64 (D (k * 16 + 15))] 71)) = .ok v' w' ∧
          (v' = .slice (some ⟨w.heap.size, 0, none⟩) ((k + 1) * 16) (pages * 16) ∧ Own w' w.heap.size w.heap.size (pages * 16) ((List.range ((k + 1) * 16)).map D) ∧ Below w.heap.size w w')) := fun ty => by
        have hl : ((List.range (k * 16)).map D).length = k * 16 := by simp
        have h16 : (row16 D k).length = 16 := rfl
        obtain ⟨w', r, o, gr⟩ := app_fits ty (I.out.1.alloc _) hs (by rw [hl, h16]; omega)
        rw [hl, h16] at r
        rw [rng_app] at o
        exact ⟨_, w', r, by rw [show k * 16 + 16 = (k + 1) * 16 by omega], o, (bel_al I.out.2 _).grown gr (by have := I.out.2.size; simp; omega) (fun k hk => by cases hk; exact Nat.le_refl _)⟩
      clear hs hW
      go_wp2_with (at_builtin; refine wpList_app rfl (.tmp 22) (.tmp 23) rfl _ _ rfl rfl _ (AP.out _) ?_; rintro v1 w9 ⟨rfl, ho9, hb9⟩)
      have J := hide (And.intro ho9 hb9)
      clear ho9 hb9 AP
      go_roundw
      case rel => exact ⟨k + 1, by omega, by go_num, rfl, J.out⟩
      case measure => simp [intOf]; omega
    · have e : k = pages := by omega
      subst e
      have hs := I.out.1.sl (fun z hz => by obtain ⟨i, _, rfl⟩ := List.mem_map.1 hz; exact HF.out i)
      have e2 : ((List.range (k * 16)).map D).length = k * 16 := by simp
      rw [e2] at hs
      have S := hide (And.intro hs I.out.2)
      clear hs
      go_wp2_with fail
      go_ret
      exact ⟨⟨w.heap.size, by rw [Nat.mul_comm 16 k]; rfl, by rw [Nat.mul_comm 16 k]; exact S.out.1⟩, S.out.2⟩

end Go.Proofs.YtndhgdjcbegjdaaDoor.Ck
