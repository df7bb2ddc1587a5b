/- The contract of the document's Dump. -/
import Derived.Test.YtndhgdjcbegjdaaDoorRf
import Derived.Laws.CopyOwn
namespace Go.Proofs.YtndhgdjcbegjdaaDoor.Ck
open Go.RowKit

def arr (n : Nat) (D : Nat → Int) : List Value := (List.range (16 * n)).map fun i => Value.int .i64 (D i)
def wsrc (V : Nat → Int) (f c : Nat) : List Value := (List.range (16 * c)).map fun i => Value.int .i64 (V (16 * f + i))
theorem sz3 : (Tryd.prog.info? 3).map (·.size) = some 1 := by kernel_rfl
theorem splice_arr (n : Nat) (D V : Nat → Int) (f c : Nat) (h : f + c ≤ n) : splice (arr n D) (16 * f) (wsrc V f c) = arr n (fun i => if 16 * f ≤ i ∧ i < 16 * (f + c) then V i else D i) := by
  have hl : (wsrc V f c).length = 16 * c := by simp [wsrc]
  apply List.ext_getElem
  · rw [length_splice _ _ _ (by rw [hl]; simp [arr]; omega)]; simp [arr]
  · intro i h1 h2
    have hi : i < 16 * n := by simpa [arr] using h2
    simp only [splice, arr, List.getElem_map, List.getElem_range]
    rw [List.getElem_append]
    split
    · rename_i h3
      have h3 : i < 16 * f := by simp at h3; omega
      rw [if_neg (by omega)]
      simp
    · rename_i h3
      have h3 : 16 * f ≤ i := by simp at h3; omega
      rw [List.getElem_append]
      have e : ((List.map (fun i => Value.int IntKind.i64 (D i)) (List.range (16 * n))).take (16 * f)).length = 16 * f := by simp; omega
      split
      · rename_i h4
        rw [e, hl] at h4
        rw [if_pos (by omega)]
        simp only [wsrc, List.getElem_map, List.getElem_range, e]
        rw [show 16 * f + (i - 16 * f) = i by omega]
      · rename_i h4
        rw [e, hl] at h4
        rw [if_neg (by omega)]
        simp only [List.getElem_drop, List.getElem_map, List.getElem_range, e, hl]
        rw [show 16 * f + 16 * c + (i - 16 * f - 16 * c) = i by omega]

/-- what stands in the row behind k runs -/
structure Dk (w wr : World) (n : Nat) (H : List Rn) (V : Nat → Int) (k : Nat) (D : Nat → Int) : Prop where
  row : wr.heap[w.heap.size]? = some (.cells (arr n D).toArray 3 (0, 0))
  bel : Below w.heap.size w wr
  val : ∀ i, D i = V i ∨ D i = 0
  hit : ∀ i j, j < k → (rat H j).has (i / 16) → D i = V i

set_option maxHeartbeats 4000000 in
theorem rdump_any {w : World} {gm n : Nat} {v : Value} {H : List Rn} {V : Nat → Int} (h : Rm w gm n v H V) :
    Calls Tryd.prog 18 #[.pointer (some ⟨gm, 0, none⟩)] w fun e w' => e = .returned (.slice (some ⟨w.heap.size, 0, none⟩) (16 * n) (16 * n)) ∧ ∃ D, Dk w w' n H V H.length D := by
  have hn := h.small
  have hs := h.shareC
  have hmk := run_makeRuns (16 * n) (by omega)
  rw [show ((16 * n : Nat) : Int) = 16 * (n : Int) by omega] at hmk
  obtain ⟨a, cap, rfl, _, _, hR⟩ := h.slice
  have hb0 := bel_new w (.cells (madeCells #[.int .i64 0] (16 * n)) 3)
  have hrc := (h.below hb0).runsC
  have hl := h.hl
  have HM := hide h
  have HR := hide hR
  have D0 : Hid (Dk w (w.alloc (.cells (madeCells #[.int .i64 0] (16 * n)) 3)) n H V 0 (fun _ => 0)) := by
    refine ⟨?_, hb0, fun _ => .inr rfl, fun _ _ h => absurd h (Nat.not_lt_zero _)⟩
    rw [Go.Deep.blk_alloc_new]
    have e := made_wv (fun _ => 0) 0 n 0 (fun _ _ => rfl)
    rw [e]
    rfl
  obtain ⟨m, em⟩ : ∃ m, m = H.length := ⟨_, rfl⟩
  rw [← em] at hrc hl HR ⊢
  have Em := hide em
  clear h em hb0 hR
  go_enter Tryd.func18, Tryd.ntmps18
  go_wp2_with fail
  clear hmk hrc hs
  go_loopw [17] (fun i wr => ∃ k : Nat, k ≤ m ∧ i = .int .i64 k ∧ Hid (∃ D, Dk w wr n H V k D)) (fun i _ => m - (intOf i).toNat)
  case atStart => exact ⟨0, Nat.zero_le _, rfl, _, D0.out⟩
  case round =>
    obtain ⟨k, hk, rfl, I⟩ := hrel
    clear D0
    by_cases hkm : k < m
    · obtain ⟨D, hD⟩ := I.out
      obtain ⟨⟨hf, hc⟩, b, rfl, hlt, c0, c1, c2⟩ := (HR.out.below hD.bel) k hkm
      have hx : rat H k ∈ H := List.mem_of_getElem? (rat_at H k (by have := Em.out; omega))
      have hfc := HM.out.hb _ hx
      have hwd := HM.out.wd _ hx
      have hhas : ∀ i, 16 * (rat H k).f ≤ i → i < 16 * ((rat H k).f + (rat H k).c) → True := fun _ _ _ => trivial
      have hnx : Hid (∀ i, (rat H k).has (i / 16) ↔ 16 * (rat H k).f ≤ i ∧ i < 16 * ((rat H k).f + (rat H k).c)) := fun i => by unfold Rn.has; omega
      have hbl := lt_of_blk hwd
      have b2 : Below w.heap.size w (wr.alloc (.cells #[.int .i64 (rat H k).f, .int .i64 (rat H k).c, (rat H k).words] 50)).drew := (bel_trans hD.bel (bel_new wr _)).drew
      have b3 : Below wr.heap.size wr (wr.alloc (.cells #[.int .i64 (rat H k).f, .int .i64 (rat H k).c, (rat H k).words] 50)).drew := (bel_new wr _).drew
      have HB := hide b2
      have HG := hide ((b3.block w.heap.size (lt_of_blk hD.row)).trans hD.row)
      have hB0 : Hid ((wr.alloc (.cells #[.int .i64 (rat H k).f, .int .i64 (rat H k).c, (rat H k).words] 50)).drew.cell? ⟨wr.heap.size, 0, none⟩ = some (.int .i64 (rat H k).f)) := by
        show World.cell? (wr.alloc _) _ = _
        simp only [World.cell?]
        rw [Go.Deep.blk_alloc_new]
        rfl
      have hB2 : Hid ((wr.alloc (.cells #[.int .i64 (rat H k).f, .int .i64 (rat H k).c, (rat H k).words] 50)).drew.cell? ⟨wr.heap.size, 2, none⟩ = some (rat H k).words) := by
        show World.cell? (wr.alloc _) _ = _
        simp only [World.cell?]
        rw [Go.Deep.blk_alloc_new]
        rfl
      have HW := hide ((b2.block _ hbl).trans hwd)
      have E : Hid (∀ w5, Hid (w5.heap[w.heap.size]? = some (.cells (splice (arr n D) (16 * (rat H k).f) (wsrc V (rat H k).f (rat H k).c)).toArray 3 (0, 0))) → Below w.heap.size w w5 → Hid (∃ D, Dk w w5 n H V (k + 1) D)) := fun w5 h5 hb5 => by
        refine ⟨_, ⟨by rw [h5.out, splice_arr n D V _ _ hfc], hb5, fun i => ?_, fun i j hj hh => ?_⟩⟩
        · by_cases e : 16 * (rat H k).f ≤ i ∧ i < 16 * ((rat H k).f + (rat H k).c)
          · simp only [if_pos e]; first | exact .inl rfl | exact .inl trivial
          · simp only [if_neg e]; exact hD.val i
        · by_cases e : 16 * (rat H k).f ≤ i ∧ i < 16 * ((rat H k).f + (rat H k).c)
          · simp only [if_pos e]
          · simp only [if_neg e]
            by_cases e2 : j = k
            · rw [e2] at hh; exact absurd ((hnx.out i).1 hh) e
            · exact hD.hit i j (by omega) hh
      clear hD I hx hwd b2 b3 HM HR hhas hnx hbl
      generalize rat H k = x at *
      obtain ⟨xf, xc, xb⟩ := x
      simp only [Rn.words] at *
      have HL : Hid ((wsrc V xf xc).length = Nat.min (16 * xc) (16 * n - 16 * xf)) := by show _ = _; simp only [wsrc, List.length_map, List.length_range]; show _ = min _ _; omega
      have HQ : Hid (16 * xf + (wsrc V xf xc).length ≤ (arr n D).length) := by show _ ≤ _; simp [wsrc, arr]; omega
      have HO : Hid (∀ u ∈ wsrc V xf xc, u.oneCell' = true) := fun u hu => by obtain ⟨z, _, rfl⟩ := List.mem_map.1 hu; rfl
      have hwr : IntKind.i64.wrap (16 * (xf : Int)) = 16 * (xf : Int) := by rw [IntKind.wrap_i64]; omega
      have hk1 : 0 ≤ 16 * (xf : Int) := by omega
      have hk2 : 16 * (xf : Int) ≤ ((16 * n : Nat) : Int) := by omega
      have hxn : xf ≤ n := by omega
      have htn : (16 * (xf : Int)).toNat = 16 * xf := by omega
      have LEN : Hid ((wsrc V xf xc).length = 16 * xc) := by show _ = _; simp [wsrc]
      have SRC : Hid (∀ j u, (wsrc V xf xc)[j]? = some u → (wr.alloc (.cells #[.int .i64 xf, .int .i64 xc, .slice (some ⟨xb, 0, none⟩) (16 * xc) (16 * xc)] 50)).drew.cell? ((⟨xb, 0, none⟩ : Addr).add j) = some u) := fun j u hu => by
        rw [Addr.add_mid, Nat.zero_add]
        simp only [World.cell?, HW.out]
        unfold wv
        rw [List.getElem?_toArray]
        exact hu
      clear HW
      go_wp2_with fail
      refine wp_region_noPanic ?_
      refine wp_region_any mixed ?_
      change wpAny _ _ _ _ _ _ _ (World.drew _)
      generalize (wr.alloc (.cells #[.int .i64 xf, .int .i64 xc, .slice (some ⟨xb, 0, none⟩) (16 * xc) (16 * xc)] 50)).drew = wB at *
      refine wpAny_take (i := 0) (v := ?_) rfl (by kernel_rfl) (by kernel_rfl) (by kernel_rfl) (fun _ _ _ h => h) (Or.inl ⟨by rfl, fun w => ?_⟩) ?_
      rotate_left 1
      · (go_simp <;> with_reducible rfl)
      simp only [Act.put, List.getElem_toArray, List.getElem_cons_zero, List.setIfInBounds_toArray, List.set_cons_zero, List.set_cons_succ]
      refine wpAny_take (i := 1) (v := ?_) rfl (by kernel_rfl) (by kernel_rfl) (by kernel_rfl) (fun _ _ _ h => h) (Or.inl ⟨by rfl, fun w => ?_⟩) ?_
      rotate_left 1
      · (go_simp <;> with_reducible rfl)
      simp only [Act.put, List.getElem_toArray, List.getElem_cons_zero, List.getElem_cons_succ, List.setIfInBounds_toArray, List.set_cons_zero, List.set_cons_succ]
      refine wpAny_take (i := 5) (v := ?_) rfl (by kernel_rfl) (by kernel_rfl) (by kernel_rfl) (fun _ _ _ h => h) (Or.inl ⟨by rfl, fun w => ?_⟩) ?_
      rotate_left 1
      · (go_simp <;> with_reducible rfl)
      simp only [Act.put, List.getElem_toArray, List.getElem_cons_zero, List.getElem_cons_succ, List.setIfInBounds_toArray, List.set_cons_zero, List.set_cons_succ]
      refine wpAny_ready (rs := [2, 6]) (by kernel_rfl) (by decide) ?_
      refine AllReady.cons rfl (fun K1 hK1 => ?_) (AllReady.cons rfl (fun K1 hK1 => ?_) AllReady.nil)
      · have q := hB0.out
        go_simp
        refine hK1 _ _ ?_
        clear hK1 K1 q
        refine wpAny_take (i := 3) (v := ?_) rfl (by kernel_rfl) (by kernel_rfl) (by kernel_rfl) (fun _ _ _ h => h) (Or.inl ⟨by rfl, fun w => ?_⟩) ?_
        rotate_left 1
        · (go_simp <;> with_reducible rfl)
        simp only [Act.put, List.getElem_toArray, List.getElem_cons_zero, List.getElem_cons_succ, List.setIfInBounds_toArray, List.set_cons_zero, List.set_cons_succ]
        refine wpAny_take (i := 4) (v := ?_) rfl (by kernel_rfl) (by kernel_rfl) (by kernel_rfl) (fun _ _ _ h => h) (Or.inl ⟨by rfl, fun w => ?_⟩) ?_
        rotate_left 1
        · (go_simp <;> with_reducible rfl)
        simp only [Act.put, List.getElem_toArray, List.getElem_cons_zero, List.getElem_cons_succ, List.setIfInBounds_toArray, List.set_cons_zero, List.set_cons_succ]
        refine wpAny_ready (rs := [6]) (by kernel_rfl) (by decide) ?_
        refine AllReady.cons rfl (fun K1 hK1 => ?_) AllReady.nil
        have q := hB2.out
        go_simp
        refine hK1 _ _ ?_
        clear hK1 K1 q
        refine wpAny_ready (rs := [7]) (by kernel_rfl) (by decide) ?_
        refine AllReady.cons rfl (fun K1 hK1 => ?_) AllReady.nil
        refine step_copy_splice rfl (.tmp 25) (.tmp 27) 22 22 rfl 3 Tryd.underlying22 sz3 _ _ _ _ _ _ rfl rfl w.heap.size (16 * xf) (arr n D) 3 HG.out (wsrc V xf xc) HL.out (fun hpos => ⟨if_neg (by rw [LEN.out] at hpos; omega), _, rfl, SRC.out⟩) HQ.out HO.out w.heap.size w HB.out (Nat.le_refl _) ?_
        intro w5 hg5 hb5
        refine hK1 _ _ ?_
        clear hK1 K1
        refine wpAny_done (by kernel_rfl) ?_ _
        refine NoPanic.normal ?_
        have I2 := E.out w5 hg5 hb5
        clear hg5 hb5
        go_wp2_with fail
        all_goals go_roundw
        all_goals first | (exact ⟨k + 1, by omega, by go_num, I2.out⟩) | (simp [intOf]; omega)
      · have q := hB2.out
        go_simp
        refine hK1 _ _ ?_
        clear hK1 K1 q
        refine wpAny_ready (rs := [2]) (by kernel_rfl) (by decide) ?_
        refine AllReady.cons rfl (fun K1 hK1 => ?_) AllReady.nil
        have q := hB0.out
        go_simp
        refine hK1 _ _ ?_
        clear hK1 K1 q
        refine wpAny_take (i := 3) (v := ?_) rfl (by kernel_rfl) (by kernel_rfl) (by kernel_rfl) (fun _ _ _ h => h) (Or.inl ⟨by rfl, fun w => ?_⟩) ?_
        rotate_left 1
        · (go_simp <;> with_reducible rfl)
        simp only [Act.put, List.getElem_toArray, List.getElem_cons_zero, List.getElem_cons_succ, List.setIfInBounds_toArray, List.set_cons_zero, List.set_cons_succ]
        refine wpAny_take (i := 4) (v := ?_) rfl (by kernel_rfl) (by kernel_rfl) (by kernel_rfl) (fun _ _ _ h => h) (Or.inl ⟨by rfl, fun w => ?_⟩) ?_
        rotate_left 1
        · (go_simp <;> with_reducible rfl)
        simp only [Act.put, List.getElem_toArray, List.getElem_cons_zero, List.getElem_cons_succ, List.setIfInBounds_toArray, List.set_cons_zero, List.set_cons_succ]
        refine wpAny_ready (rs := [7]) (by kernel_rfl) (by decide) ?_
        refine AllReady.cons rfl (fun K1 hK1 => ?_) AllReady.nil
        refine step_copy_splice rfl (.tmp 25) (.tmp 27) 22 22 rfl 3 Tryd.underlying22 sz3 _ _ _ _ _ _ rfl rfl w.heap.size (16 * xf) (arr n D) 3 HG.out (wsrc V xf xc) HL.out (fun hpos => ⟨if_neg (by rw [LEN.out] at hpos; omega), _, rfl, SRC.out⟩) HQ.out HO.out w.heap.size w HB.out (Nat.le_refl _) ?_
        intro w5 hg5 hb5
        refine hK1 _ _ ?_
        clear hK1 K1
        refine wpAny_done (by kernel_rfl) ?_ _
        refine NoPanic.normal ?_
        have I2 := E.out w5 hg5 hb5
        clear hg5 hb5
        go_wp2_with fail
        all_goals go_roundw
        all_goals first | (exact ⟨k + 1, by omega, by go_num, I2.out⟩) | (simp [intOf]; omega)
    · have e : k = m := by omega
      subst e
      clear HM HR
      go_wp2_with fail
      go_ret
      exact ⟨rfl, I.out⟩

end Go.Proofs.YtndhgdjcbegjdaaDoor.Ck
