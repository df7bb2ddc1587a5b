/- Package sync: the first value out of a queue. (Written by mk_y.py.) -/
import Derived.Test.YtghfjnnmpmfboaaDoorYi
namespace Go.Proofs.YtghfjnnmpmfboaaDoor.Ck
open Go.RowKit

theorem zeroV (w : World) : (zeroValue 41).run Tryd.prog w = .ok (.agg #[.int .i64 0, .int .i64 0, .int .u64 0]) w := by kernel_rfl
/-- block b has turned, and nothing else -/
theorem gb_setCell {w w1 : World} {b : Nat} (h : w.grownBy w1 (some b)) (j : Nat) (u : Value) : w.grownBy (w1.setCell ⟨b, j, none⟩ u) (some b) :=
  ⟨h.os, h.tape, h.output, by rw [size_setCell]; exact h.size, fun k hk hne => (Below.heap_setCell _ _ _ _ (fun e => hne (congrArg some e))).trans (h.block k hk hne)⟩
theorem gb_drew {w w1 : World} {o : Option Nat} (h : w.drew.grownBy w1 o) : w.grownBy w1 o := ⟨h.os, h.tape, h.output, h.size, h.block⟩
theorem gb_trans {w w1 w2 : World} {o : Option Nat} (h : w.grownBy w1 o) (k : w1.grownBy w2 o) : w.grownBy w2 o :=
  ⟨k.os.trans h.os, k.tape.trans h.tape, k.output.trans h.output, Nat.le_trans h.size k.size, fun i hi hne => (k.block i (Nat.lt_of_lt_of_le hi h.size) hne).trans (h.block i hi hne)⟩
theorem run_clear1 {w : World} {b m c : Nat} {l : List V3} (ho : w.ownsRow 0 41 3 (.slice (some ⟨b, 0, none⟩) m c) l.length (vcs l)) (hc : m < c) (c' : Nat) (ty : TypeId) :
    ∃ w', (Builtin.clear_ #[46] ty #[.slice (some ⟨b, m * 3, none⟩) 1 c']).run Tryd.prog w = .ok (.tuple #[]) w' ∧ w'.ownsRow 0 41 3 (.slice (some ⟨b, 0, none⟩) m c) l.length (vcs l) ∧ w.grownBy w' (some b) := by
  have hm : m = l.length := by
    obtain ⟨_, ⟨h0, _⟩ | ⟨gb, cap, cur, e, _⟩⟩ := ho
    · cases h0
    · cases e
      rfl
  subst hm
  have hx : ∃ cur, w.heap[b]? = some (.cells cur 41 (0, 0)) ∧ cur.size = c * 3 := by
    obtain ⟨_, ⟨h0, _⟩ | ⟨gb, cap, cur, e, _, hg, _, _, hs, _⟩⟩ := ho
    · cases h0
    · cases e
      exact ⟨cur, hg, hs⟩
  obtain ⟨cur, hg, hs⟩ := hx
  have hcell : ∀ j, j < 3 → (w.cell? ⟨b, l.length * 3 + j, none⟩).isSome = true := fun j hj => by
    rw [blk_cell hg (l.length * 3 + j) cur[l.length * 3 + j] (Array.getElem?_eq_getElem (by omega))]
    rfl
  have hst := run_storeCells_cells (P := Tryd.prog) b (l.length * 3) [.int .i64 0, .int .i64 0, .int .u64 0] 0 w (by simpa using hcell) (fun j _ => blk_frz hg _) (by intro v hv; simp at hv; rcases hv with rfl | rfl | rfl <;> rfl)
  have h3 := own_set (own_set (own_set ho (l.length * 3) (.int .i64 0)) (l.length * 3 + 1) (.int .i64 0)) (l.length * 3 + 2) (.int .u64 0)
  refine ⟨_, ?_, ?_, gb_setCell (gb_setCell (gb_setCell (World.grownBy.refl w _) (l.length * 3) (.int .i64 0)) (l.length * 3 + 1) (.int .i64 0)) (l.length * 3 + 2) (.int .u64 0)⟩
  · simp only [Nat.add_zero] at hst
    have hzc : (Builtin.zeroCells (Value.agg #[.int .i64 0, .int .i64 0, .int .u64 0]).cells 1).toList = [.int .i64 0, .int .i64 0, .int .u64 0] := by kernel_rfl
    simp [Builtin.clear_, run_underlying Tryd.underlying46, hzc, hst, World.setCells]
  · rw [List.set_eq_of_length_le (by simp [vcs_len]), List.set_eq_of_length_le (by simp [vcs_len]), List.set_eq_of_length_le (by simp [vcs_len])] at h3
    exact h3
theorem run_move {w : World} {b c : Nat} {v : V3} {l : List V3} {k : Nat} (hk : k = l.length) (ho : w.ownsRow 0 41 3 (.slice (some ⟨b, 0, none⟩) (k + 1) c) (k + 1) (vcs (v :: l))) (a : Addr) (ha : a = ⟨b, 3, none⟩ ∨ k = 0) (c' : Nat) (ty : TypeId) :
    ∃ v' w', (Builtin.append_ #[46, 46] ty #[.slice (some ⟨b, 0, none⟩) 0 c, .slice (some a) k c']).run Tryd.prog w = .ok v' w' ∧ (v' = .slice (some ⟨b, 0, none⟩) k c ∧ w'.ownsRow 0 41 3 (.slice (some ⟨b, 0, none⟩) k c) l.length (vcs l) ∧ w.grownBy w' (some b)) := by
  subst hk
  obtain ⟨i, hi, hz0, hz1, hz2⟩ := info_parts info_val
  have hx : ∃ cur, w.heap[b]? = some (.cells cur 41 (0, 0)) ∧ l.length + 1 ≤ c ∧ c ≤ maxLen ∧ cur.size = c * 3 ∧ cur.toList.take ((l.length + 1) * 3) = vcs (v :: l) := by
    obtain ⟨_, ⟨h0, _⟩ | ⟨gb, cap, cur, e, _, hg, h1, h2, hs, ht⟩⟩ := ho
    · cases h0
    · cases e
      exact ⟨cur, hg, h1, h2, hs, ht⟩
  obtain ⟨cur, hg, h1, h2, hs, ht⟩ := hx
  have hr := run_append_room (P := Tryd.prog) w 46 ty 41 i Tryd.underlying46 hi b 0 c cur hg a l.length c' (vcs l) (by rw [vcs_len, hz1]) (fun j u hu => by
    have hj : j < l.length * 3 := by rw [← vcs_len]; exact (List.getElem?_eq_some_iff.1 hu).1
    rcases ha with rfl | e
    · have hu2 : (vcs (v :: l))[3 + j]? = some u := by
        rw [show 3 + j = j + 1 + 1 + 1 by omega]
        simpa [vcs] using hu
      rw [show (⟨b, 3, none⟩ : Addr).add j = ⟨b, 3 + j, none⟩ by unfold Addr.add; by_cases h : j = 0 <;> simp [h]]
      exact (own_cell ho (3 + j) u hu2).1
    · omega) (vcs_one _) (by omega) (by rw [vcs_len, hs]; omega)
  refine ⟨_, _, hr, by simp, ?_, rfl, rfl, rfl, by simp [World.setRow], fun k _ hk => setRow_other w b k _ (fun e => hk (by rw [e]))⟩
  refine ⟨vcs_len l, .inr ⟨b, c, _, rfl, Nat.zero_le _, setRow_heap w b _ _ 41 _ hg, by omega, h2, ?_, ?_⟩⟩
  · simp [vcs_len, hs]
    omega
  · simp only [Nat.zero_mul, List.take_zero, List.nil_append, ← vcs_len l]
    exact List.take_left
set_option maxRecDepth 20000 in
set_option maxHeartbeats 1000000 in
theorem delete_any {w : World} {b c : Nat} {v : V3} {l : List V3} {k : Nat} (hk : k = l.length) (hk8 : k ≤ 1000) (ho : w.ownsRow 0 41 3 (.slice (some ⟨b, 0, none⟩) (k + 1) c) (k + 1) (vcs (v :: l))) :
    Calls Tryd.prog 100 #[.slice (some ⟨b, 0, none⟩) (k + 1) c, .int .i64 0, .int .i64 1] w fun e w' => e = .returned (.slice (some ⟨b, 0, none⟩) k c) ∧ w'.ownsRow 0 41 3 (.slice (some ⟨b, 0, none⟩) k c) l.length (vcs l) ∧ w.grownBy w' (some b) := by
  obtain ⟨_, _, e, hkc, hcm⟩ := own_some ho (by omega)
  cases e
  have HO := hide (And.intro hk ho)
  clear hk ho
  unfold maxLen at hcm
  by_cases h1 : c = 1
  · subst h1
    obtain rfl : k = 0 := by omega
    have MV := hide (fun (ty : TypeId) => run_move (w := w.drew) HO.out.1 HO.out.2 ⟨b, 0, none⟩ (.inr rfl) 0 ty)
    go_enter Tryd.func100, Tryd.ntmps100
    go_wp2_with fail
    refine wp_region_any mixed ?_
    change wpAny _ _ _ _ _ _ _ (World.drew _)
    refine wpAny_take (i := 0) (v := ?_) rfl (by kernel_rfl) (by kernel_rfl) (by kernel_rfl) (fun _ _ _ h => h) (Or.inl ⟨by rfl, fun w => ?_⟩) ?_
    rotate_left 1
    · (go_simp <;> with_reducible rfl)
    simp only [Act.put, List.getElem_toArray, List.getElem_cons_zero, List.setIfInBounds_toArray, List.set_cons_zero, List.set_cons_succ]
    refine wpAny_take (i := 1) (v := ?_) rfl (by kernel_rfl) (by kernel_rfl) (by kernel_rfl) (fun _ _ _ h => h) (Or.inl ⟨by rfl, fun w => ?_⟩) ?_
    rotate_left 1
    · (go_simp <;> with_reducible rfl)
    simp only [Act.put, List.getElem_toArray, List.getElem_cons_zero, List.getElem_cons_succ, List.setIfInBounds_toArray, List.set_cons_zero, List.set_cons_succ]
    refine wpAny_take (i := 2) (v := ?_) rfl (by kernel_rfl) (by kernel_rfl) (by kernel_rfl) (fun _ _ _ h => h) (Or.inl ⟨by rfl, fun w => ?_⟩) ?_
    rotate_left 1
    · (go_simp <;> with_reducible rfl)
    simp only [Act.put, List.getElem_toArray, List.getElem_cons_zero, List.getElem_cons_succ, List.setIfInBounds_toArray, List.set_cons_zero, List.set_cons_succ]
    refine wpAny_take (i := 3) (v := ?_) rfl (by kernel_rfl) (by kernel_rfl) (by kernel_rfl) (fun _ _ _ h => h) (Or.inl ⟨by rfl, fun w => ?_⟩) ?_
    rotate_left 1
    · (go_simp <;> with_reducible rfl)
    simp only [Act.put, List.getElem_toArray, List.getElem_cons_zero, List.getElem_cons_succ, List.setIfInBounds_toArray, List.set_cons_zero, List.set_cons_succ]
    refine wpAny_take (i := 4) (v := ?_) rfl (by kernel_rfl) (by kernel_rfl) (by kernel_rfl) (fun _ _ _ h => h) (Or.inl ⟨by rfl, fun w => ?_⟩) ?_
    rotate_left 1
    · (go_simp <;> with_reducible rfl)
    simp only [Act.put, List.getElem_toArray, List.getElem_cons_zero, List.getElem_cons_succ, List.setIfInBounds_toArray, List.set_cons_zero, List.set_cons_succ]
    refine wpAny_take (i := 5) (v := ?_) rfl (by kernel_rfl) (by kernel_rfl) (by kernel_rfl) (fun _ _ _ h => h) (Or.inl ⟨by rfl, fun w => ?_⟩) ?_
    rotate_left 1
    · (go_simp <;> with_reducible rfl)
    simp only [Act.put, List.getElem_toArray, List.getElem_cons_zero, List.getElem_cons_succ, List.setIfInBounds_toArray, List.set_cons_zero, List.set_cons_succ]
    refine wpAny_ready (rs := [6]) (by kernel_rfl) (by decide) ?_
    refine AllReady.cons rfl (fun K1 hK1 => ?_) AllReady.nil
    refine step_appV (TS := 46) (.tmp 22) (.tmp 25) _ _ _ (fun ty => MV.out ty) rfl rfl rfl rfl ?_
    rintro v9 w9 ⟨rfl, r9, g9⟩
    have R9 := hide (And.intro r9 g9)
    clear r9 g9
    refine hK1 _ _ ?_
    clear hK1 K1
    refine wpAny_ready (rs := [7]) (by kernel_rfl) (by decide) ?_
    refine AllReady.cons rfl (fun K1 hK1 => ?_) AllReady.nil
    go_simp
    refine hK1 _ _ ?_
    clear hK1 K1
    refine wpAny_done (by kernel_rfl) ?_ _
    obtain ⟨w10, hcl, r10, g10⟩ := run_clear1 R9.out.1 (show 0 < 1 by omega) 1 0
    simp only [Nat.zero_mul] at hcl
    have R10 := hide (And.intro r10 g10)
    clear r10 g10
    go_wp2_with fail
    go_ret
    exact ⟨rfl, R10.out.1, gb_trans (gb_drew R9.out.2) R10.out.2⟩
  · have h2 : (c = 1) = False := eq_false h1
    have h3 : (1 : Int) ≤ (k : Int) + 1 := by omega
    have MV := hide (fun (ty : TypeId) => run_move (w := w.drew) HO.out.1 HO.out.2 ⟨b, 3, none⟩ (.inl rfl) (c - 1) ty)
    go_enter Tryd.func100, Tryd.ntmps100
    go_wp2_with fail
    refine wp_region_any mixed ?_
    change wpAny _ _ _ _ _ _ _ (World.drew _)
    refine wpAny_take (i := 0) (v := ?_) rfl (by kernel_rfl) (by kernel_rfl) (by kernel_rfl) (fun _ _ _ h => h) (Or.inl ⟨by rfl, fun w => ?_⟩) ?_
    rotate_left 1
    · (go_simp <;> with_reducible rfl)
    simp only [Act.put, List.getElem_toArray, List.getElem_cons_zero, List.setIfInBounds_toArray, List.set_cons_zero, List.set_cons_succ]
    refine wpAny_take (i := 1) (v := ?_) rfl (by kernel_rfl) (by kernel_rfl) (by kernel_rfl) (fun _ _ _ h => h) (Or.inl ⟨by rfl, fun w => ?_⟩) ?_
    rotate_left 1
    · (go_simp <;> with_reducible rfl)
    simp only [Act.put, List.getElem_toArray, List.getElem_cons_zero, List.getElem_cons_succ, List.setIfInBounds_toArray, List.set_cons_zero, List.set_cons_succ]
    refine wpAny_take (i := 2) (v := ?_) rfl (by kernel_rfl) (by kernel_rfl) (by kernel_rfl) (fun _ _ _ h => h) (Or.inl ⟨by rfl, fun w => ?_⟩) ?_
    rotate_left 1
    · (go_simp <;> with_reducible rfl)
    simp only [Act.put, List.getElem_toArray, List.getElem_cons_zero, List.getElem_cons_succ, List.setIfInBounds_toArray, List.set_cons_zero, List.set_cons_succ]
    refine wpAny_take (i := 3) (v := ?_) rfl (by kernel_rfl) (by kernel_rfl) (by kernel_rfl) (fun _ _ _ h => h) (Or.inl ⟨by rfl, fun w => ?_⟩) ?_
    rotate_left 1
    · (go_simp <;> with_reducible rfl)
    simp only [Act.put, List.getElem_toArray, List.getElem_cons_zero, List.getElem_cons_succ, List.setIfInBounds_toArray, List.set_cons_zero, List.set_cons_succ]
    refine wpAny_take (i := 4) (v := ?_) rfl (by kernel_rfl) (by kernel_rfl) (by kernel_rfl) (fun _ _ _ h => h) (Or.inl ⟨by rfl, fun w => ?_⟩) ?_
    rotate_left 1
    · (go_simp <;> with_reducible rfl)
    simp only [Act.put, List.getElem_toArray, List.getElem_cons_zero, List.getElem_cons_succ, List.setIfInBounds_toArray, List.set_cons_zero, List.set_cons_succ]
    refine wpAny_take (i := 5) (v := ?_) rfl (by kernel_rfl) (by kernel_rfl) (by kernel_rfl) (fun _ _ _ h => h) (Or.inl ⟨by rfl, fun w => ?_⟩) ?_
    rotate_left 1
    · (go_simp <;> with_reducible rfl)
    simp only [Act.put, List.getElem_toArray, List.getElem_cons_zero, List.getElem_cons_succ, List.setIfInBounds_toArray, List.set_cons_zero, List.set_cons_succ]
    refine wpAny_ready (rs := [6]) (by kernel_rfl) (by decide) ?_
    refine AllReady.cons rfl (fun K1 hK1 => ?_) AllReady.nil
    refine step_appV (TS := 46) (.tmp 22) (.tmp 25) _ _ _ (fun ty => MV.out ty) rfl rfl rfl rfl ?_
    rintro v9 w9 ⟨rfl, r9, g9⟩
    have R9 := hide (And.intro r9 g9)
    clear r9 g9
    refine hK1 _ _ ?_
    clear hK1 K1
    refine wpAny_ready (rs := [7]) (by kernel_rfl) (by decide) ?_
    refine AllReady.cons rfl (fun K1 hK1 => ?_) AllReady.nil
    go_simp
    refine hK1 _ _ ?_
    clear hK1 K1
    refine wpAny_done (by kernel_rfl) ?_ _
    obtain ⟨w10, hcl, r10, g10⟩ := run_clear1 R9.out.1 (show k < c by omega) (c - k) 0
    have R10 := hide (And.intro r10 g10)
    clear r10 g10
    go_wp2_with fail
    go_ret
    exact ⟨rfl, R10.out.1, gb_trans (gb_drew R9.out.2) R10.out.2⟩
end Go.Proofs.YtghfjnnmpmfboaaDoor.Ck
