/- Package sync: clones. (Written by mk_y.py.) -/
import Derived.Test.YtghfjnnmpmfboaaDoorZl
namespace Go.Proofs.YtghfjnnmpmfboaaDoor.Ck
open Go.RowKit

def Qs2 (w : World) (b : Nat) (t room : Int) (v : Value) : Prop := w.heap[b]? = some (.cells #[.int .i64 t, .int .i64 room, v] 98 (0, 0)) ∧ b < w.heap.size
theorem Qs2.cells {w : World} {b : Nat} {t room : Int} {v : Value} (h : Qs2 w b t room v) : w.cell? ⟨b, 0, none⟩ = some (.int .i64 t) ∧ w.cell? ⟨b, 1, none⟩ = some (.int .i64 room) ∧ w.cell? ⟨b, 2, none⟩ = some v := ⟨blk_cell h.1 0 _ rfl, blk_cell h.1 1 _ rfl, blk_cell h.1 2 _ rfl⟩
theorem Qs2.al {w w' : World} {b : Nat} {t room : Int} {v : Value} (h : Qs2 w b t room v) (hb : Below w.heap.size w w') : Qs2 w' b t room v := ⟨(hb.block b h.2).trans h.1, Nat.lt_of_lt_of_le h.2 hb.size⟩
theorem Qs2.set {w : World} {b : Nat} {t room : Int} {v : Value} (h : Qs2 w b t room v) {g : Nat} (hg : b ≠ g) (x y z : Value) : Qs2 (((w.setCell ⟨g, 0, none⟩ x).setCell ⟨g, 1, none⟩ y).setCell ⟨g, 2, none⟩ z) b t room v :=
  ⟨((Below.heap_setCell _ _ _ _ hg).trans ((Below.heap_setCell _ _ _ _ hg).trans (Below.heap_setCell _ _ _ _ hg))).trans h.1, by rw [size_setCell, size_setCell, size_setCell]; exact h.2⟩
theorem Qs2.mk3 {w : World} {g : Nat} {c0 c1 c2 x y z : Value} (h : w.heap[g]? = some (.cells #[c0, c1, c2] 98 (0, 0))) : (((w.setCell ⟨g, 0, none⟩ x).setCell ⟨g, 1, none⟩ y).setCell ⟨g, 2, none⟩ z).heap[g]? = some (.cells #[x, y, z] 98 (0, 0)) :=
  heap_setCell_same _ _ _ _ _ _ (heap_setCell_same _ _ _ _ _ _ (heap_setCell_same _ _ _ _ _ _ h))
theorem own_low {w : World} {B B' : Nat} {T : TypeId} {n : Nat} {v : Value} {len : Nat} {xs : List Value} (h : w.ownsRow B T n v len xs) (hB : B' ≤ B) : w.ownsRow B' T n v len xs := by
  obtain ⟨hl, h0 | ⟨gb, cap, cur, e, hB2, r⟩⟩ := h
  · exact ⟨hl, .inl h0⟩
  · exact ⟨hl, .inr ⟨gb, cap, cur, e, Nat.le_trans hB hB2, r⟩⟩
theorem ret_q {fn : Func} {R : Ending → World → Prop} {a : Act} {w : World} {p : Tmp} (g : Nat) {x y z : Value} (hf : fn.results = #[.cell p 98]) (hp : a.tmps.getD p undef = .pointer (some ⟨g, 0, none⟩))
    (h : w.heap[g]? = some (.cells #[x, y, z] 98 (0, 0))) (hdf : a.defers = []) (hR : R (.returned (.agg #[x, y, z])) w) : bodyPost Tryd.prog fn R .ret a w :=
  bodyPost_ret (by
    have hp' : a.tmps[p]?.getD undef = .pointer (some ⟨g, 0, none⟩) := by simpa using hp
    have c0 := blk_cell h 0 _ rfl
    have c1 := blk_cell h 1 _ rfl
    have c2 := blk_cell h 2 _ rfl
    simp [results, hf, hp', go_sem, c0, c1, c2]) hdf hR

/-- what a clone is: a row of its own -/
def ClP (w : World) (T : TypeId) (sz n : Nat) (xs : List Value) (e : Ending) (w' : World) : Prop := ∃ a c, e = .returned (.slice a n c) ∧ w'.ownsRow w.heap.size T sz (.slice a n c) n xs ∧ Below w.heap.size w w'
set_option maxRecDepth 20000 in
set_option maxHeartbeats 1000000 in
theorem cloneV {w : World} {src : Value} {n : Nat} {xs : List Value} (hs : w.ownsRow 0 41 3 src n xs) (hn : n ≤ 1000) (h1 : ∀ u ∈ xs, u.oneCell' = true) : Calls Tryd.prog 42 #[src] w (ClP w 41 3 n xs) := by
  rcases own_form hs with ⟨rfl, rfl⟩ | ⟨b, c, rfl, _⟩
  · have e : xs = [] := by have := hs.1; simpa using this
    subst e
    clear hs
    have hE : ∀ w, (binOp .eql 46 (.slice none 0 0) (.slice none 0 0)).run Tryd.prog w = .ok (.bool true) w := fun w => by kernel_rfl
    go_enter Tryd.func42, Tryd.ntmps42
    go_wp2_with fail
    go_ret
    exact ⟨_, _, rfl, World.ownsRow_nil _ _ _ _, Below.refl _ _⟩
  · have hb := bel_new w (.cells #[] 41)
    have AP := hide (fun ty => app_copy (B := w.heap.size) Tryd.underlying46 info_val rfl (by decide) (Go.Deep.blk_alloc_new w (.cells #[] 41)) (Nat.le_refl _) (own_keep hs (fun k hk => hb.block k (own_type hs hk).2.1)) (by omega) h1 hb.size ty)
    have HB := hide hb
    clear hs hb h1
    have hE : ∀ w, (binOp .eql 46 (.slice (some ⟨b, 0, none⟩) n c) (.slice none 0 0)).run Tryd.prog w = .ok (.bool false) w := fun w => by kernel_rfl
    go_enter Tryd.func42, Tryd.ntmps42
    go_wp2_with (first | (at_builtin; refine wpList_appW (TS := 46) rfl (.tmp 5) (.tmp 6) rfl _ _ rfl rfl _ (AP.out _) ?_; rintro v9 w9 ⟨⟨a9, c9, rfl⟩, o9, b9, _⟩; have R9 := hide (And.intro o9 b9); clear o9 b9))
    go_ret
    exact ⟨_, _, rfl, R9.out.1, bel_trans HB.out R9.out.2⟩
set_option maxRecDepth 20000 in
set_option maxHeartbeats 1000000 in
theorem cloneB {w : World} {src : Value} {n : Nat} {xs : List Value} (hs : w.ownsRow 0 4 1 src n xs) (hn : n ≤ 1000) (h1 : ∀ u ∈ xs, u.oneCell' = true) : Calls Tryd.prog 43 #[src] w (ClP w 4 1 n xs) := by
  rcases own_form hs with ⟨rfl, rfl⟩ | ⟨b, c, rfl, _⟩
  · have e : xs = [] := by have := hs.1; simpa using this
    subst e
    clear hs
    have hE : ∀ w, (binOp .eql 47 (.slice none 0 0) (.slice none 0 0)).run Tryd.prog w = .ok (.bool true) w := fun w => by kernel_rfl
    go_enter Tryd.func43, Tryd.ntmps43
    go_wp2_with fail
    go_ret
    exact ⟨_, _, rfl, World.ownsRow_nil _ _ _ _, Below.refl _ _⟩
  · have hb := bel_new w (.cells #[] 4)
    have AP := hide (fun ty => app_copy (B := w.heap.size) Tryd.underlying47 info_bool rfl (by decide) (Go.Deep.blk_alloc_new w (.cells #[] 4)) (Nat.le_refl _) (own_keep hs (fun k hk => hb.block k (own_type hs hk).2.1)) (by omega) h1 hb.size ty)
    have HB := hide hb
    clear hs hb h1
    have hE : ∀ w, (binOp .eql 47 (.slice (some ⟨b, 0, none⟩) n c) (.slice none 0 0)).run Tryd.prog w = .ok (.bool false) w := fun w => by kernel_rfl
    go_enter Tryd.func43, Tryd.ntmps43
    go_wp2_with (first | (at_builtin; refine wpList_appW (TS := 47) rfl (.tmp 5) (.tmp 6) rfl _ _ rfl rfl _ (AP.out _) ?_; rintro v9 w9 ⟨⟨a9, c9, rfl⟩, o9, b9, _⟩; have R9 := hide (And.intro o9 b9); clear o9 b9))
    go_ret
    exact ⟨_, _, rfl, R9.out.1, bel_trans HB.out R9.out.2⟩
set_option maxRecDepth 20000 in
set_option maxHeartbeats 1000000 in
theorem cloneI {w : World} {src : Value} {n : Nat} {xs : List Value} (hs : w.ownsRow 0 3 1 src n xs) (hn : n ≤ 1000) (h1 : ∀ u ∈ xs, u.oneCell' = true) : Calls Tryd.prog 44 #[src] w (ClP w 3 1 n xs) := by
  rcases own_form hs with ⟨rfl, rfl⟩ | ⟨b, c, rfl, _⟩
  · have e : xs = [] := by have := hs.1; simpa using this
    subst e
    clear hs
    have hE : ∀ w, (binOp .eql 22 (.slice none 0 0) (.slice none 0 0)).run Tryd.prog w = .ok (.bool true) w := fun w => by kernel_rfl
    go_enter Tryd.func44, Tryd.ntmps44
    go_wp2_with fail
    go_ret
    exact ⟨_, _, rfl, World.ownsRow_nil _ _ _ _, Below.refl _ _⟩
  · have hb := bel_new w (.cells #[] 3)
    have AP := hide (fun ty => app_copy (B := w.heap.size) Tryd.underlying22 info3 rfl (by decide) (Go.Deep.blk_alloc_new w (.cells #[] 3)) (Nat.le_refl _) (own_keep hs (fun k hk => hb.block k (own_type hs hk).2.1)) (by omega) h1 hb.size ty)
    have HB := hide hb
    clear hs hb h1
    have hE : ∀ w, (binOp .eql 22 (.slice (some ⟨b, 0, none⟩) n c) (.slice none 0 0)).run Tryd.prog w = .ok (.bool false) w := fun w => by kernel_rfl
    go_enter Tryd.func44, Tryd.ntmps44
    go_wp2_with (first | (at_builtin; refine wpList_appW (TS := 22) rfl (.tmp 5) (.tmp 6) rfl _ _ rfl rfl _ (AP.out _) ?_; rintro v9 w9 ⟨⟨a9, c9, rfl⟩, o9, b9, _⟩; have R9 := hide (And.intro o9 b9); clear o9 b9))
    go_ret
    exact ⟨_, _, rfl, R9.out.1, bel_trans HB.out R9.out.2⟩
set_option maxRecDepth 20000 in
set_option maxHeartbeats 2000000 in
theorem qclone {w : World} {b : Nat} {t room : Int} {a : Option Addr} {n c : Nat} {l : List V3} (hb : w.heap[b]? = some (.cells #[.int .i64 t, .int .i64 room, .slice a n c] 98 (0, 0))) (ho : w.ownsRow 0 41 3 (.slice a n c) n (vcs l)) (hn : n ≤ 1000) :
    Calls Tryd.prog 45 #[.pointer (some ⟨b, 0, none⟩)] w fun e w' => ∃ a' c', e = .returned (.agg #[.int .i64 t, .int .i64 room, .slice a' n c']) ∧ w'.ownsRow w.heap.size 41 3 (.slice a' n c') n (vcs l) ∧ Below w.heap.size w w' := by
  have hbl := lt_of_blk hb
  have HB := hide hb
  have HO := hide ho
  clear hb ho
  go_enter Tryd.func45, Tryd.ntmps45
  go_wp2_with fail
  have B1 := hide (bel_new w (.cells #[.int .i64 0, .int .i64 0, .slice none 0 0] 98))
  have X1 : Hid ((w.alloc (.cells #[.int .i64 0, .int .i64 0, .slice none 0 0] 98)).heap[w.heap.size]? = some (.cells #[.int .i64 0, .int .i64 0, .slice none 0 0] 98 (0, 0))) := hide (Go.Deep.blk_alloc_new w _)
  generalize w.alloc (.cells #[.int .i64 0, .int .i64 0, .slice none 0 0] 98) = w1 at *
  refine wp_region_held_drew (S := fun w' => Qs2 w' b t room (.slice a n c)) mixed (by exact ⟨((B1.out.block b hbl).trans HB.out), Nat.lt_of_lt_of_le hbl B1.out.size⟩) (fun hH => ?_)
  have B2 := hide (bel_drawn B1.out)
  have X2 : Hid (w1.drew.heap[w.heap.size]? = some (.cells #[.int .i64 0, .int .i64 0, .slice none 0 0] 98 (0, 0))) := X1
  clear B1 X1
  generalize w1.drew = w2 at *
  refine wpAnyH_take (i := 0) (v := ?_) rfl (by kernel_rfl) (by kernel_rfl) (by kernel_rfl) (fun _ _ _ h => h) (Or.inl ⟨by rfl, ?_⟩) hH ?_
  rotate_left 1
  · (intro w hSw; skip; clear hSw; go_simp <;> with_reducible rfl)
  simp only [Act.put, List.getElem_toArray, List.getElem_cons_zero, List.setIfInBounds_toArray, List.set_cons_zero, List.set_cons_succ]
  refine wpAnyH_take (i := 1) (v := ?_) rfl (by kernel_rfl) (by kernel_rfl) (by kernel_rfl) (fun _ _ _ h => h) (Or.inl ⟨by rfl, ?_⟩) hH ?_
  rotate_left 1
  · (intro w hSw; skip; clear hSw; go_simp <;> with_reducible rfl)
  simp only [Act.put, List.getElem_toArray, List.getElem_cons_zero, List.getElem_cons_succ, List.setIfInBounds_toArray, List.set_cons_zero, List.set_cons_succ]
  refine wpAnyH_take (i := 2) (v := ?_) rfl (by kernel_rfl) (by kernel_rfl) (by kernel_rfl) (fun _ _ _ h => h) (Or.inl ⟨by rfl, ?_⟩) hH ?_
  rotate_left 1
  · (intro w hSw; skip; clear hSw; go_simp <;> with_reducible rfl)
  simp only [Act.put, List.getElem_toArray, List.getElem_cons_zero, List.getElem_cons_succ, List.setIfInBounds_toArray, List.set_cons_zero, List.set_cons_succ]
  refine wpAnyH_take (i := 3) (v := ?_) rfl (by kernel_rfl) (by kernel_rfl) (by kernel_rfl) (fun _ _ _ h => h) (Or.inl ⟨by rfl, ?_⟩) hH ?_
  rotate_left 1
  · (intro w hSw; have q := hSw.cells; clear hSw; go_simp <;> with_reducible rfl)
  simp only [Act.put, List.getElem_toArray, List.getElem_cons_zero, List.getElem_cons_succ, List.setIfInBounds_toArray, List.set_cons_zero, List.set_cons_succ]
  refine wpAnyH_take (i := 4) (v := ?_) rfl (by kernel_rfl) (by kernel_rfl) (by kernel_rfl) (fun _ _ _ h => h) (Or.inl ⟨by rfl, ?_⟩) hH ?_
  rotate_left 1
  · (intro w hSw; skip; clear hSw; go_simp <;> with_reducible rfl)
  simp only [Act.put, List.getElem_toArray, List.getElem_cons_zero, List.getElem_cons_succ, List.setIfInBounds_toArray, List.set_cons_zero, List.set_cons_succ]
  refine wpAnyH_take (i := 5) (v := ?_) rfl (by kernel_rfl) (by kernel_rfl) (by kernel_rfl) (fun _ _ _ h => h) (Or.inl ⟨by rfl, ?_⟩) hH ?_
  rotate_left 1
  · (intro w hSw; skip; clear hSw; go_simp <;> with_reducible rfl)
  simp only [Act.put, List.getElem_toArray, List.getElem_cons_zero, List.getElem_cons_succ, List.setIfInBounds_toArray, List.set_cons_zero, List.set_cons_succ]
  refine wpAnyH_take (i := 6) (v := ?_) rfl (by kernel_rfl) (by kernel_rfl) (by kernel_rfl) (fun _ _ _ h => h) (Or.inl ⟨by rfl, ?_⟩) hH ?_
  rotate_left 1
  · (intro w hSw; skip; clear hSw; go_simp <;> with_reducible rfl)
  simp only [Act.put, List.getElem_toArray, List.getElem_cons_zero, List.getElem_cons_succ, List.setIfInBounds_toArray, List.set_cons_zero, List.set_cons_succ]
  refine wpAnyH_take (i := 7) (v := ?_) rfl (by kernel_rfl) (by kernel_rfl) (by kernel_rfl) (fun _ _ _ h => h) (Or.inl ⟨by rfl, ?_⟩) hH ?_
  rotate_left 1
  · (intro w hSw; have q := hSw.cells; clear hSw; go_simp <;> with_reducible rfl)
  simp only [Act.put, List.getElem_toArray, List.getElem_cons_zero, List.getElem_cons_succ, List.setIfInBounds_toArray, List.set_cons_zero, List.set_cons_succ]
  refine wpAnyH_ready (rs := [8]) (by kernel_rfl) (by decide) ?_
  refine AllReadyH.cons rfl (fun K1 hK1 => ?_) AllReadyH.nil
  go_simp
  refine (cloneV (own_keep HO.out (fun k hk => B2.out.block k (own_type HO.out hk).2.1)) hn (vcs_one _)).mono ?_
  rintro e w3 ⟨a3, c3, rfl, o3, b3⟩
  have O3 := hide o3
  have B3 := hide (bel_trans B2.out b3)
  have X3 := hide ((b3.block _ (lt_of_blk X2.out)).trans X2.out)
  have Z3 := hide B2.out.size
  refine hK1.out _ _ (hH.al b3) (fun hH => ?_)
  clear hK1 K1 o3 b3 B2 X2
  refine wpAnyH_take (i := 9) (v := ?_) rfl (by kernel_rfl) (by kernel_rfl) (by kernel_rfl) (fun _ _ _ h => h) (Or.inl ⟨by rfl, ?_⟩) hH ?_
  rotate_left 1
  · (intro w hSw; skip; clear hSw; go_simp <;> with_reducible rfl)
  simp only [Act.put, List.getElem_toArray, List.getElem_cons_zero, List.getElem_cons_succ, List.setIfInBounds_toArray, List.set_cons_zero, List.set_cons_succ]
  refine wpAnyH_ready (rs := [10]) (by kernel_rfl) (by decide) ?_
  refine AllReadyH.cons rfl (fun K1 hK1 => ?_) AllReadyH.nil
  have q0 := blk_cell X3.out 0 _ rfl
  have q1 := blk_cell X3.out 1 _ rfl
  have q2 := blk_cell X3.out 2 _ rfl
  have p0 := blk_frz X3.out 0
  have p1 := blk_frz X3.out 1
  have p2 := blk_frz X3.out 2
  go_simp
  refine hK1.out _ _ (hH.set (by omega) _ _ _) (fun hH => ?_)
  clear hK1 K1 q0 q1 q2 p0 p1 p2
  refine wpAnyH_done (by kernel_rfl) ?_ _
  clear hH
  go_wp2_with fail
  refine ret_q w.heap.size rfl rfl (Qs2.mk3 X3.out) rfl ⟨a3, c3, rfl, ?_, ?_⟩
  · refine own_keep (own_low O3.out Z3.out) (fun k hk => ?_)
    have hne : k ≠ w.heap.size := fun e => own_at O3.out X3.out (by decide) (by rw [hk, e])
    exact (Below.heap_setCell _ _ _ _ hne).trans ((Below.heap_setCell _ _ _ _ hne).trans (Below.heap_setCell _ _ _ _ hne))
  · exact bel_set B3.out (Nat.le_refl _) _ _ _
end Go.Proofs.YtghfjnnmpmfboaaDoor.Ck
