/- Texts of this proof, packed: contracts of the program's functions, and the plain model that they are held against. -/
import Derived.Test.YtbiilnpblnjliaaDoorQal
import Derived.Test.YtbiilnpblnjliaaDoorQae
import Derived.StillTailTactics
import Derived.Deep.RegionHeld3
/- Package sync: clones. (Written by mk_y.py.) -/
namespace Go.Proofs.YtbiilnpblnjliaaDoor.Ck
open Go.RowKit

def Qs2 (w : World) (b : Nat) (t room : Int) (v : Value) : Prop := w.heap[b]? = some (.cells #[.int .i64 t, .int .i64 room, v] 97 (0, 0)) ∧ b < w.heap.size
theorem Qs2.cells {w : World} {b : Nat} {t room : Int} {v : Value} (h : Qs2 w b t room v) : w.cell? ⟨b, 0, none⟩ = some (.int .i64 t) ∧ w.cell? ⟨b, 1, none⟩ = some (.int .i64 room) ∧ w.cell? ⟨b, 2, none⟩ = some v := ⟨blk_cell h.1 0 _ rfl, blk_cell h.1 1 _ rfl, blk_cell h.1 2 _ rfl⟩
theorem Qs2.al {w w' : World} {b : Nat} {t room : Int} {v : Value} (h : Qs2 w b t room v) (hb : Below w.heap.size w w') : Qs2 w' b t room v := ⟨(hb.block b h.2).trans h.1, Nat.lt_of_lt_of_le h.2 hb.size⟩
theorem Qs2.set {w : World} {b : Nat} {t room : Int} {v : Value} (h : Qs2 w b t room v) {g : Nat} (hg : b ≠ g) (x y z : Value) : Qs2 (((w.setCell ⟨g, 0, none⟩ x).setCell ⟨g, 1, none⟩ y).setCell ⟨g, 2, none⟩ z) b t room v :=
  ⟨((Below.heap_setCell _ _ _ _ hg).trans ((Below.heap_setCell _ _ _ _ hg).trans (Below.heap_setCell _ _ _ _ hg))).trans h.1, by rw [size_setCell, size_setCell, size_setCell]; exact h.2⟩
theorem Qs2.mk3 {w : World} {g : Nat} {c0 c1 c2 x y z : Value} (h : w.heap[g]? = some (.cells #[c0, c1, c2] 97 (0, 0))) : (((w.setCell ⟨g, 0, none⟩ x).setCell ⟨g, 1, none⟩ y).setCell ⟨g, 2, none⟩ z).heap[g]? = some (.cells #[x, y, z] 97 (0, 0)) :=
  heap_setCell_same _ _ _ _ _ _ (heap_setCell_same _ _ _ _ _ _ (heap_setCell_same _ _ _ _ _ _ h))
theorem own_low {w : World} {B B' : Nat} {T : TypeId} {n : Nat} {v : Value} {len : Nat} {xs : List Value} (h : w.ownsRow B T n v len xs) (hB : B' ≤ B) : w.ownsRow B' T n v len xs := by
  obtain ⟨hl, h0 | ⟨gb, cap, cur, e, hB2, r⟩⟩ := h
  · exact ⟨hl, .inl h0⟩
  · exact ⟨hl, .inr ⟨gb, cap, cur, e, Nat.le_trans hB hB2, r⟩⟩
theorem ret_q {fn : Func} {R : Ending → World → Prop} {a : Act} {w : World} {p : Tmp} (g : Nat) {x y z : Value} (hf : fn.results = #[.cell p 97]) (hp : a.tmps.getD p undef = .pointer (some ⟨g, 0, none⟩))
    (h : w.heap[g]? = some (.cells #[x, y, z] 97 (0, 0))) (hdf : a.defers = []) (hR : R (.returned (.agg #[x, y, z])) w) : bodyPost Tryd.prog fn R .ret a w :=
  bodyPost_ret (by
    have hp' : a.tmps[p]?.getD undef = .pointer (some ⟨g, 0, none⟩) := by simpa using hp
    have c0 := blk_cell h 0 _ rfl
    have c1 := blk_cell h 1 _ rfl
    have c2 := blk_cell h 2 _ rfl
    simp [results, hf, hp', go_sem, c0, c1, c2]) hdf hR

/-- what a clone is: a row of its own -/
def ClP (w : World) (T : TypeId) (sz n : Nat) (xs : List Value) (e : Ending) (w' : World) : Prop := ∃ a c, e = .returned (.slice a n c) ∧ w'.ownsRow w.heap.size T sz (.slice a n c) n xs ∧ Below w.heap.size w w'
set_option maxRecDepth 20000 in
set_option maxHeartbeats 1000000 in
theorem cloneV {w : World} {src : Value} {n : Nat} {xs : List Value} (hs : w.ownsRow 0 41 3 src n xs) (hn : n ≤ 1000) (h1 : ∀ u ∈ xs, u.oneCell' = true) : Calls Tryd.prog 41 #[src] w (ClP w 41 3 n xs) := by
  rcases own_form hs with ⟨rfl, rfl⟩ | ⟨b, c, rfl, _⟩
  · have e : xs = [] := by have := hs.1; simpa using this
    subst e
    clear hs
    have hE : ∀ w, (binOp .eql 46 (.slice none 0 0) (.slice none 0 0)).run Tryd.prog w = .ok (.bool true) w := fun w => by kernel_rfl
    go_enter Tryd.func41, Tryd.ntmps41
    go_wp2_with fail
    go_ret
    exact ⟨_, _, rfl, World.ownsRow_nil _ _ _ _, Below.refl _ _⟩
  · have hb := bel_new w (.cells #[] 41)
    have AP := hide (fun ty => app_copy (B := w.heap.size) Tryd.underlying46 info_val rfl (by decide) (Go.Deep.blk_alloc_new w (.cells #[] 41)) (Nat.le_refl _) (own_keep hs (fun k hk => hb.block k (own_type hs hk).2.1)) (by omega) h1 hb.size ty)
    have HB := hide hb
    clear hs hb h1
    have hE : ∀ w, (binOp .eql 46 (.slice (some ⟨b, 0, none⟩) n c) (.slice none 0 0)).run Tryd.prog w = .ok (.bool false) w := fun w => by kernel_rfl
    go_enter Tryd.func41, Tryd.ntmps41
    go_wp2_with (first | (at_builtin; refine wpList_appW (TS := 46) rfl (.tmp 5) (.tmp 6) rfl _ _ rfl rfl _ (AP.out _) ?_; rintro v9 w9 ⟨⟨a9, c9, rfl⟩, o9, b9, _⟩; have R9 := hide (And.intro o9 b9); clear o9 b9))
    go_ret
    exact ⟨_, _, rfl, R9.out.1, bel_trans HB.out R9.out.2⟩
set_option maxRecDepth 20000 in
set_option maxHeartbeats 1000000 in
theorem cloneB {w : World} {src : Value} {n : Nat} {xs : List Value} (hs : w.ownsRow 0 4 1 src n xs) (hn : n ≤ 1000) (h1 : ∀ u ∈ xs, u.oneCell' = true) : Calls Tryd.prog 42 #[src] w (ClP w 4 1 n xs) := by
  rcases own_form hs with ⟨rfl, rfl⟩ | ⟨b, c, rfl, _⟩
  · have e : xs = [] := by have := hs.1; simpa using this
    subst e
    clear hs
    have hE : ∀ w, (binOp .eql 47 (.slice none 0 0) (.slice none 0 0)).run Tryd.prog w = .ok (.bool true) w := fun w => by kernel_rfl
    go_enter Tryd.func42, Tryd.ntmps42
    go_wp2_with fail
    go_ret
    exact ⟨_, _, rfl, World.ownsRow_nil _ _ _ _, Below.refl _ _⟩
  · have hb := bel_new w (.cells #[] 4)
    have AP := hide (fun ty => app_copy (B := w.heap.size) Tryd.underlying47 info_bool rfl (by decide) (Go.Deep.blk_alloc_new w (.cells #[] 4)) (Nat.le_refl _) (own_keep hs (fun k hk => hb.block k (own_type hs hk).2.1)) (by omega) h1 hb.size ty)
    have HB := hide hb
    clear hs hb h1
    have hE : ∀ w, (binOp .eql 47 (.slice (some ⟨b, 0, none⟩) n c) (.slice none 0 0)).run Tryd.prog w = .ok (.bool false) w := fun w => by kernel_rfl
    go_enter Tryd.func42, Tryd.ntmps42
    go_wp2_with (first | (at_builtin; refine wpList_appW (TS := 47) rfl (.tmp 5) (.tmp 6) rfl _ _ rfl rfl _ (AP.out _) ?_; rintro v9 w9 ⟨⟨a9, c9, rfl⟩, o9, b9, _⟩; have R9 := hide (And.intro o9 b9); clear o9 b9))
    go_ret
    exact ⟨_, _, rfl, R9.out.1, bel_trans HB.out R9.out.2⟩
set_option maxRecDepth 20000 in
set_option maxHeartbeats 1000000 in
theorem cloneI {w : World} {src : Value} {n : Nat} {xs : List Value} (hs : w.ownsRow 0 3 1 src n xs) (hn : n ≤ 1000) (h1 : ∀ u ∈ xs, u.oneCell' = true) : Calls Tryd.prog 43 #[src] w (ClP w 3 1 n xs) := by
  rcases own_form hs with ⟨rfl, rfl⟩ | ⟨b, c, rfl, _⟩
  · have e : xs = [] := by have := hs.1; simpa using this
    subst e
    clear hs
    have hE : ∀ w, (binOp .eql 22 (.slice none 0 0) (.slice none 0 0)).run Tryd.prog w = .ok (.bool true) w := fun w => by kernel_rfl
    go_enter Tryd.func43, Tryd.ntmps43
    go_wp2_with fail
    go_ret
    exact ⟨_, _, rfl, World.ownsRow_nil _ _ _ _, Below.refl _ _⟩
  · have hb := bel_new w (.cells #[] 3)
    have AP := hide (fun ty => app_copy (B := w.heap.size) Tryd.underlying22 info3 rfl (by decide) (Go.Deep.blk_alloc_new w (.cells #[] 3)) (Nat.le_refl _) (own_keep hs (fun k hk => hb.block k (own_type hs hk).2.1)) (by omega) h1 hb.size ty)
    have HB := hide hb
    clear hs hb h1
    have hE : ∀ w, (binOp .eql 22 (.slice (some ⟨b, 0, none⟩) n c) (.slice none 0 0)).run Tryd.prog w = .ok (.bool false) w := fun w => by kernel_rfl
    go_enter Tryd.func43, Tryd.ntmps43
    go_wp2_with (first | (at_builtin; refine wpList_appW (TS := 22) rfl (.tmp 5) (.tmp 6) rfl _ _ rfl rfl _ (AP.out _) ?_; rintro v9 w9 ⟨⟨a9, c9, rfl⟩, o9, b9, _⟩; have R9 := hide (And.intro o9 b9); clear o9 b9))
    go_ret
    exact ⟨_, _, rfl, R9.out.1, bel_trans HB.out R9.out.2⟩
set_option maxRecDepth 20000 in
set_option maxHeartbeats 2000000 in
theorem qclone {w : World} {b : Nat} {t room : Int} {a : Option Addr} {n c : Nat} {l : List V3} (hb : w.heap[b]? = some (.cells #[.int .i64 t, .int .i64 room, .slice a n c] 97 (0, 0))) (ho : w.ownsRow 0 41 3 (.slice a n c) n (vcs l)) (hn : n ≤ 1000) :
    Calls Tryd.prog 44 #[.pointer (some ⟨b, 0, none⟩)] w fun e w' => ∃ a' c', e = .returned (.agg #[.int .i64 t, .int .i64 room, .slice a' n c']) ∧ w'.ownsRow w.heap.size 41 3 (.slice a' n c') n (vcs l) ∧ Below w.heap.size w w' := by
  have hbl := lt_of_blk hb
  have HB := hide hb
  have HO := hide ho
  clear hb ho
  go_enter Tryd.func44, Tryd.ntmps44
  go_wp2_with fail
  have B1 := hide (bel_new w (.cells #[.int .i64 0, .int .i64 0, .slice none 0 0] 97))
  have X1 : Hid ((w.alloc (.cells #[.int .i64 0, .int .i64 0, .slice none 0 0] 97)).heap[w.heap.size]? = some (.cells #[.int .i64 0, .int .i64 0, .slice none 0 0] 97 (0, 0))) := hide (Go.Deep.blk_alloc_new w _)
  generalize w.alloc (.cells #[.int .i64 0, .int .i64 0, .slice none 0 0] 97) = w1 at *
  refine wp_region_held_drew (S := fun w' => Qs2 w' b t room (.slice a n c)) mixed (by exact ⟨((B1.out.block b hbl).trans HB.out), Nat.lt_of_lt_of_le hbl B1.out.size⟩) (fun hH => ?_)
  have B2 := hide (bel_drawn B1.out)
  have X2 : Hid (w1.drew.heap[w.heap.size]? = some (.cells #[.int .i64 0, .int .i64 0, .slice none 0 0] 97 (0, 0))) := X1
  clear B1 X1
  generalize w1.drew = w2 at *
  refine wpAnyH_take (i := 0) (v := ?_) rfl (by kernel_rfl) (by kernel_rfl) (by kernel_rfl) (fun _ _ _ h => h) (Or.inl ⟨by rfl, ?_⟩) hH ?_
  rotate_left 1
  · (intro w hSw; skip; clear hSw; go_simp <;> with_reducible rfl)
  simp only [Act.put, List.getElem_toArray, List.getElem_cons_zero, List.setIfInBounds_toArray, List.set_cons_zero, List.set_cons_succ]
  refine wpAnyH_take (i := 1) (v := ?_) rfl (by kernel_rfl) (by kernel_rfl) (by kernel_rfl) (fun _ _ _ h => h) (Or.inl ⟨by rfl, ?_⟩) hH ?_
  rotate_left 1
  · (intro w hSw; skip; clear hSw; go_simp <;> with_reducible rfl)
  simp only [Act.put, List.getElem_toArray, List.getElem_cons_zero, List.getElem_cons_succ, List.setIfInBounds_toArray, List.set_cons_zero, List.set_cons_succ]
  refine wpAnyH_take (i := 2) (v := ?_) rfl (by kernel_rfl) (by kernel_rfl) (by kernel_rfl) (fun _ _ _ h => h) (Or.inl ⟨by rfl, ?_⟩) hH ?_
  rotate_left 1
  · (intro w hSw; skip; clear hSw; go_simp <;> with_reducible rfl)
  simp only [Act.put, List.getElem_toArray, List.getElem_cons_zero, List.getElem_cons_succ, List.setIfInBounds_toArray, List.set_cons_zero, List.set_cons_succ]
  refine wpAnyH_take (i := 3) (v := ?_) rfl (by kernel_rfl) (by kernel_rfl) (by kernel_rfl) (fun _ _ _ h => h) (Or.inl ⟨by rfl, ?_⟩) hH ?_
  rotate_left 1
  · (intro w hSw; have q := hSw.cells; clear hSw; go_simp <;> with_reducible rfl)
  simp only [Act.put, List.getElem_toArray, List.getElem_cons_zero, List.getElem_cons_succ, List.setIfInBounds_toArray, List.set_cons_zero, List.set_cons_succ]
  refine wpAnyH_take (i := 4) (v := ?_) rfl (by kernel_rfl) (by kernel_rfl) (by kernel_rfl) (fun _ _ _ h => h) (Or.inl ⟨by rfl, ?_⟩) hH ?_
  rotate_left 1
  · (intro w hSw; skip; clear hSw; go_simp <;> with_reducible rfl)
  simp only [Act.put, List.getElem_toArray, List.getElem_cons_zero, List.getElem_cons_succ, List.setIfInBounds_toArray, List.set_cons_zero, List.set_cons_succ]
  refine wpAnyH_take (i := 5) (v := ?_) rfl (by kernel_rfl) (by kernel_rfl) (by kernel_rfl) (fun _ _ _ h => h) (Or.inl ⟨by rfl, ?_⟩) hH ?_
  rotate_left 1
  · (intro w hSw; skip; clear hSw; go_simp <;> with_reducible rfl)
  simp only [Act.put, List.getElem_toArray, List.getElem_cons_zero, List.getElem_cons_succ, List.setIfInBounds_toArray, List.set_cons_zero, List.set_cons_succ]
  refine wpAnyH_take (i := 6) (v := ?_) rfl (by kernel_rfl) (by kernel_rfl) (by kernel_rfl) (fun _ _ _ h => h) (Or.inl ⟨by rfl, ?_⟩) hH ?_
  rotate_left 1
  · (intro w hSw; skip; clear hSw; go_simp <;> with_reducible rfl)
  simp only [Act.put, List.getElem_toArray, List.getElem_cons_zero, List.getElem_cons_succ, List.setIfInBounds_toArray, List.set_cons_zero, List.set_cons_succ]
  refine wpAnyH_take (i := 7) (v := ?_) rfl (by kernel_rfl) (by kernel_rfl) (by kernel_rfl) (fun _ _ _ h => h) (Or.inl ⟨by rfl, ?_⟩) hH ?_
  rotate_left 1
  · (intro w hSw; have q := hSw.cells; clear hSw; go_simp <;> with_reducible rfl)
  simp only [Act.put, List.getElem_toArray, List.getElem_cons_zero, List.getElem_cons_succ, List.setIfInBounds_toArray, List.set_cons_zero, List.set_cons_succ]
  refine wpAnyH_ready (rs := [8]) (by kernel_rfl) (by decide) ?_
  refine AllReadyH.cons rfl (fun K1 hK1 => ?_) AllReadyH.nil
  go_simp
  refine (cloneV (own_keep HO.out (fun k hk => B2.out.block k (own_type HO.out hk).2.1)) hn (vcs_one _)).mono ?_
  rintro e w3 ⟨a3, c3, rfl, o3, b3⟩
  have O3 := hide o3
  have B3 := hide (bel_trans B2.out b3)
  have X3 := hide ((b3.block _ (lt_of_blk X2.out)).trans X2.out)
  have Z3 := hide B2.out.size
  refine hK1.out _ _ (hH.al b3) (fun hH => ?_)
  clear hK1 K1 o3 b3 B2 X2
  refine wpAnyH_take (i := 9) (v := ?_) rfl (by kernel_rfl) (by kernel_rfl) (by kernel_rfl) (fun _ _ _ h => h) (Or.inl ⟨by rfl, ?_⟩) hH ?_
  rotate_left 1
  · (intro w hSw; skip; clear hSw; go_simp <;> with_reducible rfl)
  simp only [Act.put, List.getElem_toArray, List.getElem_cons_zero, List.getElem_cons_succ, List.setIfInBounds_toArray, List.set_cons_zero, List.set_cons_succ]
  refine wpAnyH_ready (rs := [10]) (by kernel_rfl) (by decide) ?_
  refine AllReadyH.cons rfl (fun K1 hK1 => ?_) AllReadyH.nil
  have q0 := blk_cell X3.out 0 _ rfl
  have q1 := blk_cell X3.out 1 _ rfl
  have q2 := blk_cell X3.out 2 _ rfl
  have p0 := blk_frz X3.out 0
  have p1 := blk_frz X3.out 1
  have p2 := blk_frz X3.out 2
  go_simp
  refine hK1.out _ _ (hH.set (by omega) _ _ _) (fun hH => ?_)
  clear hK1 K1 q0 q1 q2 p0 p1 p2
  refine wpAnyH_done (by kernel_rfl) ?_ _
  clear hH
  go_wp2_with fail
  refine ret_q w.heap.size rfl rfl (Qs2.mk3 X3.out) rfl ⟨a3, c3, rfl, ?_, ?_⟩
  · refine own_keep (own_low O3.out Z3.out) (fun k hk => ?_)
    have hne : k ≠ w.heap.size := fun e => own_at O3.out X3.out (by decide) (by rw [hk, e])
    exact (Below.heap_setCell _ _ _ _ hne).trans ((Below.heap_setCell _ _ _ _ hne).trans (Below.heap_setCell _ _ _ _ hne))
  · exact bel_set B3.out (Nat.le_refl _) _ _ _
end Go.Proofs.YtbiilnpblnjliaaDoor.Ck

/- What a run (act.Run) is in memory; no Go text is walked here. -/
namespace Go.Proofs.YtbiilnpblnjliaaDoor.Ck
open Go.RowKit

def wcs (x : Wt) (va : Value) : List Value := [.int .i64 x.k, .int .i64 x.o, .int .i64 x.a, .int .i64 x.v.1, .int .i64 x.v.2.1, .int .u64 x.v.2.2, va]
def pts (l : List Nat) : List Value := l.map fun b => .pointer (some ⟨b, 0, none⟩)
def ecs : List Evt → List Value
  | [] => []
  | e :: l => .int .i64 e.g :: .int .i64 e.k :: .int .i64 e.o :: .int .i64 e.a :: ecs l
theorem ecs_len : ∀ l, (ecs l).length = l.length * 4
  | [] => rfl
  | e :: l => by
    simp only [ecs, List.length_cons, ecs_len l]
    omega
theorem ecs_app : ∀ a b, ecs (a ++ b) = ecs a ++ ecs b
  | [], b => rfl
  | e :: a, b => by simp [ecs, ecs_app a b]
theorem pts_at {l : List Nat} {i b : Nat} (h : l[i]? = some b) : (pts l)[i]? = some (.pointer (some ⟨b, 0, none⟩)) := by simp [pts, h]
/-- arguments: a row of values, in blocks of R -/
def Args (w : World) (R : Nat → Prop) (v : Value) : Prop := ∃ (n : Nat) (xs : List Value), n ≤ 2000 ∧ w.ownsRow 0 41 3 v n xs ∧ (∀ u ∈ xs, u.oneCell' = true) ∧ ∀ k, v.ownBlock = some k → R k
/-- a slice of waits, in blocks of R -/
def WRow (w : World) (R : Nat → Prop) (v : Value) (l : List Wt) : Prop := ∃ (a : Option Addr) (c : Nat), v = .slice a l.length c ∧ l.length ≤ c ∧ c ≤ maxLen ∧
  ∀ (i : Nat) (x : Wt), l[i]? = some x → ∃ (b o : Nat) (va : Value), a = some ⟨b, o, none⟩ ∧ R b ∧ (∀ (j : Nat) (u : Value), (wcs x va)[j]? = some u → w.cell? ⟨b, o + 7 * i + j, none⟩ = some u) ∧ Args w R va
/-- a goroutine, in block b; its script in block t -/
def Gor (w : World) (R : Nat → Prop) (b t : Nat) (x : Gr) : Prop := ∃ va vw,
  w.heap[b]? = some (.cells #[.iface 177 (.pointer (some ⟨t, 0, none⟩)), .int .i64 x.w.k, .int .i64 x.w.o, .int .i64 x.w.a, .int .i64 x.w.v.1, .int .i64 x.w.v.2.1, .int .u64 x.w.v.2.2, va] 193 (0, 0)) ∧ Args w R va ∧
  w.heap[t]? = some (.cells #[vw] 179 (0, 0)) ∧ WRow w R vw x.rest
/-- threads of the scripts S -/
def Beg (w : World) (R : Nat → Prop) (vB : Value) (S : List (List Wt)) : Prop := ∃ (c : Nat) (vS : Value) (vs : List Value), vB = .func (.func 93) #[] #[.pointer (some ⟨c, 0, none⟩)] ∧ R c ∧
  w.heap[c]? = some (.cells #[vS] 59 (0, 0)) ∧ w.ownsRow 0 134 1 vS S.length vs ∧ (∀ k, vS.ownBlock = some k → R k) ∧ S.length ≤ 2000 ∧ ∀ (i : Nat) (l : List Wt) (v : Value), S[i]? = some l → vs[i]? = some v → WRow w R v l
section
variable {w w' : World} {R R' : Nat → Prop}
theorem cell_keep {b i : Nat} {u : Value} (hk : w'.heap[b]? = w.heap[b]?) (h : w.cell? ⟨b, i, none⟩ = some u) : w'.cell? ⟨b, i, none⟩ = some u := by
  unfold World.cell? at h ⊢
  rw [hk]
  exact h
theorem Args.keep {v : Value} (h : Args w R v) (hk : ∀ k, R k → w'.heap[k]? = w.heap[k]?) (hR : ∀ k, R k → R' k) : Args w' R' v := by
  obtain ⟨n, xs, h1, h2, h3, h4⟩ := h
  exact ⟨n, xs, h1, own_keep h2 fun k hk' => hk k (h4 k hk'), h3, fun k hk' => hR k (h4 k hk')⟩
theorem Args.nilS : Args w R (.slice none 0 0) := ⟨0, [], by omega, own_nil _ _ _, fun _ h => (by cases h), fun _ h => (by cases h)⟩
theorem Args.form {v : Value} (h : Args w R v) : ∃ a n c, v = .slice a n c := by
  obtain ⟨n, xs, h1, h2, h3, h4⟩ := h
  obtain ⟨a, c, e, _⟩ := own_slice h2
  exact ⟨a, n, c, e⟩
theorem WRow.keep {v : Value} {l : List Wt} (h : WRow w R v l) (hk : ∀ k, R k → w'.heap[k]? = w.heap[k]?) (hR : ∀ k, R k → R' k) : WRow w' R' v l := by
  obtain ⟨a, c, h1, h2, h3, h4⟩ := h
  refine ⟨a, c, h1, h2, h3, fun i x hx => ?_⟩
  obtain ⟨b, o, va, e1, e2, e3, e4⟩ := h4 i x hx
  exact ⟨b, o, va, e1, hR b e2, fun j u hu => cell_keep (hk b e2) (e3 j u hu), e4.keep hk hR⟩
theorem WRow.tail {a : Option Addr} {c b o : Nat} {x : Wt} {l : List Wt} (h : WRow w R (.slice a (l.length + 1) c) (x :: l)) (ha : a = some ⟨b, o, none⟩) (a' : Option Addr) (ha' : 0 < l.length → a' = some ⟨b, o + 7, none⟩) : WRow w R (.slice a' l.length (c - 1)) l := by
  obtain ⟨a0, c0, h1, h2, h3, h4⟩ := h
  cases h1
  simp only [List.length_cons] at h2
  refine ⟨a', c - 1, rfl, by omega, by omega, fun i y hy => ?_⟩
  have hl : 0 < l.length := by
    have := (List.getElem?_eq_some_iff.1 hy).1
    omega
  obtain ⟨b2, o2, va, e1, e2, e3, e4⟩ := h4 (i + 1) y (by simpa using hy)
  rw [ha] at e1
  cases e1
  refine ⟨b, o + 7, va, ha' hl, e2, fun j u hu => ?_, e4⟩
  rw [show o + 7 + 7 * i + j = o + 7 * (i + 1) + j by omega]
  exact e3 j u hu
theorem WRow.nilS : WRow w R (.slice none 0 0) [] := ⟨none, 0, rfl, Nat.le_refl _, by unfold maxLen; omega, fun i x h => by simp at h⟩
theorem Gor.keep {b t : Nat} {x : Gr} (h : Gor w R b t x) (hb : w'.heap[b]? = w.heap[b]?) (ht : w'.heap[t]? = w.heap[t]?) (hk : ∀ k, R k → w'.heap[k]? = w.heap[k]?) (hR : ∀ k, R k → R' k) : Gor w' R' b t x := by
  obtain ⟨va, vw, h1, h2, h3, h4⟩ := h
  exact ⟨va, vw, hb.trans h1, h2.keep hk hR, ht.trans h3, h4.keep hk hR⟩
theorem Beg.keep {vB : Value} {S : List (List Wt)} (h : Beg w R vB S) (hk : ∀ k, R k → w'.heap[k]? = w.heap[k]?) (hR : ∀ k, R k → R' k) : Beg w' R' vB S := by
  obtain ⟨c, vS, vs, h1, h2, h3, h4, h5, h6, h7⟩ := h
  exact ⟨c, vS, vs, h1, hR c h2, (hk c h2).trans h3, own_keep h4 fun k hk' => hk k (h5 k hk'), fun k hk' => hR k (h5 k hk'), h6, fun i l v hl hv => (h7 i l v hl hv).keep hk hR⟩
end
/-- a run in memory: Fs what its state may write, Fo what it may write itself, R what nobody writes -/
structure Ru (w : World) (Fs Fo R : Nat → Prop) (g gs : Nat) (S : List (List Wt)) (r : Rm) (vC vB vG vE : Value) (ps ts : List Nat) : Prop where
  at_ : w.heap[g]? = some (.cells #[.pointer (some ⟨gs, 0, none⟩), vC, vB, vG, vE, .int .i64 r.e.o, .int .i64 r.e.f, .int .i64 r.e.g, .int .i64 r.e.n, .int .i64 r.e.a] 150 (0, 0))
  st : Stt w Fs gs r.s
  ch : w.ownsRow 0 3 1 vC r.s.C.length (nts (r.s.C.map Qu.t))
  bg : Beg w R vB S
  go : w.ownsRow 0 191 1 vG r.gs.length (pts ps)
  ev : w.ownsRow 0 75 4 vE r.ev.length (ecs r.ev)
  tl : ts.length = r.gs.length
  gr : ∀ (i : Nat) (x : Gr) (b t : Nat), r.gs[i]? = some x → ps[i]? = some b → ts[i]? = some t → Gor w R b t x ∧ Fo b ∧ Fo t
  np : ps.Nodup
  nt : ts.Nodup
  fg : Fo g
  fC : ∀ k, vC.ownBlock = some k → Fo k
  fG : ∀ k, vG.ownBlock = some k → Fo k
  fE : ∀ k, vE.ownBlock = some k → Fo k
  so : ∀ k, Fs k → ¬ Fo k
  rs : ∀ k, R k → ¬ Fs k
  ro : ∀ k, R k → ¬ Fo k
  fb : ∀ k, Fo k → k < w.heap.size
  rb : ∀ k, R k → k < w.heap.size
  n8 : r.gs.length ≤ 8
def Rn (w : World) (G : Nat → Prop) (g : Nat) (S : List (List Wt)) (r : Rm) : Prop := ∃ Fs Fo R gs vC vB vG vE ps ts, Ru w Fs Fo R g gs S r vC vB vG vE ps ts ∧ ∀ k, G k ↔ Fs k ∨ Fo k ∨ R k
section
variable {w w' : World} {G G' Fs Fs' Fo Fo' R R' F F' : Nat → Prop} {g gs : Nat} {S : List (List Wt)} {r : Rm} {vC vB vG vE : Value} {ps ts : List Nat}
theorem Stt.keep {s : St} (h : Stt w F g s) (hb : ∀ k, F k → w'.heap[k]? = w.heap[k]?) (hs : w.heap.size ≤ w'.heap.size) : Stt w' F g s := by
  obtain ⟨vP, vM, vC, vA, vs, h⟩ := h
  exact ⟨_, _, _, _, _, h.keep hb hs⟩
theorem Ru.pl (h : Ru w Fs Fo R g gs S r vC vB vG vE ps ts) : ps.length = r.gs.length := by
  have := h.go.1
  simp [pts] at this
  omega
theorem Ru.keep (h : Ru w Fs Fo R g gs S r vC vB vG vE ps ts) (hb : ∀ k, Fs k ∨ Fo k ∨ R k → w'.heap[k]? = w.heap[k]?) (hs : w.heap.size ≤ w'.heap.size) : Ru w' Fs Fo R g gs S r vC vB vG vE ps ts :=
  { h with
    at_ := (hb g (.inr (.inl h.fg))).trans h.at_
    st := h.st.keep (fun k hk => hb k (.inl hk)) hs
    ch := own_keep h.ch fun k hk => hb k (.inr (.inl (h.fC k hk)))
    bg := h.bg.keep (fun k hk => hb k (.inr (.inr hk))) (fun _ h => h)
    go := own_keep h.go fun k hk => hb k (.inr (.inl (h.fG k hk)))
    ev := own_keep h.ev fun k hk => hb k (.inr (.inl (h.fE k hk)))
    gr := fun i x b t hx hp ht => by
      obtain ⟨h1, h2, h3⟩ := h.gr i x b t hx hp ht
      exact ⟨h1.keep (hb b (.inr (.inl h2))) (hb t (.inr (.inl h3))) (fun k hk => hb k (.inr (.inr hk))) (fun _ h => h), h2, h3⟩
    fb := fun k hk => Nat.lt_of_lt_of_le (h.fb k hk) hs
    rb := fun k hk => Nat.lt_of_lt_of_le (h.rb k hk) hs }
theorem Ru.lt (h : Ru w Fs Fo R g gs S r vC vB vG vE ps ts) {k : Nat} (hk : Fs k ∨ Fo k ∨ R k) : k < w.heap.size := by
  rcases hk with hk | hk | hk
  · exact h.st.fb k hk
  · exact h.fb k hk
  · exact h.rb k hk
theorem Ru.bel (h : Ru w Fs Fo R g gs S r vC vB vG vE ps ts) (hb : Below w.heap.size w w') : Ru w' Fs Fo R g gs S r vC vB vG vE ps ts := h.keep (fun k hk => hb.block k (h.lt hk)) hb.size
theorem Rn.fb (h : Rn w G g S r) : ∀ k, G k → k < w.heap.size := by
  obtain ⟨Fs, Fo, R, gs, vC, vB, vG, vE, ps, ts, h, hG⟩ := h
  exact fun k hk => h.lt ((hG k).1 hk)
theorem Rn.keep (h : Rn w G g S r) (hb : ∀ k, G k → w'.heap[k]? = w.heap[k]?) (hs : w.heap.size ≤ w'.heap.size) : Rn w' G g S r := by
  obtain ⟨Fs, Fo, R, gs, vC, vB, vG, vE, ps, ts, h, hG⟩ := h
  exact ⟨Fs, Fo, R, gs, vC, vB, vG, vE, ps, ts, h.keep (fun k hk => hb k ((hG k).2 hk)) hs, hG⟩
theorem Rn.bel (h : Rn w G g S r) (hb : Below w.heap.size w w') : Rn w' G g S r := h.keep (fun k hk => hb.block k (h.fb k hk)) hb.size
/-- what else turns, turns elsewhere -/
theorem Rn.ch (h : Rn w G g S r) (hc : Ch F F' w w') (hd : ∀ k, G k → ¬ F k) : Rn w' G g S r ∧ ∀ k, G k → ¬ F' k :=
  ⟨h.keep (fun k hk => hc.blk k (h.fb k hk) (hd k hk)) hc.size, fun k hk hF => by
    rcases hc.grow k hF with h1 | h1
    · exact hd k hk h1
    · have := h.fb k hk
      omega⟩
theorem Rn.lt (h : Rn w G g S r) : g < w.heap.size := by
  obtain ⟨Fs, Fo, R, gs, vC, vB, vG, vE, ps, ts, h, hG⟩ := h
  exact h.fb g h.fg
theorem Rn.gIn (h : Rn w G g S r) : G g := by
  obtain ⟨Fs, Fo, R, gs, vC, vB, vG, vE, ps, ts, h, hG⟩ := h
  exact (hG g).2 (.inr (.inl h.fg))
theorem Ru.cells (h : Ru w Fs Fo R g gs S r vC vB vG vE ps ts) : (w.cell? ⟨g, 0, none⟩ = some (.pointer (some ⟨gs, 0, none⟩)) ∧ w.cell? ⟨g, 1, none⟩ = some vC ∧ w.cell? ⟨g, 2, none⟩ = some vB ∧ w.cell? ⟨g, 3, none⟩ = some vG ∧ w.cell? ⟨g, 4, none⟩ = some vE) ∧
    w.cell? ⟨g, 5, none⟩ = some (.int .i64 r.e.o) ∧ w.cell? ⟨g, 6, none⟩ = some (.int .i64 r.e.f) ∧ w.cell? ⟨g, 7, none⟩ = some (.int .i64 r.e.g) ∧ w.cell? ⟨g, 8, none⟩ = some (.int .i64 r.e.n) ∧ w.cell? ⟨g, 9, none⟩ = some (.int .i64 r.e.a) :=
  ⟨⟨blk_cell h.at_ 0 _ rfl, blk_cell h.at_ 1 _ rfl, blk_cell h.at_ 2 _ rfl, blk_cell h.at_ 3 _ rfl, blk_cell h.at_ 4 _ rfl⟩, blk_cell h.at_ 5 _ rfl, blk_cell h.at_ 6 _ rfl, blk_cell h.at_ 7 _ rfl, blk_cell h.at_ 8 _ rfl, blk_cell h.at_ 9 _ rfl⟩
/-- where a goroutine lies -/
theorem Ru.see (h : Ru w Fs Fo R g gs S r vC vB vG vE ps ts) {i : Nat} {x : Gr} (hx : r.gs[i]? = some x) :
    ∃ bG c b t va, vG = .slice (some ⟨bG, 0, none⟩) r.gs.length c ∧ ps[i]? = some b ∧ ts[i]? = some t ∧ Fo b ∧ Fo t ∧ Gor w R b t x ∧ Args w R va ∧
      (w.cell? ⟨bG, i, none⟩ = some (.pointer (some ⟨b, 0, none⟩)) ∧ bG < w.heap.size ∧ b < w.heap.size) ∧
      w.heap[b]? = some (.cells #[.iface 177 (.pointer (some ⟨t, 0, none⟩)), .int .i64 x.w.k, .int .i64 x.w.o, .int .i64 x.w.a, .int .i64 x.w.v.1, .int .i64 x.w.v.2.1, .int .u64 x.w.v.2.2, va] 193 (0, 0)) := by
  have hi := (List.getElem?_eq_some_iff.1 hx).1
  obtain ⟨bG, c, e, _⟩ := own_some h.go (by omega)
  subst e
  obtain ⟨b, hb⟩ : ∃ b, ps[i]? = some b := ⟨_, List.getElem?_eq_getElem (by rw [h.pl]; exact hi)⟩
  obtain ⟨t, ht⟩ : ∃ t, ts[i]? = some t := ⟨_, List.getElem?_eq_getElem (by rw [h.tl]; exact hi)⟩
  obtain ⟨h1, h2, h3⟩ := h.gr i x b t hx hb ht
  obtain ⟨va, vw, q1, q2, q3, q4⟩ := id h1
  exact ⟨bG, c, b, t, va, rfl, hb, ht, h2, h3, h1, q2, ⟨(own_cell h.go i _ (pts_at hb)).1, h.fb _ (h.fG bG rfl), h.fb b h2⟩, q1⟩
end
end Go.Proofs.YtbiilnpblnjliaaDoor.Ck

/- Package act: what is asked of a state. -/
namespace Go.Proofs.YtbiilnpblnjliaaDoor.Ck
open Go.RowKit

theorem lk_some {α : Type} {l : List α} {i : Int} {x : α} (h : lk l i = some x) : ∃ k : Nat, i = k ∧ l[k]? = some x := by
  unfold lk at h
  split at h
  · rename_i h0
    exact ⟨i.toNat, by omega, h⟩
  · cases h
theorem lk_none {α : Type} {l : List α} {i : Int} (h : lk l i = none) : i < 0 ∨ (l.length : Int) ≤ i := by
  unfold lk at h
  split at h
  · rename_i h0
    have := List.getElem?_eq_none_iff.1 h
    omega
  · omega
theorem lk_nat {α : Type} {l : List α} {k : Nat} : lk l (k : Int) = l[k]? := by simp [lk]
section
variable {w : World} {F : Nat → Prop} {g : Nat} {s : St} {p : List Addr}
theorem Locked_any (h : Stt w F g s) (h17 : E2 w p) (i : Int) : Calls Tryd.prog 15 #[.pointer (some ⟨g, 0, none⟩), .int .i64 i] w (Vb w (.bool ((lk s.M i).getD false))) := by
  cases hl : lk s.M i with
  | some b =>
    obtain ⟨k, rfl, hk⟩ := lk_some hl
    exact (Locked_in h k b hk).mono fun e w' ⟨he, hw⟩ => ⟨he, hw ▸ Below.refl _ _⟩
  | none => exact Locked_out h h17 i (lk_none hl)
def lenC (s : St) (i : Int) : Int := match lk s.C i with
  | some q => q.l.length
  | none => 0
def roomC (s : St) (i : Int) : Int := match lk s.C i with
  | some q => q.room
  | none => 0
theorem Len_any (h : Stt w F g s) (h17 : E2 w p) (i : Int) : Calls Tryd.prog 16 #[.pointer (some ⟨g, 0, none⟩), .int .i64 i] w (Vb w (.int .i64 (lenC s i))) := by
  unfold lenC
  cases hl : lk s.C i with
  | some q =>
    obtain ⟨k, rfl, hk⟩ := lk_some hl
    exact (Len_in h k q hk).mono fun e w' ⟨he, hw⟩ => ⟨he, hw ▸ Below.refl _ _⟩
  | none => exact Len_out h h17 i (lk_none hl)
theorem Room_any (h : Stt w F g s) (h17 : E2 w p) (i : Int) : Calls Tryd.prog 18 #[.pointer (some ⟨g, 0, none⟩), .int .i64 i] w (Vb w (.int .i64 (roomC s i))) := by
  unfold roomC
  cases hl : lk s.C i with
  | some q =>
    obtain ⟨k, rfl, hk⟩ := lk_some hl
    exact (Room_in h k q hk).mono fun e w' ⟨he, hw⟩ => ⟨he, hw ▸ Below.refl _ _⟩
  | none => exact Room_out h h17 i (lk_none hl)
set_option maxRecDepth 20000 in
set_option maxHeartbeats 1000000 in
theorem turn_same (h : Stt w F g s) (i : Nat) (x : Bool) (hx : s.M[i]? = some x) : Calls Tryd.prog 85 #[.pointer (some ⟨g, 0, none⟩), .int .i64 (i : Nat), .bool x] w fun e w' => e = .returned (.tuple #[.bool false, .nilIface]) ∧ w = w' := by
  obtain ⟨vP, vM, vC, vA, vs, h⟩ := h
  have hi : i < s.M.length := (List.getElem?_eq_some_iff.1 hx).1
  obtain ⟨b, c, e, hc, hm⟩ := own_some h.mu (by omega)
  have hsm := h.small
  obtain ⟨n, hn⟩ : ∃ n, n = s.M.length := ⟨_, rfl⟩
  rw [← hn] at e hi hc
  have hn32 : n ≤ 32 := by omega
  subst e
  have HN := hide hn
  have c1 := h.cells.2.1
  obtain ⟨d1, d2⟩ := own_cell h.mu i _ (bls_at hx)
  have hl := (h.fb b (h.fM b rfl))
  clear h hsm hc hm hn
  go_enter Tryd.func85, Tryd.ntmps85
  go_wp2_with fail
  refine (in_syncelementbool b n c i _ hi).mono ?_
  rintro e w1 ⟨rfl, rfl⟩
  go_wp2_with fail
  go_ret2
  exact ⟨rfl, rfl⟩
set_option maxRecDepth 20000 in
theorem Unlock_same (h : Stt w F g s) (i : Nat) (hx : s.M[i]? = some false) : Calls Tryd.prog 50 #[.pointer (some ⟨g, 0, none⟩), .int .i64 (i : Nat)] w fun e w' => e = .returned (.tuple #[.bool false, .nilIface]) ∧ w = w' := by
  have T := hide (turn_same h i false hx)
  clear h hx
  go_enter Tryd.func50, Tryd.ntmps50
  go_wp2_with fail
  refine T.out.mono ?_
  rintro e w1 ⟨rfl, rfl⟩
  go_wp2_with fail
  go_ret2
  exact ⟨rfl, rfl⟩
end
set_option maxRecDepth 20000 in
theorem aisOf_any (t n b ty : Int) (w : World) : Calls Tryd.prog 113 #[.agg #[.int .i64 t, .int .i64 n, .int .u64 b], .int .i64 ty] w (Vb w (.bool (isB t n b ty))) := by
  have HB := hide (bel_new w (.cells #[.int .i64 t, .int .i64 n, .int .u64 b] 41))
  have V0 := Val.new w t n b
  obtain ⟨z, hz⟩ : ∃ z, goodB t n b = z := ⟨_, rfl⟩
  have GA : ∀ w, Calls Tryd.prog 99 #[.agg #[.int .i64 t, .int .i64 n, .int .u64 b]] w (Vb w (.bool z)) := fun w => by
    have := good_any t n b w
    rw [hz] at this
    exact this
  obtain ⟨g, hg⟩ : ∃ g, isB t n b ty = g := ⟨_, rfl⟩
  rw [hg]
  unfold isB at hg
  rw [hz] at hg
  have HG := hide hg
  clear hg hz
  cases z with
  | true =>
    go_enter Tryd.func113, Tryd.ntmps113
    go_wp2_with fail
    refine (GA _).mono ?_
    rintro e w1 ⟨rfl, hb⟩
    obtain ⟨_, c0, _, _⟩ := (V0.al hb).all
    go_wp2_with fail
    go_ret
    exact Vb.mk (congrArg Value.bool (by rw [← HG.out]; simp)) (bel_trans HB.out hb)
  | false =>
    go_enter Tryd.func113, Tryd.ntmps113
    go_wp2_with fail
    refine (GA _).mono ?_
    rintro e w1 ⟨rfl, hb⟩
    go_wp2_with fail
    go_ret
    exact Vb.mk (congrArg Value.bool (by rw [← HG.out]; simp)) (bel_trans HB.out hb)
/-- a variable of a wait's type, in block b -/
def Wv (w : World) (b : Nat) (k o a : Int) (v : V3) (va : Value) : Prop := w.heap[b]? = some (.cells #[.int .i64 k, .int .i64 o, .int .i64 a, .int .i64 v.1, .int .i64 v.2.1, .int .u64 v.2.2, va] 133 (0, 0))
theorem Wv.new (w : World) (k o a v0 v1 v2 : Int) (va : Value) : Wv (w.alloc (.cells #[.int .i64 k, .int .i64 o, .int .i64 a, .int .i64 v0, .int .i64 v1, .int .u64 v2, va] 133)) w.heap.size k o a (v0, v1, v2) va := Go.Deep.blk_alloc_new _ _
theorem Wv.lt {w : World} {b : Nat} {k o a : Int} {v : V3} {va : Value} (h : Wv w b k o a v va) : b < w.heap.size := lt_of_blk h
theorem Wv.al {w w' : World} {b : Nat} {k o a : Int} {v : V3} {va : Value} (h : Wv w b k o a v va) (hb : Below w.heap.size w w') : Wv w' b k o a v va := (hb.block b h.lt).trans h
theorem Wv.all {w : World} {b : Nat} {k o a v0 v1 v2 : Int} {va : Value} (h : Wv w b k o a (v0, v1, v2) va) : w.cell? ⟨b, 0, none⟩ = some (.int .i64 k) ∧ w.cell? ⟨b, 1, none⟩ = some (.int .i64 o) ∧ w.cell? ⟨b, 2, none⟩ = some (.int .i64 a) ∧ w.cell? ⟨b, 3, none⟩ = some (.int .i64 v0) ∧ w.cell? ⟨b, 4, none⟩ = some (.int .i64 v1) ∧ w.cell? ⟨b, 5, none⟩ = some (.int .u64 v2) ∧ w.cell? ⟨b, 6, none⟩ = some va :=
  ⟨blk_cell h 0 _ rfl, blk_cell h 1 _ rfl, blk_cell h 2 _ rfl, blk_cell h 3 _ rfl, blk_cell h 4 _ rfl, blk_cell h 5 _ rfl, blk_cell h 6 _ rfl⟩
set_option maxRecDepth 20000 in
set_option maxHeartbeats 1000000 in
theorem hasMutex_any {w : World} {F : Nat → Prop} {g : Nat} {s : St} {p : List Addr} (h : Stt w F g s) (h17 : E2 w p) (i : Int) : Calls Tryd.prog 103 #[.pointer (some ⟨g, 0, none⟩), .int .i64 i] w (Vb w (.bool (lk s.M i).isSome)) := by
  have L := hide (Locked_any h h17 i)
  have hgl := h.lt
  cases hl : lk s.M i with
  | some b =>
    cases b with
    | true =>
      rw [hl] at L
      clear h h17 hl
      go_enter Tryd.func103, Tryd.ntmps103
      go_wp2_with fail
      refine L.out.mono ?_
      rintro e w1 ⟨rfl, hb⟩
      go_wp2_with fail
      go_ret
      exact Vb.mk rfl hb
    | false =>
      rw [hl] at L
      obtain ⟨k, rfl, hk⟩ := lk_some hl
      have U := hide (fun (w1 : World) (hb : Below w.heap.size w w1) => Unlock_same (h.bel hb) k hk)
      clear h h17 hl hk
      go_enter Tryd.func103, Tryd.ntmps103
      go_wp2_with fail
      refine L.out.mono ?_
      rintro e w1 ⟨rfl, hb⟩
      go_wp2_with fail
      refine (U.out w1 hb).mono ?_
      rintro e w2 ⟨rfl, rfl⟩
      go_wp2_with fail
      go_ret
      exact Vb.mk rfl hb
  | none =>
    rw [hl] at L
    have U := hide (fun (w1 : World) (hb : Below w.heap.size w w1) => Unlock_out (h.bel hb) (h17.below (Nat.le_refl _) hb) i (lk_none hl))
    clear h h17 hl
    unfold errV at *
    generalize adr p 0 = ad at *
    go_enter Tryd.func103, Tryd.ntmps103
    go_wp2_with fail
    refine L.out.mono ?_
    rintro e w1 ⟨rfl, hb⟩
    go_wp2_with fail
    refine (U.out w1 hb).mono ?_
    rintro e w2 ⟨rfl, hb2⟩
    go_wp2_with fail
    go_ret
    exact Vb.mk rfl (bel_trans hb hb2)
end Go.Proofs.YtbiilnpblnjliaaDoor.Ck

/- Package act: can an access or a count be done? -/
namespace Go.Proofs.YtbiilnpblnjliaaDoor.Ck
open Go.RowKit

set_option maxRecDepth 20000 in
set_option maxHeartbeats 1000000 in
theorem canAccess_any {w : World} {F : Nat → Prop} {g : Nat} {s : St} {p : List Addr} (h : Stt w F g s) (h17 : E2 w p) (k o a v0 v1 v2 : Int) (va : Value) :
    Calls Tryd.prog 102 #[.pointer (some ⟨g, 0, none⟩), .agg #[.int .i64 k, .int .i64 o, .int .i64 a, .int .i64 v0, .int .i64 v1, .int .u64 v2, va]] w (Vb w (.bool (canA s ⟨k, o, a, (v0, v1, v2)⟩))) := by
  have B0 := hide (bel_new w (.cells #[.int .i64 k, .int .i64 o, .int .i64 a, .int .i64 v0, .int .i64 v1, .int .u64 v2, va] 133))
  have V0 := hide (Wv.new w k o a v0 v1 v2 va)
  obtain ⟨z, hz⟩ : ∃ z, canA s ⟨k, o, a, (v0, v1, v2)⟩ = z := ⟨_, rfl⟩
  rw [hz]
  unfold canA at hz
  simp only at hz
  cases hl : lk s.P o with
  | none =>
    rw [hl] at hz
    subst hz
    have U := hide (Read_out (h.bel B0.out) (h17.below (Nat.le_refl _) B0.out) o (lk_none hl))
    clear h h17 hl
    unfold errV at *
    generalize adr p 0 = ad at *
    go_enter Tryd.func102, Tryd.ntmps102
    go_wp2_with fail
    refine U.out.mono ?_
    rintro e w1 ⟨rfl, hb⟩
    have B1 := hide (bel_al (bel_trans B0.out hb) (.cells #[.int .i64 0, .int .i64 0, .int .u64 0] 41))
    clear hb U
    go_wp2_with fail
    go_ret
    exact Vb.mk rfl B1.out
  | some x =>
    obtain ⟨x0, x1, x2⟩ := x
    rw [hl] at hz
    simp only at hz
    obtain ⟨n, rfl, hn⟩ := lk_some hl
    have U := hide (Read_in (h.bel B0.out) n (x0, x1, x2) hn)
    have HZ := hide hz
    clear h h17 hl hn hz
    by_cases hk : k = 1
    · subst hk
      have hzt : z = true := by rw [← HZ.out]; rfl
      subst hzt
      clear HZ
      go_enter Tryd.func102, Tryd.ntmps102
      go_wp2_with fail
      refine U.out.mono ?_
      rintro e w1 ⟨rfl, hb⟩
      have B1 := hide (bel_al (bel_trans B0.out hb) (.cells #[.int .i64 x0, .int .i64 x1, .int .u64 x2] 41))
      have V1 := V0.out.al hb
      obtain ⟨q0, q1, q2, q3, q4, q5, q6⟩ := V1.all
      have hwl := V1.lt
      clear hb U V0 V1
      go_wp2_with fail
      go_ret
      exact Vb.mk rfl B1.out
    · have hzt : z = isB v0 v1 v2 x0 := by rw [← HZ.out]; simp [hk, isV]
      have hkb : (k == 1) = false := by simp [hk]
      clear HZ
      have Iq := fun w => aisOf_any v0 v1 v2 x0 w
      rw [← hzt] at Iq
      clear hzt
      go_enter Tryd.func102, Tryd.ntmps102
      go_wp2_with fail
      refine U.out.mono ?_
      rintro e w1 ⟨rfl, hb⟩
      have B1 := hide (bel_al (bel_trans B0.out hb) (.cells #[.int .i64 x0, .int .i64 x1, .int .u64 x2] 41))
      have V1 := V0.out.al hb
      obtain ⟨q0, q1, q2, q3, q4, q5, q6⟩ := V1.all
      have hwl := V1.lt
      clear hb U V0 V1
      go_wp2_with fail
      refine (Iq _).mono ?_
      rintro e w3 ⟨rfl, hb⟩
      have B2 := hide (bel_trans B1.out hb)
      clear hb
      go_wp2_with fail
      go_ret
      exact Vb.mk rfl B2.out
set_option maxRecDepth 20000 in
set_option maxHeartbeats 1000000 in
theorem canCount_any {w : World} {F : Nat → Prop} {g : Nat} {s : St} {p : List Addr} (h : Stt w F g s) (h17 : E2 w p) (k o a v0 v1 v2 : Int) (va : Value) :
    Calls Tryd.prog 105 #[.pointer (some ⟨g, 0, none⟩), .agg #[.int .i64 k, .int .i64 o, .int .i64 a, .int .i64 v0, .int .i64 v1, .int .u64 v2, va]] w (Vb w (.bool (canC s ⟨k, o, a, (v0, v1, v2)⟩))) := by
  have B0 := hide (bel_new w (.cells #[.int .i64 k, .int .i64 o, .int .i64 a, .int .i64 v0, .int .i64 v1, .int .u64 v2, va] 133))
  have V0 := hide (Wv.new w k o a v0 v1 v2 va)
  obtain ⟨z, hz⟩ : ∃ z, canC s ⟨k, o, a, (v0, v1, v2)⟩ = z := ⟨_, rfl⟩
  rw [hz]
  unfold canC at hz
  simp only at hz
  cases hl : lk s.A o with
  | none =>
    rw [hl] at hz
    subst hz
    have U := hide (Get_out (h.bel B0.out) (h17.below (Nat.le_refl _) B0.out) o (lk_none hl))
    clear h h17 hl
    unfold errV at *
    generalize adr p 0 = ad at *
    go_enter Tryd.func105, Tryd.ntmps105
    go_wp2_with fail
    refine U.out.mono ?_
    rintro e w1 ⟨rfl, hb⟩
    have B1 := hide (bel_trans B0.out hb)
    clear hb U
    go_wp2_with fail
    go_ret
    exact Vb.mk rfl B1.out
  | some x =>
    rw [hl] at hz
    simp only at hz
    obtain ⟨n, rfl, hn⟩ := lk_some hl
    have U := hide (Get_in (h.bel B0.out) n x hn)
    have HZ := hide hz
    clear h h17 hl hn hz
    by_cases hk : k = 7
    · subst hk
      have hzt : z = true := by rw [← HZ.out]; rfl
      subst hzt
      clear HZ
      go_enter Tryd.func105, Tryd.ntmps105
      go_wp2_with fail
      refine U.out.mono ?_
      rintro e w1 ⟨rfl, rfl⟩
      clear U
      generalize w.alloc (.cells #[.int .i64 7, .int .i64 n, .int .i64 a, .int .i64 v0, .int .i64 v1, .int .u64 v2, va] 133) = w2 at *
      obtain ⟨q0, q1, q2, q3, q4, q5, q6⟩ := V0.out.all
      go_wp2_with fail
      go_ret
      exact Vb.mk rfl B0.out
    · have hzt : z = isB v0 v1 v2 1 := by rw [← HZ.out]; simp [hk, isV]
      have hkb : (k == 7) = false := by simp [hk]
      clear HZ
      have Iq := fun w => aisOf_any v0 v1 v2 1 w
      rw [← hzt] at Iq
      clear hzt
      go_enter Tryd.func105, Tryd.ntmps105
      go_wp2_with fail
      refine U.out.mono ?_
      rintro e w1 ⟨rfl, rfl⟩
      clear U
      generalize w.alloc (.cells #[.int .i64 k, .int .i64 n, .int .i64 a, .int .i64 v0, .int .i64 v1, .int .u64 v2, va] 133) = w2 at *
      obtain ⟨q0, q1, q2, q3, q4, q5, q6⟩ := V0.out.all
      go_wp2_with fail
      refine (Iq _).mono ?_
      rintro e w3 ⟨rfl, hb⟩
      have B2 := hide (bel_trans B0.out hb)
      clear hb
      go_wp2_with fail
      go_ret
      exact Vb.mk rfl B2.out
end Go.Proofs.YtbiilnpblnjliaaDoor.Ck

/- Package act: who waits to receive. (Written by mk_a.py.) -/
namespace Go.Proofs.YtbiilnpblnjliaaDoor.Ck
open Go.RowKit

theorem still_of_quiet {P : Program} {ops : Array Oper} {w : World} {Q : Act → Prop} : ∀ (l : List Oper) (a : Act), wpQuiet P ops (fun w' => w' = w) Q l a → wpStill P ops w Q l a
  | [], _, h => h
  | o :: rest, a, h => by
    unfold wpQuiet at h
    unfold wpStill
    split
    · rename_i hw
      rw [if_pos hw] at h
      obtain ⟨v, hv, hn⟩ := h
      have hv := hv w rfl
      have hn := still_of_quiet rest _ hn
      unfold Oper.quietAt at hv
      unfold Oper.still
      generalize (execOp a.eval o).run P w = r at *
      cases r with
      | ok n w' =>
        cases n <;> simp only [Oper.quietUpon, Oper.stillUpon] at hv ⊢
        case enter f args => exact ⟨hv.1, v, hv.2, hn⟩
        case value u => exact ⟨hv.1, by rw [hv.2]; exact hn⟩
        case skip => exact ⟨hv.1, by rw [← hv.2]; exact hn⟩
      | halt x w' => simp only [Oper.quietUpon] at hv
    · rename_i hw
      rw [if_neg hw] at h
      exact still_of_quiet rest _ h
/-- a region that draws its order, all but the end of which only reads, and whose end is forced -/
theorem wp_quiet_tail {P : Program} {id : Nat} {Q : Exit → Act → World → Prop} {a : Act} {w : World} {l : List Oper} (n : Nat) (hm : P.follows .mixedOrders = true) (hB : Region.lexTailB .any l.toArray n = true)
    (h : wpQuiet P l.toArray (fun w' => w' = w.drew) (fun a' => wpList P l.toArray Q (l.drop n) a' w.drew) (l.take n) a) : (Code.region id l.toArray true).wp P Q a w :=
  wp_region_still_tail n hm hB (still_of_quiet _ _ h)
theorem idx_none {α : Type} {f : α → Bool} {d : α} : ∀ {l : List α}, (∀ j, j < l.length → f (l.getD j d) = false) → l.findIdx? f = none
  | [], _ => rfl
  | x :: l, h => by
    have h0 : f x = false := h 0 (by simp)
    have h1 := idx_none (f := f) (d := d) (l := l) fun j hj => by simpa using h (j + 1) (by simpa using hj)
    rw [List.findIdx?_cons, h0, h1]
    rfl
theorem idx_some {α : Type} {f : α → Bool} {d : α} : ∀ {l : List α} {k : Nat}, k < l.length → (∀ j, j < k → f (l.getD j d) = false) → f (l.getD k d) = true → l.findIdx? f = some k
  | [], k, hk, _, _ => by simp at hk
  | x :: l, 0, _, _, hf => by
    have h0 : f x = true := hf
    rw [List.findIdx?_cons, h0]
    rfl
  | x :: l, k + 1, hk, h, hf => by
    have h0 : f x = false := h 0 (by omega)
    have h1 := idx_some (f := f) (d := d) (l := l) (k := k) (by simpa using hk) (fun j hj => by simpa using h (j + 1) (by omega)) (by simpa using hf)
    rw [List.findIdx?_cons, h0, h1]
    rfl
def recvI (gs : List Gr) (c : Int) : Int := match recvR gs c with
  | some t => t
  | none => -1
def dG : Gr := ⟨[], zW⟩
set_option maxRecDepth 20000 in
set_option maxHeartbeats 1000000 in
theorem recv1_any (b cb : Nat) (k o c : Int) {w : World} (hk : w.cell? ⟨b, 1, none⟩ = some (.int .i64 k)) (ho : w.cell? ⟨b, 2, none⟩ = some (.int .i64 o)) (hc : w.cell? ⟨cb, 0, none⟩ = some (.int .i64 c)) :
    Calls Tryd.prog 117 #[.pointer (some ⟨b, 0, none⟩), .pointer (some ⟨cb, 0, none⟩)] w (Vb w (.bool (k == 6 && o == c))) := by
  by_cases h6 : k = 6
  · subst h6
    obtain ⟨z, hz⟩ : ∃ z, ((6 : Int) == 6 && o == c) = z := ⟨_, rfl⟩
    rw [hz]
    have HZ := hide hz
    clear hz
    go_enter Tryd.func117, Tryd.ntmps117
    go_wp2_with fail
    go_quiet (fail)
    go_wp2_with fail
    go_ret
    exact Vb.mk (by rw [← HZ.out]; simp) (below_drewN (Below.refl _ _) _)
  · have e : (k == 6) = false := by simp [h6]
    rw [e]
    go_enter Tryd.func117, Tryd.ntmps117
    go_wp2_with fail
    go_quiet (fail)
    go_wp2_with fail
    go_ret
    exact Vb.mk rfl (below_drewN (Below.refl _ _) _)
set_option maxRecDepth 20000 in
set_option maxHeartbeats 1000000 in
theorem index_go (a : Option Addr) (n cG cb : Nat) (c : Int) (gs : List Gr) {w : World} (hn : n = gs.length) (hn8 : n ≤ 8) (hcb : w.cell? ⟨cb, 0, none⟩ = some (.int .i64 c)) (hcl : cb < w.heap.size)
    (hac : ∀ i, i < n → ∃ bG b, a = some ⟨bG, 0, none⟩ ∧ bG < w.heap.size ∧ b < w.heap.size ∧ w.cell? ⟨bG, i, none⟩ = some (.pointer (some ⟨b, 0, none⟩)) ∧ w.cell? ⟨b, 1, none⟩ = some (.int .i64 (gs.getD i dG).w.k) ∧ w.cell? ⟨b, 2, none⟩ = some (.int .i64 (gs.getD i dG).w.o)) :
    Calls Tryd.prog 116 #[.slice a n cG, .func (.func 117) #[] #[.pointer (some ⟨cb, 0, none⟩)]] w (Vb w (.int .i64 (recvI gs c))) := by
  have hs : Hid ((∀ j, j < n → recvs c (gs.getD j dG) = false) → recvI gs c = -1) := fun h => by
    unfold recvI recvR
    rw [idx_none (fun j hj => h j (by omega))]
  have hs2 : Hid (∀ k, k < n → (∀ j, j < k → recvs c (gs.getD j dG) = false) → recvs c (gs.getD k dG) = true → recvI gs c = k) := fun k hk h1 h2 => by
    unfold recvI recvR
    rw [idx_some (by omega) h1 h2]
  clear hn
  generalize recvI gs c = r at *
  go_enter Tryd.func116, Tryd.ntmps116
  go_wp2_with fail
  go_loopw [5, 8] (fun u i wr => ∃ k : Nat, k ≤ n ∧ i = .int .i64 k ∧ Hid (∀ j, j < k → recvs c (gs.getD j dG) = false) ∧ Hid (Below w.heap.size w wr)) (fun u i _ => n - (intOf i).toNat)
  case atStart => exact ⟨0, Nat.zero_le _, rfl, fun j hj => absurd hj (Nat.not_lt_zero _), Below.refl _ _⟩
  case round =>
    obtain ⟨k, hk, rfl, hall, hbel⟩ := hrel
    by_cases hlt : k < n
    · obtain ⟨bG, b, rfl, hbG, hb, hc1, hc2, hc3⟩ := hac k hlt
      have RC := hide (recv1_any b cb _ _ c ((hbel.out.cell (p := ⟨b, 1, none⟩) hb).trans hc2) ((hbel.out.cell (p := ⟨b, 2, none⟩) hb).trans hc3) ((hbel.out.cell (p := ⟨cb, 0, none⟩) hcl).trans hcb))
      rw [← hbel.out.cell (p := ⟨bG, k, none⟩) hbG] at hc1
      have h1 : (k : Int) < (n : Int) := by omega
      have hne := hide (hs2.out k hlt hall.out)
      have hstep : Hid (recvs c (gs.getD k dG) = false → ∀ j, j < k + 1 → recvs c (gs.getD j dG) = false) := fun e j hj => by
        by_cases ej : j = k
        · rw [ej]; exact e
        · exact hall.out j (by omega)
      have hrc : recvs c (gs.getD k dG) = ((gs.getD k dG).w.k == 6 && (gs.getD k dG).w.o == c) := rfl
      rw [← hrc] at RC
      have hbl := Nat.lt_of_lt_of_le hb hbel.out.size
      clear hac hs hs2 hall hc2 hc3 hrc
      generalize recvs c (gs.getD k dG) = x at *
      go_wp2_with fail
      refine RC.out.mono ?_
      rintro e w1 ⟨rfl, hb1⟩
      have hbel2 := hide (bel_trans hbel.out hb1)
      cases x with
      | true =>
        have hr := hide (hne.out rfl)
        clear hne hstep
        go_wp2_with fail
        go_ret
        exact Vb.mk (by rw [hr.out]; rfl) hbel2.out
      | false =>
        have hr := hide (hstep.out rfl)
        clear hne hstep
        go_wp2_with fail
        go_roundw
        case rel => exact ⟨k + 1, by omega, by go_num, hr, hbel2⟩
        case measure => simp [intOf]; omega
    · have e : k = n := by omega
      subst e
      have hs3 := hide (hs.out hall.out)
      clear hac hs hs2 hall
      go_wp2_with fail
      go_ret
      exact Vb.mk (by rw [hs3.out]; rfl) hbel.out
theorem getD_of_some {α : Type} {l : List α} {i : Nat} {x d : α} (h : l[i]? = some x) : l.getD i d = x := by rw [List.getD_eq_getElem?_getD, h]; rfl
set_option maxRecDepth 20000 in
set_option maxHeartbeats 1000000 in
theorem receiver_any {w : World} {G : Nat → Prop} {g : Nat} {S : List (List Wt)} {r : Rm} (h : Rn w G g S r) (c : Int) : Calls Tryd.prog 114 #[.pointer (some ⟨g, 0, none⟩), .int .i64 c] w (Vb w (.int .i64 (recvI r.gs c))) := by
  obtain ⟨Fs, Fo, R, gs, vC, vB, vG, vE, ps, ts, h, hG⟩ := h
  have B0 := bel_new w (.cells #[.int .i64 c] 3)
  have h1 := h.bel B0
  obtain ⟨a, cG, e, _⟩ := own_slice h.go
  subst e
  have c3 := h.cells.1.2.2.2.1
  have hgl := h.fb g h.fg
  obtain ⟨n, hn⟩ : ∃ n, n = r.gs.length := ⟨_, rfl⟩
  have IX := hide (index_go a n cG w.heap.size c r.gs hn (by have := h.n8; omega) (blk_cell (Go.Deep.blk_alloc_new w (.cells #[.int .i64 c] 3)) 0 _ rfl) (by have := lt_of_blk (Go.Deep.blk_alloc_new w (.cells #[.int .i64 c] 3)); exact this) (fun i hi => by
    obtain ⟨x, hx⟩ : ∃ x, r.gs[i]? = some x := ⟨_, List.getElem?_eq_getElem (by omega)⟩
    obtain ⟨bG, c', b, t, va, e1, _, _, _, _, _, _, ⟨q1, q2, q3⟩, q4⟩ := h1.see hx
    cases e1
    rw [getD_of_some hx]
    exact ⟨bG, b, rfl, q2, q3, q1, blk_cell q4 1 _ rfl, blk_cell q4 2 _ rfl⟩))
  rw [← hn] at c3
  have HB := hide B0
  have hmf : ∀ (fn : Fn) (first cap : Array Value) (w : World), (Instr.makeFunc fn first cap).run Tryd.prog w = .ok (.func fn first cap) w := fun _ _ _ _ => rfl
  clear h h1 B0 hn hG
  go_enter Tryd.func114, Tryd.ntmps114
  go_wp2_with fail
  refine IX.out.mono ?_
  rintro e w1 ⟨rfl, hb⟩
  go_wp2_with fail
  go_ret
  exact Vb.mk rfl (bel_trans HB.out hb)
end Go.Proofs.YtbiilnpblnjliaaDoor.Ck

/- Package act: can a send be done? (Written by mk_a.py.) -/
namespace Go.Proofs.YtbiilnpblnjliaaDoor.Ck
open Go.RowKit

theorem calls_flip {P : Program} {f : FuncId} {args : Array Value} {w : World} {v : Ending} (h : Calls P f args w fun e w' => e = v ∧ w = w') : Calls P f args w fun e w' => e = v ∧ w' = w := h.mono fun _ _ h => ⟨h.1, h.2.symm⟩
set_option maxRecDepth 20000 in
set_option maxHeartbeats 1000000 in
theorem canSend_out {w : World} {G : Nat → Prop} {g : Nat} {S : List (List Wt)} {r : Rm} (h : Rn w G g S r) (k o a v0 v1 v2 : Int) (va : Value) (ho : o < 0 ∨ (r.s.C.length : Int) ≤ o) :
    Calls Tryd.prog 104 #[.pointer (some ⟨g, 0, none⟩), .agg #[.int .i64 k, .int .i64 o, .int .i64 a, .int .i64 v0, .int .i64 v1, .int .u64 v2, va]] w (Vb w (.bool false)) := by
  have B0 := hide (bel_new w (.cells #[.int .i64 k, .int .i64 o, .int .i64 a, .int .i64 v0, .int .i64 v1, .int .u64 v2, va] 133))
  have V0 := hide (Wv.new w k o a v0 v1 v2 va)
  obtain ⟨Fs, Fo, R, gs, vC, vB, vG, vE, ps, ts, h, hG⟩ := h
  have h1 := h.bel B0.out
  have HC := hide h1.cells
  obtain ⟨aC, cC, eC, _⟩ := own_slice h.ch
  subst eC
  obtain ⟨n, hn⟩ : ∃ n, n = r.s.C.length := ⟨_, rfl⟩
  rw [← hn] at ho HC
  clear h h1 hn hG
  by_cases h0 : o < 0
  · clear ho
    go_enter Tryd.func104, Tryd.ntmps104
    go_wp2_with fail
    generalize w.alloc (.cells #[.int .i64 k, .int .i64 o, .int .i64 a, .int .i64 v0, .int .i64 v1, .int .u64 v2, va] 133) = w1 at *
    obtain ⟨q0, q1, q2, q3, q4, q5, q6⟩ := V0.out.all
    obtain ⟨⟨c0, c1, c2, c3, c4⟩, _⟩ := HC.out
    go_quiet (fail)
    go_wp2_with fail
    go_ret
    exact Vb.mk rfl (below_drewN B0.out _)
  · have h2 : (n : Int) ≤ o := by omega
    have h3 : 0 ≤ o := by omega
    have hd0 : decide (o < 0) = false := by simp; omega
    have hd1 : decide ((n : Int) ≤ o) = true := by simp [h2]
    clear ho h0
    go_enter Tryd.func104, Tryd.ntmps104
    go_wp2_with fail
    generalize w.alloc (.cells #[.int .i64 k, .int .i64 o, .int .i64 a, .int .i64 v0, .int .i64 v1, .int .u64 v2, va] 133) = w1 at *
    obtain ⟨q0, q1, q2, q3, q4, q5, q6⟩ := V0.out.all
    obtain ⟨⟨c0, c1, c2, c3, c4⟩, _⟩ := HC.out
    go_quiet (fail)
    go_wp2_with fail
    go_ret
    exact Vb.mk rfl (below_drewN B0.out _)
set_option maxRecDepth 20000 in
set_option maxHeartbeats 1000000 in
theorem canSend_in {w : World} {G : Nat → Prop} {g : Nat} {S : List (List Wt)} {r : Rm} (h : Rn w G g S r) (k a v0 v1 v2 : Int) (va : Value) (i : Nat) (q : Qu) (hq : r.s.C[i]? = some q) :
    Calls Tryd.prog 104 #[.pointer (some ⟨g, 0, none⟩), .agg #[.int .i64 k, .int .i64 (i : Nat), .int .i64 a, .int .i64 v0, .int .i64 v1, .int .u64 v2, va]] w (Vb w (.bool (isB v0 v1 v2 q.t && (if q.room = 0 then decide (0 ≤ recvI r.gs i) else decide ((q.l.length : Int) < q.room))))) := by
  have B0 := hide (bel_new w (.cells #[.int .i64 k, .int .i64 (i : Nat), .int .i64 a, .int .i64 v0, .int .i64 v1, .int .u64 v2, va] 133))
  have V0 := hide (Wv.new w k i a v0 v1 v2 va)
  have RC := hide (fun (w' : World) (hb : Below w.heap.size w w') => receiver_any (h.bel hb) (i : Int))
  obtain ⟨Fs, Fo, R, gs, vC, vB, vG, vE, ps, ts, h, hG⟩ := h
  have h1 := h.bel B0.out
  have HC := hide h1.cells
  have hi : i < r.s.C.length := (List.getElem?_eq_some_iff.1 hq).1
  obtain ⟨bC, cC, eC, _⟩ := own_some h.ch (by omega)
  subst eC
  have D1 := hide (And.intro (own_cell h1.ch i (.int .i64 q.t) (by simp [nts, hq])).1 (own_type h1.ch (k := bC) rfl).2.1)
  have RM := hide (fun (w' : World) (hb : Below w.heap.size w w') => calls_flip (Room_in (h.st.bel hb) i q hq))
  have LN := hide (fun (w' : World) (hb : Below w.heap.size w w') => calls_flip (Len_in (h.st.bel hb) i q hq))
  have hgl := h1.fb g h1.fg
  have HGL := hide hgl
  have hsl := h.st.lt
  obtain ⟨n, hn⟩ : ∃ n, n = r.s.C.length := ⟨_, rfl⟩
  have hn32 : n ≤ 32 := by
    obtain ⟨_, _, _, _, _, hS⟩ := h.st
    have := hS.small
    omega
  rw [← hn] at HC hi
  have Iq := fun w => aisOf_any v0 v1 v2 q.t w
  obtain ⟨z, hz⟩ : ∃ z, isB v0 v1 v2 q.t = z := ⟨_, rfl⟩
  rw [hz] at Iq
  obtain ⟨y, hy⟩ : ∃ y, (if q.room = 0 then decide (0 ≤ recvI r.gs i) else decide ((q.l.length : Int) < q.room)) = y := ⟨_, rfl⟩
  rw [hz, hy]
  have HY := hide hy
  clear h h1 hn hG hz hy hq
  obtain ⟨qt, qr, ql⟩ := q
  simp only at *
  obtain ⟨m, hm⟩ : ∃ m, m = ql.length := ⟨_, rfl⟩
  rw [← hm] at LN HY
  clear hm
  have hi1 : (i : Int) < (n : Int) := by omega
  have hi0 : (0 : Int) ≤ (i : Int) := by omega
  have hd0 : decide ((i : Int) < 0) = false := by simp
  have hd1 : decide ((n : Int) ≤ (i : Int)) = false := by simp; omega
  have hd2 : decide (n ≤ i) = false := by simp; omega
  go_enter Tryd.func104, Tryd.ntmps104
  go_wp2_with fail
  generalize w.alloc (.cells #[.int .i64 k, .int .i64 (i : Nat), .int .i64 a, .int .i64 v0, .int .i64 v1, .int .u64 v2, va] 133) = w1 at *
  obtain ⟨q0, q1, q2, q3, q4, q5, q6⟩ := V0.out.all
  obtain ⟨⟨c0, c1, c2, c3, c4⟩, _⟩ := HC.out
  obtain ⟨d1, hbl⟩ := D1.out
  refine wp_quiet_tail 24 mixed (by kernel_rfl) ?_
  simp only [List.take_succ_cons, List.take_zero, List.drop_succ_cons, List.drop_zero]
  repeat (first | go_big_quiet_skip | (go_big_quiet_want; go_big_quiet_op; go_big_quiet_on))
  refine wpQuiet_nil ?_
  go_wp2_with fail
  refine (Iq _).mono ?_
  rintro e w2 ⟨rfl, hb⟩
  replace hb : Below w1.heap.size w1 w2 := ⟨hb.os, hb.tape, hb.output, hb.size, hb.block⟩
  have B2 := hide (bel_trans B0.out hb)
  have V2 := hide (V0.out.al hb)
  obtain ⟨p0, p1, p2, p3, p4, p5, p6⟩ := V2.out.all
  have e0 : w2.cell? ⟨g, 0, none⟩ = some (.pointer (some ⟨gs, 0, none⟩)) := (hb.cell (p := ⟨g, 0, none⟩) hgl).trans c0
  have S2 := hide hb.size
  clear c0 c1 c2 c3 c4 d1 q0 q1 q2 q3 q4 q5 q6
  cases z with
  | false =>
    go_wp2_with fail
    go_ret
    exact Vb.mk rfl B2.out
  | true =>
    by_cases hr : qr = 0
    · subst hr
      go_wp2_with fail
      go_quiet (first | (go_at_call 18; exact Calls.quiet_of_same (RM.out _ (below_drewN B2.out _))))
      have HY2 : Hid (y = decide (0 ≤ recvI r.gs i)) := by
        have := HY.out
        rw [if_pos trivial] at this
        exact this.symm
      clear HY
      go_wp2_with fail
      refine (RC.out _ (below_drewN B2.out _)).mono ?_
      rintro e w3 ⟨rfl, hb3⟩
      have B3 := hide (bel_trans (below_drewN B2.out _) hb3)
      clear hb3
      go_wp2_with fail
      go_ret
      exact Vb.mk (by rw [HY2.out]; rfl) B3.out
    · have hrb : (qr == 0) = false := by simp [hr]
      have HY2 : Hid (y = decide ((m : Int) < qr)) := by
        have := HY.out
        rw [if_neg hr] at this
        exact this.symm
      clear HY
      go_wp2_with fail
      go_quiet (first | (go_at_call 18; exact Calls.quiet_of_same (RM.out _ (below_drewN B2.out _))))
      have B3 := hide (below_drewN B2.out nq)
      have e0' : (w2.drewN nq).cell? ⟨g, 0, none⟩ = some (.pointer (some ⟨gs, 0, none⟩)) := e0
      have p1' : (w2.drewN nq).cell? ⟨w.heap.size, 1, none⟩ = some (.int .i64 (i : Nat)) := p1
      go_wp2_with fail
      generalize w2.drewN nq = w3 at *
      go_quiet (first | (go_at_call 16; exact Calls.quiet_of_same (LN.out _ (below_drewN B3.out _))) | (go_at_call 18; exact Calls.quiet_of_same (RM.out _ (below_drewN B3.out _))))
      go_wp2_with fail
      go_ret
      exact Vb.mk (by rw [HY2.out]; rfl) (below_drewN B3.out _)
end Go.Proofs.YtbiilnpblnjliaaDoor.Ck
