/- slices.SortFunc over a row of races of the call's own, at whatever length; package order's Races. -/
import Derived.Test.YticgmebbnnmikaaDoorOw
import Derived.Test.YticgmebbnnmikaaDoorSo
namespace Go.Proofs.YticgmebbnnmikaaDoor.Ck
open Go.RowKit Go.Sort

theorem isNaN_any (x : Int) (w : World) : Calls Tryd.prog 57 #[.int .i64 x] w (fun e w' => e = .returned (.bool false) ∧ w' = w) := by
  go_enter Tryd.func57, Tryd.ntmps57
  go_wp2_with fail
  go_ret
  exact ⟨by simp, rfl⟩
def cmpI (x y : Int) : Int := if x < y then -1 else if y < x then 1 else 0
theorem compare_any (x y : Int) (w : World) : Calls Tryd.prog 46 #[.int .i64 x, .int .i64 y] w (fun e w' => e = .returned (.int .i64 (cmpI x y)) ∧ w' = w) := by
  go_enter Tryd.func46, Tryd.ntmps46
  go_wp2_with fail
  refine (isNaN_any _ _).mono ?_
  rintro e w' ⟨rfl, rfl⟩
  go_wp2_with fail
  refine (isNaN_any _ _).mono ?_
  rintro e w' ⟨rfl, rfl⟩
  go_wp2_with fail
  all_goals (go_ret; refine ⟨?_, rfl⟩; unfold cmpI; (repeat' split) <;> first | rfl | (exfalso; omega))
def cmpR (a b : Rc) : Int := cmpI a.p b.p
theorem races1_any (x y : Rc) (W : World) : Calls Tryd.prog 45 #[.agg (rcC x).toArray, .agg (rcC y).toArray] W fun e w' => e = .returned (.int .i64 (cmpR x y)) ∧ ∃ q os', w' = grow (W.drewN q) os' := by
  have hcon := fun W' => compare_any x.p y.p W'
  unfold cmpR
  generalize cmpI x.p y.p = r at hcon ⊢
  unfold rcC
  go_enter Tryd.func45, Tryd.ntmps45
  go_wp2_with (go_at_call 46; refine (hcon _).mono ?_; rintro e w' ⟨rfl, rfl⟩)
  go_ret
  exact ⟨rfl, 0, _, by rw [alloc_eq_grow, alloc_eq_grow, grow_grow]; rfl⟩
theorem ltR (x y : Rc) : ltOf cmpR x y = decide (x.p < y.p) := by
  unfold ltOf cmpR cmpI
  by_cases h1 : x.p < y.p
  · simp [h1]
  · by_cases h2 : y.p < x.p <;> simp [h1, h2]
theorem swoR : SWO (ltOf cmpR) where
  irrefl x := by rw [ltR]; simp
  trans x y z h1 h2 := by rw [ltR] at *; simp at *; omega
  ntrans x y z h1 h2 := by rw [ltR] at *; simp at *; omega
theorem flat_get (z : Rc) : ∀ (l : List Rc) (j : Nat), j < l.length * 5 → (l.flatMap rcC)[j]? = some ((rcC (l.getD (j / 5) z))[j % 5]!)
  | [], j, h => by simp at h
  | r :: l, j, h => by
    by_cases c : j < 5
    · rw [List.flatMap_cons, List.getElem?_append_left (by simpa [rcC] using c), show j / 5 = 0 by omega, show j % 5 = j by omega]
      rcases (by omega : j = 0 ∨ j = 1 ∨ j = 2 ∨ j = 3 ∨ j = 4) with rfl | rfl | rfl | rfl | rfl <;> rfl
    · have ih := flat_get z l (j - 5) (by simp at h; omega)
      rw [List.flatMap_cons, List.getElem?_append_right (by simp [rcC]; omega)]
      rw [show j - (rcC r).length = j - 5 by simp [rcC], ih, show (j - 5) % 5 = j % 5 by omega, show (j - 5) / 5 = j / 5 - 1 by omega]
      obtain ⟨q, hq⟩ : ∃ q, j / 5 = q + 1 := ⟨j / 5 - 1, by omega⟩
      rw [hq]
      rfl
theorem flatR_len : ∀ l : List Rc, (l.flatMap rcC).length = l.length * 5
  | [] => rfl
  | r :: l => by
    rw [List.flatMap_cons, List.length_append, flatR_len l, List.length_cons]
    simp [rcC]
    omega
/-- by rising places -/
def Rising (l : List Rc) : Prop := ∀ i j : Nat, i < j → j < l.length → ∀ z, (l.getD i z).p ≤ (l.getD j z).p
set_option maxHeartbeats 2000000 in
theorem sort_row {w0 w : World} {v : Value} {l : List Rc} (hb : Below w0.heap.size w0 w) (ho : w.ownsRow w0.heap.size 54 5 v l.length (l.flatMap rcC)) (hn : l.length ≤ 100000) :
    Calls Tryd.prog 44 #[v, .func (.func 45) #[] #[]] w (fun e w' => e = .returned (.tuple #[]) ∧ Below w0.heap.size w0 w' ∧ ∃ l', (l'.Perm l ∧ Rising l') ∧ w'.ownsRow w0.heap.size 54 5 v l'.length (l'.flatMap rcC)) := by
  by_cases h1 : l.length ≤ 1
  · obtain ⟨a, c, e, _⟩ := own_slice ho
    subst e
    exact (sort_small a c _ _ h1 w).mono fun _ _ ⟨q1, q2⟩ => by
      subst q2
      exact ⟨q1, hb, l, ⟨List.Perm.refl _, fun i j hi hj => by omega⟩, ho⟩
  obtain ⟨z, hz⟩ : ∃ z : Rc, z = ⟨0, 0, 0, false, false⟩ := ⟨_, rfl⟩
  have inh : Inhabited Rc := ⟨z⟩
  obtain ⟨hl, ⟨_, h0⟩ | ⟨b, cap, cur, rfl, hB, hg, c1, c2, c3, c4⟩⟩ := ho
  · omega
  have hs : l.toArray.size = l.length := by simp
  have get9 : ∀ (q : List Rc) (i : Nat), q.toArray[i]! = q.getD i default := fun q i => by
    simp [List.getD, Array.getElem!_eq_getD, Array.getD_eq_getD_getElem?]
  have fl : ∀ (q : List Rc) (j : Nat), j < q.length * 5 → (q.flatMap rcC)[j]? = some ((flatK rcC 5 q.toArray)[j]!) := fun q j hj => by
    rw [get_flatK _ _ _ _ (by simpa using hj), get9, flat_get default q j hj]
  have hcur : ∀ j, j < l.length * 5 → cur[j]? = some ((flatK rcC 5 l.toArray)[j]!) := fun j hj => by
    rw [← fl l j hj, ← c4, List.getElem?_take_of_lt hj, Array.getElem?_toList]
  have hH : HoldsK rcC 5 w b 0 l.toArray := fun j hj => by
    rw [size_flatK, hs] at hj
    rw [Nat.zero_add]
    exact ⟨blk_cell hg j _ (hcur j hj), blk_frz hg j⟩
  have eg : ∀ args w, (callFunc 45 args).run Tryd.prog w = .ok (.enter 45 args) w := enters_of Tryd.func45 (by kernel_rfl) rfl
  have hcon := AnyQ.slices_SortFunc Tryd.sortRace 5 Tryd.isAgg54 Tryd.sizeOf54 rcC (fun _ => rfl) (fun x v hv => rcC_one x v hv) cmpR swoR 45 #[] b 0 cap l.toArray w eg (fun _ _ _ _ x y => races1_any x y _) hH (lt_of_blk hg) (by rw [hs]; omega)
  change Calls Tryd.prog 44 _ _ _ at hcon
  rw [hs] at hcon
  refine hcon.mono ?_
  rintro e w' ⟨rfl, d', m, os, hp, hso, rfl⟩
  have hds : d'.size = l.length := by rw [hp.1, hs]
  have hperm : d'.toList.Perm l := by
    have := hp.2.2
    rw [Array.extract_eq_self_of_le (by omega), Array.extract_eq_self_of_le (by omega)] at this
    simpa using this
  have hlen : d'.toList.length = l.length := hperm.length_eq
  have hheap : (sortWorldK rcC 5 w b 0 m d' os).heap = (w.heap.modify b (onCells (putCells id 0 (flatK rcC 5 d')))) ++ os := rfl
  have hblk : (sortWorldK rcC 5 w b 0 m d' os).heap[b]? = some (.cells (putCells id 0 (flatK rcC 5 d') cur) 54 (0, 0)) := by
    have hlt := lt_of_blk hg
    rw [hheap, Array.getElem?_append_left (by simpa using hlt), Array.getElem?_modify, if_pos rfl, hg]
    rfl
  have hoth : ∀ k, k < w.heap.size → k ≠ b → (sortWorldK rcC 5 w b 0 m d' os).heap[k]? = w.heap[k]? := fun k hk hne => by
    rw [hheap, Array.getElem?_append_left (by simpa using hk), Array.getElem?_modify, if_neg (fun e => hne e.symm)]
  have hsz : w.heap.size ≤ (sortWorldK rcC 5 w b 0 m d' os).heap.size := size_sortWorldK_c rcC 5 w b 0 m d' os
  refine ⟨rfl, ⟨hb.os, hb.tape, hb.output, Nat.le_trans hb.size hsz, fun k hk => (hoth k (Nat.lt_of_lt_of_le hk hb.size) (by omega)).trans (hb.block k hk)⟩, d'.toList, ⟨hperm, fun i j hij hj z9 => ?_⟩, ?_, .inr ⟨b, cap, _, by rw [hlen], hB, hblk, by omega, c2, by simp [putCells, c3], ?_⟩⟩
  · have h9 := hso i j (Nat.zero_le _) hij (by omega)
    rw [ltR] at h9
    have gd : ∀ (k : Nat), k < d'.size → d'[k]! = d'.toList.getD k z9 := fun k hk => by
      simp [List.getD, getElem!_pos, hk]
    rw [gd i (by omega), gd j (by omega)] at h9
    simp at h9
    simpa [List.getD] using h9
  · exact flatR_len _
  · rw [hlen]
    apply List.ext_getElem?
    intro j
    by_cases hj : j < l.length * 5
    · rw [List.getElem?_take_of_lt hj, Array.getElem?_toList, fl d'.toList j (by rw [hlen]; exact hj)]
      have hjc : j < cur.size := by rw [c3]; have := Nat.mul_le_mul_right 5 c1; omega
      unfold putCells
      rw [Array.getElem?_mapIdx, Array.getElem?_eq_getElem hjc]
      simp only [Option.map_some, Nat.sub_zero, id]
      rw [if_pos ⟨Nat.zero_le _, by rw [size_flatK, hds]; omega⟩]
    · rw [List.getElem?_eq_none (by rw [List.length_take]; omega), List.getElem?_eq_none (by rw [flatR_len, hlen]; omega)]
/-- Races, at whatever length -/
theorem races_any {w : World} {vT vR ev : Value} {T : List Ev} {R : List Int} (hT : SlE w vT T) (hR : Sl w vR R) (hE : Er w ev) (hF : formT T = true) (hW : ∀ k, k < T.length → wfI (T.getD k zE).o) (hn : T.length ≤ 100000) :
    Calls Tryd.prog 15 #[vT, vR] w (fun e w' => ∃ v, e = .returned (.tuple #[v, .nilIface]) ∧ Below w.heap.size w w' ∧ ∃ l, (l.Perm (racesM R T) ∧ Rising l) ∧ w'.ownsRow w.heap.size 54 5 v l.length (l.flatMap rcC)) :=
  races_of hT hR hE hF hW hn (fun l => l.Perm (racesM R T) ∧ Rising l) (fun _ _ _ b ho => sort_row b ho (Nat.le_trans (race_len T _ T.length) hn))
end Go.Proofs.YticgmebbnnmikaaDoor.Ck
