/- Package sync: what is refused. (Written by mk_y.py.) -/
import Derived.Test.YtghfjnnmpmfboaaDoorYm
namespace Go.Proofs.YtghfjnnmpmfboaaDoor.Ck
open Go.RowKit

def badT (t : Int) : Bool := zeroT t == 0
/-- a slice of channels that holds the list cs -/
def SlC (w : World) (v : Value) (cs : List (Int × Int)) : Prop := ∃ a cap, v = .slice a cs.length cap ∧ cs.length ≤ cap ∧ cap ≤ maxLen ∧
    ∀ i, i < cs.length → ∃ b off, a = some ⟨b, off, none⟩ ∧ b < w.heap.size ∧ w.cell? ⟨b, off + i * 2, none⟩ = some (.int .i64 (cs.getD i (0, 0)).1) ∧ w.cell? ⟨b, off + i * 2 + 1, none⟩ = some (.int .i64 (cs.getD i (0, 0)).2)
theorem SlC.below {w w' : World} {v : Value} {cs : List (Int × Int)} (h : SlC w v cs) (hb : Below w.heap.size w w') : SlC w' v cs := by
  obtain ⟨a, cap, hv, h1, h2, h3⟩ := h
  refine ⟨a, cap, hv, h1, h2, fun i hi => ?_⟩
  obtain ⟨b, off, ha, hlt, hc, hd⟩ := h3 i hi
  exact ⟨b, off, ha, Nat.lt_of_lt_of_le hlt hb.size, (hb.cell (p := ⟨b, off + i * 2, none⟩) hlt).trans hc, (hb.cell (p := ⟨b, off + i * 2 + 1, none⟩) hlt).trans hd⟩
theorem SlC.nilS (w : World) : SlC w (.slice none 0 0) [] := ⟨none, 0, rfl, Nat.le_refl _, Nat.zero_le _, fun _ h => absurd h (Nat.not_lt_zero _)⟩
theorem any_not {α : Type} (l : List α) (f : α → Bool) (d : α) (h : ∀ j, j < l.length → f (l.getD j d) = false) : l.any f = false := by
  rw [List.any_eq_false]
  intro x hx
  obtain ⟨i, hi, rfl⟩ := List.mem_iff_getElem.1 hx
  have := h i hi
  rw [List.getD_eq_getElem?_getD, List.getElem?_eq_getElem hi] at this
  simpa using this
theorem any_yes {α : Type} (l : List α) (f : α → Bool) (d : α) (k : Nat) (hk : k < l.length) (h : f (l.getD k d) = true) : l.any f = true := by
  rw [List.any_eq_true]
  rw [List.getD_eq_getElem?_getD, List.getElem?_eq_getElem hk] at h
  exact ⟨l[k], List.getElem_mem hk, by simpa using h⟩
def IdxP (w : World) (b : Bool) (e : Ending) (w' : World) : Prop := (∃ r : Int, e = .returned (.int .i64 r) ∧ decide (0 ≤ r) = b) ∧ Below w.heap.size w w'
set_option maxRecDepth 20000 in
set_option maxHeartbeats 1000000 in
theorem index_int (v : Value) (zs : List Int) (w : World) (h : Sl w v zs) : Calls Tryd.prog 80 #[v, .func (.func 37) #[] #[]] w (IdxP w (zs.any badT)) := by
  obtain ⟨_, a, c, rfl, hca, hcm, hac⟩ := h
  unfold maxLen at hcm
  obtain ⟨n, hn⟩ : ∃ n, n = zs.length := ⟨_, rfl⟩
  have hs : Hid ((∀ j, j < n → badT (zs.getD j 0) = false) → zs.any badT = false) := fun h => any_not zs _ 0 (fun j hj => h j (by omega))
  have hs2 : Hid (∀ k, k < n → badT (zs.getD k 0) = true → zs.any badT = true) := fun k hk => any_yes zs _ 0 k (by omega)
  have hac' : ∀ i, i < n → _ := fun i hi => hac i (by omega)
  rw [← hn] at hca ⊢
  clear hn hac
  generalize zs.any badT = r at *
  go_enter Tryd.func80, Tryd.ntmps80
  go_wp2_with fail
  go_loopw [5, 8] (fun u i wr => ∃ k : Nat, k ≤ n ∧ i = .int .i64 k ∧ Hid (∀ j, j < k → badT (zs.getD j 0) = false) ∧ Hid (Below w.heap.size w wr)) (fun u i _ => n - (intOf i).toNat)
  case atStart => exact ⟨0, Nat.zero_le _, rfl, fun j hj => absurd hj (Nat.not_lt_zero _), Below.refl _ _⟩
  case round =>
    obtain ⟨k, hk, rfl, hall, hbel⟩ := hrel
    by_cases hlt : k < n
    · obtain ⟨b1, o1, rfl, hb1, hc1⟩ := hac' k hlt
      rw [← hbel.out.cell (p := ⟨b1, o1 + k, none⟩) hb1] at hc1
      have h1 : (k : Int) < (n : Int) := by omega
      have hne := hide (hs2.out k hlt)
      have hstep : Hid (badT (zs.getD k 0) = false → ∀ j, j < k + 1 → badT (zs.getD j 0) = false) := fun e j hj => by
        by_cases ej : j = k
        · rw [ej]; exact e
        · exact hall.out j (by omega)
      have NT := fun w => (show Calls Tryd.prog 37 #[.int .i64 (zs.getD k 0)] w (Vb w (.bool (badT (zs.getD k 0)))) from noType_any _ w)
      clear hac' hs hs2 hall
      generalize badT (zs.getD k 0) = x at *
      generalize zs.getD k 0 = y at *
      go_wp2_with fail
      refine (NT _).mono ?_
      rintro e w1 ⟨rfl, hb⟩
      have hbel2 := hide (bel_trans hbel.out hb)
      cases x with
      | true =>
        have hr := hide (hne.out rfl)
        clear hne hstep
        go_wp2_with fail
        go_ret
        exact ⟨⟨_, rfl, by rw [hr.out]; simp⟩, hbel2.out⟩
      | false =>
        have hr := hide (hstep.out rfl)
        clear hne hstep
        go_wp2_with fail
        go_roundw
        case rel => exact ⟨k + 1, by omega, by go_num, hr, hbel2⟩
        case measure => simp [intOf]; omega
    · have e : k = n := by omega
      subst e
      have hs3 := hide (hs.out hall.out)
      clear hac' hs hs2 hall
      go_wp2_with fail
      go_ret
      exact ⟨⟨_, rfl, by rw [hs3.out]; rfl⟩, hbel.out⟩
set_option maxRecDepth 20000 in
set_option maxHeartbeats 1000000 in
theorem contains_int (v : Value) (zs : List Int) (w : World) (h : Sl w v zs) : Calls Tryd.prog 36 #[v, .func (.func 37) #[] #[]] w (Vb w (.bool (zs.any badT))) := by
  have I := hide (index_int v zs w h)
  have hv : ∃ a n c, v = .slice a n c := by
    obtain ⟨_, a, c, rfl, _⟩ := h
    exact ⟨_, _, _, rfl⟩
  obtain ⟨a, n, c, rfl⟩ := hv
  clear h
  generalize zs.any badT = r at *
  go_enter Tryd.func36, Tryd.ntmps36
  go_wp2_with fail
  refine I.out.mono ?_
  rintro e w1 ⟨⟨x, rfl, hx⟩, hb⟩
  have HX := hide hx
  clear hx
  go_wp2_with fail
  go_ret
  exact Vb.mk (congrArg Value.bool HX.out) hb
def badC (c : Int × Int) : Bool := chanB c.1 c.2
set_option maxRecDepth 20000 in
set_option maxHeartbeats 1000000 in
theorem index_chan (v : Value) (zs : List (Int × Int)) (w : World) (h : SlC w v zs) : Calls Tryd.prog 81 #[v, .func (.func 39) #[] #[]] w (IdxP w (zs.any badC)) := by
  obtain ⟨a, c, rfl, hca, hcm, hac⟩ := h
  unfold maxLen at hcm
  obtain ⟨n, hn⟩ : ∃ n, n = zs.length := ⟨_, rfl⟩
  have hs : Hid ((∀ j, j < n → badC (zs.getD j (0, 0)) = false) → zs.any badC = false) := fun h => any_not zs _ (0, 0) (fun j hj => h j (by omega))
  have hs2 : Hid (∀ k, k < n → badC (zs.getD k (0, 0)) = true → zs.any badC = true) := fun k hk => any_yes zs _ (0, 0) k (by omega)
  have hac' : ∀ i, i < n → _ := fun i hi => hac i (by omega)
  rw [← hn] at hca ⊢
  clear hn hac
  generalize zs.any badC = r at *
  go_enter Tryd.func81, Tryd.ntmps81
  go_wp2_with fail
  go_loopw [5, 8] (fun u i wr => ∃ k : Nat, k ≤ n ∧ i = .int .i64 k ∧ Hid (∀ j, j < k → badC (zs.getD j (0, 0)) = false) ∧ Hid (Below w.heap.size w wr)) (fun u i _ => n - (intOf i).toNat)
  case atStart => exact ⟨0, Nat.zero_le _, rfl, fun j hj => absurd hj (Nat.not_lt_zero _), Below.refl _ _⟩
  case round =>
    obtain ⟨k, hk, rfl, hall, hbel⟩ := hrel
    by_cases hlt : k < n
    · obtain ⟨b1, o1, rfl, hb1, hc1, hd1⟩ := hac' k hlt
      rw [← hbel.out.cell (p := ⟨b1, o1 + k * 2, none⟩) hb1] at hc1
      rw [← hbel.out.cell (p := ⟨b1, o1 + k * 2 + 1, none⟩) hb1] at hd1
      have h1 : (k : Int) < (n : Int) := by omega
      have hne := hide (hs2.out k hlt)
      have hstep : Hid (badC (zs.getD k (0, 0)) = false → ∀ j, j < k + 1 → badC (zs.getD j (0, 0)) = false) := fun e j hj => by
        by_cases ej : j = k
        · rw [ej]; exact e
        · exact hall.out j (by omega)
      have NT := fun w => (show Calls Tryd.prog 39 #[.agg #[.int .i64 (zs.getD k (0, 0)).1, .int .i64 (zs.getD k (0, 0)).2]] w (Vb w (.bool (badC (zs.getD k (0, 0))))) from noChan_any _ _ w)
      clear hac' hs hs2 hall
      generalize badC (zs.getD k (0, 0)) = x at *
      generalize (zs.getD k (0, 0)).1 = y1 at *
      generalize (zs.getD k (0, 0)).2 = y2 at *
      go_wp2_with fail
      refine (NT _).mono ?_
      rintro e w1 ⟨rfl, hb⟩
      have hbel2 := hide (bel_trans hbel.out hb)
      cases x with
      | true =>
        have hr := hide (hne.out rfl)
        clear hne hstep
        go_wp2_with fail
        go_ret
        exact ⟨⟨_, rfl, by rw [hr.out]; simp⟩, hbel2.out⟩
      | false =>
        have hr := hide (hstep.out rfl)
        clear hne hstep
        go_wp2_with fail
        go_roundw
        case rel => exact ⟨k + 1, by omega, by go_num, hr, hbel2⟩
        case measure => simp [intOf]; omega
    · have e : k = n := by omega
      subst e
      have hs3 := hide (hs.out hall.out)
      clear hac' hs hs2 hall
      go_wp2_with fail
      go_ret
      exact ⟨⟨_, rfl, by rw [hs3.out]; rfl⟩, hbel.out⟩
set_option maxRecDepth 20000 in
set_option maxHeartbeats 1000000 in
theorem contains_chan (v : Value) (zs : List (Int × Int)) (w : World) (h : SlC w v zs) : Calls Tryd.prog 38 #[v, .func (.func 39) #[] #[]] w (Vb w (.bool (zs.any badC))) := by
  have I := hide (index_chan v zs w h)
  have hv : ∃ a n c, v = .slice a n c := by
    obtain ⟨a, c, rfl, _⟩ := h
    exact ⟨_, _, _, rfl⟩
  obtain ⟨a, n, c, rfl⟩ := hv
  clear h
  generalize zs.any badC = r at *
  go_enter Tryd.func38, Tryd.ntmps38
  go_wp2_with fail
  refine I.out.mono ?_
  rintro e w1 ⟨⟨x, rfl, hx⟩, hb⟩
  have HX := hide hx
  clear hx
  go_wp2_with fail
  go_ret
  exact Vb.mk (congrArg Value.bool HX.out) hb
end Go.Proofs.YtghfjnnmpmfboaaDoor.Ck
