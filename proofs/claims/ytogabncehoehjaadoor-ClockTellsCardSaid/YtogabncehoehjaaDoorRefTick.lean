/- The contract of the reference's Tick. -/
import Derived.Test.YtogabncehoehjaaDoorMarks
import Derived.Test.YtogabncehoehjaaDoorRefJoin
namespace Go.Proofs.YtogabncehoehjaaDoor.Ck
open Go.RowKit

/-- the list with zeros behind, up to place g, and the new count there -/
def bumped (a : List Int) (g : Nat) (zs : List Int) : List Int := zs.set g (cnt a g + 1)

theorem short_bumped (a : List Int) (g j : Nat) (h1 : g < (a ++ List.replicate j 0).length) (h2 : (a ++ List.replicate j 0).length = max a.length (g + 1)) :
    short (bumped a g (a ++ List.replicate j 0)) = tick a g := by
  unfold short tick bumped
  rw [List.length_set, h2]
  refine mk_congr _ _ _ (fun i hi => ?_)
  unfold tickF
  rw [cnt_one]
  have hnn := cnt_nonneg a g
  by_cases e : i = g
  · subst e
    rw [if_pos rfl]
    unfold cnt at hnn ⊢
    simp only [List.getD, List.getElem?_set_self h1, Option.getD_some]
    omega
  · rw [if_neg e]
    have e2 : ((a ++ List.replicate j 0).set g (cnt a g + 1)).getD i 0 = a.getD i 0 := by
      simp only [List.getD, List.getElem?_set_ne (Ne.symm e)]
      by_cases hi2 : i < a.length
      · rw [List.getElem?_append_left hi2]
      · rw [List.getElem?_append_right (by omega), List.getElem?_eq_none (show a.length ≤ i by omega)]
        simp only [List.getElem?_replicate]
        split <;> rfl
    show max (((a ++ List.replicate j 0).set g (cnt a g + 1)).getD i 0) 0 = _
    rw [e2]
    unfold cnt
    omega

theorem rTick_range (va : Value) (g : Int) (w : World) (hg : g < 0 ∨ 8 ≤ g) :
    Calls Tryd.prog 12 #[va, .int .i64 g] w fun e w' => e = .returned (.tuple #[.slice none 0 0, .int .i64 1]) ∧ w = w' := by
  rcases hg with hg | hg
  all_goals
    go_enter Tryd.func12, Tryd.ntmps12
    go_wp2_with fail
    go_ret2
    exact ⟨rfl, rfl⟩

theorem rTick_clock (va : Value) (a : List Int) (g : Int) (w : World) (ha : Sl w va a) (hg : 0 ≤ g) (hg2 : g < 8) (hc : 65536 ≤ get a g) :
    Calls Tryd.prog 12 #[va, .int .i64 g] w fun e w' => e = .returned (.tuple #[.slice none 0 0, .int .i64 15]) ∧ w = w' := by
  go_enter Tryd.func12, Tryd.ntmps12
  go_wp2_with fail
  refine (rAt_any _ _ _ _ ha).mono ?_
  rintro e w' ⟨rfl, rfl⟩
  generalize get a g = z at *
  go_wp2_with fail
  go_ret2
  exact ⟨rfl, rfl⟩

theorem Own.empty (w : World) : Own (w.alloc (.cells #[] 3)) w.heap.size w.heap.size 0 [] :=
  Own.mk _ (Nat.le_refl _) (Go.Deep.blk_alloc_new _ _) (Nat.zero_le _) (by unfold maxLen; omega) (by simp) (by simp [ints])

theorem zero_built (w : World) : Sl (w.alloc (.cells #[.int .i64 0] 3)) (.slice (some ⟨w.heap.size, 0, none⟩) 1 1) [0] := by
  refine Sl.of_row (t := 3) (zs := [0]) (n := 1) (f := fun i => .int .i64 (([0] : List Int).getD i 0)) ⟨_, Go.Deep.blk_alloc_new _ _, by simp, fun i hi => ?_⟩ (by simp) (by unfold maxLen; omega) (fun z hz => by simp at hz; omega) (fun i _ => rfl)
  have : i = 0 := by omega
  subst this
  rfl

theorem first_app {w : World} {aa : Option Addr} {n ca : Nat} {a : List Int} (En : n = a.length) (ha : Sl w (.slice aa n ca) a) (hn : n ≤ 900000) (ty : TypeId) :
    ∃ v' w', (Builtin.append_ #[22, 22] ty #[.slice (some ⟨w.heap.size, 0, none⟩) 0 0, .slice aa n ca]).run Tryd.prog (w.alloc (.cells #[] 3)) = .ok v' w' ∧
      ((∃ g cap, v' = .slice (some ⟨g, 0, none⟩) n cap ∧ Own w' w.heap.size g cap a) ∧ Below w.heap.size w w') := by
  obtain ⟨v', w', hr, ⟨g, cap, hv, ho⟩, hg⟩ := app_own ty (Own.empty w) (ha.below (Nat.le_refl _) (bel_new w _)) (by simp; omega) (by simp)
  refine ⟨v', w', hr, ⟨g, cap, by rw [hv, En]; simp, by simpa using ho⟩, (bel_new w _).grown hg (by simp) (fun k hk => by cases hk; exact Nat.le_refl _)⟩

theorem next_app {w wr : World} {g cap m : Nat} {zs : List Int} (Em : m = zs.length) (ho : Own wr w.heap.size g cap zs) (hb : Below w.heap.size w wr) (hm : m ≤ 900010) (ty : TypeId) :
    ∃ v' w', (Builtin.append_ #[22, 22] ty #[.slice (some ⟨g, 0, none⟩) m cap, .slice (some ⟨wr.heap.size, 0, none⟩) 1 1]).run Tryd.prog (wr.alloc (.cells #[.int .i64 0] 3)) = .ok v' w' ∧
      ((∃ g' cap', v' = .slice (some ⟨g', 0, none⟩) (m + 1) cap' ∧ Own w' w.heap.size g' cap' (zs ++ [0])) ∧ Below w.heap.size w w') := by
  obtain ⟨_, hBg, _⟩ := ho.parts
  obtain ⟨v', w', hr, ⟨g', cap', hv, ho'⟩, hg⟩ := app_own (ms := [0]) ty (ho.alloc _) (zero_built wr) (by simp; omega) (by have := hb.size; simp; omega)
  rw [← Em] at hr
  refine ⟨v', w', hr, ⟨g', cap', by rw [hv]; simp [Em], ho'⟩, (bel_al hb _).grown hg (by have := hb.size; simp; omega) (fun k hk => by cases hk; exact hBg)⟩

theorem Own.frozen {w : World} {B g cap : Nat} {zs : List Int} (h : Own w B g cap zs) (i : Nat) : w.frozen? ⟨g, i, none⟩ = false := by
  obtain ⟨cur, _, hg, _⟩ := h.parts
  simp [World.frozen?, hg]
theorem Own.set {w : World} {B g cap : Nat} {zs : List Int} (h : Own w B g cap zs) (i : Nat) (x : Int) : Own (w.setCell ⟨g, i, none⟩ (.int .i64 x)) B g cap (zs.set i x) := by
  obtain ⟨cur, h1, hg, h3, h4, h5, h6⟩ := h.parts
  refine Own.mk (cur.setIfInBounds i (.int .i64 x)) h1 (by simp [World.setCell, Array.getElem?_modify, hg]) (by simpa using h3) h4 (by simpa using h5) ?_
  rw [Array.toList_setIfInBounds, List.length_set, List.take_set, h6]
  unfold ints
  rw [List.map_set]

def slLen : Value → Nat | .slice _ n _ => n | _ => 0

set_option maxHeartbeats 400000 in
theorem rTick_ok (va : Value) (a : List Int) (g : Nat) (w : World) (ha : Sl w va a) (hla : a.length ≤ 900000) (hg2 : g < 8) (hc : get a (g : Int) < 65536) :
    Calls Tryd.prog 12 #[va, .int .i64 g] w fun e w' => (∃ v, e = .returned (.tuple #[v, .int .i64 0]) ∧ Sl w' v (tick a g)) ∧ Below w.heap.size w w' := by
  obtain ⟨n, en⟩ : ∃ n, n = a.length := ⟨_, rfl⟩
  have hn : n ≤ 900000 := by omega
  have hva : ∃ aa ca, va = .slice aa n ca := by obtain ⟨_, aa, ca, rfl, _⟩ := ha; exact ⟨aa, ca, by rw [en]⟩
  obtain ⟨aa, ca, rfl⟩ := hva
  have En : Hid (n = a.length) := en
  have hge := get_nonneg a (g : Int)
  have hf : Hid (Fits a) := ha.fits
  clear en hla
  go_enter Tryd.func12, Tryd.ntmps12
  go_wp2_with fail
  refine (rAt_any _ _ _ _ ha).mono ?_
  rintro e w' ⟨rfl, rfl⟩
  generalize hz : get a (g : Int) = z at *
  have Hz : Hid (get a (g : Int) = z) := hz
  clear hz
  go_wp2_with (at_builtin; refine wpList_app rfl (.tmp 17) (.tmp 18) rfl _ _ rfl rfl _ (first_app En.out ha hn _) ?_; rintro v1 w1 ⟨⟨g1, cap1, rfl, ho1⟩, hb1⟩)
  go_loopw [6] (fun s wr => ∃ j g' cap' : Nat, s = .slice (some ⟨g', 0, none⟩) (n + j) cap' ∧ (j = 0 ∨ n + j ≤ g + 1) ∧ Own wr w.heap.size g' cap' (a ++ List.replicate j 0) ∧ Below w.heap.size w wr) (fun s _ => g + 1 - slLen s)
  case atStart => exact ⟨0, g1, cap1, rfl, .inl rfl, by simpa using ho1, hb1⟩
  case round =>
    obtain ⟨j, g', cap', rfl, hj, ho, hb⟩ := hrel
    have Em : Hid (n + j = (a ++ List.replicate j 0).length) := by show _ = _; rw [List.length_append, List.length_replicate, En.out]
    by_cases hlt : n + j ≤ g
    · have hm : n + j ≤ 900010 := by omega
      go_wp2_with (at_builtin; refine wpList_app rfl (.tmp 24) (.tmp 25) rfl _ _ rfl rfl _ (next_app Em.out ho hb hm _) ?_; rintro v2 w2 ⟨⟨g2, cap2, rfl, ho2⟩, hb2⟩)
      go_roundw
      case rel => exact ⟨j + 1, g2, cap2, rfl, .inr (by omega), by rw [List.replicate_succ', ← List.append_assoc]; exact ho2, hb2⟩
      case measure => simp [slLen]; omega
    · have hgl : g < (a ++ List.replicate j 0).length := by rw [← Em.out]; omega
      have hcell := ho.cell g hgl
      have hfr := ho.frozen g
      have ha2 := ha.below (Nat.le_refl _) hb
      have hzc : z = cnt a g := by rw [← Hz.out, get_nat]
      have ho2 := ho.set g (z + 1)
      have hBg : w.heap.size ≤ g' := by obtain ⟨_, h, _⟩ := ho.parts; exact h
      have hb2 := hb.setCell (p := ⟨g', g, none⟩) hBg (.int .i64 (z + 1))
      have hlen2 : ((a ++ List.replicate j 0).set g (z + 1)).length = n + j := by rw [List.length_set, ← Em.out]
      have hfit : Fits ((a ++ List.replicate j 0).set g (z + 1)) := fun x hx => by
        rcases List.mem_or_eq_of_mem_set hx with h | h
        · rcases List.mem_append.1 h with h | h
          · exact hf.out x h
          · rw [List.mem_replicate] at h; omega
        · omega
      have hsl := ho2.sl hfit
      have hsh : Hid (short ((a ++ List.replicate j 0).set g (z + 1)) = tick a g) := by
        show _ = _
        rw [hzc]
        refine short_bumped a g j hgl ?_
        rw [← Em.out]
        have := En.out
        omega
      rw [hlen2] at hsl
      have hgn : (g : Int) < ((n + j : Nat) : Int) := by omega
      generalize (a ++ List.replicate j 0).getD g 0 = y at *
      clear ho ho2 hfit hzc
      go_wp2_with fail
      refine (rAt_any _ _ _ _ ha2).mono ?_
      rintro e w' ⟨rfl, rfl⟩
      rw [Hz.out]
      go_wp2_with fail
      refine (rShort_any _ _ _ hsl (by rw [hlen2]; omega)).mono ?_
      rintro e w3 ⟨⟨v3, rfl, hv3⟩, hb3⟩
      rw [hsh.out] at hv3
      have b3 := bel_trans hb2 hb3
      go_wp2_with fail
      go_ret2
      exact ⟨⟨_, rfl, hv3⟩, b3⟩

end Go.Proofs.YtogabncehoehjaaDoor.Ck
