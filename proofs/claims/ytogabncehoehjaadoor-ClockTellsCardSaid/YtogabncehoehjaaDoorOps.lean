/- The contracts of clock's Short, Join, AtMost, Same, Apart, and of the statements' own SameInts. -/
import Derived.Test.YtogabncehoehjaaDoorMerge
import Derived.Deep.QuietTactic
import Derived.BigQuiet
import Derived.WalkSmall
namespace Go.Proofs.YtogabncehoehjaaDoor.Ck
open Go.RowKit

def joinF (a b : List Int) (i : Nat) : Int := max (cnt a i) (cnt b i)
def join (a b : List Int) : List Int := mk (joinF a b) (max a.length b.length)
def short (a : List Int) : List Int := mk (cnt a) a.length
def leB (a b : List Int) : Bool := all (fun i => decide (cnt a i ≤ cnt b i)) (max a.length b.length)
def eqB (a b : List Int) : Bool := all (fun i => cnt a i == cnt b i) (max a.length b.length)
def apartB (a b : List Int) : Bool := !leB a b && !leB b a
def sameB (a b : List Int) : Bool := decide (a = b)

theorem join1_any (x y : Int) (w : World) : Calls Tryd.prog 32 #[.int .i64 x, .int .i64 y] w fun e w' => e = .returned (.int .i64 (max x y)) ∧ w = w' := by
  go_enter Tryd.func32, Tryd.ntmps32
  go_wp2
  all_goals
    go_ret
    exact ⟨ret_int (by omega), rfl⟩
theorem short1_any (x y : Int) (w : World) : Calls Tryd.prog 34 #[.int .i64 x, .int .i64 y] w fun e w' => e = .returned (.int .i64 x) ∧ w = w' := by
  go_enter Tryd.func34, Tryd.ntmps34
  go_wp2
  go_ret
  exact ⟨rfl, rfl⟩
theorem tick1_any (x y : Int) (w : World) (h : 0 ≤ x + y) (h2 : x + y ≤ 9223372036854775807) : Calls Tryd.prog 30 #[.int .i64 x, .int .i64 y] w fun e w' => e = .returned (.int .i64 (x + y)) ∧ w = w' := by
  go_enter Tryd.func30, Tryd.ntmps30
  go_wp2
  go_ret
  exact ⟨rfl, rfl⟩
theorem atMost1_any (x y : Int) (w : World) : Calls Tryd.prog 36 #[.int .i64 x, .int .i64 y] w fun e w' => e = .returned (.bool (decide (x ≤ y))) ∧ w = w' := by
  go_enter Tryd.func36, Tryd.ntmps36
  go_wp2
  go_ret
  exact ⟨rfl, rfl⟩
theorem same1_any (x y : Int) (w : World) : Calls Tryd.prog 37 #[.int .i64 x, .int .i64 y] w fun e w' => e = .returned (.bool (x == y)) ∧ w = w' := by
  go_enter Tryd.func37, Tryd.ntmps37
  go_wp2
  go_ret
  exact ⟨rfl, rfl⟩

theorem Sl.fits {w : World} {v : Value} {zs : List Int} (h : Sl w v zs) : Fits zs := h.1

theorem join_any (va vb : Value) (a b : List Int) (w : World) (ha : Sl w va a) (hb : Sl w vb b) (hla : a.length ≤ 1000000) (hlb : b.length ≤ 1000000) :
    Calls Tryd.prog 18 #[va, vb] w fun e w' => (∃ v, e = .returned v ∧ Sl w' v (join a b)) ∧ Below w.heap.size w w' := by
  have key := merge_Join1 va vb a b (joinF a b) w ha hb (fun i wx => join1_any _ _ _) hla hlb
    (fun i => by have h1 := cnt_nonneg a i; have h2 := cnt_max a i ha.fits; have h3 := cnt_max b i hb.fits; unfold joinF; omega)
  have K : Hid (Calls Tryd.prog 28 #[va, vb, .func (.func 32) #[] #[]] w fun e w' => (∃ v, e = .returned v ∧ Sl w' v (join a b)) ∧ Below w.heap.size w w') := key
  clear key ha hb hla hlb
  go_enter Tryd.func18, Tryd.ntmps18
  go_wp2_with fail
  refine K.out.mono ?_
  rintro e w' ⟨⟨v, rfl, hv⟩, hbel⟩
  go_wp2_with fail
  go_ret
  exact ⟨⟨_, rfl, hv⟩, hbel⟩

theorem short_any (va : Value) (a : List Int) (w : World) (ha : Sl w va a) (hla : a.length ≤ 1000000) :
    Calls Tryd.prog 20 #[va] w fun e w' => (∃ v, e = .returned v ∧ Sl w' v (short a)) ∧ Below w.heap.size w w' := by
  have key := merge_Short1 va (.slice none 0 0) a [] (cnt a) w ha (Sl.nilS w) (fun i wx => short1_any _ _ _) hla (Nat.zero_le _)
    (fun i => by have h1 := cnt_nonneg a i; have h2 := cnt_max a i ha.fits; omega)
  have K : Hid (Calls Tryd.prog 28 #[va, .slice none 0 0, .func (.func 34) #[] #[]] w fun e w' => (∃ v, e = .returned v ∧ Sl w' v (short a)) ∧ Below w.heap.size w w') := by
    have e : max a.length ([] : List Int).length = a.length := Nat.max_zero _
    rw [e] at key
    exact key
  clear key ha hla
  go_enter Tryd.func20, Tryd.ntmps20
  go_wp2_with fail
  refine K.out.mono ?_
  rintro e w' ⟨⟨v, rfl, hv⟩, hbel⟩
  go_wp2_with fail
  go_ret
  exact ⟨⟨_, rfl, hv⟩, hbel⟩

theorem any_AtMost (va vb : Value) (a b : List Int) (w : World) (ha : Sl w va a) (hb : Sl w vb b) (hla : a.length ≤ 1000000) (hlb : b.length ≤ 1000000) :
    Calls Tryd.prog 22 #[va, vb] w fun e w' => e = .returned (.bool (leB a b)) ∧ w = w' := by
  have key := every_AtMost1 va vb a b _ w ha hb (fun i wx => atMost1_any _ _ _) hla hlb
  have K : Hid (Calls Tryd.prog 35 #[va, vb, .func (.func 36) #[] #[]] w fun e w' => e = .returned (.bool (leB a b)) ∧ w = w') := key
  clear key ha hb hla hlb
  go_enter Tryd.func22, Tryd.ntmps22
  go_wp2_with fail
  refine K.out.mono ?_
  rintro e w' ⟨rfl, rfl⟩
  go_wp2_with fail
  go_ret
  exact ⟨rfl, rfl⟩
theorem any_Same (va vb : Value) (a b : List Int) (w : World) (ha : Sl w va a) (hb : Sl w vb b) (hla : a.length ≤ 1000000) (hlb : b.length ≤ 1000000) :
    Calls Tryd.prog 24 #[va, vb] w fun e w' => e = .returned (.bool (eqB a b)) ∧ w = w' := by
  have key := every_Same1 va vb a b _ w ha hb (fun i wx => same1_any _ _ _) hla hlb
  have K : Hid (Calls Tryd.prog 35 #[va, vb, .func (.func 37) #[] #[]] w fun e w' => e = .returned (.bool (eqB a b)) ∧ w = w') := key
  clear key ha hb hla hlb
  go_enter Tryd.func24, Tryd.ntmps24
  go_wp2_with fail
  refine K.out.mono ?_
  rintro e w' ⟨rfl, rfl⟩
  go_wp2_with fail
  go_ret
  exact ⟨rfl, rfl⟩

theorem apart_any (va vb : Value) (a b : List Int) (w : World) (ha : Sl w va a) (hb : Sl w vb b) (hla : a.length ≤ 1000000) (hlb : b.length ≤ 1000000) :
    Calls Tryd.prog 25 #[va, vb] w fun e w' => e = .returned (.bool (apartB a b)) ∧ w = w' := by
  have k1 : Hid (Calls Tryd.prog 22 #[va, vb] w fun e w' => e = .returned (.bool (leB a b)) ∧ w = w') := any_AtMost va vb a b w ha hb hla hlb
  have k2 : Hid (Calls Tryd.prog 22 #[vb, va] w fun e w' => e = .returned (.bool (leB b a)) ∧ w = w') := any_AtMost vb va b a w hb ha hlb hla
  clear ha hb hla hlb
  have hd : Hid (apartB a b = (!leB a b && !leB b a)) := rfl
  cases h1 : leB a b
  · rw [h1] at k1
    have hd2 : Hid (apartB a b = !leB b a) := by show _ = _; rw [hd.out, h1]; rfl
    clear h1 hd
    go_enter Tryd.func25, Tryd.ntmps25
    go_wp2_with fail
    refine k1.out.mono ?_
    rintro e w' ⟨rfl, rfl⟩
    go_wp2_with fail
    refine k2.out.mono ?_
    rintro e w' ⟨rfl, rfl⟩
    go_wp2_with fail
    go_ret
    exact ⟨ret_bool hd2.out.symm, rfl⟩
  · rw [h1] at k1
    have hd2 : Hid (apartB a b = false) := by show _ = _; rw [hd.out, h1]; rfl
    clear h1 hd
    go_enter Tryd.func25, Tryd.ntmps25
    go_wp2_with fail
    refine k1.out.mono ?_
    rintro e w' ⟨rfl, rfl⟩
    go_wp2_with fail
    go_ret
    exact ⟨ret_bool hd2.out.symm, rfl⟩

theorem sameB_not (a b : List Int) (k : Nat) (h : a.getD k 0 ≠ b.getD k 0) : sameB a b = false := by
  unfold sameB
  exact decide_eq_false (fun e => h (by rw [e]))
theorem sameB_all (a b : List Int) (hl : a.length = b.length) (h : ∀ j, j < a.length → a.getD j 0 = b.getD j 0) : sameB a b = true := by
  unfold sameB
  refine decide_eq_true (List.ext_getElem hl (fun i h1 h2 => ?_))
  have := h i h1
  simpa [List.getD, h1, h2] using this
theorem sameB_len (a b : List Int) (hl : a.length ≠ b.length) : sameB a b = false := by
  unfold sameB
  exact decide_eq_false (fun e => hl (by rw [e]))

set_option maxHeartbeats 400000 in
theorem sameInts_any (va vb : Value) (a b : List Int) (w : World) (ha : Sl w va a) (hb : Sl w vb b) :
    Calls Tryd.prog 14 #[va, vb] w fun e w' => e = .returned (.bool (sameB a b)) ∧ Below w.heap.size w w' := by
  obtain ⟨_, aa, ca, rfl, hca, hcm, hac⟩ := ha
  obtain ⟨_, ab, cb, rfl, hcb, hcm2, hbc⟩ := hb
  unfold maxLen at hcm hcm2
  by_cases hl : a.length = b.length
  · obtain ⟨n, hn⟩ : ∃ n, n = a.length := ⟨_, rfl⟩
    have hs : Hid ((∀ j, j < n → a.getD j 0 = b.getD j 0) → sameB a b = true) := fun h => sameB_all a b hl (fun j hj => h j (by omega))
    have hs2 : Hid (∀ k, a.getD k 0 ≠ b.getD k 0 → sameB a b = false) := fun k => sameB_not a b k
    have hac' : ∀ i, i < n → _ := fun i hi => hac i (by omega)
    have hbc' : ∀ i, i < n → _ := fun i hi => hbc i (by omega)
    rw [← hl, ← hn]
    rw [← hn] at hca
    rw [← hl, ← hn] at hcb
    clear hl hn hac hbc
    go_enter Tryd.func14, Tryd.ntmps14
    go_wp2
    go_loopw [13] (fun i wr => ∃ k : Nat, k ≤ n ∧ i = .int .i64 k ∧ Hid (∀ j, j < k → a.getD j 0 = b.getD j 0) ∧ Below w.heap.size w wr) (fun i _ => n - (intOf i).toNat)
    case atStart => exact ⟨0, Nat.zero_le _, rfl, fun j hj => absurd hj (Nat.not_lt_zero _), Below.refl _ _⟩
    case round =>
      obtain ⟨k, hk, rfl, hall, hbel⟩ := hrel
      by_cases hlt : k < n
      · obtain ⟨b1, o1, rfl, hb1, hc1⟩ := hac' k hlt
        obtain ⟨b2, o2, rfl, hb2, hc2⟩ := hbc' k hlt
        rw [← hbel.cell (p := ⟨b1, o1 + k, none⟩) hb1] at hc1
        rw [← hbel.cell (p := ⟨b2, o2 + k, none⟩) hb2] at hc2
        have h1 : (k : Int) < (n : Int) := by omega
        clear hac' hbc'
        have hne : Hid (a.getD k 0 ≠ b.getD k 0 → sameB a b = false) := hs2.out k
        have hstep : Hid (a.getD k 0 = b.getD k 0 → ∀ j, j < k + 1 → a.getD j 0 = b.getD j 0) := fun e j hj => by
          by_cases ej : j = k
          · rw [ej]; exact e
          · exact hall.out j (by omega)
        clear hs hs2 hall
        generalize a.getD k 0 = x at *
        generalize b.getD k 0 = y at *
        by_cases e : x = y
        · have e2 : (x != y) = false := by simp [e]
          have hstep2 : Hid (∀ j, j < k + 1 → a.getD j 0 = b.getD j 0) := hstep.out e
          clear e hstep hne
          go_wp2_with fail
          go_quiet (fail)
          go_wp2_with fail
          go_roundw
          case rel => exact ⟨k + 1, by omega, by go_num, hstep2, below_drewN hbel _⟩
          case measure => simp [intOf]; omega
        · have e2 : (x != y) = true := by simp [e]
          have hne2 : Hid (sameB a b = false) := hne.out e
          clear e hstep hne
          go_wp2_with fail
          go_quiet (fail)
          go_wp2_with fail
          go_ret
          exact ⟨ret_bool hne2.out.symm, below_drewN hbel _⟩
      · have e : k = n := by omega
        subst e
        clear hac' hbc'
        have hs3 : Hid (sameB a b = true) := hs.out hall.out
        clear hs hs2
        go_wp2_with fail
        go_ret
        exact ⟨ret_bool hs3.out.symm, hbel⟩
  · have hs : Hid (sameB a b = false) := sameB_len a b hl
    have ht : ((a.length : Int) != (b.length : Int)) = true := by rw [bne_iff_ne]; omega
    clear hac hbc
    go_enter Tryd.func14, Tryd.ntmps14
    go_wp2
    go_ret
    exact ⟨ret_bool hs.out.symm, Below.refl _ _⟩

end Go.Proofs.YtogabncehoehjaaDoor.Ck
