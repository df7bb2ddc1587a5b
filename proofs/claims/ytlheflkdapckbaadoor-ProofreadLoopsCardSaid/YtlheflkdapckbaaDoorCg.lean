/- Package code: shapes, what holds on the way. (Written by mk_c.py.) -/
import Derived.Test.YtlheflkdapckbaaDoorCb
import Derived.Test.YtlheflkdapckbaaDoorCf
import Derived.Test.YtlheflkdapckbaaDoorRg
namespace Go.Proofs.YtlheflkdapckbaaDoor.Ck
open Go.RowKit

def shL (c : Cd) : List Shp := [shZ, ⟨0, 9223372036854775807, 0, 0, 0⟩, ⟨0, 0, 0, 0, 18446744073709551615⟩, ⟨0, 1, 0, 0, 0⟩, ⟨0, 31, 0, 0, 0⟩, ⟨0, 31, 0, 0, 0⟩, ⟨0, ((c.P.length : Int) - 1), 0, 0, 0⟩, ⟨0, ((c.P.length : Int) - 1), 0, 0, 0⟩, ⟨0, ((c.P.length : Int) - 1), 1, 64, 0⟩, ⟨0, ((c.P.length : Int) - 1), 1, 64, 0⟩, ⟨1, 4, 0, 0, 0⟩, ⟨1, 11, 0, 0, 0⟩, ⟨0, ((c.B.length : Int) - 1), 0, 0, 0⟩, ⟨0, ((c.B.length : Int) - 1), 0, 1, 0⟩, ⟨0, ((c.B.length : Int) - 1), 0, 1, 0⟩, ⟨0, (c.M - 1), 0, 0, 0⟩, ⟨0, (c.M - 1), 0, 0, 0⟩, ⟨0, ((c.C.length : Int) - 1), 0, 0, 0⟩, ⟨0, ((c.C.length : Int) - 1), 0, 0, 0⟩, ⟨0, (c.A - 1), 0, 0, 0⟩, ⟨0, (c.A - 1), 0, 0, 0⟩, ⟨0, (c.A - 1), 0, 0, 0⟩, ⟨0, ((c.F.length : Int) - 1), 0, 0, 0⟩, ⟨0, ((c.F.length : Int) - 1), 0, 0, 0⟩, ⟨0, 0, 0, 0, 0⟩, ⟨0, 0, 0, 0, 0⟩, ⟨0, 0, 0, 0, 0⟩]
def shT (c : Cd) (y : Nat) : Shp := (shL c).getD y shZ
/-- what stands for each number -/
def shF (c : Cd) (y : Int) : Option Shp := if 1 ≤ y ∧ y ≤ 26 then some (shT c y.toNat) else none
def sl1 (k : Nat) : Option Nat := if 12 ≤ k ∧ k ≤ 23 then some (k - 12) else if 3 ≤ k ∧ k ≤ 5 then some (k + 9) else none
def dl1 (i : Nat) : Nat := if i < 12 then 12 + i else if i < 15 then i - 9 else 999
theorem sl1_inj {k i : Nat} (h : sl1 k = some i) : dl1 i = k := by
  unfold sl1 at h
  unfold dl1
  split at h
  · have := Option.some.inj h
    rw [if_pos (by omega)]
    omega
  · split at h
    · have := Option.some.inj h
      rw [if_neg (by omega), if_pos (by omega)]
      omega
    · cases h
theorem sl1_no {i : Nat} (h : dl1 i = 999) : ∀ k, sl1 k ≠ some i := fun k hk => by
  have h2 := sl1_inj hk
  rw [h] at h2
  subst h2
  rw [show sl1 999 = none from rfl] at hk
  cases hk
def sl2 (k : Nat) : Option Nat := if 24 ≤ k ∧ k ≤ 33 then some (k - 24) else if 6 ≤ k ∧ k ≤ 8 then some (k + 4) else none
def dl2 (i : Nat) : Nat := if i < 10 then 24 + i else if i < 13 then i - 4 else 999
theorem sl2_inj {k i : Nat} (h : sl2 k = some i) : dl2 i = k := by
  unfold sl2 at h
  unfold dl2
  split at h
  · have := Option.some.inj h
    rw [if_pos (by omega)]
    omega
  · split at h
    · have := Option.some.inj h
      rw [if_neg (by omega), if_pos (by omega)]
      omega
    · cases h
theorem sl2_no {i : Nat} (h : dl2 i = 999) : ∀ k, sl2 k ≠ some i := fun k hk => by
  have h2 := sl2_inj hk
  rw [h] at h2
  subst h2
  rw [show sl2 999 = none from rfl] at hk
  cases hk
def sl4 (k : Nat) : Option Nat := ([none, none, some 84, none, none, none, none, none, none, none, none, none, none, none, none, none, none, none, none, none, none, none, none, none, none, none, none, none, none, none, none, none, none, none, none, none, none, some 0, some 1, some 2, some 4, some 6, some 7, some 9, some 10, some 12, some 13, some 15, some 16, some 18, some 19, some 21, some 22, some 23, some 25, some 26, some 27, some 29, some 30, some 31, some 32, some 34, some 35, some 36, some 37, some 39, some 40, some 42, some 43, some 44, some 46, some 47, some 48, some 50, some 51, some 53, some 54, some 56, some 57, some 59, some 60, some 62, some 63, some 65, some 66, some 68, some 69, some 71, some 72, some 74, some 75, some 77, some 79, some 81, some 83] : List (Option Nat)).getD k none
def dl4 (i : Nat) : Nat := ([37, 38, 39, 999, 40, 999, 41, 42, 999, 43, 44, 999, 45, 46, 999, 47, 48, 999, 49, 50, 999, 51, 52, 53, 999, 54, 55, 56, 999, 57, 58, 59, 60, 999, 61, 62, 63, 64, 999, 65, 66, 999, 67, 68, 69, 999, 70, 71, 72, 999, 73, 74, 999, 75, 76, 999, 77, 78, 999, 79, 80, 999, 81, 82, 999, 83, 84, 999, 85, 86, 999, 87, 88, 999, 89, 90, 999, 91, 999, 92, 999, 93, 999, 94, 2] : List Nat).getD i 999
theorem sl4_inj {k i : Nat} (h : sl4 k = some i) : dl4 i = k := by
  have h1 : ((List.range 95).all fun k => match sl4 k with | some i => dl4 i == k | none => true) = true := by decide +kernel
  rcases Nat.lt_or_ge k 95 with hk | hk
  · have h2 := List.all_eq_true.1 h1 k (List.mem_range.2 hk)
    rw [h] at h2
    simpa using h2
  · have h3 : sl4 k = none := by unfold sl4; rw [List.getD_eq_getElem?_getD, List.getElem?_eq_none (by simpa using hk)]; rfl
    rw [h3] at h
    cases h
theorem sl4_no {i : Nat} (h : dl4 i = 999) : ∀ k, sl4 k ≠ some i := fun k hk => by
  have h2 := sl4_inj hk
  rw [h] at h2
  subst h2
  rw [show sl4 999 = none from rfl] at hk
  cases hk

/-- three spans that are reckoned, and laid into three boxes -/
structure J3 (W0 : World) (vals : List (Option Value)) (q : Nat) (ys : Nat → Int) (L : Array Bool) (u : Nat → Value) (w : World) : Prop where
  bel : Below W0.heap.size W0 w
  val : ∀ j x, vals[j]? = some (some x) → L.getD j false = true → u j = x
  al : ∀ t, t < 3 → L.getD (q + t) false = true → ∃ b, u (q + t) = .pointer (some ⟨b, 0, none⟩) ∧ W0.heap.size ≤ b ∧ w.heap[b]? = some (.cells (if L.getD (q + 3 + t) false = true then #[.int .i64 0, .int .i64 (ys t)] else #[.int .i64 0, .int .i64 0]) 99 (0, 0))
  ne : ∀ t t' b, t < 3 → t' < 3 → t ≠ t' → L.getD (q + t) false = true → L.getD (q + t') false = true → u (q + t) = .pointer (some ⟨b, 0, none⟩) → u (q + t') ≠ .pointer (some ⟨b, 0, none⟩)
  cl : ∀ t, t < 3 → L.getD (q + 3 + t) false = true → L.getD (q + t) false = true
section
variable {W0 w w' : World} {vals : List (Option Value)} {q : Nat} {ys : Nat → Int} {L : Array Bool} {u : Nat → Value}
theorem J3.pure (h : J3 W0 vals q ys L u w) {i : Nat} {x : Value} (hx : vals[i]? = some (some x)) (hi : i < q) (hb : Below w.heap.size w w') : J3 W0 vals q ys (L.setIfInBounds i true) (upd u i x) w' := by
  refine ⟨bel_trans h.bel hb, fun j y hy hj => ?_, fun t ht hl => ?_, fun t t' b ht ht' hne h1 h2 h3 => ?_, fun t ht hl => ?_⟩
  · by_cases e : i = j
    · subst e
      rw [hx] at hy
      rw [upd_self]
      exact Option.some.inj (Option.some.inj hy)
    · rw [upd_ne _ _ (Ne.symm e)]
      exact h.val j y hy (by rw [L_ne e] at hj; exact hj)
  · rw [L_ne (by omega)] at hl
    obtain ⟨b, h1, h2, h3⟩ := h.al t ht hl
    exact ⟨b, by rw [upd_ne _ _ (by omega)]; exact h1, h2, by rw [L_ne (by omega)]; exact (hb.block b (lt_of_blk h3)).trans h3⟩
  · rw [L_ne (by omega)] at h1 h2
    rw [upd_ne _ _ (by omega)] at h3 ⊢
    exact h.ne t t' b ht ht' hne h1 h2 h3
  · rw [L_ne (by omega)] at hl ⊢
    exact h.cl t ht hl
theorem J3.alloc (h : J3 W0 vals q ys L u w) {t : Nat} (ht : t < 3) (h0 : L.getD (q + t) true = false) (hv : vals.length ≤ q) : J3 W0 vals q ys (L.setIfInBounds (q + t) true) (upd u (q + t) (.pointer (some ⟨w.heap.size, 0, none⟩))) (w.alloc (.cells #[.int .i64 0, .int .i64 0] 99)) := by
  have hb := bel_new w (.cells #[.int .i64 0, .int .i64 0] 99)
  have hf : L.getD (q + t) false = false := getD_of (of_getD h0)
  refine ⟨bel_trans h.bel hb, fun j y hy hj => ?_, fun s hs hl => ?_, fun s s' b hs hs' hne h1 h2 h3 => ?_, fun s hs hl => ?_⟩
  · have e : q + t ≠ j := fun e => by rw [← e, List.getElem?_eq_none (by omega)] at hy; cases hy
    rw [upd_ne _ _ (Ne.symm e)]
    exact h.val j y hy (by rw [L_ne e] at hj; exact hj)
  · by_cases e : t = s
    · subst e
      refine ⟨w.heap.size, upd_self _ _ _, h.bel.size, ?_⟩
      have hc : L.getD (q + 3 + t) false = false := by
        cases hq : L.getD (q + 3 + t) false with
        | false => rfl
        | true => rw [h.cl t ht hq] at hf; cases hf
      rw [L_ne (by omega), hc]
      exact Go.Deep.blk_alloc_new _ _
    · rw [L_ne (by omega)] at hl
      obtain ⟨b, h1, h2, h3⟩ := h.al s hs hl
      exact ⟨b, by rw [upd_ne _ _ (by omega)]; exact h1, h2, by rw [L_ne (by omega)]; exact (hb.block b (lt_of_blk h3)).trans h3⟩
  · by_cases e : t = s
    · subst e
      rw [upd_self] at h3
      rw [upd_ne _ _ (by omega)]
      rw [L_ne (by omega)] at h2
      obtain ⟨b', g1, _, g3⟩ := h.al s' hs' h2
      intro e2
      rw [g1] at e2
      cases h3
      cases e2
      have := lt_of_blk g3
      omega
    · by_cases e' : t = s'
      · subst e'
        rw [upd_self]
        rw [upd_ne _ _ (by omega)] at h3
        rw [L_ne (by omega)] at h1
        obtain ⟨b', g1, _, g3⟩ := h.al s hs h1
        intro e2
        cases e2
        rw [g1] at h3
        cases h3
        have := lt_of_blk g3
        omega
      · rw [L_ne (by omega)] at h1 h2
        rw [upd_ne _ _ (by omega)] at h3 ⊢
        exact h.ne s s' b hs hs' hne h1 h2 h3
  · rw [L_ne (by omega)] at hl
    have := h.cl s hs hl
    by_cases e : t = s
    · subst e
      exact L_self h0
    · rw [L_ne (by omega)]
      exact this
theorem J3.store (h : J3 W0 vals q ys L u w) {t b : Nat} (ht : t < 3) (h0 : L.getD (q + 3 + t) true = false) (hv : vals.length ≤ q) (hl0 : L.getD (q + t) false = true) (hu : u (q + t) = .pointer (some ⟨b, 0, none⟩)) (v : Value) :
    J3 W0 vals q ys (L.setIfInBounds (q + 3 + t) true) (upd u (q + 3 + t) v) ((w.setCell ⟨b, 0, none⟩ (.int .i64 0)).setCell ⟨b, 1, none⟩ (.int .i64 (ys t))) := by
  obtain ⟨b', g1, g2, g3⟩ := h.al t ht hl0
  rw [hu] at g1
  cases g1
  have hf : L.getD (q + 3 + t) false = false := getD_of (of_getD h0)
  rw [hf] at g3
  have k3 : w.heap[b]? = some (.cells #[.int .i64 0, .int .i64 0] 99 (0, 0)) := g3
  have k1 := heap_setCell_same w b 0 _ _ (.int .i64 0) k3
  have k2 := heap_setCell_same _ b 1 _ _ (.int .i64 (ys t)) k1
  have hoth : ∀ k, k ≠ b → ((w.setCell ⟨b, 0, none⟩ (.int .i64 0)).setCell ⟨b, 1, none⟩ (.int .i64 (ys t))).heap[k]? = w.heap[k]? := fun k hk => (Below.heap_setCell _ _ _ _ hk).trans (Below.heap_setCell _ _ _ _ hk)
  refine ⟨(h.bel.setCell (p := ⟨b, 0, none⟩) g2 _).setCell (p := ⟨b, 1, none⟩) g2 _, fun j y hy hj => ?_, fun s hs hl => ?_, fun s s' b hs hs' hne h1 h2 h3 => ?_, fun s hs hl => ?_⟩
  · have e : q + 3 + t ≠ j := fun e => by rw [← e, List.getElem?_eq_none (by omega)] at hy; cases hy
    rw [upd_ne _ _ (Ne.symm e)]
    exact h.val j y hy (by rw [L_ne e] at hj; exact hj)
  · rw [L_ne (by omega)] at hl
    obtain ⟨b', h1, h2, h3⟩ := h.al s hs hl
    refine ⟨b', by rw [upd_ne _ _ (by omega)]; exact h1, h2, ?_⟩
    by_cases e : t = s
    · subst e
      rw [hu] at h1
      cases h1
      rw [L_self h0]
      exact k2
    · rw [L_ne (by omega), hoth b' (fun e2 => by subst e2; exact h.ne t s b' ht hs e hl0 hl hu h1)]
      exact h3
  · rw [L_ne (by omega)] at h1 h2
    rw [upd_ne _ _ (by omega)] at h3 ⊢
    exact h.ne s s' b hs hs' hne h1 h2 h3
  · rw [L_ne (by omega)]
    by_cases e : t = s
    · subst e
      exact hl0
    · rw [L_ne (by omega)] at hl
      exact h.cl s hs hl
theorem J3.start (W : World) (n : Nat) (u : Nat → Value) : J3 W vals q ys (Array.replicate n false) u W := by
  have hf : ∀ j, (Array.replicate n false).getD j false = false := fun j => by
    simp only [Array.getD_eq_getD_getElem?, Array.getElem?_replicate]
    split <;> rfl
  exact ⟨Below.refl _ _, fun j x _ hj => (by rw [hf] at hj; cases hj), fun t _ hl => (by rw [hf] at hl; cases hl), fun t t' b _ _ _ h1 => (by rw [hf] at h1; cases h1), fun t _ hl => (by rw [hf] at hl; cases hl)⟩
end
def insI (y : Nat) : Nat := ([999, 3, 5, 8, 11, 14, 17, 20, 24, 28, 33, 38, 41, 45, 49, 52, 55, 58, 61, 64, 67, 70, 73, 76, 78, 80, 82] : List Nat).getD y 999
/-- the entries that have come up -/
def fL (c : Cd) (L : Array Bool) (y : Int) : Option Shp := if (1 ≤ y ∧ y ≤ 26) ∧ L.getD (insI y.toNat) false = true then some (shT c y.toNat) else none
def vals4 (c : Cd) : List (Option Value) := [none, some (.agg #[.int .i64 0, .int .i64 9223372036854775807]), some (shV (shT c 1)), none, some (shV (shT c 2)), none, some (.agg #[.int .i64 0, .int .i64 1]), some (shV (shT c 3)), none, some (.agg #[.int .i64 0, .int .i64 31]), some (shV (shT c 4)), none, some (.agg #[.int .i64 0, .int .i64 31]), some (shV (shT c 5)), none, some (.agg #[.int .i64 0, .int .i64 ((c.P.length : Int) - 1)]), some (shV (shT c 6)), none, some (.agg #[.int .i64 0, .int .i64 ((c.P.length : Int) - 1)]), some (shV (shT c 7)), none, some (.agg #[.int .i64 0, .int .i64 ((c.P.length : Int) - 1)]), some (.agg #[.int .i64 1, .int .i64 64]), some (shV (shT c 8)), none, some (.agg #[.int .i64 0, .int .i64 ((c.P.length : Int) - 1)]), some (.agg #[.int .i64 1, .int .i64 64]), some (shV (shT c 9)), none, none, some (.int .i64 4), some (.agg #[.int .i64 1, .int .i64 4]), some (shV (shT c 10)), none, none, some (.int .i64 11), some (.agg #[.int .i64 1, .int .i64 11]), some (shV (shT c 11)), none, some (.agg #[.int .i64 0, .int .i64 ((c.B.length : Int) - 1)]), some (shV (shT c 12)), none, some (.agg #[.int .i64 0, .int .i64 ((c.B.length : Int) - 1)]), some (.agg #[.int .i64 0, .int .i64 1]), some (shV (shT c 13)), none, some (.agg #[.int .i64 0, .int .i64 ((c.B.length : Int) - 1)]), some (.agg #[.int .i64 0, .int .i64 1]), some (shV (shT c 14)), none, some (.agg #[.int .i64 0, .int .i64 (c.M - 1)]), some (shV (shT c 15)), none, some (.agg #[.int .i64 0, .int .i64 (c.M - 1)]), some (shV (shT c 16)), none, some (.agg #[.int .i64 0, .int .i64 ((c.C.length : Int) - 1)]), some (shV (shT c 17)), none, some (.agg #[.int .i64 0, .int .i64 ((c.C.length : Int) - 1)]), some (shV (shT c 18)), none, some (.agg #[.int .i64 0, .int .i64 (c.A - 1)]), some (shV (shT c 19)), none, some (.agg #[.int .i64 0, .int .i64 (c.A - 1)]), some (shV (shT c 20)), none, some (.agg #[.int .i64 0, .int .i64 (c.A - 1)]), some (shV (shT c 21)), none, some (.agg #[.int .i64 0, .int .i64 ((c.F.length : Int) - 1)]), some (shV (shT c 22)), none, some (.agg #[.int .i64 0, .int .i64 ((c.F.length : Int) - 1)]), some (shV (shT c 23)), none, some (shV (shT c 24)), none, some (shV (shT c 25)), none, some (shV (shT c 26)), none, none, none]
structure J4 (W0 : World) (c : Cd) (L : Array Bool) (u : Nat → Value) (w : World) : Prop where
  bel : Below W0.heap.size W0 w
  val : ∀ j x, (vals4 c)[j]? = some (some x) → L.getD j false = true → u j = x
  c1 : L.getD 29 false = true → ∃ g, u 29 = .slice (some ⟨g, 0, none⟩) 4 4
  c2 : L.getD 34 false = true → ∃ g, u 34 = .slice (some ⟨g, 0, none⟩) 11 11
  mv : L.getD 83 false = true → u 83 = u 0
  ma : L.getD 84 false = true → u 84 = u 0
  m0 : L.getD 83 false = true → L.getD 0 false = true
  m1 : L.getD 84 false = true → L.getD 0 false = true
  ci : ∀ y, y < 27 → L.getD (insI y) false = true → L.getD 0 false = true
  mp : L.getD 0 false = true → ∃ b n, u 0 = .map (some b) ∧ W0.heap.size ≤ b ∧ n + cnt L.toList ≤ 85 ∧ ShM w b n (fL c L)
section
variable {W0 w w' : World} {c : Cd} {L : Array Bool} {u : Nat → Value}
theorem insI_ne {i : Nat} (hi : (List.range 27).all (fun y => insI y != i) = true) {y : Int} (h : 1 ≤ y ∧ y ≤ 26) : insI y.toNat ≠ i := by
  have := List.all_eq_true.1 hi y.toNat (List.mem_range.2 (by omega))
  simpa using this
theorem fL_ne {i : Nat} (hi : (List.range 27).all (fun y => insI y != i) = true) : fL c (L.setIfInBounds i true) = fL c L := by
  funext y
  unfold fL
  by_cases h : 1 ≤ y ∧ y ≤ 26
  · rw [L_ne (Ne.symm (insI_ne hi h))]
  · rw [if_neg (fun h2 => h h2.1), if_neg (fun h2 => h h2.1)]
theorem insI_inj : ∀ a b, a < 27 → b < 27 → 1 ≤ a → 1 ≤ b → insI a = insI b → a = b := by
  have h : ((List.range 27).all fun a => (List.range 27).all fun b => a == 0 || b == 0 || insI a != insI b || a == b) = true := by decide +kernel
  intro a b ha hb h1 h2 he
  have h3 := List.all_eq_true.1 (List.all_eq_true.1 h a (List.mem_range.2 ha)) b (List.mem_range.2 hb)
  simp at h3
  rcases h3 with ((h3 | h3) | h3) | h3
  · omega
  · omega
  · exact absurd he h3
  · exact h3
theorem fL_at {k : Nat} (h1 : 1 ≤ k) (h2 : k ≤ 26) (h0 : L.getD (insI k) true = false) : fL c (L.setIfInBounds (insI k) true) = fun y => if y = (k : Int) then some (shT c k) else fL c L y := by
  funext y
  unfold fL
  by_cases e : y = (k : Int)
  · subst e
    rw [if_pos rfl, if_pos ⟨by omega, by rw [Int.toNat_natCast]; exact L_self h0⟩, Int.toNat_natCast]
  · rw [if_neg e]
    by_cases h : 1 ≤ y ∧ y ≤ 26
    · rw [L_ne (fun e2 => e (by have := insI_inj _ _ (by omega) (by omega) h1 (by omega) e2; omega))]
    · rw [if_neg (fun h2 => h h2.1), if_neg (fun h2 => h h2.1)]
theorem cnt_L {i : Nat} (h0 : L.getD i true = false) : cnt (L.setIfInBounds i true).toList + 1 = cnt L.toList := by
  rw [Array.toList_setIfInBounds]
  exact cnt_set _ _ (of_getD h0)
/-- an operation that is no insert -/
theorem J4.step (h : J4 W0 c L u w) {i : Nat} {x : Value} (h0 : L.getD i true = false) (hx : ∀ y, (vals4 c)[i]? = some (some y) → x = y) (hi : (List.range 27).all (fun y => insI y != i) = true) (hi0 : i ≠ 0) (hb : Below w.heap.size w w')
    (k1 : i = 29 → ∃ g, x = .slice (some ⟨g, 0, none⟩) 4 4) (k2 : i = 34 → ∃ g, x = .slice (some ⟨g, 0, none⟩) 11 11) (k3 : i = 83 → x = u 0 ∧ L.getD 0 false = true) (k4 : i = 84 → x = u 0 ∧ L.getD 0 false = true) : J4 W0 c (L.setIfInBounds i true) (upd u i x) w' := by
  refine ⟨bel_trans h.bel hb, fun j y hy hj => ?_, fun hl => ?_, fun hl => ?_, fun hl => ?_, fun hl => ?_, fun hl => ?_, fun hl => ?_, fun y hy hl => ?_, fun hl => ?_⟩
  · by_cases e : i = j
    · subst e
      rw [upd_self]
      exact hx y hy
    · rw [upd_ne _ _ (Ne.symm e)]
      exact h.val j y hy (by rw [L_ne e] at hj; exact hj)
  · by_cases e : i = 29
    · rw [e, upd_self]; exact k1 e
    · rw [upd_ne _ _ (Ne.symm e)]; exact h.c1 (by rw [L_ne e] at hl; exact hl)
  · by_cases e : i = 34
    · rw [e, upd_self]; exact k2 e
    · rw [upd_ne _ _ (Ne.symm e)]; exact h.c2 (by rw [L_ne e] at hl; exact hl)
  · rw [upd_ne u _ (Ne.symm hi0)]
    by_cases e : i = 83
    · rw [e, upd_self]; exact (k3 e).1
    · rw [upd_ne _ _ (Ne.symm e)]; exact h.mv (by rw [L_ne e] at hl; exact hl)
  · rw [upd_ne u _ (Ne.symm hi0)]
    by_cases e : i = 84
    · rw [e, upd_self]; exact (k4 e).1
    · rw [upd_ne _ _ (Ne.symm e)]; exact h.ma (by rw [L_ne e] at hl; exact hl)
  · rw [L_ne hi0]
    by_cases e : i = 83
    · exact (k3 e).2
    · exact h.m0 (by rw [L_ne e] at hl; exact hl)
  · rw [L_ne hi0]
    by_cases e : i = 84
    · exact (k4 e).2
    · exact h.m1 (by rw [L_ne e] at hl; exact hl)
  · rw [L_ne hi0]
    refine h.ci y hy ?_
    rw [L_ne (fun e => by have := List.all_eq_true.1 hi y (List.mem_range.2 hy); simp at this; exact this e.symm)] at hl
    exact hl
  · rw [L_ne hi0] at hl
    obtain ⟨b, n, g1, g2, g3, g4⟩ := h.mp hl
    have := cnt_L h0
    exact ⟨b, n, by rw [upd_ne _ _ (Ne.symm hi0)]; exact g1, g2, by omega, by rw [fL_ne hi]; exact g4.bel hb⟩
theorem cnt_le : ∀ l : List Bool, cnt l ≤ l.length
  | [] => Nat.le_refl _
  | true :: l => by have := cnt_le l; simp only [cnt, List.length_cons]; omega
  | false :: l => by have := cnt_le l; simp only [cnt, List.length_cons]; omega
theorem J4.make (h : J4 W0 c L u w) (h0 : L.getD 0 true = false) (hs : L.size = 85) : J4 W0 c (L.setIfInBounds 0 true) (upd u 0 (.map (some w.heap.size))) (w.alloc (.map #[] 0)) := by
  have hf : L.getD 0 false = false := getD_of (of_getD h0)
  have hb := bel_new w (.map #[] 0)
  refine ⟨bel_trans h.bel hb, fun j y hy hj => ?_, fun hl => ?_, fun hl => ?_, fun hl => ?_, fun hl => ?_, fun hl => L_self h0, fun hl => L_self h0, fun _ _ _ => L_self h0, fun hl => ?_⟩
  · have e : 0 ≠ j := fun e => by subst e; cases hy
    rw [upd_ne _ _ (Ne.symm e)]
    exact h.val j y hy (by rw [L_ne e] at hj; exact hj)
  · rw [upd_ne _ _ (by decide)]; exact h.c1 (by rw [L_ne (by decide)] at hl; exact hl)
  · rw [upd_ne _ _ (by decide)]; exact h.c2 (by rw [L_ne (by decide)] at hl; exact hl)
  · rw [L_ne (by decide)] at hl
    rw [h.m0 hl] at hf
    cases hf
  · rw [L_ne (by decide)] at hl
    rw [h.m1 hl] at hf
    cases hf
  · have h1 : fL c (L.setIfInBounds 0 true) = fun _ => none := by
      rw [fL_ne (by decide +kernel)]
      funext y
      unfold fL
      refine if_neg (fun h2 => ?_)
      rw [h.ci y.toNat (by omega) h2.2] at hf
      cases hf
    refine ⟨w.heap.size, 0, upd_self _ _ _, h.bel.size, ?_, by rw [h1]; exact ShM.made w⟩
    have h2 := cnt_L h0
    have h3 := cnt_le L.toList
    rw [Array.length_toList, hs] at h3
    omega
theorem J4.ins (h : J4 W0 c L u w) {k : Nat} (h1 : 1 ≤ k) (h2 : k ≤ 26) (h0 : L.getD (insI k) true = false) (hm : L.getD 0 false = true) (hne : insI k ≠ 0 ∧ insI k ≠ 29 ∧ insI k ≠ 34 ∧ insI k ≠ 83 ∧ insI k ≠ 84) (hv : (vals4 c)[insI k]? = some none) (v : Value) :
    ∃ b w', u 0 = .map (some b) ∧ (Instr.mapUpdate 102 (.map (some b)) (.int .i64 (k : Nat)) (shV (shT c k))).run Tryd.prog w = .ok () w' ∧ J4 W0 c (L.setIfInBounds (insI k) true) (upd u (insI k) v) w' := by
  obtain ⟨n0, n1, n2, n3, n4⟩ := hne
  obtain ⟨b, n, g1, g2, g3, g4⟩ := h.mp hm
  have hc := cnt_L h0
  obtain ⟨w', r, g5, g6⟩ := g4.add (by unfold maxLen; omega) (k : Nat) (wf_int (by omega) (by omega)) (shT c k)
  refine ⟨b, w', g1, r, (h.bel.grown g6 h.bel.size (fun q hq => by cases hq; exact g2)), fun j y hy hj => ?_, fun hl => ?_, fun hl => ?_, fun hl => ?_, fun hl => ?_, fun hl => ?_, fun hl => ?_, fun y hy hl => ?_, fun hl => ?_⟩
  · have e : insI k ≠ j := fun e => by rw [← e, hv] at hy; cases hy
    rw [upd_ne _ _ (Ne.symm e)]
    exact h.val j y hy (by rw [L_ne e] at hj; exact hj)
  · rw [upd_ne _ _ (Ne.symm n1)]; exact h.c1 (by rw [L_ne n1] at hl; exact hl)
  · rw [upd_ne _ _ (Ne.symm n2)]; exact h.c2 (by rw [L_ne n2] at hl; exact hl)
  · rw [upd_ne u _ (Ne.symm n0), upd_ne _ _ (Ne.symm n3)]; exact h.mv (by rw [L_ne n3] at hl; exact hl)
  · rw [upd_ne u _ (Ne.symm n0), upd_ne _ _ (Ne.symm n4)]; exact h.ma (by rw [L_ne n4] at hl; exact hl)
  · rw [L_ne n0]; exact hm
  · rw [L_ne n0]; exact hm
  · rw [L_ne n0]; exact hm
  · exact ⟨b, n + 1, by rw [upd_ne _ _ (Ne.symm n0)]; exact g1, g2, by omega, by rw [fL_at h1 h2 h0]; exact g5⟩
theorem insI_lt (k : Nat) (h : k < 27) (h1 : 1 ≤ k) : insI k < 85 := by
  have h2 : ((List.range 27).all fun k => k == 0 || decide (insI k < 85)) = true := by decide +kernel
  have h3 := List.all_eq_true.1 h2 k (List.mem_range.2 h)
  simp at h3
  rcases h3 with h3 | h3
  · omega
  · exact h3
theorem J4.start (W : World) (u : Nat → Value) : J4 W c (Array.replicate 85 false) u W := by
  have hf : ∀ j, (Array.replicate 85 false).getD j false = false := fun j => by
    simp only [Array.getD_eq_getD_getElem?, Array.getElem?_replicate]
    split <;> rfl
  exact ⟨Below.refl _ _, fun j x _ hj => (by rw [hf] at hj; cases hj), fun hl => (by rw [hf] at hl; cases hl), fun hl => (by rw [hf] at hl; cases hl), fun hl => (by rw [hf] at hl; cases hl), fun hl => (by rw [hf] at hl; cases hl), fun hl => (by rw [hf] at hl; cases hl), fun hl => (by rw [hf] at hl; cases hl), fun y _ hl => (by rw [hf] at hl; cases hl), fun hl => (by rw [hf] at hl; cases hl)⟩
end
end Go.Proofs.YtlheflkdapckbaaDoor.Ck
