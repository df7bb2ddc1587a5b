/- How the runs of the document's arena lie in memory; the contracts of its calls Used, Find, Word and in, that only read. -/
import Derived.Test.YtndhgdjcbegjdaaDoorPm
import Derived.Test.YtndhgdjcbegjdaaDoorRd
import Derived.Maps.AppendAt
namespace Go.Proofs.YtndhgdjcbegjdaaDoor.Ck
open Go.RowKit

/-- a run: its first page, how many pages, the block of its words -/
structure Rn where
  f : Nat
  c : Nat
  b : Nat

abbrev Rn.words (x : Rn) : Value := .slice (some ⟨x.b, 0, none⟩) (16 * x.c) (16 * x.c)

/-- the slice a (len elements) holds the runs f 0, f 1, .. -/
def RunsAt (w : World) (a : Option Addr) (len : Nat) (f : Nat → Rn) : Prop :=
  ∀ i, i < len → ((f i).f ≤ 1000 ∧ (f i).c ≤ 1000) ∧ ∃ b, a = some ⟨b, 0, none⟩ ∧ b < w.heap.size ∧ w.cell? ⟨b, i * 3, none⟩ = some (.int .i64 ((f i).f : Int)) ∧ w.cell? ⟨b, i * 3 + 1, none⟩ = some (.int .i64 ((f i).c : Int)) ∧
    w.cell? ⟨b, i * 3 + 2, none⟩ = some (f i).words

theorem RunsAt.below {w w' : World} {a : Option Addr} {len : Nat} {f : Nat → Rn} (h : RunsAt w a len f) (hb : Below w.heap.size w w') : RunsAt w' a len f := fun i hi => by
  obtain ⟨h0, b, h1, h2, c0, c1, c2⟩ := h i hi
  exact ⟨h0, b, h1, Nat.lt_of_lt_of_le h2 hb.size, (hb.cell (p := ⟨b, i * 3, none⟩) h2).trans c0, (hb.cell (p := ⟨b, i * 3 + 1, none⟩) h2).trans c1, (hb.cell (p := ⟨b, i * 3 + 2, none⟩) h2).trans c2⟩

def psum (f : Nat → Rn) : Nat → Nat
  | 0 => 0
  | k + 1 => psum f k + (f k).c

theorem psum_le (f : Nat → Rn) (k len : Nat) (h : ∀ i, i < len → (f i).c ≤ 1000) (hk : k ≤ len) : psum f k ≤ 1000 * k := by
  induction k with
  | zero => exact Nat.le_refl _
  | succ k ih => have := ih (by omega); have := h k (by omega); rw [psum]; omega

theorem rused_any (gm : Nat) (a : Option Addr) (len cap : Nat) (f : Nat → Rn) (w : World) (hr : w.cell? ⟨gm, 1, none⟩ = some (.slice a len cap)) (hl : len ≤ 1000) (h : RunsAt w a len f) :
    Calls Tryd.prog 15 #[.pointer (some ⟨gm, 0, none⟩)] w fun e w' => e = .returned (.int .i64 (psum f len)) ∧ Below w.heap.size w w' := by
  have H := hide h
  clear h
  go_enter Tryd.func15, Tryd.ntmps15
  go_wp2_with fail
  go_loopw [3, 11] (fun n i wr => ∃ k : Nat, k ≤ len ∧ i = .int .i64 k ∧ n = .int .i64 (psum f k) ∧ Hid (Below w.heap.size w wr)) (fun _ i _ => len - (intOf i).toNat)
  case atStart => exact ⟨0, Nat.zero_le _, rfl, rfl, Below.refl _ _⟩
  case round =>
    obtain ⟨k, hk, rfl, rfl, B⟩ := hrel
    by_cases hkl : k < len
    · obtain ⟨⟨_, hc⟩, b, rfl, hlt, c0, c1, c2⟩ := (H.out.below B.out) k hkl
      have hp := psum_le f k len (fun i hi => (H.out i hi).1.2) hk
      have ep : Hid (psum f (k + 1) = psum f k + (f k).c) := rfl
      have B2 := hide (bel_trans B.out (bel_new wr (.cells #[.int .i64 (f k).f, .int .i64 (f k).c, (f k).words] 50)))
      generalize f k = x at hc c0 c1 c2 ep B2
      obtain ⟨xf, xc, xb⟩ := x
      simp only at hc c0 c1 c2 ep B2
      generalize psum f k = q at hp ep ⊢
      clear B
      go_wp2_with fail
      go_roundw
      case rel => exact ⟨k + 1, by omega, by go_num, by rw [ep.out]; go_num, B2.out⟩
      case measure => simp [intOf]; omega
    · have e : k = len := by omega
      subst e
      clear H
      go_wp2_with fail
      go_ret
      exact ⟨rfl, B.out⟩

/-- the run with this address: the first one -/
def rfind (f : Nat → Rn) (at_ : Int) (len : Nat) (i : Int) : Prop := (i = -1 ∧ ∀ k, k < len → 16 * ((f k).f : Int) ≠ at_) ∨ ∃ k : Nat, k < len ∧ i = k ∧ 16 * ((f k).f : Int) = at_ ∧ ∀ j, j < k → 16 * ((f j).f : Int) ≠ at_

theorem rfind_any (gm : Nat) (a : Option Addr) (len cap : Nat) (f : Nat → Rn) (at_ : Int) (w : World) (hr : w.cell? ⟨gm, 1, none⟩ = some (.slice a len cap)) (hl : len ≤ 1000) (h : RunsAt w a len f) :
    Calls Tryd.prog 16 #[.pointer (some ⟨gm, 0, none⟩), .int .i64 at_] w fun e w' => (∃ i : Int, e = .returned (.int .i64 i) ∧ rfind f at_ len i) ∧ Below w.heap.size w w' := by
  have H := hide h
  clear h
  go_enter Tryd.func16, Tryd.ntmps16
  go_wp2_with fail
  go_loopw [12] (fun i wr => ∃ k : Nat, k ≤ len ∧ i = .int .i64 k ∧ Hid (Below w.heap.size w wr ∧ ∀ j, j < k → 16 * ((f j).f : Int) ≠ at_)) (fun i _ => len - (intOf i).toNat)
  case atStart => exact ⟨0, Nat.zero_le _, rfl, Below.refl _ _, fun _ h => absurd h (Nat.not_lt_zero _)⟩
  case round =>
    obtain ⟨k, hk, rfl, B⟩ := hrel
    by_cases hkl : k < len
    · obtain ⟨⟨hf, hc⟩, b, rfl, hlt, c0, c1, c2⟩ := (H.out.below B.out.1) k hkl
      have B2 := hide (And.intro (bel_trans B.out.1 (bel_new wr (.cells #[.int .i64 (f k).f, .int .i64 (f k).c, (f k).words] 50))) B.out.2)
      have he : Hid (∀ x, f k = x → f k = x) := fun _ h => h
      by_cases hz : 16 * ((f k).f : Int) = at_
      · have E : Hid (rfind f at_ len k) := .inr ⟨k, hkl, rfl, hz, B.out.2⟩
        generalize f k = x at hf hc c0 c1 c2 B2 hz
        obtain ⟨xf, xc, xb⟩ := x
        simp only at hf hc c0 c1 c2 B2 hz
        subst hz
        clear B he
        go_wp2_with fail
        go_ret
        exact ⟨⟨_, rfl, E.out⟩, B2.out.1⟩
      · have E : Hid (∀ j, j < k + 1 → 16 * ((f j).f : Int) ≠ at_) := fun j hj => by
          by_cases e : j = k
          · rw [e]; exact hz
          · exact B.out.2 j (by omega)
        generalize f k = x at hf hc c0 c1 c2 B2 hz
        obtain ⟨xf, xc, xb⟩ := x
        simp only at hf hc c0 c1 c2 B2 hz
        have hz2 : (16 * (xf : Int) == at_) = false := by simp [hz]
        clear B he
        go_wp2_with fail
        go_roundw
        case rel => exact ⟨k + 1, by omega, by go_num, B2.out.1, E.out⟩
        case measure => simp [intOf]; omega
    · have e : k = len := by omega
      subst e
      clear H
      go_wp2_with fail
      go_ret
      exact ⟨⟨_, rfl, .inl ⟨rfl, B.out.2⟩⟩, B.out.1⟩

/-- a page is in the run -/
def Rn.has (x : Rn) (page : Nat) : Prop := x.f ≤ page ∧ page < x.f + x.c

theorem rin_any (gm : Nat) (a : Option Addr) (len cap : Nat) (f : Nat → Rn) (page : Nat) (hpg : page ≤ 100000) (w : World) (hr : w.cell? ⟨gm, 1, none⟩ = some (.slice a len cap)) (hl : len ≤ 1000) (h : RunsAt w a len f) :
    Calls Tryd.prog 36 #[.pointer (some ⟨gm, 0, none⟩), .int .i64 page] w fun e w' => (∃ t : Bool, e = .returned (.bool t) ∧ (t = true ↔ ∃ k, k < len ∧ (f k).has page)) ∧ Below w.heap.size w w' := by
  have H := hide h
  clear h
  go_enter Tryd.func36, Tryd.ntmps36
  go_wp2_with fail
  go_loopw [12] (fun i wr => ∃ k : Nat, k ≤ len ∧ i = .int .i64 k ∧ Hid (Below w.heap.size w wr ∧ ∀ j, j < k → ¬ (f j).has page)) (fun i _ => len - (intOf i).toNat)
  case atStart => exact ⟨0, Nat.zero_le _, rfl, Below.refl _ _, fun _ h => absurd h (Nat.not_lt_zero _)⟩
  case round =>
    obtain ⟨k, hk, rfl, B⟩ := hrel
    by_cases hkl : k < len
    · obtain ⟨⟨hf, hc⟩, b, rfl, hlt, c0, c1, c2⟩ := (H.out.below B.out.1) k hkl
      have B2 := hide (And.intro (bel_trans B.out.1 (bel_new wr (.cells #[.int .i64 (f k).f, .int .i64 (f k).c, (f k).words] 50))) B.out.2)
      by_cases hz : (f k).has page
      · have E : Hid (∃ k, k < len ∧ (f k).has page) := ⟨k, hkl, hz⟩
        generalize f k = x at hf hc c0 c1 c2 B2 hz
        obtain ⟨xf, xc, xb⟩ := x
        unfold Rn.has at hz
        simp only at hf hc c0 c1 c2 B2 hz
        obtain ⟨hz1, hz2⟩ := hz
        have d1 : decide ((xf : Int) ≤ (page : Int)) = true := decide_eq_true (by omega)
        have d2 : decide ((page : Int) < (xf : Int) + (xc : Int)) = true := decide_eq_true (by omega)
        clear B
        go_wp2_with fail
        go_ret
        exact ⟨⟨_, rfl, fun _ => E.out, fun _ => rfl⟩, B2.out.1⟩
      · have E : Hid (∀ j, j < k + 1 → ¬ (f j).has page) := fun j hj => by
          by_cases e : j = k
          · rw [e]; exact hz
          · exact B.out.2 j (by omega)
        generalize f k = x at hf hc c0 c1 c2 B2 hz
        obtain ⟨xf, xc, xb⟩ := x
        unfold Rn.has at hz
        simp only at hf hc c0 c1 c2 B2 hz
        clear B
        by_cases hz1 : xf ≤ page
        · have d1 : decide ((xf : Int) ≤ (page : Int)) = true := decide_eq_true (by omega)
          have d2 : decide ((page : Int) < (xf : Int) + (xc : Int)) = false := decide_eq_false (by omega)
          clear hz
          go_wp2_with fail
          go_roundw
          case rel => exact ⟨k + 1, by omega, by go_num, B2.out.1, E.out⟩
          case measure => simp [intOf]; omega
        · have d1 : decide ((xf : Int) ≤ (page : Int)) = false := decide_eq_false (by omega)
          clear hz
          go_wp2_with fail
          go_roundw
          case rel => exact ⟨k + 1, by omega, by go_num, B2.out.1, E.out⟩
          case measure => simp [intOf]; omega
    · have e : k = len := by omega
      subst e
      clear H
      go_wp2_with fail
      go_ret
      exact ⟨⟨_, rfl, fun h => absurd h (by simp), fun ⟨j, hj, h⟩ => absurd h (B.out.2 j hj)⟩, B.out.1⟩

/-- a word is in the run -/
def Rn.hasW (x : Rn) (at_ : Int) : Prop := 16 * (x.f : Int) ≤ at_ ∧ at_ < 16 * ((x.f : Int) + x.c)

def rwordR (f : Nat → Rn) (at_ : Int) (len : Nat) (v : Value) : Prop :=
  (v = .tuple #[.int .i64 0, .int .i64 0, .bool false] ∧ ∀ k, k < len → ¬ (f k).hasW at_) ∨ ∃ k : Nat, k < len ∧ v = .tuple #[.int .i64 k, .int .i64 (at_ - 16 * ((f k).f : Int)), .bool true] ∧ (f k).hasW at_

theorem rword_any (gm : Nat) (a : Option Addr) (len cap : Nat) (f : Nat → Rn) (at_ : Int) (w : World) (hr : w.cell? ⟨gm, 1, none⟩ = some (.slice a len cap)) (hl : len ≤ 1000) (h : RunsAt w a len f) :
    Calls Tryd.prog 27 #[.pointer (some ⟨gm, 0, none⟩), .int .i64 at_] w fun e w' => (∃ v, e = .returned v ∧ rwordR f at_ len v) ∧ Below w.heap.size w w' := by
  have H := hide h
  clear h
  go_enter Tryd.func27, Tryd.ntmps27
  go_wp2_with fail
  go_loopw [14] (fun i wr => ∃ k : Nat, k ≤ len ∧ i = .int .i64 k ∧ Hid (Below w.heap.size w wr ∧ ∀ j, j < k → ¬ (f j).hasW at_)) (fun i _ => len - (intOf i).toNat)
  case atStart => exact ⟨0, Nat.zero_le _, rfl, Below.refl _ _, fun _ h => absurd h (Nat.not_lt_zero _)⟩
  case round =>
    obtain ⟨k, hk, rfl, B⟩ := hrel
    by_cases hkl : k < len
    · obtain ⟨⟨hf, hc⟩, b, rfl, hlt, c0, c1, c2⟩ := (H.out.below B.out.1) k hkl
      have B2 := hide (And.intro (bel_trans B.out.1 (bel_new wr (.cells #[.int .i64 (f k).f, .int .i64 (f k).c, (f k).words] 50))) B.out.2)
      by_cases hz : (f k).hasW at_
      · have E : Hid (rwordR f at_ len (.tuple #[.int .i64 k, .int .i64 (at_ - 16 * ((f k).f : Int)), .bool true])) := .inr ⟨k, hkl, rfl, hz⟩
        generalize f k = x at hf hc c0 c1 c2 B2 hz E
        obtain ⟨xf, xc, xb⟩ := x
        unfold Rn.hasW at hz
        simp only at hf hc c0 c1 c2 B2 hz E
        obtain ⟨hz1, hz2⟩ := hz
        have d1 : decide (16 * (xf : Int) ≤ at_) = true := decide_eq_true (by omega)
        have d2 : decide (at_ < 16 * ((xf : Int) + (xc : Int))) = true := decide_eq_true (by omega)
        clear B
        go_wp2_with fail
        go_quiet (fail)
        go_wp2_with fail
        go_ret3
        exact ⟨⟨_, rfl, E.out⟩, below_drewN B2.out.1 _⟩
      · have E : Hid (∀ j, j < k + 1 → ¬ (f j).hasW at_) := fun j hj => by
          by_cases e : j = k
          · rw [e]; exact hz
          · exact B.out.2 j (by omega)
        generalize f k = x at hf hc c0 c1 c2 B2 hz
        obtain ⟨xf, xc, xb⟩ := x
        unfold Rn.hasW at hz
        simp only at hf hc c0 c1 c2 B2 hz
        clear B
        by_cases hz1 : 16 * (xf : Int) ≤ at_
        · have d1 : decide (16 * (xf : Int) ≤ at_) = true := decide_eq_true (by omega)
          have d2 : decide (at_ < 16 * ((xf : Int) + (xc : Int))) = false := decide_eq_false (by omega)
          clear hz
          go_wp2_with fail
          go_roundw
          case rel => exact ⟨k + 1, by omega, by go_num, B2.out.1, E.out⟩
          case measure => simp [intOf]; omega
        · have d1 : decide (16 * (xf : Int) ≤ at_) = false := decide_eq_false (by omega)
          clear hz
          go_wp2_with fail
          go_roundw
          case rel => exact ⟨k + 1, by omega, by go_num, B2.out.1, E.out⟩
          case measure => simp [intOf]; omega
    · have e : k = len := by omega
      subst e
      clear H
      go_wp2_with fail
      go_ret3
      exact ⟨⟨_, rfl, .inl ⟨rfl, B.out.2⟩⟩, B.out.1⟩

end Go.Proofs.YtndhgdjcbegjdaaDoor.Ck
