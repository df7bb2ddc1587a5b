/- Package code: the operators and their numbers. -/
import Derived.Test.YtlheflkdapckbaaDoorCm
namespace Go.Proofs.YtlheflkdapckbaaDoor.Ck
open Go.RowKit

def ops10 : List ByteArray := [⟨#[45]⟩, ⟨#[33]⟩, ⟨#[105, 110, 116]⟩, ⟨#[102, 108, 111, 97, 116]⟩]
def ops11 : List ByteArray := [⟨#[43]⟩, ⟨#[45]⟩, ⟨#[42]⟩, ⟨#[47]⟩, ⟨#[37]⟩, ⟨#[61, 61]⟩, ⟨#[33, 61]⟩, ⟨#[60]⟩, ⟨#[60, 61]⟩, ⟨#[62]⟩, ⟨#[62, 61]⟩]
def opsL (op : Int) : List ByteArray := if op = 10 then ops10 else if op = 11 then ops11 else []
/-- a slice of texts -/
def SlS (w : World) (v : Value) (l : List ByteArray) : Prop := ∃ a cap, v = .slice a l.length cap ∧ l.length ≤ cap ∧ ∀ i, i < l.length → ∃ b off, a = some ⟨b, off, none⟩ ∧ w.cell? ⟨b, off + i, none⟩ = some (.string (l.getD i ⟨#[]⟩))
theorem SlS.new (w : World) (l : List ByteArray) : SlS (w.alloc (.cells (l.map Value.string).toArray 9)) (.slice (some ⟨w.heap.size, 0, none⟩) l.length l.length) l := by
  refine ⟨_, _, rfl, Nat.le_refl _, fun i hi => ⟨_, _, rfl, ?_⟩⟩
  rw [Nat.zero_add]
  refine blk_cell (Go.Deep.blk_alloc_new _ _) i _ ?_
  rw [List.getElem?_toArray, List.getElem?_map, List.getD_eq_getElem?_getD, List.getElem?_eq_getElem hi]
  rfl
/-- the number of a text among some: 0 where it is none of them -/
def numF : List ByteArray → ByteArray → Nat → Int
  | [], _, _ => 0
  | x :: l, s, k => if s.toList = x.toList then (k : Int) + 1 else numF l s (k + 1)
theorem numF_at : ∀ (l : List ByteArray) (s : ByteArray) (m k : Nat), k < l.length → (∀ j, j < k → s.toList ≠ (l.getD j ⟨#[]⟩).toList) → s.toList = (l.getD k ⟨#[]⟩).toList → numF l s m = (m : Int) + k + 1
  | [], _, _, k, h, _, _ => absurd h (Nat.not_lt_zero _)
  | x :: l, s, m, 0, _, _, h => by
    unfold numF
    rw [if_pos (show s.toList = x.toList from h)]
    omega
  | x :: l, s, m, k + 1, h, h1, h2 => by
    unfold numF
    rw [if_neg (show ¬ s.toList = x.toList from h1 0 (by omega)), numF_at l s (m + 1) k (by simpa using h) (fun j hj => h1 (j + 1) (by omega)) h2]
    omega
theorem numF_none : ∀ (l : List ByteArray) (s : ByteArray) (m : Nat), (∀ j, j < l.length → s.toList ≠ (l.getD j ⟨#[]⟩).toList) → numF l s m = 0
  | [], _, _, _ => rfl
  | x :: l, s, m, h => by
    unfold numF
    rw [if_neg (show ¬ s.toList = x.toList from h 0 (by simp)), numF_none l s (m + 1) (fun j hj => h (j + 1) (by simpa using hj))]
theorem numF_rng : ∀ (l : List ByteArray) (s : ByteArray) (m : Nat), 0 ≤ numF l s m ∧ numF l s m ≤ (m : Int) + l.length
  | [], _, _ => by simp [numF]
  | x :: l, s, m => by
    have h := numF_rng l s (m + 1)
    unfold numF
    split
    · simp; omega
    · simp at h ⊢; omega
theorem opsL_len (op : Int) : (opsL op).length ≤ 11 := by
  unfold opsL
  split
  · decide
  · split <;> decide
set_option maxRecDepth 20000 in
theorem operators_any (op : Int) (w : World) : Calls Tryd.prog 59 #[.int .i64 op] w fun e w' => ∃ v, e = .returned v ∧ SlS w' v (opsL op) ∧ Below w.heap.size w w' := by
  by_cases h1 : op = 10
  · subst h1
    go_enter Tryd.func59, Tryd.ntmps59
    go_wp2_with fail
    go_ret
    exact ⟨_, rfl, SlS.new w ops10, bel_new _ _⟩
  by_cases h2 : op = 11
  · subst h2
    clear h1
    go_enter Tryd.func59, Tryd.ntmps59
    go_wp2_with fail
    go_ret
    exact ⟨_, rfl, SlS.new w ops11, bel_new _ _⟩
  · have e : opsL op = [] := by unfold opsL; rw [if_neg h1, if_neg h2]
    rw [e]
    have e1 : (op == 10) = false := beq_false_of_ne h1
    have e2 : (op == 11) = false := beq_false_of_ne h2
    clear h1 h2 e
    go_enter Tryd.func59, Tryd.ntmps59
    go_wp2_with fail
    go_ret
    exact ⟨_, rfl, ⟨none, 0, rfl, Nat.le_refl _, fun i hi => absurd hi (Nat.not_lt_zero _)⟩, Below.refl _ _⟩
/-- the operator of a number -/
def opN (op a : Int) : ByteArray := if 1 ≤ a ∧ a ≤ ((opsL op).length : Int) then (opsL op).getD (a - 1).toNat ⟨#[]⟩ else ⟨#[]⟩
set_option maxRecDepth 20000 in
theorem operator_any (op a : Int) (w : World) : Calls Tryd.prog 57 #[.int .i64 op, .int .i64 a] w (Vb w (.string (opN op a))) := by
  have hl := opsL_len op
  obtain ⟨r, hr⟩ : ∃ r, r = opN op a := ⟨_, rfl⟩
  rw [← hr]
  unfold opN at hr
  have HR := hide hr
  clear hr
  go_enter Tryd.func57, Tryd.ntmps57
  go_wp2_with fail
  refine (operators_any op w).mono ?_
  rintro e w2 ⟨v, rfl, hs, hb⟩
  have HB := hide hb
  obtain ⟨ad, cap, rfl, hcap, hcs⟩ := hs
  generalize opsL op = l at *
  obtain ⟨n, hn⟩ : ∃ n, n = l.length := ⟨_, rfl⟩
  rw [← hn] at HR hl hcs hcap ⊢
  clear hb hn
  by_cases h1 : 1 ≤ a
  · have h1' : decide (a < 1) = false := decide_eq_false (by omega)
    by_cases h2 : a ≤ (n : Int)
    · have h2' : decide ((n : Int) < a) = false := decide_eq_false (by omega)
      obtain ⟨k, hk⟩ : ∃ k : Nat, a - 1 = k := ⟨(a - 1).toNat, by omega⟩
      obtain ⟨b, off, rfl, hc⟩ := hcs k (by omega)
      have e1 : wrap64 (a - 1) = (k : Int) := by unfold wrap64; omega
      have hkn : (k : Int) < (n : Int) := by omega
      rw [if_pos ⟨h1, h2⟩, hk, Int.toNat_natCast] at HR
      rw [← HR.out] at hc
      clear hcs h1 h2 hk HR
      go_wp2_with fail
      go_ret
      exact ⟨rfl, HB.out⟩
    · have h2' : decide ((n : Int) < a) = true := decide_eq_true (by omega)
      rw [if_neg (fun h => h2 h.2)] at HR
      have hr := HR.out
      subst hr
      clear hcs h1 h2 HR
      go_wp2_with fail
      go_ret
      exact ⟨rfl, HB.out⟩
  · have h1' : decide (a < 1) = true := decide_eq_true (by omega)
    rw [if_neg (fun h => h1 h.1)] at HR
    have hr := HR.out
    subst hr
    clear hcs h1 HR
    go_wp2_with fail
    go_ret
    exact ⟨rfl, HB.out⟩
end Go.Proofs.YtlheflkdapckbaaDoor.Ck
