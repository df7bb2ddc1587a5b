/- A race put into a row of races of the call's own; the map of the places that have one. No Go text is walked here. -/
import Derived.Test.YticgmebbnnmikaaDoorOzn
import Derived.Test.YticgmebbnnmikaaDoorOqe
import Derived.Test.YticgmebbnnmikaaDoorOzq
import Derived.Test.YticgmebbnnmikaaDoorOzk
namespace Go.Proofs.YticgmebbnnmikaaDoor.Ck
open Go.RowKit

/-- which places have a race -/
def dnF (l : List Rc) : Int → Option Value := fun o => if l.any (fun r => r.p == o) = true then some (.bool true) else none
theorem dnF_nil : dnF [] = fun _ => none := by
  funext o
  simp [dnF]
theorem dnF_ins (r : Rc) (l : List Rc) : up (dnF l) r.p (some (.bool true)) = dnF (insR r l) := by
  funext o
  have h : (insR r l).any (fun x => x.p == o) = ((r :: l).any (fun x => x.p == o)) := by
    apply Bool.eq_iff_iff.2
    rw [List.any_eq_true, List.any_eq_true]
    exact ⟨fun ⟨x, h1, h2⟩ => ⟨x, (insR_perm r l).mem_iff.1 h1, h2⟩, fun ⟨x, h1, h2⟩ => ⟨x, (insR_perm r l).mem_iff.2 h1, h2⟩⟩
  unfold up dnF
  rw [h, List.any_cons]
  by_cases e : o = r.p
  · rw [if_pos e, if_pos (by simp [e])]
  · rw [if_neg e]
    have e2 : (r.p == o) = false := by rw [beq_eq_false_iff_ne]; exact fun q => e q.symm
    rw [e2, Bool.false_or]
theorem dnF_get (l : List Rc) (o : Int) : (dnF l o).getD (.bool false) = .bool (l.any (fun r => r.p == o)) := by
  unfold dnF
  cases h : l.any (fun r => r.p == o) <;> simp
theorem addr_add (b o j : Nat) : (⟨b, o, none⟩ : Addr).add j = ⟨b, o + j, none⟩ := by unfold Addr.add; by_cases h : j = 0 <;> simp [h]
theorem flatR_drop (l : List Rc) (K : Nat) : (l.drop K).flatMap rcC = (l.flatMap rcC).drop (K * 5) := by
  induction K generalizing l with
  | zero => simp
  | succ K ih =>
    cases l with
    | nil => simp
    | cons r l =>
      rw [List.drop_succ_cons, ih l, List.flatMap_cons, show (K + 1) * 5 = (rcC r).length + K * 5 by show _ = 5 + K * 5; omega, List.drop_append]
      simp
theorem flatR_take (l : List Rc) (K : Nat) : (l.take K).flatMap rcC = (l.flatMap rcC).take (K * 5) := by
  induction K generalizing l with
  | zero => simp
  | succ K ih =>
    cases l with
    | nil => simp
    | cons r l =>
      rw [List.take_succ_cons, List.flatMap_cons, List.flatMap_cons, ih l, show (K + 1) * 5 = (rcC r).length + K * 5 by show _ = 5 + K * 5; omega, List.take_append]
      simp
      exact (List.take_of_length_le (by omega)).symm
theorem flatR_one (l : List Rc) : ∀ u ∈ l.flatMap rcC, u.oneCell' = true := fun u hu => by
  obtain ⟨r, _, h⟩ := List.mem_flatMap.1 hu
  exact rcC_one r u h
/-- the race ahead of the row's end -/
theorem ins_tail {w : World} {B b c K : Nat} {l : List Rc} (r : Rc) (ho : w.ownsRow B 54 5 (.slice (some ⟨b, 0, none⟩) l.length c) l.length (l.flatMap rcC)) (hn : l.length ≤ 100000) (hK : K ≤ l.length) (ty : TypeId) (m : Nat) (hm : m = l.length - K) (cc o : Nat) (hoo : m = 0 ∨ o = K * 5) :
    ∃ v' w', (Builtin.append_ #[43, 43] ty #[.slice (some ⟨w.heap.size, 0, none⟩) 1 1, .slice (some ⟨b, o, none⟩) m cc]).run Tryd.prog (w.alloc (.cells (rcC r).toArray 54)) = .ok v' w' ∧ ((∃ b2 c2, v' = .slice (some ⟨b2, 0, none⟩) (m + 1) c2 ∧ w.heap.size ≤ b2 ∧ w'.ownsRow w.heap.size 54 5 (.slice (some ⟨b2, 0, none⟩) (m + 1) c2) (m + 1) ((r :: l.drop K).flatMap rcC)) ∧ Below w.heap.size w w') := by
  obtain ⟨ie, hi, hz0, hz1, hz2⟩ := info_parts info_race
  have hb := bel_new w (.cells (rcC r).toArray 54)
  have o1 : (w.alloc (.cells (rcC r).toArray 54)).ownsRow w.heap.size 54 5 (.slice (some ⟨w.heap.size, 0, none⟩) 1 1) 1 (rcC r) :=
    ⟨rfl, .inr ⟨w.heap.size, 1, (rcC r).toArray, rfl, Nat.le_refl _, Go.Deep.blk_alloc_new w _, Nat.le_refl _, by unfold maxLen; omega, rfl, by simp [rcC]⟩⟩
  have hlen : ((l.drop K).flatMap rcC).length = m * 5 := by rw [flatR_len, List.length_drop, hm]
  have hc : ∀ (j : Nat) (u : Value), ((l.drop K).flatMap rcC)[j]? = some u → (w.alloc (.cells (rcC r).toArray 54)).cell? ((⟨b, o, none⟩ : Addr).add j) = some u := fun j u hu => by
    rw [addr_add]
    rcases hoo with h0 | hoo
    · have hj := (List.getElem?_eq_some_iff.1 hu).1
      rw [hlen, h0] at hj
      omega
    rw [hoo]
    rw [flatR_drop, List.getElem?_drop] at hu
    exact (hb.cell (p := ⟨b, K * 5 + j, none⟩) (own_type ho (k := b) rfl).2.1).trans (own_cell ho _ u hu).1
  obtain ⟨v', w', hr, ho', hg, _, hat⟩ := run_append_own_at (P := Tryd.prog) (w.alloc (.cells (rcC r).toArray 54)) w.heap.size 43 ty 54 ie _ 5 32 Tryd.underlying43 hi hz0 hz1 hz2 rfl (by omega) _ 1 (rcC r) o1 ⟨b, o, none⟩ m cc _ hlen hc (flatR_one _) (by unfold maxLen; omega) (by omega) hb.size
  obtain ⟨b2, c2, rfl, h1, h2⟩ := own_some ho' (by omega)
  rw [Nat.add_comm 1 m] at *
  refine ⟨_, w', hr, ⟨b2, c2, rfl, (own_type ho' (k := b2) rfl).1, ho'⟩, ⟨hg.os.trans hb.os, hg.tape.trans hb.tape, hg.output.trans hb.output, Nat.le_trans hb.size hg.size, fun k hk => (hg.block k (Nat.lt_of_lt_of_le hk hb.size) (fun e => ?_)).trans (hb.block k hk)⟩⟩
  have := Option.some.inj e
  simp at this
  omega
/-- the row's beginning, and what was made of its end -/
theorem ins_head {w : World} {B b c K b2 c2 m : Nat} {l : List Rc} (r : Rc) (ho : w.ownsRow B 54 5 (.slice (some ⟨b, 0, none⟩) l.length c) l.length (l.flatMap rcC)) (hn : l.length ≤ 100000) (hK : K ≤ l.length) (hB : B ≤ w.heap.size) (ty : TypeId) (hm : m = l.length - K) {G : Nat} (ho2 : w.ownsRow G 54 5 (.slice (some ⟨b2, 0, none⟩) (m + 1) c2) (m + 1) ((r :: l.drop K).flatMap rcC)) :
    ∃ v' w', (Builtin.append_ #[43, 43] ty #[.slice (some ⟨b, 0, none⟩) K c, .slice (some ⟨b2, 0, none⟩) (m + 1) c2]).run Tryd.prog w = .ok v' w' ∧ ((∃ b3 c3, v' = .slice (some ⟨b3, 0, none⟩) (l.length + 1) c3) ∧ w'.ownsRow B 54 5 v' (l.length + 1) ((l.take K ++ r :: l.drop K).flatMap rcC) ∧ w.grownBy w' (some b)) := by
  obtain ⟨ie, hi, hz0, hz1, hz2⟩ := info_parts info_race
  have o1 : w.ownsRow B 54 5 (.slice (some ⟨b, 0, none⟩) K c) K ((l.take K).flatMap rcC) := by
    obtain ⟨hl, ⟨h0, _⟩ | ⟨gb, cap, cur, e, hB, hg, h1, h2, h3, h4⟩⟩ := ho
    · cases h0
    · simp only [Value.slice.injEq, Option.some.injEq, Addr.mk.injEq, and_true] at e
      obtain ⟨rfl, _, rfl⟩ := e
      refine ⟨by rw [flatR_len, List.length_take]; omega, .inr ⟨b, c, cur, rfl, hB, hg, by omega, h2, h3, ?_⟩⟩
      rw [flatR_take, ← h4, List.take_take, Nat.min_eq_left (Nat.mul_le_mul_right 5 hK)]
  have hlen : ((r :: l.drop K).flatMap rcC).length = (m + 1) * 5 := by rw [flatR_len, List.length_cons, List.length_drop, hm]
  have hc : ∀ (j : Nat) (u : Value), ((r :: l.drop K).flatMap rcC)[j]? = some u → w.cell? ((⟨b2, 0, none⟩ : Addr).add j) = some u := fun j u hu => by
    rw [addr_add, Nat.zero_add]
    exact (own_cell ho2 _ u hu).1
  obtain ⟨v', w', hr, ho', hg, _, hat⟩ := run_append_own_at (P := Tryd.prog) w B 43 ty 54 ie _ 5 32 Tryd.underlying43 hi hz0 hz1 hz2 rfl (by omega) _ K _ o1 ⟨b2, 0, none⟩ (m + 1) c2 _ hlen hc (flatR_one _) (by unfold maxLen; omega) (by omega) hB
  obtain ⟨b3, c3, rfl, h1, h2⟩ := own_some ho' (by omega)
  rw [show K + (m + 1) = l.length + 1 by omega, ← List.flatMap_append] at *
  exact ⟨_, w', hr, ⟨b3, c3, rfl⟩, ho', hg⟩
end Go.Proofs.YticgmebbnnmikaaDoor.Ck
