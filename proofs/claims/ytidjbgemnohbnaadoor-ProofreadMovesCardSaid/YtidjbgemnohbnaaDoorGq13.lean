/- Texts of this proof, packed. -/
import Derived.Test.YtidjbgemnohbnaaDoorGq4
import Derived.Deep.AppendSrc
import Derived.Maps.AppendAt
import Derived.Test.YtidjbgemnohbnaaDoorGq5
/- A slice of instructions of the call's own; a code of one function; no Go text is walked here. -/
namespace Go.Proofs.YtidjbgemnohbnaaDoor.Ck
open Go.RowKit

def insC (x : In5) : List Value := [.int .i64 x.op, .int .i64 x.a, .int .i64 x.b, .int .u64 x.bits, .int .i64 x.at_]
def insL (l : List In5) : List Value := l.flatMap insC
theorem insL_len (l : List In5) : (insL l).length = l.length * 5 := by
  induction l with
  | nil => rfl
  | cons t l ih =>
    unfold insL at *
    rw [List.flatMap_cons, List.length_append, ih, List.length_cons]
    simp [insC]
    omega
theorem insL_app (a b : List In5) : insL (a ++ b) = insL a ++ insL b := by unfold insL; simp
theorem insL_one (l : List In5) : ∀ u ∈ insL l, u.oneCell' = true := fun u hu => by
  obtain ⟨t, _, h⟩ := List.mem_flatMap.1 hu
  simp [insC] at h
  rcases h with rfl | rfl | rfl | rfl | rfl <;> rfl
theorem insL_at : ∀ (l : List In5) (i j : Nat), i < l.length → j < 5 → (insL l)[i * 5 + j]? = (insC (l.getD i zI))[j]?
  | [], _, _, h, _ => absurd h (Nat.not_lt_zero _)
  | x :: l, 0, j, _, hj => by
    unfold insL
    rw [List.flatMap_cons, Nat.zero_mul, Nat.zero_add, List.getElem?_append_left (by simpa [insC] using hj)]
    rfl
  | x :: l, i + 1, j, h, hj => by
    have ih := insL_at l i j (by simpa using h) hj
    unfold insL at *
    rw [List.flatMap_cons, List.getElem?_append_right (by simp [insC]; omega), show (i + 1) * 5 + j - (insC x).length = i * 5 + j by simp [insC]; omega, ih]
    rfl
/-- a slice of instructions of the call's own, from block B on -/
def OwnB (w : World) (B : Nat) (v : Value) (l : List In5) : Prop := w.ownsRow B 44 5 v l.length (insL l)
theorem info_ins : (Tryd.prog.info? 44).map (fun i => (i.zero, i.size, i.bytes)) = some (some (.agg #[.int .i64 0, .int .i64 0, .int .i64 0, .int .u64 0, .int .i64 0]), 5, 40) := by kernel_rfl
theorem OwnB.nil (w : World) (B : Nat) : OwnB w B (.slice none 0 0) [] := ⟨rfl, .inl ⟨rfl, rfl⟩⟩
theorem OwnB.len {w : World} {B : Nat} {v : Value} {l : List In5} (h : OwnB w B v l) : ∃ a c, v = .slice a l.length c := by
  rcases h.2 with ⟨rfl, h0⟩ | ⟨g, cap, _, rfl, _⟩
  · exact ⟨none, 0, by rw [h0]⟩
  · exact ⟨_, _, rfl⟩
theorem OwnB.tn {w w' : World} {B n : Nat} {v : Value} {l : List In5} (h : OwnB w B v l) (t : Tn n w w') (hn : n < B) : OwnB w' B v l := by
  refine ⟨h.1, ?_⟩
  rcases h.2 with h0 | ⟨g, cap, cur, hv, hg, hb, hr⟩
  · exact .inl h0
  · exact .inr ⟨g, cap, cur, hv, hg, (t.blk g (lt_of_blk hb) (by omega)).trans hb, hr⟩
theorem OwnB.below {w w' : World} {B : Nat} {v : Value} {l : List In5} (h : OwnB w B v l) (hb : Below w.heap.size w w') : OwnB w' B v l := by
  refine ⟨h.1, ?_⟩
  rcases h.2 with h0 | ⟨g, cap, cur, hv, hg, hk, hr⟩
  · exact .inl h0
  · exact .inr ⟨g, cap, cur, hv, hg, (hb.block g (lt_of_blk hk)).trans hk, hr⟩
theorem OwnB.sl {w : World} {B : Nat} {v : Value} {l : List In5} (h : OwnB w B v l) (hl : l.length ≤ 100000) : SlB w v l := by
  rcases h.2 with ⟨rfl, h0⟩ | ⟨g, cap, cur, rfl, hg, hb, hl1, hl2, hl3, hl4⟩
  · have : l = [] := List.length_eq_zero_iff.1 h0
    subst this
    exact SlB.nilS w
  · have key : ∀ i j u, i < l.length → j < 5 → (insC (l.getD i zI))[j]? = some u → w.cell? ⟨g, 0 + i * 5 + j, none⟩ = some u := fun i j u hi hj hu => blk_cell hb _ u (by
      have := insL_at l i j hi hj
      rw [← hl4, List.getElem?_take_of_lt (by omega), hu] at this
      rw [Nat.zero_add, ← Array.getElem?_toList]
      exact this)
    exact ⟨_, cap, rfl, hl1, hl2, fun i hi => ⟨g, 0, rfl, lt_of_blk hb, key i 0 _ hi (by omega) rfl, key i 1 _ hi (by omega) rfl, key i 2 _ hi (by omega) rfl, key i 3 _ hi (by omega) rfl, key i 4 _ hi (by omega) rfl⟩⟩
theorem SlB.one {w : World} {g : Nat} {x : In5} (h : w.heap[g]? = some (.cells #[.int .i64 x.op, .int .i64 x.a, .int .i64 x.b, .int .u64 x.bits, .int .i64 x.at_] 44 (0, 0))) : SlB w (.slice (some ⟨g, 0, none⟩) 1 1) [x] := by
  refine ⟨_, 1, rfl, Nat.le_refl _, by unfold maxLen; omega, fun i hi => ?_⟩
  obtain rfl : i = 0 := by simpa using hi
  exact ⟨g, 0, rfl, lt_of_blk h, blk_cell h 0 _ rfl, blk_cell h 1 _ rfl, blk_cell h 2 _ rfl, blk_cell h 3 _ rfl, blk_cell h 4 _ rfl⟩
theorem pushB {w : World} {B : Nat} {v : Value} {l : List In5} (h : OwnB w B v l) (x : In5) (b c : Nat) (hb : w.heap[b]? = some (.cells #[.int .i64 x.op, .int .i64 x.a, .int .i64 x.b, .int .u64 x.bits, .int .i64 x.at_] 44 (0, 0))) (hl : l.length ≤ 100000) (hB : B ≤ w.heap.size) (ty : TypeId) :
    ∃ v' w', (Builtin.append_ #[25, 25] ty #[v, .slice (some ⟨b, 0, none⟩) 1 c]).run Tryd.prog w = .ok v' w' ∧ (OwnB w' B v' (l ++ [x]) ∧ Below B w w') := by
  obtain ⟨ie, hi, hz0, hz1, hz2⟩ := info_parts info_ins
  have hn : ∀ j u, (insC x)[j]? = some u → w.cell? ((⟨b, 0, none⟩ : Addr).add j) = some u := fun j u hu => by
    have e2 : (Addr.mk b 0 none).add j = ⟨b, j, none⟩ := by unfold Addr.add; by_cases h : j = 0 <;> simp [h]
    rw [e2]
    exact blk_cell hb j u (by rw [← hu]; unfold insC; simp)
  obtain ⟨v', w', hr, ho, hg, _⟩ := run_append_own (P := Tryd.prog) w B 25 ty 44 ie (.agg #[.int .i64 0, .int .i64 0, .int .i64 0, .int .u64 0, .int .i64 0]) 5 40 Tryd.underlying25 hi hz0 hz1 hz2 rfl (by decide) v l.length (insL l) h ⟨b, 0, none⟩ 1 c (insC x) rfl hn (fun u hu => insL_one [x] u (by unfold insL; simpa using hu)) (by unfold maxLen; omega) (by omega) hB
  have hown : ∀ k, v.ownBlock = some k → B ≤ k := fun k hk => by
    rcases h.2 with ⟨rfl, _⟩ | ⟨g, cap, cur, rfl, hge, _⟩
    · cases hk
    · cases hk; exact hge
  refine ⟨v', w', hr, ?_, hg.os, hg.tape, hg.output, hg.size, fun k hk => hg.block k (by omega) (fun e => by have := hown k e.symm; omega)⟩
  have e3 : insL (l ++ [x]) = insL l ++ insC x := by rw [insL_app]; unfold insL; simp
  unfold OwnB
  rw [e3, List.length_append, List.length_singleton]
  exact ho
theorem wpList_appB {w : World} {ops : Array Oper} {rest : List Oper} {o : Oper} {a : Act} {Q : Exit → Act → World → Prop} (s x : Operand) (v vx : Value) (R : Value → World → Prop)
    (hrun : ∀ ty, ∃ v' w', (Builtin.append_ #[25, 25] ty #[v, vx]).run Tryd.prog w = .ok v' w' ∧ R v' w') (hgd : o.guard = none)
    (ho : o.op = .call { callee := .builtin .append, args := #[s, x], argTypes := #[25, 25] }) (hs : a.eval s = v) (hx : a.eval x = vx)
    (h : ∀ v' w', R v' w' → wpList Tryd.prog ops Q rest (a.put o.dst v') w') : wpList Tryd.prog ops Q (o :: rest) a w :=
  wpList_plain hgd fun _ hK => by
    obtain ⟨v', w', hr, hR⟩ := hrun o.type
    unfold Oper.wp execOp
    simp only [ho, resolve, invoke, builtin, Sem.run_bind, Sem.run_pure, Result.andThen_ok, List.map_toArray, List.map_cons, List.map_nil, hs, hx, hr]
    exact hK _ _ (h v' w' hR)
/-- a code of one function that has nothing -/
theorem Cv.one {w : World} {g : Nat} {vB : Value} {B : List In5} (hF : w.heap[g]? = some (.cells #[.int .i64 0, .int .i64 0, .slice none 0 0] 46 (0, 0))) (hB : SlB w vB B) (hI : ∀ x ∈ B, InX x) (hl : B.length ≤ 100000) :
    Cv w (.slice none 0 0) (.slice none 0 0) (.slice (some ⟨g, 0, none⟩) 1 1) vB (oneF B) := by
  refine ⟨⟨Nat.zero_le _, Nat.zero_le _, by show 1 ≤ _; omega, by show B.length ≤ _; omega, fun f hf => ?_, hI, fun h hh => by cases hh⟩, Sl.nilS w, SlC.nilS w, ?_, hB⟩
  · simp [oneF] at hf
    subst hf
    exact Nat.zero_le _
  · refine ⟨some ⟨g, 0, none⟩, 1, rfl, Nat.le_refl _, by unfold maxLen; omega, fun i hi => ?_⟩
    obtain rfl : i = 0 := by simp [oneF] at hi; omega
    exact ⟨g, 0, .slice none 0 0, rfl, lt_of_blk hF, blk_cell hF 0 _ rfl, blk_cell hF 1 _ rfl, blk_cell hF 2 _ rfl, Sl.nilS w⟩
theorem inX_of {op a b bits at_ : Int} (h1 : -9223372036854775808 ≤ op ∧ op ≤ 9223372036854775807) (h2 : a < 9223372036854775808) (h3 : 0 ≤ bits ∧ bits < 18446744073709551616) : InX ⟨op, a, b, bits, at_⟩ := ⟨⟨h2, h3⟩, h1⟩
end Go.Proofs.YtidjbgemnohbnaaDoor.Ck

/- The document's ints; a code's form. (Written by mk_s.py.) -/
namespace Go.Proofs.YtidjbgemnohbnaaDoor.Ck
open Go.RowKit

/-- lists that are not too long -/
structure Sml (c : Cd) : Prop where
  P : c.P.length ≤ 100000
  C : c.C.length ≤ 100000
  F : c.F.length ≤ 100000
  B : c.B.length ≤ 100000
  L : ∀ f ∈ c.F, f.lo.length ≤ 100000
theorem Cv.form {w : World} {vP vC vF vB : Value} {c : Cd} (h : Cv w vP vC vF vB c) : ∃ aP cP aC cC aF cF aB cB, vP = .slice aP c.P.length cP ∧ vC = .slice aC c.C.length cC ∧ vF = .slice aF c.F.length cF ∧ vB = .slice aB c.B.length cB := by
  obtain ⟨aP, cP, eP, _⟩ := h.P.form
  obtain ⟨aC, cC, eC, _⟩ := h.C.form
  obtain ⟨aF, cF, eF, _⟩ := h.F.form
  obtain ⟨aB, cB, eB, _⟩ := h.B.form
  exact ⟨aP, cP, aC, cC, aF, cF, aB, cB, eP, eC, eF, eB⟩
theorem Sl.drew {w wr : World} {q : Nat} {v : Value} {l : List Int} (hq : wr = w.drewN q) (h : Sl w v l) : Sl wr v l := by rw [hq]; exact h.bel (drew_bel w q)
theorem cells7_drew {w wr : World} {q g : Nat} {v0 v1 v2 v3 v4 v5 v6 : Value} {T : TypeId} (hq : wr = w.drewN q) (h : w.heap[g]? = some (.cells #[v0, v1, v2, v3, v4, v5, v6] T (0, 0))) : wr.heap[g]? = some (.cells #[v0, v1, v2, v3, v4, v5, v6] T (0, 0)) := by rw [hq]; simpa using h
end Go.Proofs.YtidjbgemnohbnaaDoor.Ck
