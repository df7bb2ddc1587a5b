/- A row of functions, copied into memory of the call's own, and turned there. No Go text is walked here. -/
import Derived.Test.YtidjbgemnohbnaaDoorQzQ
import Derived.Test.YtidjbgemnohbnaaDoorQoQ
import Derived.Test.YtidjbgemnohbnaaDoorGq13
namespace Go.Proofs.YtidjbgemnohbnaaDoor.Ck
open Go.RowKit

theorem info_ent : (Tryd.prog.info? 46).map (fun i => (i.zero, i.size, i.bytes)) = some (some (.agg #[.int .i64 0, .int .i64 0, .slice none 0 0]), 3, 40) := by kernel_rfl
/-- functions, as cells; vl: the slices of their locals -/
def enL : List Fn3 → List Value → List Value
  | [], _ => []
  | f :: F, vs => [.int .i64 f.st, .int .i64 f.pa, vs.headD (.slice none 0 0)] ++ enL F vs.tail
theorem enL_len : ∀ (F : List Fn3) (vs : List Value), (enL F vs).length = F.length * 3
  | [], _ => rfl
  | f :: F, vs => by
    have := enL_len F vs.tail
    simp only [enL, List.length_append, List.length_cons, List.length_nil, this]
    omega
theorem enL_at : ∀ (F : List Fn3) (vs : List Value) (i : Nat), i < F.length → (enL F vs)[i * 3]? = some (.int .i64 (F.getD i zF).st) ∧ (enL F vs)[i * 3 + 1]? = some (.int .i64 (F.getD i zF).pa) ∧ (enL F vs)[i * 3 + 2]? = some (vs.getD i (.slice none 0 0))
  | [], _, i, h => absurd h (Nat.not_lt_zero _)
  | f :: F, vs, 0, _ => by
    refine ⟨rfl, rfl, ?_⟩
    cases vs <;> rfl
  | f :: F, vs, i + 1, h => by
    have ih := enL_at F vs.tail i (by simpa using h)
    have e : vs.tail.getD i (.slice none 0 0) = vs.getD (i + 1) (.slice none 0 0) := by cases vs <;> simp
    have e0 : (i + 1) * 3 = i * 3 + 3 := by omega
    rw [e] at ih
    simp only [enL, List.getD_cons_succ, e0]
    refine ⟨?_, ?_, ?_⟩
    · rw [List.getElem?_append_right (by simp)]
      simpa using ih.1
    · rw [List.getElem?_append_right (by simp), show i * 3 + 3 + 1 - [Value.int .i64 f.st, .int .i64 f.pa, vs.headD (.slice none 0 0)].length = i * 3 + 1 by simp]
      exact ih.2.1
    · rw [List.getElem?_append_right (by simp), show i * 3 + 3 + 2 - [Value.int .i64 f.st, .int .i64 f.pa, vs.headD (.slice none 0 0)].length = i * 3 + 2 by simp]
      exact ih.2.2
theorem enL_one : ∀ (F : List Fn3) (vs : List Value), (∀ v ∈ vs, v.oneCell' = true) → ∀ u ∈ enL F vs, u.oneCell' = true
  | [], _, _, u, hu => by cases hu
  | f :: F, vs, hv, u, hu => by
    simp only [enL, List.mem_append, List.mem_cons, List.not_mem_nil, or_false] at hu
    rcases hu with (rfl | rfl | rfl) | hu
    · rfl
    · rfl
    · cases vs with
      | nil => rfl
      | cons v vs => exact hv v (by simp)
    · exact enL_one F vs.tail (fun v h => hv v (List.mem_of_mem_tail h)) u hu
/-- functions of the call's own -/
structure OwnE (w0 w : World) (B : Nat) (v : Value) (F : List Fn3) (vs : List Value) : Prop where
  row : w.ownsRow B 46 3 v F.length (enL F vs)
  lo : ∀ i, i < F.length → Sl w0 (vs.getD i (.slice none 0 0)) (F.getD i zF).lo
  bel : Below w0.heap.size w0 w
  le : w0.heap.size ≤ B
theorem OwnE.keep {w0 w w' : World} {B : Nat} {v : Value} {F : List Fn3} {vs : List Value} (h : OwnE w0 w B v F vs) (hb : Below w.heap.size w w') : OwnE w0 w' B v F vs :=
  ⟨own_keep h.row fun k hk => hb.block k (own_type h.row hk).2.1, h.lo, h.bel.trans (hb.mono h.bel.size), h.le⟩
theorem own_formE {w0 w : World} {B : Nat} {v : Value} {F : List Fn3} {vs : List Value} (h : OwnE w0 w B v F vs) : ∃ a c, v = .slice a F.length c ∧ F.length ≤ c ∧ c ≤ maxLen := by
  obtain ⟨hl, ⟨h0, h1⟩ | ⟨gb, cap, cur, hv, hB, hg, h2, h3, h4, h5⟩⟩ := h.row
  · exact ⟨none, 0, by rw [h0, h1], by omega, by unfold maxLen; omega⟩
  · exact ⟨_, _, hv, h2, h3⟩
theorem OwnE.sl {w0 w : World} {B : Nat} {v : Value} {F : List Fn3} {vs : List Value} (h : OwnE w0 w B v F vs) : SlF w v F := by
  obtain ⟨hl, h0 | ⟨gb, cap, cur, hv, hB, hg, h2, h3, h4, h5⟩⟩ := h.row
  · have hz : F = [] := List.eq_nil_of_length_eq_zero h0.2
    subst hz
    rw [h0.1]
    exact SlF.nilS w
  · subst hv
    refine ⟨some ⟨gb, 0, none⟩, cap, rfl, h2, h3, fun i hi => ?_⟩
    obtain ⟨e0, e1, e2⟩ := enL_at F vs i hi
    have at' : ∀ j u, (enL F vs)[j]? = some u → w.cell? ⟨gb, 0 + j, none⟩ = some u := fun j u hu => by
      rw [Nat.zero_add]
      have hj := (List.getElem?_eq_some_iff.1 hu).1
      rw [enL_len] at hj
      have e : (cur.toList.take (F.length * 3))[j]? = some u := by rw [h5]; exact hu
      rw [List.getElem?_take_of_lt hj] at e
      exact blk_cell hg j u (by rw [← Array.getElem?_toList]; exact e)
    have a1 := at' _ _ e1
    have a2 := at' _ _ e2
    rw [← Nat.add_assoc] at a1 a2
    exact ⟨gb, 0, _, rfl, lt_of_blk hg, at' _ _ e0, a1, a2, (h.lo i hi).bel h.bel⟩
/-- a Start turns -/
theorem OwnE.add {w0 w : World} {B b n k : Nat} {F : List Fn3} {vs : List Value} (h : OwnE w0 w B (.slice (some ⟨b, 0, none⟩) n k) F vs) {i : Nat} (hi : i < F.length) (x : Int) :
    OwnE w0 (w.setCell ⟨b, i * 3, none⟩ (.int .i64 x)) B (.slice (some ⟨b, 0, none⟩) n k) (F.set i { F.getD i zF with st := x }) vs := by
  have hset : ∀ (F : List Fn3) (vs : List Value) (i : Nat), i < F.length → (enL F vs).set (i * 3) (.int .i64 x) = enL (F.set i { F.getD i zF with st := x }) vs := by
    intro F
    induction F with
    | nil => intro vs i h; cases h
    | cons f F ih =>
      intro vs i h
      cases i with
      | zero => rfl
      | succ i =>
        have := ih vs.tail i (by simpa using h)
        rw [show (i + 1) * 3 = i * 3 + 3 by omega]
        simp only [enL, List.set_cons_succ, List.getD_cons_succ, List.cons_append, List.nil_append, this]
  have hB : B ≤ b := (own_type h.row (k := b) rfl).1
  refine ⟨?_, fun j hj => ?_, ?_, h.le⟩
  · have h1 := h.row
    have h2 : (w.setCell ⟨b, i * 3, none⟩ (.int .i64 x)).ownsRow B 46 3 (.slice (some ⟨b, 0, none⟩) n k) F.length ((enL F vs).set (i * 3) (.int .i64 x)) := own_set h1 (i * 3) (.int .i64 x)
    rw [hset F vs i hi] at h2
    rw [List.length_set]
    exact h2
  · rw [List.length_set] at hj
    have e : ((F.set i { F.getD i zF with st := x }).getD j zF).lo = (F.getD j zF).lo := by
      rw [getD_set]
      split
      · rename_i e
        rw [← e.1]
      · rfl
    rw [e]
    exact h.lo j hj
  · exact ⟨h.bel.os, h.bel.tape, h.bel.output, by rw [size_setCell]; exact h.bel.size, fun q hq => (Below.heap_setCell _ _ _ _ (by have := h.le; show q ≠ b; omega)).trans (h.bel.block q hq)⟩
/-- a copy of functions -/
theorem app_ent {w0 w : World} {a : Option Addr} {c n : Nat} {F : List Fn3} (h : SlF w0 (.slice a n c) F) (hb0 : Below w0.heap.size w0 w) (hl : F.length ≤ 100000) (ty : TypeId) :
    ∃ v' w', (Builtin.append_ #[24, 24] ty #[.slice (some ⟨w.heap.size, 0, none⟩) 0 0, .slice a n c]).run Tryd.prog (w.alloc (.cells #[] 46)) = .ok v' w' ∧ ((∃ a c, v' = .slice a n c) ∧ ∃ vs, OwnE w0 w' w.heap.size v' F vs ∧ Below w.heap.size w w') := by
  obtain ⟨a', c', e, h1, h2, h3⟩ := h
  injection e with e1 e2 e3
  subst e1 e2 e3
  obtain ⟨ie, hi, hz0, hz1, hz2⟩ := info_parts info_ent
  have hb := bel_new w (.cells #[] 46)
  have o1 : (w.alloc (.cells #[] 46)).ownsRow w.heap.size 46 3 (.slice (some ⟨w.heap.size, 0, none⟩) 0 0) 0 [] := ⟨rfl, .inr ⟨w.heap.size, 0, _, rfl, Nat.le_refl _, Go.Deep.blk_alloc_new _ _, Nat.le_refl _, Nat.zero_le _, rfl, rfl⟩⟩
  have hx : ∀ i : Nat, ∃ vl : Value, i < F.length → vl.oneCell' = true ∧ ∃ b off, a = some ⟨b, off, none⟩ ∧ b < w0.heap.size ∧ w0.cell? ⟨b, off + i * 3, none⟩ = some (.int .i64 (F.getD i zF).st) ∧ w0.cell? ⟨b, off + i * 3 + 1, none⟩ = some (.int .i64 (F.getD i zF).pa) ∧ w0.cell? ⟨b, off + i * 3 + 2, none⟩ = some vl ∧ Sl w0 vl (F.getD i zF).lo := fun i => by
    by_cases hi : i < F.length
    · obtain ⟨b, off, vl, q⟩ := h3 i hi
      refine ⟨vl, fun _ => ⟨?_, b, off, q⟩⟩
      obtain ⟨_, a9, c9, e9, _⟩ := q.2.2.2.2.2
      rw [e9]
      rfl
    · exact ⟨.nilIface, fun h => absurd h hi⟩
  obtain ⟨g, hg⟩ := Classical.axiomOfChoice hx
  obtain ⟨vs, hvs⟩ : ∃ vs, vs = (List.range F.length).map g := ⟨_, rfl⟩
  have hgv : ∀ i, i < F.length → vs.getD i (.slice none 0 0) = g i := fun i hi => by
    rw [hvs, List.getD_eq_getElem?_getD, List.getElem?_map, List.getElem?_range hi]
    rfl
  have hone : ∀ v ∈ vs, v.oneCell' = true := fun v hv => by
    rw [hvs, List.mem_map] at hv
    obtain ⟨i, hi, rfl⟩ := hv
    exact (hg i (List.mem_range.1 hi)).1
  have hlo : ∀ i, i < F.length → Sl w0 (vs.getD i (.slice none 0 0)) (F.getD i zF).lo := fun i hi => by
    rw [hgv i hi]
    obtain ⟨_, b, off, _, _, _, _, _, q⟩ := hg i hi
    exact q
  cases a with
  | none =>
    have hz : F = [] := by
      cases F with
      | nil => rfl
      | cons f F =>
        obtain ⟨b, off, vl, e, _⟩ := h3 0 (by simp)
        cases e
    subst hz
    have hr := run_append_room_src (P := Tryd.prog) (w.alloc (.cells #[] 46)) 24 24 ty 46 ie Tryd.underlying24 hi w.heap.size 0 0 0 (.slice none 0 c) 0 [] (Src.ofNil (w.alloc (.cells #[] 46)) Tryd.underlying24 c) (Nat.le_refl _) (fun j hj => absurd hj (Nat.not_lt_zero _)) (fun j hj => absurd hj (Nat.not_lt_zero _))
    exact ⟨_, _, hr, ⟨_, _, rfl⟩, [], ⟨o1, fun i hi => (by cases hi), hb0.trans (hb.mono hb0.size), hb0.size⟩, hb⟩
  | some ad =>
    have hc : ∀ (j : Nat) (u : Value), (enL F vs)[j]? = some u → (w.alloc (.cells #[] 46)).cell? (ad.add j) = some u := fun j u hu => by
      have hj := (List.getElem?_eq_some_iff.1 hu).1
      rw [enL_len] at hj
      obtain ⟨i, r, hi3, hr3⟩ : ∃ i r, j = i * 3 + r ∧ r < 3 := ⟨j / 3, j % 3, by omega, by omega⟩
      have hiF : i < F.length := by omega
      obtain ⟨e0, e1, e2⟩ := enL_at F vs i hiF
      rw [hgv i hiF] at e2
      obtain ⟨_, b, off, ea, hlt, q0, q1, q2, _⟩ := hg i hiF
      cases ea
      rw [show (⟨b, off, none⟩ : Addr).add j = ⟨b, off + j, none⟩ by unfold Addr.add; by_cases h : j = 0 <;> simp [h]]
      refine ((hb0.trans (hb.mono hb0.size)).cell (p := ⟨b, off + j, none⟩) hlt).trans ?_
      subst hi3
      rcases (by omega : r = 0 ∨ r = 1 ∨ r = 2) with rfl | rfl | rfl
      · rw [Nat.add_zero] at hu ⊢
        rw [e0] at hu
        cases hu
        exact q0
      · rw [e1] at hu
        cases hu
        rw [← Nat.add_assoc]
        exact q1
      · rw [e2] at hu
        cases hu
        rw [← Nat.add_assoc]
        exact q2
    obtain ⟨v', w', hr, ho', hg', _⟩ := run_append_own (P := Tryd.prog) (w.alloc (.cells #[] 46)) w.heap.size 24 ty 46 ie _ 3 40 Tryd.underlying24 hi hz0 hz1 hz2 rfl (by decide) _ 0 [] o1 ad F.length c (enL F vs) (enL_len F vs) hc (enL_one F vs hone) (by unfold maxLen; omega) (by omega) hb.size
    simp only [Nat.zero_add, List.nil_append] at ho'
    have hbel : Below w.heap.size w w' := ⟨hg'.os, hg'.tape, hg'.output, Nat.le_trans hb.size hg'.size, fun k hk => (hg'.block k (Nat.lt_of_lt_of_le hk hb.size) (fun e => by have e2 : w.heap.size = k := Option.some.inj e.symm; omega)).trans (hb.block k hk)⟩
    have oe : OwnE w0 w' w.heap.size v' F vs := ⟨ho', hlo, hb0.trans (hbel.mono hb0.size), hb0.size⟩
    obtain ⟨a9, c9, e9, _⟩ := own_formE oe
    exact ⟨v', w', hr, ⟨a9, c9, e9⟩, vs, oe, hbel⟩
theorem OwnE.other {w0 w : World} {B : Nat} {v : Value} {F : List Fn3} {vs : List Value} (h : OwnE w0 w B v F vs) {b : Nat} (h1 : v.ownBlock ≠ some b) (h2 : w0.heap.size ≤ b) (i : Nat) (x : Value) : OwnE w0 (w.setCell ⟨b, i, none⟩ x) B v F vs :=
  ⟨own_keep h.row fun k hk => Below.heap_setCell _ _ _ _ (fun e => h1 (by rw [hk]; exact congrArg some e)), h.lo, ⟨h.bel.os, h.bel.tape, h.bel.output, by rw [size_setCell]; exact h.bel.size, fun q hq => (Below.heap_setCell _ _ _ _ (by show q ≠ b; omega)).trans (h.bel.block q hq)⟩, h.le⟩
end Go.Proofs.YtidjbgemnohbnaaDoor.Ck
