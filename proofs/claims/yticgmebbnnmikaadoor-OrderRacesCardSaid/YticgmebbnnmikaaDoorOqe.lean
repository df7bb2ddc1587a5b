/- Two races compared, two events compared. No Go text is walked here. -/
import Derived.Test.YticgmebbnnmikaaDoorOw
namespace Go.Proofs.YticgmebbnnmikaaDoor.Ck
open Go.RowKit

/-- are two races the same? -/
def eqR (x y : Rc) : Bool := x.p == y.p && (x.f == y.f && (x.s == y.s && (x.fw == y.fw && x.sw == y.sw)))
theorem eqR_iff (x y : Rc) : eqR x y = true ↔ x = y := by
  obtain ⟨a, b, c, d, e⟩ := x
  obtain ⟨a', b', c', d', e'⟩ := y
  simp [eqR]
theorem eqR_self (x : Rc) : eqR x x = true := (eqR_iff x x).2 rfl
def eqEv (x y : Ev) : Bool := x.g == y.g && (x.k == y.k && (x.o == y.o && x.a == y.a))
theorem eqEv_self (x : Ev) : eqEv x x = true := by simp [eqEv]
theorem eql_rc (w : World) (a b c a' b' c' : Int) (d e d' e' : Bool) : (binOp .eql 54 (.agg #[.int .i64 a, .int .i64 b, .int .i64 c, .bool d, .bool e]) (.agg #[.int .i64 a', .int .i64 b', .int .i64 c', .bool d', .bool e'])).run Tryd.prog w = .ok (.bool (a == a' && (b == b' && (c == c' && (d == d' && e == e'))))) w := by
  have hi : ∀ (x y : Int) (w : World), (Op.equalIn 9999 3 (.int .i64 x) (.int .i64 y)).run Tryd.prog w = .ok (x == y) w := fun x y w => run_equalIn_int w 9998 3 .i64 .i64 x y Tryd.underlying3
  have hb : ∀ (x y : Bool) (w : World), (Op.equalIn 9999 4 (.bool x) (.bool y)).run Tryd.prog w = .ok (x == y) w := fun x y w => run_equalIn_bool w 9998 4 x y Tryd.underlying4
  have he : Tryd.prog.underlying 54 = some (.struct (Tryd.prog.fieldsOf 54)) := by kernel_rfl
  rw [run_eql_struct, show (10000 : Nat) = 9999 + 1 from rfl, run_equalIn_agg w 9999 54 _ _ he (by kernel_rfl)]
  have hf : (Tryd.prog.fieldsOf 54).toList.map (fun f => (f.name, f.type, f.offset)) = [("Place", 3, 0), ("First", 3, 1), ("Second", 3, 2), ("FirstW", 4, 3), ("SecondW", 4, 4)] := by kernel_rfl
  generalize (Tryd.prog.fieldsOf 54).toList = l at hf
  obtain ⟨f1, l1, rfl, h1, hf⟩ := List.map_eq_cons_iff.1 hf
  obtain ⟨f2, l2, rfl, h2, hf⟩ := List.map_eq_cons_iff.1 hf
  obtain ⟨f3, l3, rfl, h3, hf⟩ := List.map_eq_cons_iff.1 hf
  obtain ⟨f4, l4, rfl, h4, hf⟩ := List.map_eq_cons_iff.1 hf
  obtain ⟨f5, l5, rfl, h5, hf⟩ := List.map_eq_cons_iff.1 hf
  obtain rfl := List.map_eq_nil_iff.1 hf
  simp only [Prod.mk.injEq] at h1 h2 h3 h4 h5
  simp [go_sem, Op.eqFields, h1, h2, h3, h4, h5, hi, hb]
  by_cases ha : a = a' <;> by_cases hb : b = b' <;> by_cases hc : c = c' <;> by_cases hd : d = d' <;> by_cases hz : e = e' <;> simp [ha, hb, hc, hd, hz]
theorem neq_rc (w : World) (a b c a' b' c' : Int) (d e d' e' : Bool) : (binOp .neq 54 (.agg #[.int .i64 a, .int .i64 b, .int .i64 c, .bool d, .bool e]) (.agg #[.int .i64 a', .int .i64 b', .int .i64 c', .bool d', .bool e'])).run Tryd.prog w = .ok (.bool (!(a == a' && (b == b' && (c == c' && (d == d' && e == e')))))) w := by
  have hi : ∀ (x y : Int) (w : World), (Op.equalIn 9999 3 (.int .i64 x) (.int .i64 y)).run Tryd.prog w = .ok (x == y) w := fun x y w => run_equalIn_int w 9998 3 .i64 .i64 x y Tryd.underlying3
  have hb : ∀ (x y : Bool) (w : World), (Op.equalIn 9999 4 (.bool x) (.bool y)).run Tryd.prog w = .ok (x == y) w := fun x y w => run_equalIn_bool w 9998 4 x y Tryd.underlying4
  have he : Tryd.prog.underlying 54 = some (.struct (Tryd.prog.fieldsOf 54)) := by kernel_rfl
  rw [run_neq_struct, show (10000 : Nat) = 9999 + 1 from rfl, run_equalIn_agg w 9999 54 _ _ he (by kernel_rfl)]
  have hf : (Tryd.prog.fieldsOf 54).toList.map (fun f => (f.name, f.type, f.offset)) = [("Place", 3, 0), ("First", 3, 1), ("Second", 3, 2), ("FirstW", 4, 3), ("SecondW", 4, 4)] := by kernel_rfl
  generalize (Tryd.prog.fieldsOf 54).toList = l at hf
  obtain ⟨f1, l1, rfl, h1, hf⟩ := List.map_eq_cons_iff.1 hf
  obtain ⟨f2, l2, rfl, h2, hf⟩ := List.map_eq_cons_iff.1 hf
  obtain ⟨f3, l3, rfl, h3, hf⟩ := List.map_eq_cons_iff.1 hf
  obtain ⟨f4, l4, rfl, h4, hf⟩ := List.map_eq_cons_iff.1 hf
  obtain ⟨f5, l5, rfl, h5, hf⟩ := List.map_eq_cons_iff.1 hf
  obtain rfl := List.map_eq_nil_iff.1 hf
  simp only [Prod.mk.injEq] at h1 h2 h3 h4 h5
  simp [go_sem, Op.eqFields, h1, h2, h3, h4, h5, hi, hb]
  by_cases ha : a = a' <;> by_cases hb : b = b' <;> by_cases hc : c = c' <;> by_cases hd : d = d' <;> by_cases hz : e = e' <;> simp [ha, hb, hc, hd, hz]
theorem neq_ev (w : World) (a b c d a' b' c' d' : Int) : (binOp .neq 47 (.agg #[.int .i64 a, .int .i64 b, .int .i64 c, .int .i64 d]) (.agg #[.int .i64 a', .int .i64 b', .int .i64 c', .int .i64 d'])).run Tryd.prog w = .ok (.bool (!(a == a' && (b == b' && (c == c' && d == d'))))) w := by
  have hi : ∀ (x y : Int) (w : World), (Op.equalIn 9999 3 (.int .i64 x) (.int .i64 y)).run Tryd.prog w = .ok (x == y) w := fun x y w => run_equalIn_int w 9998 3 .i64 .i64 x y Tryd.underlying3
  have he : Tryd.prog.underlying 47 = some (.struct (Tryd.prog.fieldsOf 47)) := by kernel_rfl
  rw [run_neq_struct, show (10000 : Nat) = 9999 + 1 from rfl, run_equalIn_agg w 9999 47 _ _ he (by kernel_rfl)]
  have hf : (Tryd.prog.fieldsOf 47).toList.map (fun f => (f.name, f.type, f.offset)) = [("G", 3, 0), ("Kind", 3, 1), ("Obj", 3, 2), ("At", 3, 3)] := by kernel_rfl
  generalize (Tryd.prog.fieldsOf 47).toList = l at hf
  obtain ⟨f1, l1, rfl, h1, hf⟩ := List.map_eq_cons_iff.1 hf
  obtain ⟨f2, l2, rfl, h2, hf⟩ := List.map_eq_cons_iff.1 hf
  obtain ⟨f3, l3, rfl, h3, hf⟩ := List.map_eq_cons_iff.1 hf
  obtain ⟨f4, l4, rfl, h4, hf⟩ := List.map_eq_cons_iff.1 hf
  obtain rfl := List.map_eq_nil_iff.1 hf
  simp only [Prod.mk.injEq] at h1 h2 h3 h4
  simp [go_sem, Op.eqFields, h1, h2, h3, h4, hi]
  by_cases ha : a = a' <;> by_cases hb : b = b' <;> by_cases hc : c = c' <;> by_cases hd : d = d' <;> simp [ha, hb, hc, hd]
/-- a slice of races -/
def SlR (w : World) (v : Value) (l : List Rc) : Prop := ∃ a cap, v = .slice a l.length cap ∧ l.length ≤ cap ∧ cap ≤ maxLen ∧
    ∀ i, i < l.length → ∃ b off, a = some ⟨b, off, none⟩ ∧ b < w.heap.size ∧ w.cell? ⟨b, off + i * 5, none⟩ = some (.int .i64 (l.getD i ⟨0, 0, 0, false, false⟩).p) ∧ w.cell? ⟨b, off + i * 5 + 1, none⟩ = some (.int .i64 (l.getD i ⟨0, 0, 0, false, false⟩).f) ∧ w.cell? ⟨b, off + i * 5 + 2, none⟩ = some (.int .i64 (l.getD i ⟨0, 0, 0, false, false⟩).s) ∧ w.cell? ⟨b, off + i * 5 + 3, none⟩ = some (.bool (l.getD i ⟨0, 0, 0, false, false⟩).fw) ∧ w.cell? ⟨b, off + i * 5 + 4, none⟩ = some (.bool (l.getD i ⟨0, 0, 0, false, false⟩).sw)
theorem SlR.bel {w w' : World} {v : Value} {l : List Rc} (h : SlR w v l) (hb : Below w.heap.size w w') : SlR w' v l := by
  obtain ⟨a, cap, hv, h1, h2, h3⟩ := h
  refine ⟨a, cap, hv, h1, h2, fun i hi => ?_⟩
  obtain ⟨b, off, ha, hlt, hc, hd, he, hf, hg⟩ := h3 i hi
  exact ⟨b, off, ha, Nat.lt_of_lt_of_le hlt hb.size, (hb.cell (p := ⟨b, _, none⟩) hlt).trans hc, (hb.cell (p := ⟨b, _, none⟩) hlt).trans hd, (hb.cell (p := ⟨b, _, none⟩) hlt).trans he, (hb.cell (p := ⟨b, _, none⟩) hlt).trans hf, (hb.cell (p := ⟨b, _, none⟩) hlt).trans hg⟩
theorem SlR.form {w : World} {v : Value} {l : List Rc} (h : SlR w v l) : ∃ a c, v = .slice a l.length c ∧ l.length ≤ c ∧ c ≤ maxLen := by
  obtain ⟨a, c, e, h1, h2, _⟩ := h
  exact ⟨a, c, e, h1, h2⟩
theorem SlR.at {w : World} {a : Option Addr} {n c : Nat} {l : List Rc} (h : SlR w (.slice a n c) l) (i : Nat) (hi : i < l.length) : ∃ b off, a = some ⟨b, off, none⟩ ∧ b < w.heap.size ∧ w.cell? ⟨b, off + i * 5, none⟩ = some (.int .i64 (l.getD i ⟨0, 0, 0, false, false⟩).p) ∧ w.cell? ⟨b, off + i * 5 + 1, none⟩ = some (.int .i64 (l.getD i ⟨0, 0, 0, false, false⟩).f) ∧ w.cell? ⟨b, off + i * 5 + 2, none⟩ = some (.int .i64 (l.getD i ⟨0, 0, 0, false, false⟩).s) ∧ w.cell? ⟨b, off + i * 5 + 3, none⟩ = some (.bool (l.getD i ⟨0, 0, 0, false, false⟩).fw) ∧ w.cell? ⟨b, off + i * 5 + 4, none⟩ = some (.bool (l.getD i ⟨0, 0, 0, false, false⟩).sw) := by
  obtain ⟨a', c', e, _, _, h3⟩ := h
  injection e with e1 _ _
  obtain ⟨b, off, ha, r⟩ := h3 i hi
  exact ⟨b, off, by rw [e1]; exact ha, r⟩
theorem flat_rc : ∀ (ps : List Rc) (i j : Nat), i < ps.length → j < 5 → (ps.flatMap rcC)[i * 5 + j]? = (rcC (ps.getD i ⟨0, 0, 0, false, false⟩))[j]?
  | [], _, _, h, _ => absurd h (Nat.not_lt_zero _)
  | p :: ps, 0, j, _, hj => by
    rw [List.flatMap_cons, List.getElem?_append_left (by rw [show (rcC p).length = 5 from rfl]; omega), Nat.zero_mul, Nat.zero_add]
    rfl
  | p :: ps, i + 1, j, h, hj => by
    rw [List.flatMap_cons, List.getElem?_append_right (by rw [show (rcC p).length = 5 from rfl]; omega), show (i + 1) * 5 + j - (rcC p).length = i * 5 + j by rw [show (rcC p).length = 5 from rfl]; omega]
    exact flat_rc ps i j (by simpa using h) hj
theorem SlR.own {w : World} {B : Nat} {v : Value} {l : List Rc} (h : w.ownsRow B 54 5 v l.length (l.flatMap rcC)) : SlR w v l := by
  obtain ⟨a, c, rfl, h1, h2⟩ := own_slice h
  refine ⟨a, c, rfl, h1, h2, fun i hi => ?_⟩
  obtain ⟨b, c', e, _⟩ := own_some h (by omega)
  injection e with e _ _
  subst e
  have q := fun j hj u hu => (own_cell h (i * 5 + j) u ((flat_rc l i j hi hj).trans hu)).1
  exact ⟨b, 0, rfl, (own_type h (k := b) rfl).2.1, by have := q 0 (by omega) _ rfl; simpa using this, by have := q 1 (by omega) _ rfl; simpa [Nat.add_assoc] using this, by have := q 2 (by omega) _ rfl; simpa [Nat.add_assoc] using this, by have := q 3 (by omega) _ rfl; simpa [Nat.add_assoc] using this, by have := q 4 (by omega) _ rfl; simpa [Nat.add_assoc] using this⟩
end Go.Proofs.YticgmebbnnmikaaDoor.Ck
