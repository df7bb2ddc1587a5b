/- When codes are the same; no Go text is walked here (but comparing structs). -/
import Derived.Test.YtlheflkdapckbaaDoorCb
import Derived.Deep.QuietTactic
namespace Go.Proofs.YtlheflkdapckbaaDoor.Ck
open Go.RowKit

def sameL {α : Type} (f : α → α → Bool) : List α → List α → Bool
  | [], [] => true
  | x :: l, y :: m => f x y && sameL f l m
  | _, _ => false
theorem sameL_not {α : Type} {f : α → α → Bool} (d : α) : ∀ (l m : List α) (k : Nat), k < l.length → k < m.length → f (l.getD k d) (m.getD k d) = false → sameL f l m = false
  | [], _, _, h, _, _ => absurd h (Nat.not_lt_zero _)
  | _ :: _, [], _, _, h, _ => absurd h (Nat.not_lt_zero _)
  | x :: l, y :: m, 0, _, _, e => by
    have e' : f x y = false := e
    simp [sameL, e']
  | x :: l, y :: m, k + 1, h, h', e => by simp [sameL, sameL_not d l m k (by simpa using h) (by simpa using h') e]
theorem sameL_all {α : Type} {f : α → α → Bool} (d : α) : ∀ (l m : List α), l.length = m.length → (∀ j, j < l.length → f (l.getD j d) (m.getD j d) = true) → sameL f l m = true
  | [], [], _, _ => rfl
  | [], _ :: _, h, _ => by simp at h
  | _ :: _, [], h, _ => by simp at h
  | x :: l, y :: m, h, ha => by
    simp only [sameL, Bool.and_eq_true]
    exact ⟨ha 0 (by simp), sameL_all d l m (by simpa using h) (fun j hj => ha (j + 1) (by simpa using hj))⟩
theorem sameL_len {α : Type} {f : α → α → Bool} : ∀ (l m : List α), l.length ≠ m.length → sameL f l m = false
  | [], [], h => absurd rfl h
  | [], _ :: _, _ => rfl
  | _ :: _, [], _ => rfl
  | x :: l, y :: m, h => by simp [sameL, sameL_len l m (by simpa using h)]
theorem sameL_refl {α : Type} {f : α → α → Bool} (h : ∀ x, f x x = true) : ∀ l : List α, sameL f l l = true
  | [] => rfl
  | x :: l => by simp [sameL, h x, sameL_refl h l]
def eqN (x y : Int) : Bool := x == y
def eqC (x y : Int × Int) : Bool := x.1 == y.1 && x.2 == y.2
def eqI (x y : In5) : Bool := x.op == y.op && (x.a == y.a && (x.b == y.b && (x.bits == y.bits && x.at_ == y.at_)))
def eqF (x y : Fn3) : Bool := x.st == y.st && (x.pa == y.pa && sameL eqN x.lo y.lo)
def sameCd (a b : Cd) : Bool := a.M == b.M && (a.A == b.A && (a.mn == b.mn && (sameL eqN a.P b.P && (sameL eqC a.C b.C && (sameL eqF a.F b.F && sameL eqI a.B b.B)))))
theorem eqN_refl (x : Int) : eqN x x = true := by simp [eqN]
theorem eqF_refl (x : Fn3) : eqF x x = true := by simp [eqF, sameL_refl eqN_refl]
theorem same_self (a : Cd) : sameCd a a = true := by
  simp only [sameCd, sameL_refl eqN_refl, sameL_refl (f := eqC) (fun x => by simp [eqC]), sameL_refl eqF_refl, sameL_refl (f := eqI) (fun x => by simp [eqI])]
  simp
/-- what is answered by a call that only draws -/
def Dr (w : World) (v : Value) (e : Ending) (w' : World) : Prop := e = .returned v ∧ ∃ k, w' = w.drewN k
theorem drew_bel (w : World) (k : Nat) : Below w.heap.size w (w.drewN k) := below_drewN (Below.refl _ _) k
theorem Dr.vb {w : World} {v : Value} {e : Ending} {w' : World} (h : Dr w v e w') : Vb w v e w' := by
  obtain ⟨h1, k, rfl⟩ := h
  exact ⟨h1, drew_bel w k⟩
theorem Dr.mk {w : World} {v v' : Value} {k : Nat} (h : v = v') : Dr w v' (.returned v) (w.drewN k) := ⟨by rw [h], k, rfl⟩
theorem drew_cell (w : World) (k : Nat) (a : Addr) : (w.drewN k).cell? a = w.cell? a := by simp [World.cell?]
theorem drew_at {w wr : World} {q : Nat} {a : Addr} {u : Value} (hq : wr = w.drewN q) (h : w.cell? a = some u) : wr.cell? a = some u := by rw [hq, drew_cell]; exact h
theorem drew_more {w wr : World} {q : Nat} (hq : wr = w.drewN q) (k : Nat) : wr.drewN k = w.drewN (q + k) := by rw [hq, World.drewN_drewN]
theorem drew_lt {w wr : World} {q b : Nat} (hq : wr = w.drewN q) (h : b < w.heap.size) : b < wr.heap.size := by rw [hq]; simpa using h
theorem eqIn_cc (w : World) (a b a' b' : Int) : (Op.equalIn 10000 67 (.agg #[.int .i64 a, .int .i64 b]) (.agg #[.int .i64 a', .int .i64 b'])).run Tryd.prog w = .ok (a == a' && b == b') w := by
  have hi : ∀ (x y : Int) (w : World), (Op.equalIn 9999 3 (.int .i64 x) (.int .i64 y)).run Tryd.prog w = .ok (x == y) w := fun x y w => run_equalIn_int w 9998 3 .i64 .i64 x y Tryd.underlying3
  have e : Tryd.prog.underlying 67 = some (.struct (Tryd.prog.fieldsOf 67)) := by kernel_rfl
  rw [show (10000 : Nat) = 9999 + 1 from rfl, run_equalIn_agg w 9999 67 _ _ e (by kernel_rfl)]
  have hf : (Tryd.prog.fieldsOf 67).toList.map (fun f => (f.name, f.type, f.offset)) = [("Type", 3, 0), ("Room", 3, 1)] := by kernel_rfl
  generalize (Tryd.prog.fieldsOf 67).toList = l at hf
  obtain ⟨f1, l1, rfl, h1, hf⟩ := List.map_eq_cons_iff.1 hf
  obtain ⟨f2, l2, rfl, h2, hf⟩ := List.map_eq_cons_iff.1 hf
  obtain rfl := List.map_eq_nil_iff.1 hf
  simp only [Prod.mk.injEq] at h1 h2
  simp [go_sem, Op.eqFields, h1, h2, hi]
  by_cases ha : a = a' <;> by_cases hb : b = b' <;> simp [ha, hb]
theorem neq_cc (w : World) (x y : Int × Int) : (binOp .neq 67 (.agg #[.int .i64 x.1, .int .i64 x.2]) (.agg #[.int .i64 y.1, .int .i64 y.2])).run Tryd.prog w = .ok (.bool (!(eqC x y))) w := by
  rw [run_neq_struct, eqIn_cc]
  rfl
theorem eqIn_ii (w : World) (x y : In5) : (Op.equalIn 10000 44 (.agg #[.int .i64 x.op, .int .i64 x.a, .int .i64 x.b, .int .u64 x.bits, .int .i64 x.at_]) (.agg #[.int .i64 y.op, .int .i64 y.a, .int .i64 y.b, .int .u64 y.bits, .int .i64 y.at_])).run Tryd.prog w = .ok (eqI x y) w := by
  have hi : ∀ (x y : Int) (w : World), (Op.equalIn 9999 3 (.int .i64 x) (.int .i64 y)).run Tryd.prog w = .ok (x == y) w := fun x y w => run_equalIn_int w 9998 3 .i64 .i64 x y Tryd.underlying3
  have hu : ∀ (x y : Int) (w : World), (Op.equalIn 9999 42 (.int .u64 x) (.int .u64 y)).run Tryd.prog w = .ok (x == y) w := fun x y w => run_equalIn_int w 9998 42 .u64 .u64 x y Tryd.underlying42
  have e : Tryd.prog.underlying 44 = some (.struct (Tryd.prog.fieldsOf 44)) := by kernel_rfl
  rw [show (10000 : Nat) = 9999 + 1 from rfl, run_equalIn_agg w 9999 44 _ _ e (by kernel_rfl)]
  have hf : (Tryd.prog.fieldsOf 44).toList.map (fun f => (f.name, f.type, f.offset)) = [("Op", 3, 0), ("A", 3, 1), ("B", 3, 2), ("Bits", 42, 3), ("At", 3, 4)] := by kernel_rfl
  generalize (Tryd.prog.fieldsOf 44).toList = l at hf
  obtain ⟨f1, l1, rfl, h1, hf⟩ := List.map_eq_cons_iff.1 hf
  obtain ⟨f2, l2, rfl, h2, hf⟩ := List.map_eq_cons_iff.1 hf
  obtain ⟨f3, l3, rfl, h3, hf⟩ := List.map_eq_cons_iff.1 hf
  obtain ⟨f4, l4, rfl, h4, hf⟩ := List.map_eq_cons_iff.1 hf
  obtain ⟨f5, l5, rfl, h5, hf⟩ := List.map_eq_cons_iff.1 hf
  obtain rfl := List.map_eq_nil_iff.1 hf
  simp only [Prod.mk.injEq] at h1 h2 h3 h4 h5
  unfold eqI
  simp [go_sem, Op.eqFields, h1, h2, h3, h4, h5, hi, hu]
  by_cases h1 : x.op = y.op <;> by_cases h2 : x.a = y.a <;> by_cases h3 : x.b = y.b <;> by_cases h4 : x.bits = y.bits <;> by_cases h5 : x.at_ = y.at_ <;> simp [h1, h2, h3, h4, h5]
theorem neq_ii (w : World) (x y : In5) : (binOp .neq 44 (.agg #[.int .i64 x.op, .int .i64 x.a, .int .i64 x.b, .int .u64 x.bits, .int .i64 x.at_]) (.agg #[.int .i64 y.op, .int .i64 y.a, .int .i64 y.b, .int .u64 y.bits, .int .i64 y.at_])).run Tryd.prog w = .ok (.bool (!(eqI x y))) w := by
  rw [run_neq_struct, eqIn_ii]
  rfl
end Go.Proofs.YtlheflkdapckbaaDoor.Ck
