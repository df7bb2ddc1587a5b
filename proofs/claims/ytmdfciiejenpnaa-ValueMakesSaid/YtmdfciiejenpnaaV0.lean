/- Values (api.Value) in memory; what Go's library tells of a float's bits. -/
import Derived.Test.YtmdfciiejenpnaaChecked
import Derived.Test.YtmdfciiejenpnaaFm
import Derived.WalkKit
import Derived.WalkLawsBesides
import Derived.Outline
import Derived.BigQuiet
import Derived.Deep.QuietTactic
import Derived.WalkSmall
import Derived.Deep.OwnRows
import Derived.LaidEqlPtr
namespace Go.Proofs.Ytmdfciiejenpnaa.Ck
open Go.RowKit

theorem bel_trans {w w1 w2 : World} (h : Below w.heap.size w w1) (h2 : Below w1.heap.size w1 w2) : Below w.heap.size w w2 := h.trans (h2.mono h.size)
theorem bel_al {w w1 : World} (h : Below w.heap.size w w1) (o : Obj) : Below w.heap.size w (w1.alloc o) := h.alloc h.size o
theorem bel_new (w : World) (o : Obj) : Below w.heap.size w (w.alloc o) := (Below.refl _ _).alloc (Nat.le_refl _) o

theorem hide {p : Prop} (h : p) : Hid p := h
theorem bel_drawn {n : Nat} {w w' : World} (h : Below n w w') : Below n w w'.drew := ⟨h.os, h.tape, h.output, h.size, h.block⟩
theorem mixed : Try.prog.follows .mixedOrders = true := by kernel_rfl
/-- a value -/
def vv (t n b : Int) : Value := .agg #[.int .i64 t, .int .i64 n, .int .u64 b]
theorem vf0 (a b c : Value) (w : World) : (Instr.field 24 (.agg #[a, b, c]) 0).run Try.prog w = .ok a w := by kernel_rfl
theorem vf1 (a b c : Value) (w : World) : (Instr.field 24 (.agg #[a, b, c]) 1).run Try.prog w = .ok b w := by kernel_rfl
theorem vf2 (a b c : Value) (w : World) : (Instr.field 24 (.agg #[a, b, c]) 2).run Try.prog w = .ok c w := by kernel_rfl
theorem callBits (b : Nat) (w : World) : (callFunc 23 #[.float .f64 b]).run Try.prog w = .ok (.value (.int .u64 b)) w := by kernel_rfl
theorem callFrom (n : Int) (w : World) : (callFunc 14 #[.int .u64 n]).run Try.prog w = .ok (.value (.float .f64 n.toNat)) w := by kernel_rfl
theorem eqIn_vv (w : World) (a b c a' b' c' : Int) : (Op.equalIn 10000 24 (.agg #[.int .i64 a, .int .i64 b, .int .u64 c]) (.agg #[.int .i64 a', .int .i64 b', .int .u64 c'])).run Try.prog w = .ok (a == a' && (b == b' && c == c')) w := by
  have hi : ∀ (x y : Int) (w : World), (Op.equalIn 9999 3 (.int .i64 x) (.int .i64 y)).run Try.prog w = .ok (x == y) w := fun x y w => run_equalIn_int w 9998 3 .i64 .i64 x y Try.underlying3
  have hu : ∀ (x y : Int) (w : World), (Op.equalIn 9999 22 (.int .u64 x) (.int .u64 y)).run Try.prog w = .ok (x == y) w := fun x y w => run_equalIn_int w 9998 22 .u64 .u64 x y Try.underlying22
  have e : Try.prog.underlying 24 = some (.struct (Try.prog.fieldsOf 24)) := by kernel_rfl
  rw [show (10000 : Nat) = 9999 + 1 from rfl, run_equalIn_agg w 9999 24 _ _ e (by kernel_rfl)]
  have hf : (Try.prog.fieldsOf 24).toList.map (fun f => (f.name, f.type, f.offset)) = [("Type", 3, 0), ("N", 3, 1), ("Bits", 22, 2)] := by kernel_rfl
  generalize (Try.prog.fieldsOf 24).toList = l at hf
  obtain ⟨f1, l1, rfl, h1, hf⟩ := List.map_eq_cons_iff.1 hf
  obtain ⟨f2, l2, rfl, h2, hf⟩ := List.map_eq_cons_iff.1 hf
  obtain ⟨f3, l3, rfl, h3, hf⟩ := List.map_eq_cons_iff.1 hf
  obtain rfl := List.map_eq_nil_iff.1 hf
  simp only [Prod.mk.injEq] at h1 h2 h3
  simp [go_sem, Op.eqFields, h1, h2, h3, hi, hu]
  by_cases ha : a = a' <;> by_cases hb : b = b' <;> by_cases hc : c = c' <;> simp [ha, hb, hc]

theorem eq_vv (w : World) (a b c a' b' c' : Int) : (binOp .eql 24 (.agg #[.int .i64 a, .int .i64 b, .int .u64 c]) (.agg #[.int .i64 a', .int .i64 b', .int .u64 c'])).run Try.prog w = .ok (.bool (a == a' && (b == b' && c == c'))) w := by
  rw [run_eql_struct, eqIn_vv]
  rfl
theorem neq_vv (w : World) (a b c a' b' c' : Int) : (binOp .neq 24 (.agg #[.int .i64 a, .int .i64 b, .int .u64 c]) (.agg #[.int .i64 a', .int .i64 b', .int .u64 c'])).run Try.prog w = .ok (.bool (!(a == a' && (b == b' && c == c')))) w := by
  rw [run_neq_struct, eqIn_vv]
  rfl

end Go.Proofs.Ytmdfciiejenpnaa.Ck
