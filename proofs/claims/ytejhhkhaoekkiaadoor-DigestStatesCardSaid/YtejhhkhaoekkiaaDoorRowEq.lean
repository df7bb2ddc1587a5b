/- Two arrays of 32 bytes that are the same are told equal. -/
import Derived.Test.YtejhhkhaoekkiaaDoorGrd
import Derived.Laws.StructEq
namespace Go.Proofs.YtejhhkhaoekkiaaDoor.Ck
open Go.RowKit

theorem sizeB (w : World) : (sizeOf 5).run Tryd.prog w = .ok 1 w := by kernel_rfl
theorem aggB (w : World) : (isAgg 5).run Tryd.prog w = .ok false w := by kernel_rfl
theorem partB (cs : List Int) (i : Nat) (h : i < cs.length) (w : World) : (part 5 (bv cs).toArray (i * 1)).run Tryd.prog w = .ok (.int .u8 (cs.getD i 0)) w := by
  unfold part
  have hc : (bv cs).toArray[i * 1]? = some (.int .u8 (cs.getD i 0)) := by
    rw [Nat.mul_one, List.getElem?_toArray]
    exact bv_at cs i h
  simp only [Sem.run_bind, aggB, Result.andThen_ok, Bool.false_eq_true, if_false, hc, Sem.run_pure]
theorem row_equal (cs : List Int) (h : cs.length = 32) (d : Nat) (w : World) : (Op.equalIn (d + 2) 37 (.agg (bv cs).toArray) (.agg (bv cs).toArray)).run Tryd.prog w = .ok true w := by
  rw [Op.equalIn]
  simp only [Sem.run_bind, run_underlying Tryd.underlying37, Result.andThen_ok, sizeB]
  rw [Std.Legacy.Range.forIn_eq_forIn_range']
  have key : ∀ l : List Nat, (∀ i ∈ l, i < 32) → (forIn l ((none, ()) : Option Bool × Unit) (fun i __s => do
            let x ← part 5 (bv cs).toArray (i * 1)
            let y ← part 5 (bv cs).toArray (i * 1)
            let z ← Op.equalIn (d + 1) 5 x y
            if (!z) = true then pure (ForInStep.done (some false, ())) else pure (ForInStep.yield (none, ())))).run Tryd.prog w = .ok (none, ()) w := by
    intro l
    induction l with
    | nil => intro _; simp [Sem.run_pure]
    | cons i l ih =>
      intro hl
      have hi := hl i (by simp)
      simp only [List.forIn_cons, Sem.run_bind, partB cs i (by omega), Result.andThen_ok, run_equalIn_int w d 5 .u8 .u8 _ _ Tryd.underlying5, beq_self_eq_true, Bool.not_true, Bool.false_eq_true, if_false, Sem.run_pure]
      exact ih (fun j hj => hl j (by simp [hj]))
  have hk := key (List.range' 0 32 1) (fun i hi => by simp at hi; exact hi)
  have e : List.range' [:32].start [:32].size [:32].step = List.range' 0 32 1 := rfl
  rw [e, hk]
  rfl

theorem wpList_rowEq {w : World} {ops : Array Oper} {rest : List Oper} {o : Oper} {a : Act} {Q : Exit → Act → World → Prop} (x y : Operand) (cs : List Int) (hl : cs.length = 32) (hw : Region.wanted o (yielded ops a.tmps) = true)
    (ho : o.op = .binOp .eql 37 x y 37) (hx : a.eval x = .agg (bv cs).toArray) (hy : a.eval y = .agg (bv cs).toArray)
    (h : wpList Tryd.prog ops Q rest (a.put o.dst (.bool true)) w) : wpList Tryd.prog ops Q (o :: rest) a w :=
  wpList_step fun _ hK => by
    rw [if_pos hw]
    have hr : (binOp .eql 37 (.agg (bv cs).toArray) (.agg (bv cs).toArray)).run Tryd.prog w = .ok (.bool true) w := by
      rw [run_eql_struct, row_equal cs hl 9998 w]
      rfl
    have hg : (eqGuard .eql 37 x y (.agg (bv cs).toArray) (.agg (bv cs).toArray)).run Tryd.prog w = .ok () w := by
      have hq : Tryd.prog.eqGuardType Tryd.prog.depth 37 = false := by kernel_rfl
      unfold eqGuard
      simp [Sem.run_bind, run_program, hq]
    unfold Oper.wp execOp
    simp only [ho, hx, hy, Sem.run_bind, hg, hr, Sem.run_pure, Result.andThen_ok]
    exact hK _ _ h

end Go.Proofs.YtejhhkhaoekkiaaDoor.Ck
