/- An append that a guard lets pass; two cuts of the same bytes. -/
import Derived.Test.YtejhhkhaoekkiaaDoorEnd
namespace Go.Proofs.YtejhhkhaoekkiaaDoor.Ck
open Go.RowKit

theorem wpList_appG {w : World} {ops : Array Oper} {rest : List Oper} {o : Oper} {a : Act} {Q : Exit → Act → World → Prop} (s x : Operand) (v vx : Value) (R : Value → World → Prop)
    (hrun : ∀ ty, ∃ v' w', (Builtin.append_ #[29, 29] ty #[v, vx]).run Tryd.prog w = .ok v' w' ∧ R v' w') (hw : Region.wanted o (yielded ops a.tmps) = true)
    (ho : o.op = .call { callee := .builtin .append, args := #[s, x], argTypes := #[29, 29] }) (hs : a.eval s = v) (hx : a.eval x = vx)
    (h : ∀ v' w', R v' w' → wpList Tryd.prog ops Q rest (a.put o.dst v') w') : wpList Tryd.prog ops Q (o :: rest) a w :=
  wpList_step fun _ hK => by
    rw [if_pos hw]
    obtain ⟨v', w', hr, hR⟩ := hrun o.type
    unfold Oper.wp execOp
    simp only [ho, resolve, invoke, builtin, Sem.run_bind, Sem.run_pure, Result.andThen_ok, List.map_toArray, List.map_cons, List.map_nil, hs, hx, hr]
    exact hK _ _ (h v' w' hR)

/-- append on the empty slice of one's own: a copy -/
theorem app_copyB {w : World} {ms : List Int} {vx : Value} {n : Nat} (ty : TypeId) (hn : n = ms.length) (hx : SB w vx ms) (hlen : n ≤ 1000000) :
    ∃ v' w', (Builtin.append_ #[29, 29] ty #[.slice (some ⟨w.heap.size, 0, none⟩) 0 0, vx]).run Tryd.prog (w.alloc (.cells #[] 5)) = .ok v' w' ∧
      ((∃ g cap, v' = .slice (some ⟨g, 0, none⟩) n cap ∧ OwnB w' w.heap.size g cap ms) ∧ Below w.heap.size w w') := by
  subst hn
  obtain ⟨v', w', h1, ⟨g, cap, h2, h3⟩, h4⟩ := app_tnB ty (OwnB.empty w) (hx.bel (bel_new w _)) (by simp; omega) (by simp)
  exact ⟨v', w', h1, ⟨g, cap, by rw [h2]; simp, by simpa using h3⟩, bel_tn (bel_new w _) h4 (Nat.le_refl _)⟩

end Go.Proofs.YtejhhkhaoekkiaaDoor.Ck
