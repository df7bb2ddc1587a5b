/- Steps in a region that draws its order, written short (as in proofread's Ph); no Go text is walked here. -/
import Derived.Test.YticgmebbnnmikaaDoorHold
import Derived.Test.YticgmebbnnmikaaDoorOa
import Derived.Deep.Cut
import Derived.Deep.QuietTactic
namespace Go.Proofs.YticgmebbnnmikaaDoor.Ck
open Go.RowKit

theorem SA : (∀ {α : Type} (a : List α) (i : Nat) (h : i < a.toArray.size), a.toArray[i] = a[i]'(by simpa using h)) ∧ (∀ {α : Type} (a : α) (l : List α) (h : 0 < (a :: l).length), (a :: l)[0] = a) ∧ (∀ {α : Type} (a : α) (l : List α) (i : Nat) (h : i + 1 < (a :: l).length), (a :: l)[i + 1] = l[i]'(Nat.lt_of_succ_lt_succ h)) ∧ (∀ {α : Type} (l : List α) (i : Nat) (a : α), l.toArray.setIfInBounds i a = (l.set i a).toArray) ∧ (∀ {α : Type} (l : List α) (x a : α), (a :: l).set 0 x = x :: l) ∧ (∀ {α : Type} (l : List α) (i : Nat) (x a : α), (a :: l).set (i + 1) x = a :: l.set i x) :=
  ⟨fun _ _ _ => List.getElem_toArray _, fun _ _ _ => rfl, fun _ _ _ _ => rfl, fun _ _ _ => List.setIfInBounds_toArray _ _ _, fun _ _ _ => rfl, fun _ _ _ _ => rfl⟩
section
variable {P : Program} {md : Region.Mode} {ops : Array Oper} {Q : Exit → Act → World → Prop} {S : World → Prop} {M : Nat → Bool} {oi : Oper} {v : Value} {f : Nat} {L : Array Bool} {a : Act} {w : World}
/-- a value that any world gives -/
theorem Tm (i : Nat) (h : wpT P md ops Q S M f (L.setIfInBounds i true) (a.put oi.dst v) w) (hi : ops[i]? = some oi := by rfl) (hy : ∀ w, True → (execOp a.eval oi).run P w = .ok (.value v) w := by (intro w _; go_simp <;> with_reducible rfl)) (hw : Region.wanted oi (yielded ops a.tmps) = true := by rfl) (hs : Region.noSelect ops = true := by kernel_rfl) (hf : Region.free md ops L i = true := by kernel_rfl) (hr : (Region.ready md ops L).contains i = true := by kernel_rfl) (hQ : ∀ c a w, Q (.panic c) (a.put oi.dst v) w → Q (.panic c) a w := by exact fun _ _ _ h => h) : wpT P md ops Q S M (f + 1) L a w := T_move hi hs hf hr hQ (Or.inl ⟨hw, hy⟩) h
/-- a load that S tells -/
theorem Tl (i : Nat) (hy : ∀ w, S w → (execOp a.eval oi).run P w = .ok (.value v) w) (hS : S w) (h : wpT P md ops Q S M f (L.setIfInBounds i true) (a.put oi.dst v) w) (hi : ops[i]? = some oi := by rfl) (hw : Region.wanted oi (yielded ops a.tmps) = true := by rfl) (hs : Region.noSelect ops = true := by kernel_rfl) (hf : Region.free md ops L i = true := by kernel_rfl) (hr : (Region.ready md ops L).contains i = true := by kernel_rfl) (hN : waitsB md ops M i = true := by kernel_rfl) (hQ : ∀ c a w, Q (.panic c) (a.put oi.dst v) w → Q (.panic c) a w := by exact fun _ _ _ h => h) : wpT P md ops Q S M (f + 1) L a w := T_take hi hs hf hr hN hQ (Or.inl ⟨hw, hy⟩) hS h
/-- the one that is ready -/
theorem Tr (i : Nat) (h : ∀ K' : Act → World → Prop, Shut (∀ a w', (M i = true → S w') → ((M i = true → S w') → wpT P md ops Q S M f (L.setIfInBounds i true) a w') → K' a w') → if Region.wanted oi (yielded ops a.tmps) = true then Oper.wp P oi a w K' Q else K' (a.put oi.dst undef) w) (hr : Region.ready md ops L = [i] := by kernel_rfl) (ho : ops[i]? = some oi := by rfl) : wpT P md ops Q S M (f + 1) L a w := T_ready hr (by simp) (AllReadyT.cons ho h AllReadyT.nil)
end
end Go.Proofs.YticgmebbnnmikaaDoor.Ck
