/- A region that draws its order: loads are taken first though the region's end stores where they read; no Go text is walked here. (After the library's wpAnyH: the condition S is kept by the operations of M alone; every other one waits for the load by an edge of its own.) -/
import Derived.Deep.RegionHeld
import Derived.Test.YticgmebbnnmikaaDoorBase
namespace Go.Proofs.YticgmebbnnmikaaDoor.Ck
open Go.RowKit

/-- every order; S is kept by each operation of M -/
def wpT (P : Program) (md : Region.Mode) (ops : Array Oper) (Q : Exit → Act → World → Prop) (S : World → Prop) (M : Nat → Bool) : Nat → Array Bool → Act → World → Prop
  | 0, L, a, w => Region.ready md ops L = [] ∧ Q .normal a w
  | f + 1, L, a, w => (Region.ready md ops L = [] → Q .normal a w) ∧ ∀ i, i ∈ Region.ready md ops L → wpOp P ops Q i (fun a' w' => (M i = true → S w → S w') ∧ wpT P md ops Q S M f (L.setIfInBounds i true) a' w') a w
def waitsB (md : Region.Mode) (ops : Array Oper) (M : Nat → Bool) (i : Nat) : Bool := (List.range ops.size).all fun j => M j || match ops[j]? with
  | some o => o.after.toList.any fun e => Region.binds md e && e.on == i
  | none => true
section
variable {P : Program} {ops : Array Oper} {Q : Exit → Act → World → Prop} {md : Region.Mode} {S S' : World → Prop} {M : Nat → Bool}
theorem any_of_T : ∀ (f : Nat) (L : Array Bool) (a : Act) (w : World), wpT P md ops Q S M f L a w → wpAny P md ops Q f L a w := by
  intro f
  induction f with
  | zero => exact fun _ _ _ h => h
  | succ f ih => exact fun L a w h => ⟨h.1, fun i hi => wpOp_mono (fun a' w' q => ih _ a' w' q.2) (h.2 i hi)⟩
/-- what is ready waits for nothing that has not come up -/
theorem ready_edge {i j : Nat} {oj : Oper} {L : Array Bool} (hi : i ∈ Region.ready md ops L) (hj : j ∈ Region.ready md ops L) (ho : ops[j]? = some oj) : ∀ e ∈ oj.after, Region.binds md e = true → e.on ≠ i := fun e he hb heq => by
  obtain ⟨_, o, ho', hall⟩ := mem_ready.1 hj
  rw [ho] at ho'
  cases ho'
  have h1 := hall e he hb
  have h0 := (mem_ready.1 hi).1
  rw [heq] at h1
  simp only [Array.getD_eq_getD_getElem?] at h0 h1
  cases hL : L[i]? with
  | none => rw [hL] at h1; cases h1
  | some b => rw [hL] at h0 h1; simp at h0 h1; rw [h0] at h1; cases h1
theorem waits_spec {i j : Nat} {oj : Oper} (h : waitsB md ops M i = true) (ho : ops[j]? = some oj) (hn : ∀ e ∈ oj.after, Region.binds md e = true → e.on ≠ i) : M j = true := by
  have hj : j < ops.size := (Array.getElem?_eq_some_iff.1 ho).1
  have h1 := List.all_eq_true.1 h j (List.mem_range.2 hj)
  rw [ho] at h1
  simp only [Bool.or_eq_true, List.any_eq_true, Bool.and_eq_true, beq_iff_eq] at h1
  rcases h1 with h1 | ⟨e, he, hb, heq⟩
  · exact h1
  · exact absurd heq (hn e (by simpa using he) hb)
theorem T_first {i : Nat} {oi : Oper} {v : Value} (hi : ops[i]? = some oi) (hsel : ∀ (j : Nat) (o : Oper) cs b, ops[j]? = some o → o.op ≠ .select cs b) (hQ : ∀ c a w, Q (.panic c) (a.put oi.dst v) w → Q (.panic c) a w)
    (hS : ∀ (j : Nat) (oj : Oper), ops[j]? = some oj → (∀ e ∈ oj.after, Region.binds md e = true → e.on ≠ i) → ∀ w w', S' w → (M j = true → S w → S w') → S' w') :
    ∀ (f : Nat) (L : Array Bool) (a : Act) (w : World), (∀ j oj, ops[j]? = some oj → j ≠ i → L.getD j true = false → (∀ e ∈ oj.after, Region.binds md e = true → e.on ≠ i) → oi.apart ops oj = true) →
      i ∈ Region.ready md ops L → YieldsIf P ops S' oi v a → S' w → wpT P md ops Q S M f (L.setIfInBounds i true) (a.put oi.dst v) w → wpT P md ops Q S M (f + 1) L a w := by
  intro f
  induction f with
  | zero =>
    intro L a w _ hr hy hw H
    refine ⟨fun h0 => (by rw [h0] at hr; cases hr), fun j hj => ?_⟩
    by_cases hne : j = i
    · subst hne
      exact hy.wpOp hi hw ⟨fun _ h => h, H⟩
    · have hc := ready_mono hj hne
      rw [H.1] at hc
      cases hc
  | succ f ih =>
    intro L a w hfr hr hy hw H
    refine ⟨fun h0 => (by rw [h0] at hr; cases hr), fun j hj => ?_⟩
    by_cases hne : j = i
    · subst hne
      exact hy.wpOp hi hw ⟨fun _ h => h, H⟩
    · obtain ⟨hun, oj, hoj, _⟩ := mem_ready.1 hj
      have hed := ready_edge hr hj hoj
      refine wpOp_mono (fun a' w' q => ?_) (wpOp_putIf hoj (hfr j oj hoj hne hun hed) (fun cs b => hsel i oi cs b hi) (fun cs b => hsel j oj cs b hoj) hQ hy (H.2 j (ready_mono hj hne)))
      refine ⟨q.2.1, ih _ a' w' (fun k ok hk hki hL he => ?_) (ready_mono hr (Ne.symm hne)) q.1 (hS j oj hoj hed w w' hw q.2.1) ?_⟩
      · refine hfr k ok hk hki ?_ he
        by_cases hjk : j = k
        · subst hjk
          exact hun
        · rw [getD_set_ne true hjk] at hL
          exact hL
      · rw [Array.setIfInBounds_comm _ _ hne]
        exact q.2.2
/-- a load that all later operations wait for -/
theorem T_take {i : Nat} {oi : Oper} {v : Value} {f : Nat} {L : Array Bool} {a : Act} {w : World} (hi : ops[i]? = some oi) (hs : Region.noSelect ops = true) (hf : Region.free md ops L i = true) (hr : (Region.ready md ops L).contains i = true) (hN : waitsB md ops M i = true)
    (hQ : ∀ c a w, Q (.panic c) (a.put oi.dst v) w → Q (.panic c) a w) (hy : YieldsIf P ops S oi v a) (hS : S w) (h : wpT P md ops Q S M f (L.setIfInBounds i true) (a.put oi.dst v) w) : wpT P md ops Q S M (f + 1) L a w :=
  T_first hi (Region.noSelect_spec hs) hQ (fun j oj ho hn w w' h1 h2 => h2 (waits_spec hN ho hn) h1) f L a w (Region.free_spec hi hf) (by simpa using hr) hy hS h
/-- what yields its value in whatever world -/
theorem T_move {i : Nat} {oi : Oper} {v : Value} {f : Nat} {L : Array Bool} {a : Act} {w : World} (hi : ops[i]? = some oi) (hs : Region.noSelect ops = true) (hf : Region.free md ops L i = true) (hr : (Region.ready md ops L).contains i = true)
    (hQ : ∀ c a w, Q (.panic c) (a.put oi.dst v) w → Q (.panic c) a w) (hy : YieldsIf P ops (fun _ => True) oi v a) (h : wpT P md ops Q S M f (L.setIfInBounds i true) (a.put oi.dst v) w) : wpT P md ops Q S M (f + 1) L a w :=
  T_first (S' := fun _ => True) hi (Region.noSelect_spec hs) hQ (fun _ _ _ _ _ _ _ _ => trivial) f L a w (Region.free_spec hi hf) (by simpa using hr) hy trivial h
def AllReadyT (P : Program) (md : Region.Mode) (ops : Array Oper) (Q : Exit → Act → World → Prop) (S : World → Prop) (M : Nat → Bool) (f : Nat) (L : Array Bool) (a : Act) (w : World) (rs : List Nat) : Prop :=
  ∀ i ∈ rs, wpOp P ops Q i (fun a' w' => (M i = true → S w → S w') ∧ wpT P md ops Q S M f (L.setIfInBounds i true) a' w') a w
theorem AllReadyT.nil {f : Nat} {L : Array Bool} {a : Act} {w : World} : AllReadyT P md ops Q S M f L a w [] := fun _ h => by cases h
theorem AllReadyT.cons {f : Nat} {L : Array Bool} {a : Act} {w : World} {i : Nat} {o : Oper} {rs : List Nat} (ho : ops[i]? = some o)
    (h : ∀ K' : Act → World → Prop, Shut (∀ a w', (M i = true → S w') → ((M i = true → S w') → wpT P md ops Q S M f (L.setIfInBounds i true) a w') → K' a w') → if Region.wanted o (yielded ops a.tmps) = true then Oper.wp P o a w K' Q else K' (a.put o.dst undef) w)
    (hs : AllReadyT P md ops Q S M f L a w rs) : AllReadyT P md ops Q S M f L a w (i :: rs) := fun j hj => by
  rcases List.mem_cons.1 hj with rfl | hj
  · exact wpOp_step ho (fun K' hK => h K' (fun a w' hS hW => hK a w' ⟨fun h1 _ => hS h1, hW hS⟩))
  · exact hs j hj
/-- the same, where S is only handed on -/
theorem AllReadyT.keep {f : Nat} {L : Array Bool} {a : Act} {w : World} {i : Nat} {o : Oper} {rs : List Nat} (ho : ops[i]? = some o)
    (h : ∀ K' : Act → World → Prop, Shut (∀ a w', (M i = true → S w → S w') → wpT P md ops Q S M f (L.setIfInBounds i true) a w' → K' a w') → if Region.wanted o (yielded ops a.tmps) = true then Oper.wp P o a w K' Q else K' (a.put o.dst undef) w)
    (hs : AllReadyT P md ops Q S M f L a w rs) : AllReadyT P md ops Q S M f L a w (i :: rs) := fun j hj => by
  rcases List.mem_cons.1 hj with rfl | hj
  · exact wpOp_step ho (fun K' hK => h K' (fun a w' hS hW => hK a w' ⟨hS, hW⟩))
  · exact hs j hj
theorem T_ready {rs : List Nat} {f : Nat} {L : Array Bool} {a : Act} {w : World} (hr : Region.ready md ops L = rs) (hne : rs ≠ []) (h : AllReadyT P md ops Q S M f L a w rs) : wpT P md ops Q S M (f + 1) L a w :=
  ⟨fun h0 => absurd (hr ▸ h0) hne, hr ▸ h⟩
theorem T_done {L : Array Bool} {a : Act} {w : World} (hr : Region.ready md ops L = []) (h : Q .normal a w) : ∀ f, wpT P md ops Q S M f L a w
  | 0 => ⟨hr, h⟩
  | _ + 1 => ⟨fun _ => h, by rw [hr]; simp⟩
theorem wp_region_T {id : Nat} {a : Act} {w : World} (M : Nat → Bool) (hm : P.follows .mixedOrders = true) (hS : S w.drew) (h : S w.drew → wpT P .any ops Q S M ops.size (Array.replicate ops.size false) a w.drew) : (Code.region id ops true).wp P Q a w :=
  wp_region_any hm (any_of_T _ _ _ _ (h hS))
end
end Go.Proofs.YticgmebbnnmikaaDoor.Ck
